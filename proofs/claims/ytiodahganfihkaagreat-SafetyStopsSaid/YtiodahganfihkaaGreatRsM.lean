import Derived.Test.YtiodahganfihkaaGreatRsFb
import Derived.Test.YtiodahganfihkaaGreatA5
import Derived.Test.YtiodahganfihkaaGreatRsS
set_option linter.unusedVariables false
set_option linter.unusedSimpArgs false

namespace Go.Vm.Mo
open Go
set_option linter.unusedVariables false
set_option linter.unusedSimpArgs false
theorem dT {p:Prop} [Decidable p] (h:p):decide p = true:=decide_eq_true h
theorem dF {p:Prop} [Decidable p] (h:¬ p):decide p = false:=decide_eq_false h
theorem nT {p:Prop} [Decidable p] (h:¬ p):(!decide p) = true:=by rw [decide_eq_false h]; rfl
theorem nF {p:Prop} [Decidable p] (h:p):(!decide p) = false:=by rw [decide_eq_true h]; rfl
theorem dA {p q:Prop} [Decidable p] [Decidable q] (h:p) (k:q):(decide p && decide q) = true:=by rw [decide_eq_true h, decide_eq_true k]; rfl
theorem qiW (bad:Nat → Bool):∀ (n i:Nat), first bad n (i + 1) = (first (fun k=>bad (k + 1)) n i).map (· + 1)
  | 0, _=>rfl
  | n + 1, i=>by
    simp only [first]
    split
    · rfl
    · exact qiW bad n (i + 1)
def qbo:List Int → Int
  | []=>0
  | a :: l=>if a = 0 then qbo l else a
theorem qhf:∀ l:List Int, (match first (fun i=>!decide (l.getD i 0 = 0)) l.length 0 with
    | some k=>l.getD k 0
    | none=>0) = qbo l
  | []=>rfl
  | a :: l=>by
    simp only [List.length, first, qbo]
    by_cases ha:a = 0
    · subst ha
      have e:=qhf l
      have hf:first (fun i=>!decide (((0:Int) :: l).getD i 0 = 0)) l.length (0 + 1) = (first (fun i=>!decide (l.getD i 0 = 0)) l.length 0).map (· + 1):=by
        rw [qiW]; rfl
      simp only [hf, List.getD_cons_zero, decide_true, Bool.not_true, Bool.false_eq_true, if_false, if_true]
      rw [← e]
      cases first (fun i=>!decide (l.getD i 0 = 0)) l.length 0 with
      | none=>rfl
      | some k=>rfl
    · simp [ha]
theorem l79 (l:List Int) (h:l.length ≤ 1000000000):l79_0 ((l, (l.length:Int), (0:Int), ()), ()) = match first (fun i=>!decide (l.getD i 0 = 0)) l.length 0 with
    | some k=>some (.inr ((l.getD k 0, ()), ()))
    | none=>some (.inl ((), ())):=by
  refine qhH (fun i=>((l, (l.length:Int), (i:Int), ()), ())) (fun i=>!decide (l.getD i 0 = 0)) (fun k=>((l.getD k 0, ()), ())) (n:=l.length) ?_ ?_ (qaK (by omega))
  · intro i hi
    simp only [s79_0, t79_0, Tr.val_test, qap, qby]
    rw [if_pos (by simp; omega), if_pos (by simp; omega)]
    simp only [Int.toNat_natCast, qbp (show i ≤ 9223372036854775806 by omega)]
    rfl
  · simp [s79_0, t79_0, qap]
theorem qqg (l:List Int) (h:l.length ≤ 1000000000):f79 (l, ()) = some (qbo l, ()):=by
  simp only [f79, t79, Tr.val_test, r79_0, l79 l h, ← qhf l]
  cases first (fun i=>!decide (l.getD i 0 = 0)) l.length 0 with
  | none=>rfl
  | some k=>rfl
theorem qkX (d:Tys.data as80):f80 d = some (if d.1 = true then d.2.1 else (0:Int), ()):=by
  simp only [f80, t80, Tr.val_test]
  split <;> rfl
def wi (lo hi x:Int):Bool:=decide (lo ≤ x) && decide (x ≤ hi)
theorem wi_iff {lo hi x:Int}:wi lo hi x = true ↔ lo ≤ x ∧ x ≤ hi:=by simp [wi]
theorem qeh (d:Tys.data as25):f25 d = some (wi d.2.1 d.2.2.1 d.1, ()):=by
  simp only [f25, t25, Tr.val_test, Tr.val_fin, qap, decide_eq_true_eq, wi]
  split <;> simp [*]
theorem l94 (lo hi:Int) (l:List Int) (h:l.length ≤ 1000000000):l94_0 ((lo, hi, l, (l.length:Int), (0:Int), ()), ()) = match first (fun i=>!wi lo hi (l.getD i 0)) l.length 0 with
    | some _=>some (.inr ((false, ()), ()))
    | none=>some (.inl ((), ())):=by
  refine qhH (fun i=>((lo, hi, l, (l.length:Int), (i:Int), ()), ())) (fun i=>!wi lo hi (l.getD i 0)) (fun _=>((false, ()), ())) (n:=l.length) ?_ ?_ (qaK (by omega))
  · intro i hi'
    simp only [s94_0, t94_0, Tr.val_test, Tr.val_fin, qap, Int.toNat_natCast, qbp (show i ≤ 9223372036854775806 by omega)]
    rw [if_pos (by simp; omega), if_pos (by simp; omega)]
    by_cases a0:lo ≤ l.getD i 0
    · by_cases a1:l.getD i 0 ≤ hi
      · simp only [wi, a0, a1, decide_true, Bool.and_self, Bool.not_true, if_true, if_false, Bool.false_eq_true]
      · simp only [wi, a0, a1, decide_true, decide_false, Bool.and_false, Bool.not_false, Bool.not_true, if_true, if_false, Bool.false_eq_true]
    · simp only [wi, a0, decide_false, Bool.false_and, Bool.not_false, if_true, if_false, Bool.false_eq_true]
  · simp [s94_0, t94_0, qap]
theorem qo8 (lo hi:Int) (l:List Int) (h:l.length ≤ 1000000000):f94 (lo, hi, l, ()) = some ((first (fun i=>!wi lo hi (l.getD i 0)) l.length 0).isNone, ()):=by
  have hl:=l94 lo hi l h
  cases hf:first (fun i=>!wi lo hi (l.getD i 0)) l.length 0 with
  | none =>
    rw [hf] at hl
    simp only [f94, t94, Tr.val_test, Tr.val_fin, hl, qcM, Option.isSome_some, Option.isNone_none, if_true, Bool.false_eq_true, if_false]
  | some k =>
    rw [hf] at hl
    simp only [f94, t94, Tr.val_test, Tr.val_fin, hl, qcM, r94_0, outR, Option.isSome_some, Option.isNone_some, if_true]
theorem qgh (lo hi a:Int):f94 (lo, hi, [a], ()) = some (wi lo hi a, ()):=by
  rw [qo8 lo hi _ (by simp)]
  simp only [first, List.length, List.getD_cons_zero]
  by_cases h1:wi lo hi a = true
  · simp [h1]
  · simp [h1]
theorem qps (lo hi a b:Int):f94 (lo, hi, [a, b], ()) = some (wi lo hi a && wi lo hi b, ()):=by
  rw [qo8 lo hi _ (by simp)]
  simp only [first, List.length, List.getD_cons_zero, List.getD_cons_succ]
  by_cases h1:wi lo hi a = true
  · by_cases h2:wi lo hi b = true
    · simp [h1, h2]
    · simp [h1, h2]
  · simp [h1]
theorem qqN (l:List Int) (h:l.length ≤ 1000000):l23_0 ((l, l, (0:Int), ()), ()) = some (.inl ((), ())):=by
  refine qdg (fun i=>((l, l, (i:Int), ()), ())) (n:=l.length) ?_ ?_ (qaK (by omega))
  · intro i hi
    simp only [s23_0, t23_0, Tr.val_test, Tr.val_fin, Tr.val_stop, qap, qby, Int.toNat_natCast, qbp (show i ≤ 9223372036854775806 by omega)]
    rw [if_pos (by simp; omega), if_pos (by simp; omega), if_pos (by simp; omega)]
    simp
  · simp [s23_0, t23_0, qap]
theorem qop (l:List Int) (h:l.length ≤ 1000000):f23 (l, l, ()) = some (true, ()):=by
  simp only [f23, t23, Tr.val_test, Tr.val_fin, Tr.val_stop, qqN l h, qcM, qby, decide_true, Bool.not_true, Bool.false_eq_true, if_false, Option.isSome_some, if_true]
theorem wn64 {x:Int} (h1:-9223372036854775807 ≤ x) (h2:x ≤ 9223372036854775807):IntKind.wrap .i64 (0 - x) = -x:=by
  rw [← qdE, qad (by omega) (by omega)]
  omega
abbrev Mot:=Int×Int×Int×Unit
abbrev Lim:=(Int×Int×Unit)×Int×Int×Int×Unit
def okM (x:Lim) (s:Mot):Bool:=wi x.1.1 x.1.2.1 s.1 && (wi (-x.2.1) x.2.1 s.2.1 && wi (-x.2.2.1) x.2.2.1 s.2.2.1)
def okL (x:Lim):Bool:=wi (-60) 60 x.1.1 && (wi (-60) 60 x.1.2.1 && (wi 1 8 x.2.1 && (wi 1 3 x.2.2.1 && wi 1 6 x.2.2.2.1)))
def mvd (s:Mot) (p:Int):Mot:=(s.1 + (s.2.1 + p), s.2.1 + p, p, ())
def prm (x:Lim) (s:Mot) (p:Int):Bool:=wi (-x.2.2.1) x.2.2.1 p && (wi (s.2.2.1 - x.2.2.2.1) (s.2.2.1 + x.2.2.2.1) p && okM x (mvd s p))
def nxU (x:Lim) (s:Mot):Nat → List (Int×Mot)
  | 0=>[]
  | k + 1=>nxU x s k++if prm x s ((k:Int) - x.2.2.1) = true then [((k:Int) - x.2.2.1, mvd s ((k:Int) - x.2.2.1))] else []
def nx (x:Lim) (s:Mot):List (Int×Mot):=nxU x s (2 * x.2.2.1 + 1).toNat
def rest (s:Mot):Bool:=decide (s.2.1 = 0) && decide (s.2.2.1 = 0)
theorem okM_iff {x:Lim} {s:Mot}:okM x s = true ↔ (x.1.1 ≤ s.1 ∧ s.1 ≤ x.1.2.1) ∧ (-x.2.1 ≤ s.2.1 ∧ s.2.1 ≤ x.2.1) ∧ (-x.2.2.1 ≤ s.2.2.1 ∧ s.2.2.1 ≤ x.2.2.1):=by
  simp only [okM, Bool.and_eq_true, wi_iff]
theorem okL_iff {x:Lim}:okL x = true ↔ (-60 ≤ x.1.1 ∧ x.1.1 ≤ 60) ∧ (-60 ≤ x.1.2.1 ∧ x.1.2.1 ≤ 60) ∧ (1 ≤ x.2.1 ∧ x.2.1 ≤ 8) ∧ (1 ≤ x.2.2.1 ∧ x.2.2.1 ≤ 3) ∧ (1 ≤ x.2.2.2.1 ∧ x.2.2.2.1 ≤ 6):=by
  simp only [okL, Bool.and_eq_true, wi_iff]
theorem prm_iff {x:Lim} {s:Mot} {p:Int}:prm x s p = true ↔ (-x.2.2.1 ≤ p ∧ p ≤ x.2.2.1) ∧ (s.2.2.1 - x.2.2.2.1 ≤ p ∧ p ≤ s.2.2.1 + x.2.2.2.1) ∧ okM x (mvd s p) = true:=by
  simp only [prm, Bool.and_eq_true, wi_iff]
theorem qqL {s:Mot}:rest s = true ↔ s.2.1 = 0 ∧ s.2.2.1 = 0:=by simp [rest]
theorem nxU_mem {x:Lim} {s:Mot}:∀ {k:Nat} {e:Int×Mot}, e ∈ nxU x s k ↔ ∃ i, i < k ∧ prm x s ((i:Int) - x.2.2.1) = true ∧ e = ((i:Int) - x.2.2.1, mvd s ((i:Int) - x.2.2.1))
  | 0, e=>by simp [nxU]
  | k + 1, e=>by
    rw [nxU, List.mem_append, nxU_mem]
    constructor
    · rintro (⟨i, h1, h2, h3⟩ | h)
      · exact ⟨i, by omega, h2, h3⟩
      · split at h
        · rename_i hp
          exact ⟨k, by omega, hp, by simpa using h⟩
        · cases h
    · rintro ⟨i, h1, h2, h3⟩
      by_cases hi:i = k
      · subst hi
        exact .inr (by rw [if_pos h2, h3]; simp)
      · exact .inl ⟨i, by omega, h2, h3⟩
theorem nx_mem {x:Lim} {s:Mot} {e:Int×Mot}:e ∈ nx x s ↔ prm x s e.1 = true ∧ e.2 = mvd s e.1:=by
  unfold nx
  rw [nxU_mem]
  constructor
  · rintro ⟨i, h1, h2, rfl⟩
    exact ⟨h2, rfl⟩
  · rintro ⟨h1, h2⟩
    have hp:=(prm_iff.1 h1).1
    refine ⟨(e.1 + x.2.2.1).toNat, by omega, ?_, ?_⟩
    · rw [show (((e.1 + x.2.2.1).toNat:Nat):Int) - x.2.2.1 = e.1 by omega]; exact h1
    · rw [show (((e.1 + x.2.2.1).toNat:Nat):Int) - x.2.2.1 = e.1 by omega, ← h2]
theorem qqG {x:Lim} {s:Mot} {e:Int×Mot} (h:e ∈ nx x s):okM x e.2 = true:=by
  obtain ⟨h1, h2⟩:=nx_mem.1 h
  rw [h2]; exact (prm_iff.1 h1).2.2
def cel (x:Lim) (s:Mot):Int:=((s.1 - x.1.1) * (2 * x.2.1 + 1) + s.2.1 + x.2.1) * (2 * x.2.2.1 + 1) + s.2.2.1 + x.2.2.1
theorem digit_eq {a b c d w:Int} (hw:0 < w) (hb:0 ≤ b) (hb':b < w) (hd:0 ≤ d) (hd':d < w) (h:a * w + b = c * w + d):a = c ∧ b = d:=by
  have h1:(a * w + b) / w = a:=by rw [Int.add_comm, Int.add_mul_ediv_right _ _ (by omega), Int.ediv_eq_zero_of_lt hb hb']; omega
  have h2:(c * w + d) / w = c:=by rw [Int.add_comm, Int.add_mul_ediv_right _ _ (by omega), Int.ediv_eq_zero_of_lt hd hd']; omega
  have:a = c:=by rw [← h1, ← h2, h]
  subst this
  exact ⟨rfl, by omega⟩
theorem qlw {a b w n:Int} (hw:0 < w) (hb:0 ≤ b) (hb':b < w) (ha:0 ≤ a) (ha':a < n):0 ≤ a * w + b ∧ a * w + b < n * w:=by
  have h1:0 ≤ a * w:=Int.mul_nonneg ha (by omega)
  have h2:(a + 1) * w ≤ n * w:=Int.mul_le_mul_of_nonneg_right (by omega) (by omega)
  have h3:(a + 1) * w = a * w + w:=by rw [Int.add_mul, Int.one_mul]
  omega
def cells (x:Lim):Int:=(x.1.2.1 - x.1.1 + 1) * (2 * x.2.1 + 1) * (2 * x.2.2.1 + 1)
theorem qg0 {x:Lim} {s:Mot} (hx:okL x = true) (hs:okM x s = true):0 ≤ cel x s ∧ cel x s < cells x:=by
  have a:=okL_iff.1 hx
  have b:=okM_iff.1 hs
  have h1:=qlw (a:=s.1 - x.1.1) (b:=s.2.1 + x.2.1) (w:=2 * x.2.1 + 1) (n:=x.1.2.1 - x.1.1 + 1) (by omega) (by omega) (by omega) (by omega) (by omega)
  have h2:=qlw (a:=(s.1 - x.1.1) * (2 * x.2.1 + 1) + (s.2.1 + x.2.1)) (b:=s.2.2.1 + x.2.2.1) (w:=2 * x.2.2.1 + 1) (n:=(x.1.2.1 - x.1.1 + 1) * (2 * x.2.1 + 1)) (by omega) (by omega) (by omega) h1.1 h1.2
  unfold cel cells
  rw [Int.add_assoc ((s.1 - x.1.1) * (2 * x.2.1 + 1)), Int.add_assoc (_ * (2 * x.2.2.1 + 1))]
  exact h2
theorem qmp {x:Lim} {s t:Mot} (hx:okL x = true) (hs:okM x s = true) (ht:okM x t = true) (h:cel x s = cel x t):s = t:=by
  have a:=okL_iff.1 hx
  have b:=okM_iff.1 hs
  have c:=okM_iff.1 ht
  unfold cel at h
  rw [Int.add_assoc (_ * (2 * x.2.2.1 + 1)), Int.add_assoc (_ * (2 * x.2.2.1 + 1))] at h
  obtain ⟨h1, h2⟩:=digit_eq (by omega) (by omega) (by omega) (by omega) (by omega) h
  rw [Int.add_assoc (_ * (2 * x.2.1 + 1)), Int.add_assoc (_ * (2 * x.2.1 + 1))] at h1
  obtain ⟨h3, h4⟩:=digit_eq (by omega) (by omega) (by omega) (by omega) (by omega) h1
  obtain ⟨s1, s2, s3, ⟨⟩⟩:=s
  obtain ⟨t1, t2, t3, ⟨⟩⟩:=t
  simp only at h2 h3 h4
  have e1:s1 = t1:=by omega
  have e2:s2 = t2:=by omega
  have e3:s3 = t3:=by omega
  rw [e1, e2, e3]
theorem qip {x:Lim} (hx:okL x = true) (hw:x.1.1 ≤ x.1.2.1):0 ≤ cells x ∧ cells x ≤ 14399:=by
  have a:=okL_iff.1 hx
  unfold cells
  have h1:(x.1.2.1 - x.1.1 + 1) * (2 * x.2.1 + 1) ≤ 121 * 17:=Int.mul_le_mul (by omega) (by omega) (by omega) (by omega)
  have h0:0 ≤ (x.1.2.1 - x.1.1 + 1) * (2 * x.2.1 + 1):=Int.mul_nonneg (by omega) (by omega)
  have h2:=Int.mul_le_mul h1 (show 2 * x.2.2.1 + 1 ≤ 7 by omega) (by omega) (by omega)
  have h3:=Int.mul_nonneg h0 (show 0 ≤ 2 * x.2.2.1 + 1 by omega)
  omega
abbrev Qm (x:Lim) (s:Mot) (i:Nat):List (Mot×Nat×Int):=Bf.Q (nx x) s 0 i
theorem qqq {x:Lim} {s:Mot} (hs:okM x s = true) (i:Nat):∀ e, e ∈ Qm x s i → okM x e.1 = true :=
  Bf.Q_all (nx x) s 0 (fun a=>okM x a = true) hs (fun a _ e he=>qqG he) i
theorem qoF {x:Lim} {s:Mot} (hx:okL x = true) (hw:x.1.1 ≤ x.1.2.1) (hs:okM x s = true) (i:Nat):(Qm x s i).length ≤ 14399 :=
  Nat.le_trans (Bf.Q_le (nx x) s 0 (fun a=>okM x a = true) hs (fun a _ e he=>qqG he) (fun a=>(cel x a).toNat) (cells x).toNat
    (fun a ha=>by have:=qg0 hx ha; omega) (fun a b ha hb h=>qmp hx ha hb (by have:=qg0 hx ha; have:=qg0 hx hb; omega)) i)
    (by have:=qip hx hw; omega)
theorem qgI {p:Nat → Bool} {n:Nat} (h:∃ j, j < n ∧ p j = true):∃ k, first p n 0 = some k ∧ k < n ∧ p k = true ∧ ∀ j, j < k → p j = false:=by
  cases e:first p n 0 with
  | none =>
    obtain ⟨j, h1, h2⟩:=h
    have:=qcO e j (by omega) (by omega)
    rw [this] at h2; cases h2
  | some k =>
    obtain ⟨_, h2, h3, h4⟩:=first_some e
    exact ⟨k, rfl, by omega, h3, fun j hj=>h4 j (by omega) hj⟩
theorem Qm_end {x:Lim} {s:Mot} (hx:okL x = true) (hw:x.1.1 ≤ x.1.2.1) (hs:okM x s = true):∃ n, n ≤ 14399 ∧ (Qm x s n).length = n ∧ ∀ j, j < n → j < (Qm x s j).length:=by
  obtain ⟨k, _, h1, h2, h3⟩:=qgI (p:=fun j=>decide ((Qm x s j).length ≤ j)) (n:=14400) ⟨14399, by omega, decide_eq_true (qoF hx hw hs _)⟩
  have h4:∀ j, j < k → j < (Qm x s j).length:=fun j hj=>by have:=of_decide_eq_false (h3 j hj); omega
  exact ⟨k, by omega, Nat.le_antisymm (of_decide_eq_true h2) (Bf.Q_len (nx x) s 0 k h4), h4⟩
def mt0:Mot:=(0, 0, 0, ())
def mAt (q:List (Mot×Nat×Int)) (k:Nat):Mot:=(q.getD k (mt0, 0, 0)).1
def frm (q:List (Mot×Nat×Int)) (k:Nat):Nat:=(q.getD k (mt0, 0, 0)).2.1
theorem qkr {q:List (Mot×Nat×Int)} {k:Nat} {e:Mot×Nat×Int} (h:q[k]? = some e):mAt q k = e.1:=by simp [mAt, h]
theorem qmW {q:List (Mot×Nat×Int)} {k:Nat} {e:Mot×Nat×Int} (h:q[k]? = some e):frm q k = e.2.1:=by simp [frm, h]
theorem qho {κ ν:Type} [DecidableEq κ] {l:List (κ×ν)} {d:κ}:(l.find? fun p=>decide (d = p.1)) = none ↔ d ∉ l.map (·.1):=by
  induction l with
  | nil=>simp
  | cons p l ih =>
    rw [List.find?_cons, List.map_cons, List.mem_cons]
    by_cases h:d = p.1
    · simp [h]
    · simp only [h, decide_false, false_or]; exact ih
def bef (q:List (Mot×Nat×Int)):List (Mot×Mot):=q.map fun e=>(e.1, mAt q e.2.1)
theorem qf2 (q:List (Mot×Nat×Int)):(bef q).map (·.1) = q.map (·.1):=by simp [bef]
theorem qpP {q r:List (Mot×Nat×Int)} (h:∀ e, e ∈ q → e.2.1 < q.length):bef (q++r) = bef q++r.map fun e=>(e.1, mAt (q++r) e.2.1):=by
  unfold bef
  rw [List.map_append]
  congr 1
  refine List.map_congr_left fun e he=>?_
  have hl:=h e he
  simp only [mAt, List.getD_eq_getElem?_getD, List.getElem?_append_left hl]
theorem qog {q:List (Mot×Nat×Int)} (hn:(q.map (·.1)).Nodup) {k:Nat} {e:Mot×Nat×Int} (h:q[k]? = some e):((bef q).find? fun p=>decide (e.1 = p.1)) = some (e.1, mAt q e.2.1):=by
  have hm:(e.1, mAt q e.2.1) ∈ bef q:=List.mem_map.2 ⟨e, List.mem_of_getElem? h, rfl⟩
  cases hf:(bef q).find? fun p=>decide (e.1 = p.1) with
  | none =>
    rw [qho, qf2] at hf
    exact absurd (List.mem_map.2 ⟨e, List.mem_of_getElem? h, rfl⟩) hf
  | some p =>
    have h1:p.1 = e.1:=by have:=List.find?_some hf; simpa using (of_decide_eq_true this).symm
    have h2:=List.mem_of_find?_eq_some hf
    obtain ⟨e', he', rfl⟩:=List.mem_map.1 h2
    obtain ⟨k', hk'⟩:=List.getElem?_of_mem he'
    have h3:(q.map (·.1))[k]? = some e.1:=by rw [List.getElem?_map, h]; rfl
    have h4:(q.map (·.1))[k']? = some e.1:=by rw [List.getElem?_map, hk']; exact congrArg some h1
    have:k = k':=(List.getElem?_inj (by exact (List.getElem?_eq_some_iff.1 h3).1) hn).1 (h3.trans h4.symm)
    subst this
    rw [h] at hk'; cases hk'
    rfl
theorem qpR {q:List (Mot×Nat×Int)} (h:∀ e, e ∈ q → e.2.1 < q.length) {i:Nat} (hi:i < q.length) (n:Mot) (p:Int):bef (q++[(n, i, p)]) = bef q++[(n, mAt q i)]:=by
  rw [qpP h]
  simp only [List.map_cons, List.map_nil, mAt, List.getD_eq_getElem?_getD, List.getElem?_append_left hi]
def fnd (q:List (Mot×Nat×Int)):List (Mot×Int×Int×Unit):=(List.range q.length).map fun k=>(mAt q k, (if k = 0 then -1 else (frm q k:Int)), (q.getD k (mt0, 0, 0)).2.2, ())
theorem qgt (q:List (Mot×Nat×Int)):(fnd q).length = q.length:=by simp [fnd]
theorem qpJ {q:List (Mot×Nat×Int)} (h:0 < q.length) (e:Mot×Nat×Int):fnd (q++[e]) = fnd q++[(e.1, (e.2.1:Int), e.2.2, ())]:=by
  unfold fnd
  rw [List.length_append, List.length_cons, List.length_nil, Nat.zero_add, List.range_succ, List.map_append]
  congr 1
  · refine List.map_congr_left fun k hk=>?_
    have:=List.mem_range.1 hk
    simp only [mAt, frm, List.getD_eq_getElem?_getD, List.getElem?_append_left this]
  · simp only [List.map_cons, List.map_nil, mAt, frm, List.getD_eq_getElem?_getD, List.getElem?_append_right (Nat.le_refl _), Nat.sub_self, List.getElem?_cons_zero, Option.getD_some]
    rw [if_neg (by omega)]
theorem qpI {q:List (Mot×Nat×Int)} {k:Nat} (h:k < q.length) (d:Mot×Int×Int×Unit):(fnd q).getD k d = (mAt q k, (if k = 0 then -1 else (frm q k:Int)), (q.getD k (mt0, 0, 0)).2.2, ()):=by
  simp [fnd, h]
def sn (x:Lim) (q:List (Mot×Nat×Int)):List Bool:=(List.range (cells x).toNat).map fun (c:Nat)=>q.any fun e=>decide (cel x e.1 = (c:Int))
theorem qqd (x:Lim) (q:List (Mot×Nat×Int)):(sn x q).length = (cells x).toNat:=by simp [sn]
theorem qqx {x:Lim} (hx:okL x = true) {q:List (Mot×Nat×Int)} (hq:∀ e, e ∈ q → okM x e.1 = true) {s:Mot} (hs:okM x s = true) (d:Bool):(sn x q).getD (cel x s).toNat d = Bf.has q s:=by
  have hb:=qg0 hx hs
  have hc:((cel x s).toNat:Int) = cel x s:=by omega
  simp only [sn, List.getD_eq_getElem?_getD, List.getElem?_map, List.getElem?_range (show (cel x s).toNat < (cells x).toNat by omega), Option.map_some, Option.getD_some, hc]
  rw [Bool.eq_iff_iff, List.any_eq_true, Bf.has_iff, List.mem_map]
  constructor
  · rintro ⟨e, he, h⟩
    exact ⟨e, he, qmp hx (hq e he) hs (of_decide_eq_true h)⟩
  · rintro ⟨e, he, h⟩
    exact ⟨e, he, decide_eq_true (by rw [h])⟩
theorem qpg {x:Lim} (hx:okL x = true) (q:List (Mot×Nat×Int)) {e:Mot×Nat×Int} (hs:okM x e.1 = true):(sn x q).set (cel x e.1).toNat true = sn x (q++[e]):=by
  have hb:=qg0 hx hs
  refine List.ext_getElem? fun c=>?_
  rw [List.getElem?_set]
  simp only [sn, List.length_map, List.length_range, List.getElem?_map, List.any_append, List.any_cons, List.any_nil, Bool.or_false]
  by_cases hc:(cel x e.1).toNat = c
  · rw [if_pos hc, if_pos (by omega), List.getElem?_range (by omega)]
    have:cel x e.1 = (c:Int):=by omega
    simp [this]
  · rw [if_neg hc]
    by_cases hl:c < (cells x).toNat
    · rw [List.getElem?_range hl]
      have:¬ cel x e.1 = (c:Int):=by omega
      simp [this]
    · rw [List.getElem?_eq_none (by simp; omega)]; rfl
theorem qqC (x:Lim):sn x [] = List.replicate (cells x).toNat false:=by
  refine List.ext_getElem? fun c=>?_
  rw [sn, List.getElem?_map, List.getElem?_replicate]
  by_cases h:c < (cells x).toNat
  · rw [List.getElem?_range h, if_pos h]; rfl
  · rw [if_neg h, List.getElem?_eq_none (by simp; omega)]; rfl
def endn (x:Lim) (s:Mot):Nat:=(first (fun j=>decide ((Qm x s j).length ≤ j)) 14400 0).getD 0
theorem qeB {x:Lim} {s:Mot} (hx:okL x = true) (hw:x.1.1 ≤ x.1.2.1) (hs:okM x s = true):endn x s ≤ 14399 ∧ (Qm x s (endn x s)).length = endn x s ∧ ∀ j, j < endn x s → j < (Qm x s j).length:=by
  obtain ⟨k, h0, h1, h2, h3⟩:=qgI (p:=fun j=>decide ((Qm x s j).length ≤ j)) (n:=14400) ⟨14399, by omega, decide_eq_true (qoF hx hw hs _)⟩
  have h4:∀ j, j < k → j < (Qm x s j).length:=fun j hj=>by have:=of_decide_eq_false (h3 j hj); omega
  have he:endn x s = k:=by unfold endn; rw [h0]; rfl
  rw [he]
  exact ⟨by omega, Nat.le_antisymm (of_decide_eq_true h2) (Bf.Q_len (nx x) s 0 k h4), h4⟩
def stp (x:Lim) (s:Mot):Option Nat:=first (fun i=>rest (mAt (Qm x s i) i)) (endn x s) 0
def res (x:Lim) (s:Mot):Option (List Int):=(stp x s).map fun k=>Bf.tr (Qm x s k) k k
theorem qkS {x:Lim} {s:Mot} (hx:okL x = true) (hw:x.1.1 ≤ x.1.2.1) (hs:okM x s = true) {k:Nat} (h:stp x s = some k) :
    k < 14399 ∧ k < (Qm x s k).length ∧ Bf.Fin (nx x) s 0 (Qm x s k) k ∧ rest (mAt (Qm x s k) k) = true ∧ ∀ j, j < k → rest (mAt (Qm x s k) j) = false:=by
  obtain ⟨e1, e2, e3⟩:=qeB hx hw hs
  obtain ⟨_, h2, h3, h4⟩:=first_some h
  have hl:=e3 k (by omega)
  refine ⟨by omega, hl, Bf.Q_fin (nx x) s 0 k (fun j hj=>e3 j (by omega)) (Nat.le_of_lt hl), h3, fun j hj=>?_⟩
  have:=h4 j (by omega) hj
  obtain ⟨r, hr⟩:=Bf.Q_mono (nx x) s 0 (show j ≤ k by omega)
  have hj':=e3 j (by omega)
  rw [show mAt (Qm x s k) j = mAt (Qm x s j) j by simp only [mAt, Qm, List.getD_eq_getElem?_getD, hr, List.getElem?_append_left hj']]
  exact this
theorem qdv {q:List (Mot×Nat×Int)} {k:Nat} (h:k < q.length):q[k]? = some q[k] ∧ mAt q k = q[k].1 ∧ frm q k = q[k].2.1:=⟨List.getElem?_eq_getElem h, qkr (List.getElem?_eq_getElem h), qmW (List.getElem?_eq_getElem h)⟩
theorem qkN {x:Lim} {s:Mot} (hx:okL x = true) (hw:x.1.1 ≤ x.1.2.1) (hs:okM x s = true) {l:List Int} (h:res x s = some l):l.length ≤ 14399 ∧ ∃ c, Bf.Path (nx x) s l c ∧ rest c = true:=by
  unfold res at h
  cases hk:stp x s with
  | none=>rw [hk] at h; cases h
  | some k =>
    rw [hk] at h
    cases h
    obtain ⟨h1, h2, F, h4, _⟩:=qkS hx hw hs hk
    obtain ⟨h5, h6, _⟩:=qdv h2
    refine ⟨Nat.le_trans (Bf.tr_len _ k k) (by omega), _, Bf.tr_path F k _ h5, ?_⟩
    rw [← h6]; exact h4
theorem qpH {x:Lim} {s:Mot} (hx:okL x = true) (hw:x.1.1 ≤ x.1.2.1) (hs:okM x s = true) {l':List Int} {c:Mot} (h:Bf.Path (nx x) s l' c) (hc:rest c = true):∃ l, res x s = some l ∧ l.length ≤ l'.length:=by
  cases hk:stp x s with
  | some k =>
    obtain ⟨h1, h2, F, h4, h5⟩:=qkS hx hw hs hk
    obtain ⟨e, he, hl⟩:=Bf.path_goal F rest (fun j e hj he=>by rw [← qkr he]; exact h5 j hj) h hc
    exact ⟨_, by unfold res; rw [hk]; rfl, hl⟩
  | none =>
    obtain ⟨e1, e2, e3⟩:=qeB hx hw hs
    have F:=Bf.Q_fin (nx x) s 0 (endn x s) e3 (Nat.le_of_eq e2.symm)
    have hn:=qcO hk
    obtain ⟨e, he, hl⟩:=Bf.path_goal F rest (fun j e hj he=>by
      have h1:=hn j (by omega) (by omega)
      obtain ⟨r, hr⟩:=Bf.Q_mono (nx x) s 0 (show j ≤ endn x s by omega)
      have hj':=e3 j hj
      rw [← qkr he, show mAt (Qm x s (endn x s)) j = mAt (Qm x s j) j by simp only [mAt, Qm, List.getD_eq_getElem?_getD, hr, List.getElem?_append_left hj']]
      exact h1) h hc
    have h9:endn x s < (Qm x s (endn x s)).length:=(List.getElem?_eq_some_iff.1 he).1
    omega
def go (x:Lim) (s:Mot):List Int → Option Mot
  | []=>some s
  | p :: l=>if prm x s p = true then go x (mvd s p) l else none
theorem qpe {x:Lim}:∀ (l m:List Int) (s:Mot), go x s (l++m) = (go x s l).bind fun b=>go x b m
  | [], m, s=>rfl
  | p :: l, m, s=>by
    simp only [List.cons_append, go]
    split
    · exact qpe l m _
    · rfl
theorem qpo {x:Lim} {s:Mot} {l:List Int} {c:Mot} (h:Bf.Path (nx x) s l c):go x s l = some c:=by
  induction h with
  | nil=>rfl
  | snoc h hx ih =>
    obtain ⟨h1, h2⟩:=nx_mem.1 hx
    simp only at h1 h2
    rw [qpe, ih]
    simp only [Option.bind, go]
    rw [if_pos h1, h2]
theorem qm9 {x:Lim} {s:Mot}:∀ (l m:List Int) (b c:Mot), Bf.Path (nx x) s l b → go x b m = some c → Bf.Path (nx x) s (l++m) c
  | l, [], b, c, h, hg=>by simp only [go] at hg; cases hg; rw [List.append_nil]; exact h
  | l, p :: m, b, c, h, hg=>by
    simp only [go] at hg
    split at hg
    · rename_i hp
      have:=qm9 (l++[p]) m (mvd b p) c (.snoc h (nx_mem.2 ⟨hp, rfl⟩)) hg
      rwa [List.append_assoc] at this
    · cases hg
theorem go_iff {x:Lim} {s:Mot} {l:List Int} {c:Mot}:Bf.Path (nx x) s l c ↔ go x s l = some c :=
  ⟨qpo, fun h=>qm9 [] l s c (.nil s) h⟩
theorem qqM {x:Lim}:∀ (l:List Int) (s c:Mot), okM x s = true → go x s l = some c → okM x c = true
  | [], s, c, h, hg=>by simp only [go] at hg; cases hg; exact h
  | p :: l, s, c, h, hg=>by
    simp only [go] at hg
    split at hg
    · rename_i hp; exact qqM l _ c (prm_iff.1 hp).2.2 hg
    · cases hg
theorem qnl {x:Lim} (hx:okL x = true) (hw:x.1.1 ≤ x.1.2.1) {s:Mot} (hs:okM x s = true) {l:List Int} (h:res x s = some l):∃ c, go x s l = some c ∧ rest c = true :=
  let ⟨_, c, h1, h2⟩:=qkN hx hw hs h; ⟨c, go_iff.1 h1, h2⟩
theorem qgf {x:Lim} (hx:okL x = true) (hw:x.1.1 ≤ x.1.2.1) {s:Mot} (hs:okM x s = true) {l':List Int} {c:Mot} (h:go x s l' = some c) (hc:rest c = true):∃ l, res x s = some l ∧ l.length ≤ l'.length :=
  qpH hx hw hs (go_iff.2 h) hc
theorem qqK {x:Lim} (hx:okL x = true) (hw:x.1.1 ≤ x.1.2.1) {s:Mot} (hs:okM x s = true) {p:Int} {l:List Int} (h:res x s = some (p :: l)):prm x s p = true ∧ ∃ m, res x (mvd s p) = some m ∧ m.length = l.length:=by
  obtain ⟨c, h1, h2⟩:=qnl hx hw hs h
  simp only [go] at h1
  split at h1
  · rename_i hp
    have ho:=(prm_iff.1 hp).2.2
    obtain ⟨m, h3, h4⟩:=qgf hx hw ho h1 h2
    obtain ⟨c', h5, h6⟩:=qnl hx hw ho h3
    obtain ⟨l0, h7, h8⟩:=qgf hx hw hs (l':=p :: m) (c:=c') (by simp only [go]; rw [if_pos hp]; exact h5) h6
    rw [h] at h7; cases h7
    simp only [List.length_cons] at h8
    exact ⟨hp, m, h3, by omega⟩
  · cases h1
theorem qqJ {x:Lim} (hx:okL x = true) (hw:x.1.1 ≤ x.1.2.1) {s:Mot} (hs:okM x s = true) {l:List Int} (h:res x s = some l):l = [] ↔ rest s = true:=by
  constructor
  · rintro rfl
    obtain ⟨c, h1, h2⟩:=qnl hx hw hs h
    simp only [go] at h1; cases h1; exact h2
  · intro hr
    obtain ⟨l0, h1, h2⟩:=qgf hx hw hs (l':=[]) rfl hr
    rw [h] at h1; cases h1
    exact List.eq_nil_of_length_eq_zero (by simpa using h2)
theorem qoR {x y:Lim} (h1:y.1.1 ≤ x.1.1) (h2:x.1.2.1 ≤ y.1.2.1) (h3:x.2.1 ≤ y.2.1) (h4:x.2.2.1 ≤ y.2.2.1) (h5:x.2.2.2.1 ≤ y.2.2.2.1) {s:Mot} {p:Int} (h:prm x s p = true):prm y s p = true:=by
  obtain ⟨a, b, c⟩:=prm_iff.1 h
  have d:=okM_iff.1 c
  exact prm_iff.2 ⟨by omega, by omega, okM_iff.2 ⟨by omega, by omega, by omega⟩⟩
theorem qpq {x y:Lim} (h1:y.1.1 ≤ x.1.1) (h2:x.1.2.1 ≤ y.1.2.1) (h3:x.2.1 ≤ y.2.1) (h4:x.2.2.1 ≤ y.2.2.1) (h5:x.2.2.2.1 ≤ y.2.2.2.1):∀ (l:List Int) (s c:Mot), go x s l = some c → go y s l = some c
  | [], s, c, h=>h
  | p :: l, s, c, h=>by
    simp only [go] at h ⊢
    split at h
    · rename_i hp
      rw [if_pos (qoR h1 h2 h3 h4 h5 hp)]
      exact qpq h1 h2 h3 h4 h5 l _ c h
    · cases h
end Go.Vm.Mo

namespace Go.Vm.Mo
open Go
set_option linter.unusedVariables false
set_option linter.unusedSimpArgs false
def ng (y:Int):Int:=IntKind.wrap .i64 (0 - y)
theorem qh5 {y:Int} (h1:-9223372036854775807 ≤ y) (h2:y ≤ 9223372036854775807):ng y = -y:=wn64 h1 h2
theorem qfV (b x:Int):f117 (b, [x], ()) = some (!wi (ng b) b x, ()):=by
  have e:=qgh (ng b) b x
  have h:IntKind.wrap .i64 (0 - b) = ng b:=rfl
  simp only [f117, t117, Tr.val_test, Tr.val_fin, g94, h, e, Option.isSome_some, Option.getD_some, if_true]
theorem qof (b x y:Int):f117 (b, [x, y], ()) = some (!(wi (ng b) b x && wi (ng b) b y), ()):=by
  have e:=qps (ng b) b x y
  have h:IntKind.wrap .i64 (0 - b) = ng b:=rfl
  simp only [f117, t117, Tr.val_test, Tr.val_fin, g94, h, e, Option.isSome_some, Option.getD_some, if_true]
def cT (x:Lim) (s:Mot):Bool:=wi x.1.1 x.1.2.1 s.1 && (wi (ng x.2.1) x.2.1 s.2.1 && wi (ng x.2.2.1) x.2.2.1 s.2.2.1)
theorem qp1 {x:Lim} (hx:okL x = true) (s:Mot):cT x s = okM x s:=by
  have a:=okL_iff.1 hx
  unfold cT okM
  rw [qh5 (by omega) (by omega), qh5 (by omega) (by omega)]
theorem qk1 (x:Lim) (s:Mot):f160 ((x, ()), s, ()) = some (cT x s, ()):=by
  have e1:=qgh x.1.1 x.1.2.1 s.1
  have e2:=qfV x.2.1 s.2.1
  have e3:=qfV x.2.2.1 s.2.2.1
  simp only [f160, t160, Tr.val_test, Tr.val_fin, g94, e1, g117, e2, e3, Option.isSome_some, Option.getD_some, if_true, cT]
  rcases Bool.eq_false_or_eq_true (wi x.1.1 x.1.2.1 s.1) with h | h <;> rcases Bool.eq_false_or_eq_true (wi (ng x.2.1) x.2.1 s.2.1) with h2 | h2 <;> simp [h, h2]
theorem qly (x:Lim) (s:Mot):f123 (x, s, ()) = some (if cT x s = true then 0 else 2, ()):=by
  have e1:=qeh (s.1, x.1.1, x.1.2.1, ())
  have e2:=qeh (s.2.1, ng x.2.1, x.2.1, ())
  have e3:=qeh (s.2.2.1, ng x.2.2.1, x.2.2.1, ())
  have h (b:Int):IntKind.wrap .i64 (0 - b) = ng b:=rfl
  simp only [f123, t123, Tr.val_test, Tr.val_fin, g25, h, e1, e2, e3, Option.isSome_some, Option.getD_some, if_true, cT, qby]
  rcases Bool.eq_false_or_eq_true (wi x.1.1 x.1.2.1 s.1) with h1 | h1 <;> rcases Bool.eq_false_or_eq_true (wi (ng x.2.1) x.2.1 s.2.1) with h2 | h2 <;> rcases Bool.eq_false_or_eq_true (wi (ng x.2.2.1) x.2.2.1 s.2.2.1) with h3 | h3 <;> simp [h1, h2, h3]
def lE (x:Lim):Int:=if okL x = true then (if x.1.1 ≤ x.1.2.1 then 0 else 9) else 2
theorem qpz {x:Lim} (h:lE x = 0):okL x = true ∧ x.1.1 ≤ x.1.2.1:=by
  unfold lE at h
  split at h
  · split at h
    · exact ⟨by assumption, by assumption⟩
    · cases h
  · cases h
theorem qo1 (x:Lim):f43 (x, ()) = some (lE x, ()):=by
  have e1:=qeh (x.1.1, -60, 60, ())
  have e2:=qeh (x.1.2.1, -60, 60, ())
  have e3:=qeh (x.2.1, 1, 8, ())
  have e4:=qeh (x.2.2.1, 1, 3, ())
  have e5:=qeh (x.2.2.2.1, 1, 6, ())
  simp only [f43, t43, Tr.val_test, Tr.val_fin, g25, e1, e2, e3, e4, e5, Option.isSome_some, Option.getD_some, if_true, qap, lE, okL]
  rcases Bool.eq_false_or_eq_true (wi (-60) 60 x.1.1) with h1 | h1
  · rcases Bool.eq_false_or_eq_true (wi (-60) 60 x.1.2.1) with h2 | h2
    · rcases Bool.eq_false_or_eq_true (wi 1 8 x.2.1) with h3 | h3
      · rcases Bool.eq_false_or_eq_true (wi 1 3 x.2.2.1) with h4 | h4
        · rcases Bool.eq_false_or_eq_true (wi 1 6 x.2.2.2.1) with h5 | h5
          · by_cases hw:x.1.1 ≤ x.1.2.1 <;> simp [h1, h2, h3, h4, h5, hw]
          · simp [h1, h2, h3, h4, h5]
        · simp [h1, h2, h3, h4]
      · simp [h1, h2, h3]
    · simp [h1, h2]
  · simp [h1]
theorem qff (a b:Int):f79 ([a, b], ()) = some (qbo [a, b], ()):=qqg _ (by simp)
theorem qpa (x:Lim):f39 (x, ()) = some (lE x, ()):=by
  have n60:ng 60 = -60:=qh5 (by omega) (by omega)
  have e1:=qof 60 x.1.1 x.1.2.1
  rw [n60] at e1
  have e2:=qgh 1 8 x.2.1
  have e3:=qgh 1 3 x.2.2.1
  have e4:=qgh 1 6 x.2.2.2.1
  have w (b:Bool) (e:Int):f80 (b, e, ()) = some (if b = true then e else 0, ()):=qkX _
  have w1:f80 (true, 2, ()) = some ((2:Int), ()):=w true 2
  have w2:=w (!decide (x.1.1 ≤ x.1.2.1)) 9
  have w3:=w (!wi 1 6 x.2.2.2.1) 2
  have z1:=qff (if (!wi 1 6 x.2.2.2.1) = true then 2 else 0) (if (!decide (x.1.1 ≤ x.1.2.1)) = true then 9 else 0)
  have z2:=qff 2 (if (!decide (x.1.1 ≤ x.1.2.1)) = true then 9 else 0)
  simp only [f39, t39, Tr.val_test, Tr.val_fin, g117, e1, g94, e2, e3, e4, qap, g80, w1, w2, w3, g79, z1, z2, Option.isSome_some, Option.getD_some, if_true, lE, okL]
  rcases Bool.eq_false_or_eq_true (wi (-60) 60 x.1.1) with h1 | h1
  · rcases Bool.eq_false_or_eq_true (wi (-60) 60 x.1.2.1) with h2 | h2
    · rcases Bool.eq_false_or_eq_true (wi 1 8 x.2.1) with h3 | h3
      · rcases Bool.eq_false_or_eq_true (wi 1 3 x.2.2.1) with h4 | h4
        · rcases Bool.eq_false_or_eq_true (wi 1 6 x.2.2.2.1) with h5 | h5
          · by_cases hw:x.1.1 ≤ x.1.2.1 <;> simp [h1, h2, h3, h4, h5, hw, qbo]
          · simp [h1, h2, h3, h4, h5, qbo]
        · simp [h1, h2, h3, h4, qbo]
      · simp [h1, h2, h3, qbo]
    · simp [h1, h2, qbo]
  · simp [h1, qbo]
def mE (x:Lim) (s:Mot):Int:=if lE x = 0 then (if cT x s = true then 0 else 2) else lE x
theorem qp9 (x:Lim) (s:Mot):f44 (x, s, ()) = some (mE x s, ()):=by
  have e1:=qo1 x
  have e2:=qly x s
  simp only [f44, t44, Tr.val_test, Tr.val_fin, g43, e1, g123, e2, qby, Option.isSome_some, Option.getD_some, if_true, mE]
  by_cases h:lE x = 0 <;> simp [h]
theorem qkl (x:Lim) (s:Mot):f118 (x, s, ()) = some (if mE x s = 0 then ((x, ()), 0, ()) else ((((0, 0, ()), 0, 0, 0, ()), ()), mE x s, ())):=by
  have e1:=qpa x
  have e2:=qk1 x s
  have w (b:Bool) (e:Int):f80 (b, e, ()) = some (if b = true then e else 0, ()):=qkX _
  have w1:=w (!cT x s) 2
  have z1:=qff (lE x) (if (!cT x s) = true then 2 else 0)
  have hm:qbo [lE x, if (!cT x s) = true then 2 else 0] = mE x s:=by
    unfold mE
    by_cases h:lE x = 0
    · simp only [qbo, if_pos h]
      cases cT x s <;> rfl
    · simp only [qbo, if_neg h]
  rw [hm] at z1
  simp only [f118, t118, Tr.val_test, Tr.val_fin, g39, e1, g160, e2, g80, w1, g79, z1, qby, Option.isSome_some, Option.getD_some, if_true]
  by_cases h:mE x s = 0
  · rw [if_pos h, if_neg (by simp [h])]
  · rw [if_neg h, if_pos (by simp [h])]
theorem qiD {x:Lim} {s:Mot} (h:mE x s = 0):okL x = true ∧ x.1.1 ≤ x.1.2.1 ∧ okM x s = true:=by
  unfold mE at h
  split at h
  · rename_i hl
    obtain ⟨h1, h2⟩:=qpz hl
    split at h
    · rename_i hc
      rw [qp1 h1] at hc
      exact ⟨h1, h2, hc⟩
    · cases h
  · rename_i hl; exact absurd h hl
theorem qku (s:Mot) (p:Int) (hs:-1000 ≤ s.1 ∧ s.1 ≤ 1000) (hs2:-1000 ≤ s.2.1 ∧ s.2.1 ≤ 1000) (hp:-1000 ≤ p ∧ p ≤ 1000):f121 (s, p, ()) = some (mvd s p, ()):=by
  have w1:wrap64 (s.2.1 + p) = s.2.1 + p:=qad (by omega) (by omega)
  have w2:wrap64 (s.1 + (s.2.1 + p)) = s.1 + (s.2.1 + p):=qad (by omega) (by omega)
  simp only [f121, t121, Tr.val_fin, w1, w2, mvd]
theorem qnf (s:Mot):f122 (s, ()) = some (rest s, ()):=by
  simp only [f122, t122, Tr.val_test, Tr.val_fin, qby, rest]
  by_cases h:s.2.1 = 0 <;> simp [h]
theorem qoY (s:Mot):f49 (s, ()) = some (rest s, ()):=by
  simp only [f49, t49, Tr.val_test, Tr.val_fin, qby, rest]
  by_cases h:s.2.1 = 0 <;> simp [h]
theorem qhn {x:Lim} {s:Mot} (hx:okL x = true) (hs:okM x s = true):(-60 ≤ s.1 ∧ s.1 ≤ 60) ∧ (-8 ≤ s.2.1 ∧ s.2.1 ≤ 8) ∧ (-3 ≤ s.2.2.1 ∧ s.2.2.1 ≤ 3):=by
  have a:=okL_iff.1 hx
  have b:=okM_iff.1 hs
  omega
theorem qmG {x:Lim} {s:Mot} (hx:okL x = true) (hs:okM x s = true) (p:Int):f120 ((x, ()), s, p, ()) = some (prm x s p, ()):=by
  have a:=okL_iff.1 hx
  have b:=qhn hx hs
  have e1:=qfV x.2.2.1 p
  rw [qh5 (by omega) (by omega)] at e1
  simp only [f120, t120, Tr.val_test, Tr.val_fin, g117, e1, Option.isSome_some, Option.getD_some, if_true, prm, Bool.not_not]
  rcases Bool.eq_false_or_eq_true (wi (-x.2.2.1) x.2.2.1 p) with h1 | h1
  · have hp:=wi_iff.1 h1
    have w:wrap64 (p - s.2.2.1) = p - s.2.2.1:=qad (by omega) (by omega)
    have e2:=qfV x.2.2.2.1 (p - s.2.2.1)
    rw [qh5 (by omega) (by omega)] at e2
    have hw:wi (-x.2.2.2.1) x.2.2.2.1 (p - s.2.2.1) = wi (s.2.2.1 - x.2.2.2.1) (s.2.2.1 + x.2.2.2.1) p:=by
      rw [Bool.eq_iff_iff, wi_iff, wi_iff]; omega
    rw [hw] at e2
    have e3:=qku s p (by omega) (by omega) (by omega)
    have e4:=qk1 x (mvd s p)
    rw [qp1 hx] at e4
    simp only [h1, w, e2, g121, e3, g160, e4, Option.isSome_some, Option.getD_some, if_true, Bool.true_and, Bool.not_not]
    rcases Bool.eq_false_or_eq_true (wi (s.2.2.1 - x.2.2.2.1) (s.2.2.1 + x.2.2.2.1) p) with h2 | h2 <;> simp [h2]
  · simp [h1]
theorem qo7 {x:Lim} {s:Mot} (hx:okL x = true) (hs:okM x s = true) (p:Int):f50 (x, s, p, ()) = some (if prm x s p = true then (mvd s p, true, ()) else (mt0, false, ())):=by
  have a:=okL_iff.1 hx
  have b:=qhn hx hs
  have h (b:Int):IntKind.wrap .i64 (0 - b) = ng b:=rfl
  have e1:=qeh (p, ng x.2.2.1, x.2.2.1, ())
  rw [qh5 (by omega) (by omega)] at e1
  have n1:ng x.2.2.1 = -x.2.2.1:=qh5 (by omega) (by omega)
  have w1:wrap64 (s.2.2.1 - x.2.2.2.1) = s.2.2.1 - x.2.2.2.1:=qad (by omega) (by omega)
  have w2:wrap64 (s.2.2.1 + x.2.2.2.1) = s.2.2.1 + x.2.2.2.1:=qad (by omega) (by omega)
  have e2:=qeh (p, s.2.2.1 - x.2.2.2.1, s.2.2.1 + x.2.2.2.1, ())
  simp only [f50, t50, Tr.val_test, Tr.val_fin, g25, h, n1, e1, w1, w2, e2, Option.isSome_some, Option.getD_some, if_true, prm, qby]
  rcases Bool.eq_false_or_eq_true (wi (-x.2.2.1) x.2.2.1 p) with h1 | h1
  · have hp:=wi_iff.1 h1
    have w3:wrap64 (s.2.1 + p) = s.2.1 + p:=qad (by omega) (by omega)
    have w4:wrap64 (s.1 + (s.2.1 + p)) = s.1 + (s.2.1 + p):=qad (by omega) (by omega)
    have e3:=qly x (mvd s p)
    rw [qp1 hx] at e3
    have e3:f123 (x, (s.1 + (s.2.1 + p), s.2.1 + p, p, ()), ()) = some (if okM x (mvd s p) = true then 0 else 2, ()):=e3
    simp only [h1, w3, w4, g123, e3, Option.isSome_some, Option.getD_some, if_true]
    rcases Bool.eq_false_or_eq_true (wi (s.2.2.1 - x.2.2.2.1) (s.2.2.1 + x.2.2.2.1) p) with h2 | h2
    · rcases Bool.eq_false_or_eq_true (okM x (mvd s p)) with h3 | h3
      · simp only [h2, h3, Bool.not_true, Bool.false_eq_true, if_false, if_true, decide_true, Bool.and_self]
        rfl
      · simp only [h2, h3, Bool.not_true, Bool.false_eq_true, if_false, Bool.and_false]
        rfl
    · simp [h2, mt0]
  · simp [h1, mt0]
theorem qm0 {x:Lim} {s:Mot} (hx:okL x = true) (hs:okM x s = true):f124 (x, s, ()) = some (cel x s, ()):=by
  have a:=okL_iff.1 hx
  have c:=okM_iff.1 hs
  have b:=qhn hx hs
  have h1:0 ≤ (s.1 - x.1.1) * (2 * x.2.1 + 1) ∧ (s.1 - x.1.1) * (2 * x.2.1 + 1) ≤ 120 * 17:=⟨Int.mul_nonneg (by omega) (by omega), Int.mul_le_mul (by omega) (by omega) (by omega) (by omega)⟩
  have h2:0 ≤ ((s.1 - x.1.1) * (2 * x.2.1 + 1) + s.2.1 + x.2.1) * (2 * x.2.2.1 + 1) ∧ ((s.1 - x.1.1) * (2 * x.2.1 + 1) + s.2.1 + x.2.1) * (2 * x.2.2.1 + 1) ≤ 2100 * 7:=⟨Int.mul_nonneg (by omega) (by omega), Int.mul_le_mul (by omega) (by omega) (by omega) (by omega)⟩
  have w1:wrap64 (s.1 - x.1.1) = s.1 - x.1.1:=qad (by omega) (by omega)
  have w2:wrap64 (2 * x.2.1) = 2 * x.2.1:=qad (by omega) (by omega)
  have w3:wrap64 (2 * x.2.1 + 1) = 2 * x.2.1 + 1:=qad (by omega) (by omega)
  have w4:wrap64 (2 * x.2.2.1) = 2 * x.2.2.1:=qad (by omega) (by omega)
  have w5:wrap64 (2 * x.2.2.1 + 1) = 2 * x.2.2.1 + 1:=qad (by omega) (by omega)
  have w6:wrap64 ((s.1 - x.1.1) * (2 * x.2.1 + 1)) = (s.1 - x.1.1) * (2 * x.2.1 + 1):=qad (by omega) (by omega)
  have w7:wrap64 ((s.1 - x.1.1) * (2 * x.2.1 + 1) + s.2.1) = (s.1 - x.1.1) * (2 * x.2.1 + 1) + s.2.1:=qad (by omega) (by omega)
  have w8:wrap64 ((s.1 - x.1.1) * (2 * x.2.1 + 1) + s.2.1 + x.2.1) = (s.1 - x.1.1) * (2 * x.2.1 + 1) + s.2.1 + x.2.1:=qad (by omega) (by omega)
  have w9:wrap64 (((s.1 - x.1.1) * (2 * x.2.1 + 1) + s.2.1 + x.2.1) * (2 * x.2.2.1 + 1)) = ((s.1 - x.1.1) * (2 * x.2.1 + 1) + s.2.1 + x.2.1) * (2 * x.2.2.1 + 1):=qad (by omega) (by omega)
  have w10:wrap64 (((s.1 - x.1.1) * (2 * x.2.1 + 1) + s.2.1 + x.2.1) * (2 * x.2.2.1 + 1) + s.2.2.1) = ((s.1 - x.1.1) * (2 * x.2.1 + 1) + s.2.1 + x.2.1) * (2 * x.2.2.1 + 1) + s.2.2.1:=qad (by omega) (by omega)
  have w11:wrap64 (((s.1 - x.1.1) * (2 * x.2.1 + 1) + s.2.1 + x.2.1) * (2 * x.2.2.1 + 1) + s.2.2.1 + x.2.2.1) = ((s.1 - x.1.1) * (2 * x.2.1 + 1) + s.2.1 + x.2.1) * (2 * x.2.2.1 + 1) + s.2.2.1 + x.2.2.1:=qad (by omega) (by omega)
  simp only [f124, t124, Tr.val_fin, w1, w2, w3, w4, w5, w6, w7, w8, w9, w10, w11, cel]
end Go.Vm.Mo

namespace Go.Vm.Mo
open Go
set_option linter.unusedVariables false
set_option linter.unusedSimpArgs false
theorem kq (a b:Mot):qbn MT a b = decide (a = b):=by
  obtain ⟨a1, a2, a3, ⟨⟩⟩:=a
  obtain ⟨b1, b2, b3, ⟨⟩⟩:=b
  show (match qmb a1 b1 with | true=>(match qmb a2 b2 with | true=>(match qmb a3 b3 with | true=>true | false=>false) | false=>false) | false=>false) = _
  have hb (a b:Int):(a == b) = decide (a = b):=by by_cases h:a = b <;> simp [h]
  rw [qdZ, qdZ, qdZ, hb, hb, hb]
  by_cases h1:a1 = b1
  · by_cases h2:a2 = b2
    · by_cases h3:a3 = b3
      · subst h1 h2 h3; simp
      · have e:decide (((a1, a2, a3, ()):Mot) = (b1, b2, b3, ())) = false:=decide_eq_false fun e=>h3 (congrArg (fun m:Mot=>m.2.2.1) e)
        rw [decide_eq_true h1, decide_eq_true h2, decide_eq_false h3]
        exact e.symm
    · have e:decide (((a1, a2, a3, ()):Mot) = (b1, b2, b3, ())) = false:=decide_eq_false fun e=>h2 (congrArg (fun m:Mot=>m.2.1) e)
      rw [decide_eq_true h1, decide_eq_false h2]
      exact e.symm
  · have e:decide (((a1, a2, a3, ()):Mot) = (b1, b2, b3, ())) = false:=decide_eq_false fun e=>h1 (congrArg (fun m:Mot=>m.1) e)
    rw [decide_eq_false h1]
    exact e.symm
theorem qh9:∀ (l:List (Mot×Mot)) (d:Mot), qcG (k:=MT) (v:=MT) l d = (l.find? fun p=>decide (d = p.1)).map (·.2)
  | [], _=>rfl
  | p :: l, d=>by
    have ih:=qh9 l d
    show (match qbn MT d p.1 with | true=>some p.2 | false=>qcG (k:=MT) (v:=MT) l d) = _
    rw [kq, List.find?_cons]
    by_cases h:d = p.1
    · simp only [decide_eq_true h]; rfl
    · simp only [decide_eq_false h]; exact ih
theorem qnK:∀ (l:List (Mot×Mot)) (d x:Mot), d ∉ l.map (·.1) → mput (k:=MT) (v:=MT) l d x = l++[(d, x)]
  | [], _, _, _=>rfl
  | p :: l, d, x, h=>by
    rw [List.map_cons, List.mem_cons, not_or] at h
    have ih:=qnK l d x h.2
    show (match qbn MT d p.1 with | true=>(d, x) :: l | false=>p :: mput (k:=MT) (v:=MT) l d x) = _
    rw [kq, decide_eq_false h.1]
    exact congrArg (p :: ·) ih
theorem qnz (q:List (Mot×Nat×Int)) (d:Mot):found (qcG (k:=MT) (v:=MT) (bef q) d) = Bf.has q d:=by
  rw [qh9]
  cases h:(bef q).find? fun p=>decide (d = p.1) with
  | none =>
    rw [qho, qf2] at h
    simp [found, Bf.has, h]
  | some p =>
    have h1:=List.find?_some h
    have h2:=List.mem_of_find?_eq_some h
    have:d ∈ q.map (·.1):=by
      rw [← qf2, of_decide_eq_true h1]
      exact List.mem_map.2 ⟨p, h2, rfl⟩
    simp [found, Bf.has, this]
def ex1 (x:Lim) (now:Mot) (i:Nat) (q:List (Mot×Nat×Int)) (k:Nat):List (Mot×Nat×Int):=Bf.exts i q (nxU x now k)
theorem qif (x:Lim) (now:Mot) (i:Nat) (q:List (Mot×Nat×Int)) (k:Nat):ex1 x now i q (k + 1) = if prm x now ((k:Int) - x.2.2.1) = true then Bf.add i (ex1 x now i q k) ((k:Int) - x.2.2.1, mvd now ((k:Int) - x.2.2.1)) else ex1 x now i q k:=by
  unfold ex1 Bf.exts
  rw [nxU, List.foldl_append]
  split <;> rfl
theorem qki (x:Lim) (now:Mot) (i:Nat) (q:List (Mot×Nat×Int)):∀ k, (ex1 x now i q k).length ≤ q.length + k
  | 0=>by simp [ex1, nxU, Bf.exts]
  | k + 1=>by
    have ih:=qki x now i q k
    rw [qif]
    split
    · unfold Bf.add
      split
      · omega
      · rw [List.length_append]; simp; omega
    · omega
theorem qmM (x:Lim) (now:Mot) (i:Nat) (q:List (Mot×Nat×Int)) (k:Nat):∃ r, ex1 x now i q k = q++r ∧ ∀ e, e ∈ r → e.2.1 = i :=
  let ⟨r, h1, h2⟩:=Bf.exts_pre i (nxU x now k) q; ⟨r, h1, fun e he=>(h2 e he).1⟩
theorem l162 {x:Lim} (hx:okL x = true) {now:Mot} (hs:okM x now = true) {i:Nat} {q:List (Mot×Nat×Int)} (hi:i < q.length) (hn:mAt q i = now) (hq:∀ e, e ∈ q → e.2.1 < q.length) (hl:q.length ≤ 1000000) :
    l162_0 ((-x.2.2.1, ()), (), (x.1.1, x.1.2.1, x.2.1, x.2.2.1, x.2.2.2.1, ()), now, (q.map (·.1), ()), (), now, bef q, ()) = some (.inl ((), (), (x.1.1, x.1.2.1, x.2.1, x.2.2.1, x.2.2.2.1, ()), now, ((Bf.exts i q (nx x now)).map (·.1), ()), (), now, bef (Bf.exts i q (nx x now)), ())):=by
  have a:=okL_iff.1 hx
  have b:=qhn hx hs
  have key:=qdg (step:=s162_0) (fun k=>(((k:Int) - x.2.2.1, ()), (), (x.1.1, x.1.2.1, x.2.1, x.2.2.1, x.2.2.2.1, ()), now, ((ex1 x now i q k).map (·.1), ()), (), now, bef (ex1 x now i q k), ()))
    (b:=((), (), (x.1.1, x.1.2.1, x.2.1, x.2.2.1, x.2.2.2.1, ()), now, ((ex1 x now i q (2 * x.2.2.1 + 1).toNat).map (·.1), ()), (), now, bef (ex1 x now i q (2 * x.2.2.1 + 1).toNat), ())) (n:=(2 * x.2.2.1 + 1).toNat) (m:=rounds) ?_ ?_ (qaK (by omega))
  · have h0:(((0:Nat):Int) - x.2.2.1) = -x.2.2.1:=by omega
    have h1:ex1 x now i q 0 = q:=rfl
    rw [h0, h1] at key
    exact key
  · intro k hk
    obtain ⟨r, hr, hrf⟩:=qmM x now i q k
    have hlen:=qki x now i q k
    have hnow:mAt (ex1 x now i q k) i = now:=by
      rw [hr]; simp only [mAt, List.getD_eq_getElem?_getD, List.getElem?_append_left hi] at hn ⊢; exact hn
    have hge:q.length ≤ (ex1 x now i q k).length:=by rw [hr, List.length_append]; omega
    have hfrom:∀ e, e ∈ ex1 x now i q k → e.2.1 < (ex1 x now i q k).length:=by
      intro e he
      rw [hr] at he
      rcases List.mem_append.1 he with he | he
      · have:=hq e he; omega
      · have:=hrf e he; omega
    have e1:=qmG hx hs ((k:Int) - x.2.2.1)
    have w:wrap64 ((k:Int) - x.2.2.1 + 1) = ((k + 1:Nat):Int) - x.2.2.1:=by
      rw [qad (by omega) (by omega)]; omega
    rw [qif]
    generalize ex1 x now i q k = E at hr hlen hnow hge hfrom ⊢
    have hk2:(k:Int) - x.2.2.1 ≤ x.2.2.1 ∧ -3 ≤ (k:Int) - x.2.2.1 ∧ (k:Int) - x.2.2.1 ≤ 3:=by omega
    have hk3:k ≤ 7:=by omega
    obtain ⟨⟨lo, hi', ⟨⟩⟩, sp, pu, je, ⟨⟩⟩:=x
    obtain ⟨n1, n2, n3, ⟨⟩⟩:=now
    simp only at e1 w a b hk2
    simp only [s162_0, t162_0, Tr.val_test, Tr.val_fin, qap, g120, e1, w, Option.isSome_some, Option.getD_some, if_true, dT hk2.1]
    rcases Bool.eq_false_or_eq_true (prm ((lo, hi', ()), sp, pu, je, ()) (n1, n2, n3, ()) ((k:Int) - pu)) with hp | hp
    · have e2:=qku (n1, n2, n3, ()) ((k:Int) - pu) (by simp only; omega) (by simp only; omega) ⟨by omega, by omega⟩
      have e3:=qnz E (mvd (n1, n2, n3, ()) ((k:Int) - pu))
      have hm:mvd (n1, n2, n3, ()) ((k:Int) - pu) = ((mvd (n1, n2, n3, ()) ((k:Int) - pu)).1, (mvd (n1, n2, n3, ()) ((k:Int) - pu)).2.1, (mvd (n1, n2, n3, ()) ((k:Int) - pu)).2.2.1, ()):=rfl
      simp only [hp, g121, e2, Option.isSome_some, Option.getD_some, if_true, ← hm, e3, Bf.add]
      rcases Bool.eq_false_or_eq_true (Bf.has E (mvd (n1, n2, n3, ()) ((k:Int) - pu))) with hh | hh
      · simp only [hh, Bool.not_true, Bool.false_eq_true, if_false, if_true]
      · have hno:mvd (n1, n2, n3, ()) ((k:Int) - pu) ∉ (bef E).map (·.1):=by
          rw [qf2]
          intro hmem
          rw [Bf.has_iff.2 hmem] at hh; cases hh
        have e4:=qnK _ _ (n1, n2, n3, ()) hno
        have e5:=qpR hfrom (show i < E.length by omega) (mvd (n1, n2, n3, ()) ((k:Int) - pu)) ((k:Int) - pu)
        rw [hnow] at e5
        simp only [hh, Bool.not_false, Bool.false_eq_true, if_false, if_true, e4, e5, List.map_append, List.map_cons, List.map_nil, List.length_map]
        rw [if_pos (by simp only [Bool.and_eq_true, qao]; omega)]
    · simp only [hp, Bool.false_eq_true, if_false]
  · obtain ⟨⟨lo, hi', ⟨⟩⟩, sp, pu, je, ⟨⟩⟩:=x
    simp only at a
    simp only [s162_0, t162_0, Tr.val_test, Tr.val_fin, qap]
    rw [if_neg (by simp; omega)]
theorem eqM (a s:Mot):(a.1 == s.1 && (a.2.1 == s.2.1 && (a.2.2.1 == s.2.2.1 && true))) = decide (a = s):=by
  obtain ⟨a1, a2, a3, ⟨⟩⟩:=a
  obtain ⟨s1, s2, s3, ⟨⟩⟩:=s
  by_cases h1:a1 = s1 <;> by_cases h2:a2 = s2 <;> by_cases h3:a3 = s3 <;> simp [h1, h2, h3]
theorem qo3 {x:Lim} {s:Mot} {q:List (Mot×Nat×Int)} {n:Nat} (F:Bf.Fin (nx x) s 0 q n) {k:Nat} (hk:k < q.length):qeX (qcG (k:=MT) (v:=MT) (bef q) (mAt q k)) ((0:Int), (0:Int), (0:Int), ()) = mAt q (frm q k):=by
  obtain ⟨h1, h2, h3⟩:=qdv hk
  rw [qh9, h2, qog F.nodup h1]
  show mAt q q[k].2.1 = _
  rw [h3]
theorem qmu {q:List (Mot×Nat×Int)} {k t:Nat} (h:Bf.bk q k t < q.length):Bf.bk q k (t + 1) = frm q (Bf.bk q k t):=by
  obtain ⟨h1, h2, h3⟩:=qdv h
  simp only [Bf.bk, h1, h3]
theorem qnu {x:Lim} {s:Mot} {q:List (Mot×Nat×Int)} {n:Nat} (F:Bf.Fin (nx x) s 0 q n) {k:Nat} (hk:k < q.length) (h0:0 < k):frm q k < k ∧ (q.getD k (mt0, 0, 0)).2.2 = (mAt q k).2.2.1:=by
  obtain ⟨h1, h2, h3⟩:=qdv hk
  obtain ⟨h4, e', h5, h6⟩:=F.frm k _ h0 h1
  refine ⟨by rw [h3]; exact h4, ?_⟩
  have:=(nx_mem.1 h6).2
  simp only at this
  rw [h2, this]
  simp only [List.getD_eq_getElem?_getD, h1, Option.getD_some, mvd]
theorem qn8 {x:Lim} {s:Mot} {q:List (Mot×Nat×Int)} {n:Nat} (F:Bf.Fin (nx x) s 0 q n) {k t:Nat} (h:Bf.bk q k t < q.length) (h0:0 < Bf.bk q k t):Bf.pl q k (t + 1) = Bf.pl q k t++[(mAt q (Bf.bk q k t)).2.2.1]:=by
  obtain ⟨h1, h2, h3⟩:=qdv h
  have h4:=(qnu F h h0).2
  rw [← h4]
  simp only [Bf.pl, h1, List.getD_eq_getElem?_getD, Option.getD_some]
theorem l161 {x:Lim} {s:Mot} {q:List (Mot×Nat×Int)} {n:Nat} (F:Bf.Fin (nx x) s 0 q n) {k:Nat} (hk:k < q.length) (hl:q.length ≤ 1000000) :
    l161_0 (([], ()), bef q, mAt q k, ()) = some (.inl ((Bf.pl q k (Bf.tr q k k).length, ()), bef q, mAt q (Bf.bk q k (Bf.tr q k k).length), ())):=by
  have hD:=Bf.tr_len q k k
  refine qdg (fun t=>((Bf.pl q k t, ()), bef q, mAt q (Bf.bk q k t), ())) (n:=(Bf.tr q k k).length) ?_ ?_ (qaK (by omega))
  · intro t ht
    obtain ⟨h1, h2, h3⟩:=Bf.bk_tr F hk t (by omega)
    have h4:=Bf.bk_pos F hk ht
    have h5:=qo3 F h1
    have h6:=(qnu F h1 h4).1
    have hne:mAt q (frm q (Bf.bk q k t)) ≠ mAt q (Bf.bk q k t):=by
      intro e
      have:=F.inj (qdv (show frm q (Bf.bk q k t) < q.length by omega)).1 (qdv h1).1 (by rw [← (qdv (show frm q (Bf.bk q k t) < q.length by omega)).2.1, ← (qdv h1).2.1]; exact e)
      omega
    have h7:=eqM (mAt q (frm q (Bf.bk q k t))) (mAt q (Bf.bk q k t))
    rw [decide_eq_false hne] at h7
    rw [qn8 F h1 h4, qmu h1]
    have hm:((mAt q (Bf.bk q k t)).1, (mAt q (Bf.bk q k t)).2.1, (mAt q (Bf.bk q k t)).2.2.1, ()) = mAt q (Bf.bk q k t):=rfl
    have hm2:((mAt q (frm q (Bf.bk q k t))).1, (mAt q (frm q (Bf.bk q k t))).2.1, (mAt q (frm q (Bf.bk q k t))).2.2.1, ()) = mAt q (frm q (Bf.bk q k t)):=rfl
    simp only [s161_0, t161_0, Tr.val_test, Tr.val_fin, hm, h5, h7, hm2, Bool.not_false, if_true, h3]
    rw [if_pos (by simp only [Bool.and_eq_true, qao]; omega)]
  · obtain ⟨h1, h2, h3⟩:=Bf.bk_tr F hk _ (Nat.le_refl _)
    have h4:=(Bf.bk_end F hk).1
    have h5:=qo3 F h1
    have h6:frm q 0 = 0:=by rw [qmW F.zero]
    rw [h4] at h5 ⊢
    rw [h6] at h5
    have h7:=eqM (mAt q 0) (mAt q 0)
    rw [decide_eq_true rfl] at h7
    have hm:((mAt q 0).1, (mAt q 0).2.1, (mAt q 0).2.2.1, ()) = mAt q 0:=rfl
    simp only [s161_0, t161_0, Tr.val_test, Tr.val_fin, hm, h5, h7, Bool.not_true, Bool.false_eq_true, if_false]
def rv (L:List Int) (t:Nat):List Int:=(List.range L.length).map fun j=>if j < t ∨ L.length - t ≤ j then L.getD (L.length - 1 - j) 0 else L.getD j 0
theorem qhg (L:List Int) (t:Nat):(rv L t).length = L.length:=by simp [rv]
theorem qfG (L:List Int) (t:Nat) {j:Nat} (h:j < L.length):(rv L t)[j]? = some (if j < t ∨ L.length - t ≤ j then L.getD (L.length - 1 - j) 0 else L.getD j 0):=by
  simp [rv, h]
theorem qpT (L:List Int):rv L 0 = L:=by
  refine List.ext_getElem? fun j=>?_
  by_cases h:j < L.length
  · rw [qfG L 0 h, if_neg (by omega)]
    simp [h]
  · rw [List.getElem?_eq_none (by rw [qhg]; omega), List.getElem?_eq_none (by omega)]
theorem qpG (L:List Int) {t:Nat} (h:t + t + 1 < L.length):((rv L t).set t ((rv L t).getD (L.length - 1 - t) 0)).set (L.length - 1 - t) ((rv L t).getD t 0) = rv L (t + 1):=by
  refine List.ext_getElem? fun j=>?_
  rw [List.getElem?_set, List.getElem?_set]
  simp only [List.length_set, qhg]
  have g1:(rv L t).getD t 0 = L.getD t 0:=by
    rw [List.getD_eq_getElem?_getD, qfG L t (by omega), if_neg (by omega)]; rfl
  have g2:(rv L t).getD (L.length - 1 - t) 0 = L.getD (L.length - 1 - t) 0:=by
    rw [List.getD_eq_getElem?_getD, qfG L t (by omega), if_neg (by omega)]; rfl
  rw [g1, g2]
  by_cases h1:L.length - 1 - t = j
  · subst h1
    rw [if_pos rfl, if_pos (by omega), qfG L (t + 1) (by omega), if_pos (by omega)]
    congr 2; omega
  · rw [if_neg h1]
    by_cases h2:t = j
    · subst h2
      rw [if_pos rfl, if_pos (by omega), qfG L (t + 1) (by omega), if_pos (by omega)]
    · rw [if_neg h2]
      by_cases hj:j < L.length
      · rw [qfG L t hj, qfG L (t + 1) hj]
        by_cases h3:j < t ∨ L.length - t ≤ j
        · rw [if_pos h3, if_pos (by omega)]
        · rw [if_neg h3, if_neg (by omega)]
      · rw [List.getElem?_eq_none (by rw [qhg]; omega), List.getElem?_eq_none (by rw [qhg]; omega)]
theorem qqo (L:List Int) {t:Nat} (h:L.length ≤ t + t + 1) (h2:t + t ≤ L.length):rv L t = L.reverse:=by
  refine List.ext_getElem? fun j=>?_
  by_cases hj:j < L.length
  · rw [qfG L t hj, List.getElem?_reverse hj, List.getElem?_eq_getElem (by omega)]
    congr 1
    by_cases h3:j < t ∨ L.length - t ≤ j
    · rw [if_pos h3, List.getD_eq_getElem?_getD, List.getElem?_eq_getElem (by omega)]; rfl
    · rw [if_neg h3, List.getD_eq_getElem?_getD, List.getElem?_eq_getElem (by omega)]
      simp only [Option.getD_some]
      congr 1; omega
  · rw [List.getElem?_eq_none (by rw [qhg]; omega), List.getElem?_eq_none (by simp; omega)]
theorem l155 (L:List Int) (h:1 ≤ L.length) (hl:L.length ≤ 1000000):l155_0 ((L.length, (0:Int), ((L.length - 1:Nat):Int), ()), L, ()) = some (.inl ((), L.reverse, ())):=by
  have key:=qdg (step:=s155_0) (fun t=>((L.length, (t:Int), ((L.length:Int) - 1 - (t:Int)), ()), rv L t, ())) (b:=((), rv L (L.length / 2), ())) (n:=L.length / 2) (m:=rounds) ?_ ?_ (qaK (by omega))
  · rw [qpT, qqo L (by omega) (by omega)] at key
    have e:((L.length - 1:Nat):Int) = (L.length:Int) - 1 - ((0:Nat):Int):=by omega
    rw [e]
    exact key
  · intro t ht
    have hlen:=qhg L t
    have e:((L.length:Int) - 1 - (t:Int)).toNat = L.length - 1 - t:=by omega
    have w:wrap64 ((L.length:Int) - 1 - (t:Int) - 1) = (L.length:Int) - 1 - ((t + 1:Nat):Int):=by rw [qad (by omega) (by omega)]; omega
    simp only [s155_0, t155_0, Tr.val_test, Tr.val_fin, qap, Int.toNat_natCast, e, w, Nat.zero_add, List.length_set, hlen, qbp (show t ≤ 9223372036854775806 by omega), qpG L (show t + t + 1 < L.length by omega)]
    rw [if_pos (by simp; omega), if_pos (by simp; omega), if_pos (by rw [qao]; omega), if_pos (by simp; omega), if_pos (by rw [qao]; omega), if_pos (by rw [qao]; omega)]
  · simp only [s155_0, t155_0, Tr.val_test, Tr.val_fin, qap]
    rw [if_neg (by simp; omega)]
end Go.Vm.Mo

namespace Go.Vm.Mo
open Go
set_option linter.unusedVariables false
set_option linter.unusedSimpArgs false
theorem qc2 {A B C:Type} {step:A → Option (Out A B C)} (st:Nat → A) (bad:Nat → Bool) (r:Nat → C) {n m:Nat} {b:B}
    (h:∀ i, i < n → (∀ j, j < i → bad j = false) → step (st i) = if bad i = true then some (.ret (r i)) else some (.again (st (i + 1)))) (hb:(∀ j, j < n → bad j = false) → step (st n) = some (.brk b)) (hm:n < m) :
    itr step m (st 0) = match first bad n 0 with
      | some k=>some (.inr (r k))
      | none=>some (.inl b):=by
  cases e:first bad n 0 with
  | none =>
    have hn:=qcO e
    have hg:∀ j, j < n → bad j = false:=fun j hj=>hn j (by omega) (by omega)
    exact qdg st (fun i hi=>by rw [h i hi fun j hj=>hg j (by omega), hg i hi]; rfl) (hb hg) hm
  | some k =>
    obtain ⟨_, k2, k3, k4⟩:=first_some e
    have hk:k < n:=by omega
    have hg:∀ j, j < k → bad j = false:=fun j hj=>k4 j (by omega) (by omega)
    exact qnL (n:=k) st (fun i hi=>by rw [h i (by omega) fun j hj=>hg j (by omega), hg i hi]; rfl) (by rw [h k hk hg, k3]; rfl) (by omega)
theorem qnF {x:Lim} {s:Mot} {i:Nat} (h:i < (Qm x s i).length):Qm x s (i + 1) = Bf.exts i (Qm x s i) (nx x (mAt (Qm x s i) i)):=by
  obtain ⟨h1, h2, _⟩:=qdv h
  have h3:(Bf.Q (nx x) s 0 i)[i]? = some (Qm x s i)[i]:=h1
  show Bf.Q (nx x) s 0 (i + 1) = _
  simp only [Bf.Q]
  rw [h3, h2]
theorem qpQ {x:Lim} {s:Mot} {i:Nat} (h:∀ j, j < i → j < (Qm x s j).length) (hi:i < (Qm x s i).length):∀ e, e ∈ Qm x s i → e.2.1 < (Qm x s i).length:=by
  intro e he
  obtain ⟨k, hk⟩:=List.getElem?_of_mem he
  have hkl:k < (Qm x s i).length:=(List.getElem?_eq_some_iff.1 hk).1
  rcases Nat.eq_zero_or_pos k with rfl | h0
  · have:=Bf.Q_zero (nx x) s 0 i
    rw [hk] at this; cases this; show 0 < _; omega
  · have:=(Bf.Q_from (nx x) s 0 i h k e h0 hk).1
    omega
theorem qo2 {x:Lim} {s:Mot} (hs:okM x s = true) {i k:Nat} (h:k < (Qm x s i).length):okM x (mAt (Qm x s i) k) = true:=by
  obtain ⟨h1, h2, _⟩:=qdv h
  rw [h2]
  exact qqq hs i _ (List.mem_of_getElem? h1)
theorem qoe {q:List (Mot×Nat×Int)} {k:Nat} (h:k < q.length):(q.map (·.1)).getD k ((0:Int), (0:Int), (0:Int), ()) = mAt q k:=by
  simp [mAt, h]
def qk6 (x:Lim) (s:Mot):Option ((Unit×(Int×Int×Int×Int×Int×Unit)×(List Mot×Unit)×Unit×List (Mot×Mot)×Unit) ⊕ ((List Int×Bool×Unit)×(Int×Int×Int×Int×Int×Unit)×(List Mot×Unit)×Unit×List (Mot×Mot)×Unit)) :=
  match stp x s with
  | some k=>some (.inr ((Bf.tr (Qm x s k) k k, true, ()), (x.1.1, x.1.2.1, x.2.1, x.2.2.1, x.2.2.2.1, ()), ((Qm x s k).map (·.1), ()), (), bef (Qm x s k), ()))
  | none=>some (.inl ((), (x.1.1, x.1.2.1, x.2.1, x.2.2.1, x.2.2.2.1, ()), ((Qm x s (endn x s)).map (·.1), ()), (), bef (Qm x s (endn x s)), ()))
theorem l119 {x:Lim} {s:Mot} (hx:okL x = true) (hw:x.1.1 ≤ x.1.2.1) (hs:okM x s = true) :
    l119_0 (((0:Int), ()), (x.1.1, x.1.2.1, x.2.1, x.2.2.1, x.2.2.2.1, ()), ([s], ()), (), [(s, s)], ()) = qk6 x s:=by
  obtain ⟨n1, n2, n3⟩:=qeB hx hw hs
  have key:=qc2 (step:=s119_0) (fun i=>(((i:Int), ()), (x.1.1, x.1.2.1, x.2.1, x.2.2.1, x.2.2.2.1, ()), ((Qm x s i).map (·.1), ()), (), bef (Qm x s i), ())) (fun i=>rest (mAt (Qm x s i) i))
    (fun k=>((Bf.tr (Qm x s k) k k, true, ()), (x.1.1, x.1.2.1, x.2.1, x.2.2.1, x.2.2.2.1, ()), ((Qm x s k).map (·.1), ()), (), bef (Qm x s k), ())) (n:=endn x s) (m:=rounds)
    (b:=((), (x.1.1, x.1.2.1, x.2.1, x.2.2.1, x.2.2.2.1, ()), ((Qm x s (endn x s)).map (·.1), ()), (), bef (Qm x s (endn x s)), ())) ?_ ?_ (qaK (by omega))
  · have h0:Qm x s 0 = [(s, 0, 0)]:=rfl
    have h1:bef [(s, 0, (0:Int))] = [(s, s)]:=rfl
    rw [h0, h1] at key
    exact key.trans (by unfold qk6 stp; split <;> rfl)
  · intro i hi hbad
    have hil:=n3 i hi
    have hjl:∀ j, j < i → j < (Qm x s j).length:=fun j hj=>n3 j (by omega)
    have hQl:(Qm x s i).length ≤ 14399:=qoF hx hw hs i
    have hok:=qo2 hs hil
    have e0:=qoe hil
    have e1:=qnf (mAt (Qm x s i) i)
    have hm:((mAt (Qm x s i) i).1, (mAt (Qm x s i) i).2.1, (mAt (Qm x s i) i).2.2.1, ()) = mAt (Qm x s i) i:=rfl
    have a:=okL_iff.1 hx
    have hng:IntKind.wrap .i64 (0 - x.2.2.1) = -x.2.2.1:=qh5 (by omega) (by omega)
    simp only [s119_0, t119_0, Tr.val_test, Tr.val_fin, qap, Int.toNat_natCast, e0, hm, g122, e1, List.length_map, Option.isSome_some, Option.getD_some, if_true, hng]
    rw [if_pos (by simp; omega), if_pos (by simp; omega)]
    rcases Bool.eq_false_or_eq_true (rest (mAt (Qm x s i) i)) with hr | hr
    · have F:=Bf.Q_fin (nx x) s 0 i hjl (Nat.le_of_lt hil)
      have e2:=l161 F hil (show (Qm x s i).length ≤ 1000000 by omega)
      obtain ⟨d1, d2⟩:=Bf.bk_end F hil
      have hD:(Bf.tr (Qm x s i) i i).length ≤ i:=Bf.tr_len _ i i
      rw [d2] at e2
      simp only [hr, if_true, e2, qcH, b161_0, outB, Option.isSome_some, List.length_reverse]
      by_cases h0:1 ≤ (Bf.tr (Qm x s i) i i).length
      · have e3:=l155 (Bf.tr (Qm x s i) i i).reverse (by rw [List.length_reverse]; exact h0) (by rw [List.length_reverse]; omega)
        rw [List.reverse_reverse, List.length_reverse] at e3
        have w:wrap64 (((Bf.tr (Qm x s i) i i).length:Int) - 1) = (((Bf.tr (Qm x s i) i i).length - 1:Nat):Int):=by rw [qad (by omega) (by omega)]; omega
        rw [if_pos (by rw [qao]; exact h0)]
        simp only [w, e3, qcH, b155_0, outB, Option.isSome_some, if_true]
        rw [if_pos (by rw [qjJ])]
      · have hz:Bf.tr (Qm x s i) i i = []:=List.eq_nil_of_length_eq_zero (by omega)
        rw [if_neg (by rw [qao]; exact h0)]
        have e4:l155_0_1 (((([]:List Int), (0:Int), (-1:Int), ())), ()) = some (.inl ((), ())):=by
          refine qdg (fun _=>(((([]:List Int), (0:Int), (-1:Int), ())), ())) (n:=0) (fun i hi=>by omega) ?_ (qaK (by omega))
          simp [s155_0_1, t155_0_1, qap]
        have w:wrap64 (((0:Nat):Int) - 1) = -1:=by rw [qad (by omega) (by omega)]; omega
        rw [hz]
        simp only [List.reverse_nil, List.length_nil, w, e4, if_true]
    · have e2:=l162 hx hok hil rfl (qpQ hjl hil) (by omega)
      rw [← qnF hil] at e2
      simp only [hr, Bool.false_eq_true, if_false, e2, qcH, b162_0, outB, Option.isSome_some, if_true, qbp (show i ≤ 9223372036854775806 by omega)]
  · intro _
    simp only [s119_0, t119_0, Tr.val_test, Tr.val_fin, qap, List.length_map, n2]
    rw [if_neg (by simp)]
theorem qmE {x:Lim} {s:Mot} (hx:okL x = true) (hw:x.1.1 ≤ x.1.2.1) (hs:okM x s = true):f119 ((x, ()), s, ()) = some ((res x s).getD [], (res x s).isSome, ()):=by
  have e:=l119 hx hw hs
  have hm:mput (k:=MT) (v:=MT) [] (s.1, s.2.1, s.2.2.1, ()) (s.1, s.2.1, s.2.2.1, ()) = [(s, s)]:=rfl
  have hm2:(s.1, s.2.1, s.2.2.1, ()) = s:=rfl
  rw [hm2] at hm
  unfold res
  cases hk:stp x s with
  | none =>
    simp only [qk6, hk] at e
    simp only [f119, t119, Tr.val_test, Tr.val_fin, hm, hm2, e, qcM, Option.isSome_some, if_true, Bool.false_eq_true, if_false]
    rfl
  | some k =>
    simp only [qk6, hk] at e
    simp only [f119, t119, Tr.val_test, Tr.val_fin, hm, hm2, e, qcM, r119_0, outR, Option.isSome_some, if_true]
    rfl
end Go.Vm.Mo

namespace Go.Vm.Mo
open Go
set_option linter.unusedVariables false
set_option linter.unusedSimpArgs false
theorem qlj {q:List (Mot×Nat×Int)} {k:Nat} (h:k < q.length):(fnd q).getD k (((0:Int), (0:Int), (0:Int), ()), (0:Int), (0:Int), ()) = (mAt q k, (if k = 0 then -1 else (frm q k:Int)), (q.getD k (mt0, 0, 0)).2.2, ()):=qpI h _
theorem l452 {x:Lim} {s:Mot} {q:List (Mot×Nat×Int)} {n:Nat} (F:Bf.Fin (nx x) s 0 q n) {k:Nat} (hk:k < q.length) (hl:q.length ≤ 1000000) :
    l45_2 ((fnd q, [], (k:Int), ()), ()) = some (.inl ((Bf.tr q k k, ()), ())):=by
  have hD:=Bf.tr_len q k k
  obtain ⟨d1, d2⟩:=Bf.bk_end F hk
  have key:=qdg (step:=s45_2) (fun t=>((fnd q, (Bf.pl q k t).reverse, ((Bf.bk q k t:Nat):Int), ()), ())) (b:=(((Bf.pl q k (Bf.tr q k k).length).reverse, ()), ())) (n:=(Bf.tr q k k).length) (m:=rounds) ?_ ?_ (qaK (by omega))
  · rw [d2, List.reverse_reverse] at key; exact key
  · intro t ht
    obtain ⟨h1, h2, h3⟩:=Bf.bk_tr F hk t (by omega)
    have h4:=Bf.bk_pos F hk ht
    have h5:=qlj h1
    rw [if_neg (by omega)] at h5
    have h6:=(qnu F h1 h4).2
    rw [qn8 F h1 h4, qmu h1, List.reverse_append]
    simp only [s45_2, t45_2, Tr.val_test, Tr.val_fin, qap, Int.toNat_natCast, h5, qgt, h6, List.length_reverse, h3]
    rw [if_pos (by simp; omega), if_pos (by simp), if_pos (by simp only [Bool.and_eq_true, qao]; omega)]
    rfl
  · obtain ⟨h1, h2, h3⟩:=Bf.bk_tr F hk _ (Nat.le_refl _)
    rw [d1] at h1 ⊢
    have h5:=qlj h1
    rw [if_pos rfl] at h5
    simp only [s45_2, t45_2, Tr.val_test, Tr.val_fin, qap, Int.toNat_natCast, h5, qgt]
    rw [if_pos (by simp; omega), if_neg (by simp)]
theorem qoz {x:Lim} {now:Mot} {i:Nat} {q:List (Mot×Nat×Int)} (hq:∀ e, e ∈ q → okM x e.1 = true):∀ k, ∀ e, e ∈ ex1 x now i q k → okM x e.1 = true:=by
  intro k e he
  obtain ⟨r, h1, h2⟩:=Bf.exts_pre i (nxU x now k) q
  have he:e ∈ Bf.exts i q (nxU x now k):=he
  rw [h1] at he
  rcases List.mem_append.1 he with he | he
  · exact hq e he
  · obtain ⟨j, _, hp, hj⟩:=nxU_mem.1 (h2 e he).2
    have:e.1 = mvd now ((j:Int) - x.2.2.1):=congrArg (·.2) hj
    rw [this]; exact (prm_iff.1 hp).2.2
theorem l454 {x:Lim} (hx:okL x = true) (hw:x.1.1 ≤ x.1.2.1) {now:Mot} (hs:okM x now = true) {i:Nat} {q:List (Mot×Nat×Int)} (hi:i < q.length) (hn:mAt q i = now) (hq:∀ e, e ∈ q → okM x e.1 = true) (hl:q.length ≤ 1000000) (c:Nat) :
    l45_4 ((fnd q, ((cells x).toNat, c), (i:Int), -x.2.2.1, ()), (x.1.1, x.1.2.1, x.2.1, x.2.2.1, x.2.2.2.1, ()), sn x q, ()) = some (.inl ((fnd (Bf.exts i q (nx x now)), ((cells x).toNat, c), (i:Int), ()), (x.1.1, x.1.2.1, x.2.1, x.2.2.1, x.2.2.2.1, ()), sn x (Bf.exts i q (nx x now)), ())):=by
  have a:=okL_iff.1 hx
  have b:=qhn hx hs
  have hN:=qip hx hw
  have key:=qdg (step:=s45_4) (fun k=>((fnd (ex1 x now i q k), ((cells x).toNat, c), (i:Int), (k:Int) - x.2.2.1, ()), (x.1.1, x.1.2.1, x.2.1, x.2.2.1, x.2.2.2.1, ()), sn x (ex1 x now i q k), ()))
    (b:=((fnd (ex1 x now i q (2 * x.2.2.1 + 1).toNat), ((cells x).toNat, c), (i:Int), ()), (x.1.1, x.1.2.1, x.2.1, x.2.2.1, x.2.2.2.1, ()), sn x (ex1 x now i q (2 * x.2.2.1 + 1).toNat), ())) (n:=(2 * x.2.2.1 + 1).toNat) (m:=rounds) ?_ ?_ (qaK (by omega))
  · have h0:(((0:Nat):Int) - x.2.2.1) = -x.2.2.1:=by omega
    have h1:ex1 x now i q 0 = q:=rfl
    rw [h0, h1] at key
    exact key
  · intro k hk
    obtain ⟨r, hr, hrf⟩:=qmM x now i q k
    have hlen:=qki x now i q k
    have hok:=qoz (x:=x) (now:=now) (i:=i) hq k
    have hge:q.length ≤ (ex1 x now i q k).length:=by rw [hr, List.length_append]; omega
    have hnow:mAt (ex1 x now i q k) i = now:=by
      rw [hr]; simp only [mAt, List.getD_eq_getElem?_getD, List.getElem?_append_left hi] at hn ⊢; exact hn
    have e1:=qo7 hx hs ((k:Int) - x.2.2.1)
    have w:wrap64 ((k:Int) - x.2.2.1 + 1) = ((k + 1:Nat):Int) - x.2.2.1:=by
      rw [qad (by omega) (by omega)]; omega
    rw [qif]
    generalize ex1 x now i q k = E at hr hlen hnow hge hok ⊢
    have h0:0 < E.length:=by omega
    have hk2:(k:Int) - x.2.2.1 ≤ x.2.2.1:=by omega
    have hk3:k ≤ 7:=by omega
    have hf:=qlj (show i < E.length by omega)
    rw [hnow] at hf
    have hsn:=qqd x E
    have e2:prm x now ((k:Int) - x.2.2.1) = true → okM x (mvd now ((k:Int) - x.2.2.1)) = true:=fun h=>(prm_iff.1 h).2.2
    generalize hp':(k:Int) - x.2.2.1 = p at *
    have hm:((mvd now p).1, (mvd now p).2.1, (mvd now p).2.2.1, ()) = mvd now p:=rfl
    have hm2:(now.1, now.2.1, now.2.2.1, ()) = now:=rfl
    have hx2:((x.1.1, x.1.2.1, ()), x.2.1, x.2.2.1, x.2.2.2.1, ()) = x:=rfl
    simp only [s45_4, t45_4, Tr.val_test, Tr.val_fin, qap, Int.toNat_natCast, hf, hm2, hx2, qgt, g50, e1, w, Option.isSome_some, Option.getD_some, if_true, dT hk2]
    rw [if_pos (by simp; omega)]
    rcases Bool.eq_false_or_eq_true (prm x now p) with hp | hp
    · have hmo:=e2 hp
      have e3:=qm0 hx hmo
      have hb:=qg0 hx hmo
      have e4:=qqx hx hok hmo false
      have e5:=qpg hx E (e:=(mvd now p, i, p)) hmo
      have e6:=qpJ h0 (mvd now p, i, p)
      simp only [hp, if_true, hm, g124, e3, Option.isSome_some, Option.getD_some, Nat.zero_add, hsn, e4, Bf.add]
      have c1:(decide (0 ≤ cel x (mvd now p)) && decide (cel x (mvd now p) < ((cells x).toNat:Int))) = true:=by simp only [Bool.and_eq_true, decide_eq_true_eq]; omega
      have c2:Nat.ble ((cel x (mvd now p)).toNat + 1) (cells x).toNat = true:=by rw [qao]; omega
      rw [if_pos c1, if_pos c2]
      rcases Bool.eq_false_or_eq_true (Bf.has E (mvd now p)) with hh | hh
      · simp only [hh, Bool.not_true, Bool.false_eq_true, if_false, if_true]
      · simp only [hh, Bool.not_false, Bool.false_eq_true, if_false, if_true, e6]
        rw [if_pos (by simp only [Bool.and_eq_true, qao]; omega), e5]
    · simp only [hp, Bool.false_eq_true, if_false]
  · simp only [s45_4, t45_4, Tr.val_test, Tr.val_fin, qap]
    rw [if_neg (by simp; omega)]
theorem l450 {x:Lim} {s:Mot} (hx:okL x = true) (hw:x.1.1 ≤ x.1.2.1) (hs:okM x s = true) (c:Nat) :
    l45_0 ((fnd (Qm x s 0), ((cells x).toNat, c), (0:Int), ()), (x.1.1, x.1.2.1, x.2.1, x.2.2.1, x.2.2.2.1, ()), sn x (Qm x s 0), ()) = match stp x s with
      | some k=>some (.inr ((Bf.tr (Qm x s k) k k, true, ()), (x.1.1, x.1.2.1, x.2.1, x.2.2.1, x.2.2.2.1, ()), sn x (Qm x s k), ()))
      | none=>some (.inl ((), (x.1.1, x.1.2.1, x.2.1, x.2.2.1, x.2.2.2.1, ()), sn x (Qm x s (endn x s)), ())):=by
  obtain ⟨n1, n2, n3⟩:=qeB hx hw hs
  have key:=qc2 (step:=s45_0) (fun i=>((fnd (Qm x s i), ((cells x).toNat, c), (i:Int), ()), (x.1.1, x.1.2.1, x.2.1, x.2.2.1, x.2.2.2.1, ()), sn x (Qm x s i), ())) (fun i=>rest (mAt (Qm x s i) i))
    (fun k=>((Bf.tr (Qm x s k) k k, true, ()), (x.1.1, x.1.2.1, x.2.1, x.2.2.1, x.2.2.2.1, ()), sn x (Qm x s k), ())) (n:=endn x s) (m:=rounds)
    (b:=((), (x.1.1, x.1.2.1, x.2.1, x.2.2.1, x.2.2.2.1, ()), sn x (Qm x s (endn x s)), ())) ?_ ?_ (qaK (by omega))
  · exact key
  · intro i hi hbad
    have hil:=n3 i hi
    have hjl:∀ j, j < i → j < (Qm x s j).length:=fun j hj=>n3 j (by omega)
    have hQl:(Qm x s i).length ≤ 14399:=qoF hx hw hs i
    have hok:=qo2 hs hil
    have e0:=qlj hil
    have e1:=qoY (mAt (Qm x s i) i)
    have hm:((mAt (Qm x s i) i).1, (mAt (Qm x s i) i).2.1, (mAt (Qm x s i) i).2.2.1, ()) = mAt (Qm x s i) i:=rfl
    have a:=okL_iff.1 hx
    have hng:IntKind.wrap .i64 (0 - x.2.2.1) = -x.2.2.1:=qh5 (by omega) (by omega)
    simp only [s45_0, t45_0, Tr.val_test, Tr.val_fin, qap, Int.toNat_natCast, e0, hm, g49, e1, qgt, Option.isSome_some, Option.getD_some, if_true, hng]
    rw [if_pos (by simp; omega), if_pos (by simp; omega)]
    rcases Bool.eq_false_or_eq_true (rest (mAt (Qm x s i) i)) with hr | hr
    · have F:=Bf.Q_fin (nx x) s 0 i hjl (Nat.le_of_lt hil)
      have e2:=l452 F hil (show (Qm x s i).length ≤ 1000000 by omega)
      simp only [hr, if_true, e2, qcH, b45_2, outB, Option.isSome_some]
    · have e2:=l454 hx hw hok hil rfl (qqq hs i) (by omega) c
      rw [← qnF hil] at e2
      simp only [hr, Bool.false_eq_true, if_false, e2, qcH, b45_4, outB, Option.isSome_some, if_true, qbp (show i ≤ 9223372036854775806 by omega)]
  · intro _
    simp only [s45_0, t45_0, Tr.val_test, Tr.val_fin, qap, qgt, n2]
    rw [if_neg (by simp)]
theorem qqB {x:Lim} {s:Mot} (hx:okL x = true) (hw:x.1.1 ≤ x.1.2.1) (hs:okM x s = true):f45 (x, s, ()) = some ((res x s).getD [], (res x s).isSome, ()):=by
  have a:=okL_iff.1 hx
  have hN:=qip hx hw
  have hb:=qg0 hx hs
  have e1:=qm0 hx hs
  have h1:0 ≤ (x.1.2.1 - x.1.1 + 1) * (2 * x.2.1 + 1) ∧ (x.1.2.1 - x.1.1 + 1) * (2 * x.2.1 + 1) ≤ 121 * 17:=⟨Int.mul_nonneg (by omega) (by omega), Int.mul_le_mul (by omega) (by omega) (by omega) (by omega)⟩
  have w1:wrap64 (x.1.2.1 - x.1.1) = x.1.2.1 - x.1.1:=qad (by omega) (by omega)
  have w2:wrap64 (x.1.2.1 - x.1.1 + 1) = x.1.2.1 - x.1.1 + 1:=qad (by omega) (by omega)
  have w3:wrap64 (2 * x.2.1) = 2 * x.2.1:=qad (by omega) (by omega)
  have w4:wrap64 (2 * x.2.1 + 1) = 2 * x.2.1 + 1:=qad (by omega) (by omega)
  have w5:wrap64 (2 * x.2.2.1) = 2 * x.2.2.1:=qad (by omega) (by omega)
  have w6:wrap64 (2 * x.2.2.1 + 1) = 2 * x.2.2.1 + 1:=qad (by omega) (by omega)
  have w7:wrap64 ((x.1.2.1 - x.1.1 + 1) * (2 * x.2.1 + 1)) = (x.1.2.1 - x.1.1 + 1) * (2 * x.2.1 + 1):=qad (by omega) (by omega)
  have hc:(x.1.2.1 - x.1.1 + 1) * (2 * x.2.1 + 1) * (2 * x.2.2.1 + 1) = cells x:=rfl
  have w8:wrap64 (cells x) = cells x:=qad (by omega) (by omega)
  have e2:List.set (List.replicate (cells x).toNat false) (0 + (cel x s).toNat) true = sn x (Qm x s 0):=by
    rw [Nat.zero_add]
    have:=qpg hx [] (e:=(s, 0, (0:Int))) hs
    rw [qqC] at this
    exact this
  have e3:[((s.1, s.2.1, s.2.2.1, ()), (-1:Int), (0:Int), ())] = fnd (Qm x s 0):=rfl
  have e4:=l450 hx hw hs (cells x).toNat
  have hx2:((x.1.1, x.1.2.1, ()), x.2.1, x.2.2.1, x.2.2.2.1, ()) = x:=rfl
  have hm2:(s.1, s.2.1, s.2.2.1, ()) = s:=rfl
  simp only [f45, t45, Tr.val_test, Tr.val_fin, w1, w2, w3, w4, w5, w6, w7, hc, w8, hx2, hm2, g124, e1, Option.isSome_some, Option.getD_some, if_true, e2]
  have hn:((cells x).toNat:Int) = cells x:=by omega
  have c1:(decide (0 ≤ cells x) && decide (cells x ≤ cells x) && decide (1 * cells x ≤ 281474976710656) && decide (cells x ≤ 281474976710656)) = true:=by simp only [Bool.and_eq_true, decide_eq_true_eq]; omega
  have c2:(decide (0 ≤ cel x s) && decide (cel x s < ((cells x).toNat:Int))) = true:=by simp only [Bool.and_eq_true, decide_eq_true_eq]; omega
  have c3:Nat.ble (0 + (cel x s).toNat + 1) (List.replicate (cells x).toNat false).length = true:=by rw [qao, List.length_replicate]; omega
  rw [if_pos c1, if_pos c2, if_pos c3]
  have e3:[(s, (-1:Int), (0:Int), ())] = fnd (Qm x s 0):=rfl
  unfold res
  cases hk:stp x s with
  | none =>
    simp only [hk] at e4
    simp only [e3, e4, qcM, Option.isSome_some, if_true, Bool.false_eq_true, if_false]
    rfl
  | some k =>
    simp only [hk] at e4
    simp only [e3, e4, qcM, r45_0, outR, Option.isSome_some, if_true]
    rfl
end Go.Vm.Mo

namespace Go.Vm.Mo
open Go
set_option linter.unusedVariables false
set_option linter.unusedSimpArgs false
theorem qqm (x:List Int) (h:x.length ≤ 100000):f35 (x, ()) = some (x, ()):=by
  simp only [f35, t35, Tr.val_test, Tr.val_fin, List.nil_append]
  rw [if_pos (by simp only [Bool.and_eq_true, qao]; omega)]
def mo (s:Mot) (l:List Int):Nat → Mot
  | 0=>s
  | i + 1=>mvd (mo s l i) (l.getD i 0)
def bdP (x:Lim) (s:Mot) (l:List Int) (i:Nat):Bool:=!prm x (mo s l i) (l.getD i 0)
theorem qqt {x:Lim} {s:Mot} (hs:okM x s = true) {l:List Int}:∀ i, (∀ j, j < i → bdP x s l j = false) → okM x (mo s l i) = true
  | 0, _=>hs
  | i + 1, h=>by
    have h1:=h i (by omega)
    unfold bdP at h1
    exact (prm_iff.1 (show prm x (mo s l i) (l.getD i 0) = true by revert h1; cases prm x (mo s l i) (l.getD i 0) <;> simp)).2.2
theorem qj2 {x:Lim} {s:Mot} {l:List Int} {i:Nat}:prm x (mo s l i) (l.getD i 0) = !bdP x s l i:=by unfold bdP; rw [Bool.not_not]
def stE (x:Lim) (s:Mot) (l:List Int):Int×Int:=match first (bdP x s l) l.length 0 with
  | some _=>(0, 24)
  | none=>if rest (mo s l l.length) = true then ((mo s l l.length).1, 0) else (0, 21)
theorem l42 {x:Lim} (hx:okL x = true) {s:Mot} (hs:okM x s = true) (l:List Int) (h:l.length ≤ 100000) :
    l42_0 ((l, (l.length:Int), (0:Int), ()), s, (x.1.1, x.1.2.1, x.2.1, x.2.2.1, x.2.2.2.1, ()), ()) = match first (bdP x s l) l.length 0 with
      | some k=>some (.inr ((0, 24, ()), mo s l k, (x.1.1, x.1.2.1, x.2.1, x.2.2.1, x.2.2.2.1, ()), ()))
      | none=>some (.inl ((), mo s l l.length, (x.1.1, x.1.2.1, x.2.1, x.2.2.1, x.2.2.2.1, ()), ())):=by
  refine qc2 (fun i=>((l, (l.length:Int), (i:Int), ()), mo s l i, (x.1.1, x.1.2.1, x.2.1, x.2.2.1, x.2.2.2.1, ()), ())) (bdP x s l) (fun k=>((0, 24, ()), mo s l k, (x.1.1, x.1.2.1, x.2.1, x.2.2.1, x.2.2.2.1, ()), ())) (n:=l.length) ?_ ?_ (qaK (by omega))
  · intro i hi hb
    have hok:=qqt hs i hb
    have bd:=qhn hx hok
    have a:=okL_iff.1 hx
    have e1:=qmG hx hok (l.getD i 0)
    have hm2:((mo s l i).1, (mo s l i).2.1, (mo s l i).2.2.1, ()) = mo s l i:=rfl
    have hx2:((x.1.1, x.1.2.1, ()), x.2.1, x.2.2.1, x.2.2.2.1, ()) = x:=rfl
    have hmo:mo s l (i + 1) = mvd (mo s l i) (l.getD i 0):=rfl
    rw [qj2] at e1
    simp only [s42_0, t42_0, Tr.val_test, Tr.val_fin, qap, Int.toNat_natCast, hm2, hx2, g120, e1, Option.isSome_some, Option.getD_some, if_true, Bool.not_not, qbp (show i ≤ 9223372036854775806 by omega)]
    rw [if_pos (by simp; omega), if_pos (by simp; omega)]
    rcases Bool.eq_false_or_eq_true (bdP x s l i) with hp | hp
    · simp only [hp, if_true]
    · have hpr:prm x (mo s l i) (l.getD i 0) = true:=by rw [qj2, hp]; rfl
      have hp1:=(prm_iff.1 hpr).1
      have e2:=qku (mo s l i) (l.getD i 0) ⟨by omega, by omega⟩ ⟨by omega, by omega⟩ ⟨by omega, by omega⟩
      simp only [hp, Bool.false_eq_true, if_false, g121, e2, Option.isSome_some, Option.getD_some, if_true, hmo]
  · intro _
    simp [s42_0, t42_0, qap]
theorem qqe (x:Lim) (s:Mot) (l:List Int) (h:l.length ≤ 100000):f42 (x, s, l, ()) = some (if mE x s = 0 then (if l.length ≤ 100 then ((stE x s l).1, (stE x s l).2, ()) else (0, 8, ())) else (0, mE x s, ())):=by
  have e1:=qkl x s
  have w (b:Bool) (e:Int):f80 (b, e, ()) = some (if b = true then e else 0, ()):=qkX _
  have w1:=w (!decide ((l.length:Int) ≤ 100)) 8
  have hm2:(s.1, s.2.1, s.2.2.1, ()) = s:=rfl
  have hx2:((x.1.1, x.1.2.1, ()), x.2.1, x.2.2.1, x.2.2.2.1, ()) = x:=rfl
  by_cases h0:mE x s = 0
  · obtain ⟨hx, hw, hs⟩:=qiD h0
    rw [if_pos h0] at e1 ⊢
    have e2:=l42 hx hs l h
    by_cases hl:l.length ≤ 100
    · have z1:f79 ([0, if (!decide ((l.length:Int) ≤ 100)) = true then 8 else 0], ()) = some (0, ()):=by
        rw [qff, nF (show (l.length:Int) ≤ 100 by omega)]; rfl
      rw [if_pos hl]
      simp only [f42, t42, Tr.val_test, Tr.val_fin, qap, qby, hm2, hx2, g118, e1, g80, w1, g79, z1, Option.isSome_some, Option.getD_some, if_true, decide_true, Bool.not_true, Bool.false_eq_true, if_false]
      unfold stE
      cases hf:first (bdP x s l) l.length 0 with
      | some k =>
        rw [hf] at e2
        simp only [e2, qcM, r42_0, outR, Option.isSome_some, if_true]
      | none =>
        rw [hf] at e2
        have e3:=qnf (mo s l l.length)
        have hm3:((mo s l l.length).1, (mo s l l.length).2.1, (mo s l l.length).2.2.1, ()) = mo s l l.length:=rfl
        simp only [e2, qcM, b42_0, outB, Option.isSome_some, if_true, Bool.false_eq_true, if_false, hm3, g122, e3, Option.getD_some]
        cases rest (mo s l l.length) <;> rfl
    · have z1:f79 ([0, if (!decide ((l.length:Int) ≤ 100)) = true then 8 else 0], ()) = some (8, ()):=by
        rw [qff, nT (show ¬ (l.length:Int) ≤ 100 by omega)]; rfl
      rw [if_neg hl]
      simp only [f42, t42, Tr.val_test, Tr.val_fin, qap, qby, hm2, hx2, g118, e1, g80, w1, g79, z1, Option.isSome_some, Option.getD_some, if_true]
      rfl
  · rw [if_neg h0] at e1 ⊢
    have z1:f79 ([mE x s, if (!decide ((l.length:Int) ≤ 100)) = true then 8 else 0], ()) = some (mE x s, ()):=by
      rw [qff]; simp only [qbo, if_neg h0]
    simp only [f42, t42, Tr.val_test, Tr.val_fin, qap, qby, hm2, hx2, g118, e1, g80, w1, g79, z1, Option.isSome_some, Option.getD_some, if_true, nT h0]
theorem l46 {x:Lim} (hx:okL x = true) {s:Mot} (hs:okM x s = true) (l:List Int) (h:l.length ≤ 100000) :
    l46_0 ((l, (0:Int), ()), (x.1.1, x.1.2.1, x.2.1, x.2.2.1, x.2.2.2.1, ()), s, ()) = match first (bdP x s l) l.length 0 with
      | some k=>some (.inr ((0, 24, ()), (x.1.1, x.1.2.1, x.2.1, x.2.2.1, x.2.2.2.1, ()), mo s l k, ()))
      | none=>some (.inl ((), (x.1.1, x.1.2.1, x.2.1, x.2.2.1, x.2.2.2.1, ()), mo s l l.length, ())):=by
  refine qc2 (fun i=>((l, (i:Int), ()), (x.1.1, x.1.2.1, x.2.1, x.2.2.1, x.2.2.2.1, ()), mo s l i, ())) (bdP x s l) (fun k=>((0, 24, ()), (x.1.1, x.1.2.1, x.2.1, x.2.2.1, x.2.2.2.1, ()), mo s l k, ())) (n:=l.length) ?_ ?_ (qaK (by omega))
  · intro i hi hb
    have hok:=qqt hs i hb
    have e1:=qo7 hx hok (l.getD i 0)
    have hm2:((mo s l i).1, (mo s l i).2.1, (mo s l i).2.2.1, ()) = mo s l i:=rfl
    have hx2:((x.1.1, x.1.2.1, ()), x.2.1, x.2.2.1, x.2.2.2.1, ()) = x:=rfl
    have hmo:mo s l (i + 1) = mvd (mo s l i) (l.getD i 0):=rfl
    rw [qj2] at e1
    simp only [s46_0, t46_0, Tr.val_test, Tr.val_fin, qap, Int.toNat_natCast, hm2, hx2, g50, e1, Option.isSome_some, Option.getD_some, if_true, qbp (show i ≤ 9223372036854775806 by omega)]
    rw [if_pos (by simp; omega), if_pos (by simp; omega)]
    rcases Bool.eq_false_or_eq_true (bdP x s l i) with hp | hp
    · simp only [hp, Bool.not_true, Bool.false_eq_true, if_false, Bool.not_false, if_true]
    · simp only [hp, Bool.not_false, Bool.not_true, Bool.false_eq_true, if_false, if_true, hmo]
  · intro _
    simp [s46_0, t46_0, qap]
theorem qqH {x:Lim} (hx:okL x = true) {s:Mot} (hs:okM x s = true) (l:List Int) (h:l.length ≤ 100000):f46 (x, s, l, ()) = some (if l.length ≤ 100 then ((stE x s l).1, (stE x s l).2, ()) else (0, 8, ())):=by
  have e2:=l46 hx hs l h
  have hm2:(s.1, s.2.1, s.2.2.1, ()) = s:=rfl
  have hx2:((x.1.1, x.1.2.1, ()), x.2.1, x.2.2.1, x.2.2.2.1, ()) = x:=rfl
  by_cases hl:l.length ≤ 100
  · rw [if_pos hl]
    simp only [f46, t46, Tr.val_test, Tr.val_fin, qap, hm2, hx2, nF (show (l.length:Int) ≤ 100 by omega), Bool.false_eq_true, if_false]
    unfold stE
    cases hf:first (bdP x s l) l.length 0 with
    | some k =>
      rw [hf] at e2
      simp only [e2, qcM, r46_0, outR, Option.isSome_some, if_true]
    | none =>
      rw [hf] at e2
      have e3:=qoY (mo s l l.length)
      have hm3:((mo s l l.length).1, (mo s l l.length).2.1, (mo s l l.length).2.2.1, ()) = mo s l l.length:=rfl
      simp only [e2, qcM, b46_0, outB, Option.isSome_some, if_true, Bool.false_eq_true, if_false, hm3, g49, e3, Option.getD_some]
      cases rest (mo s l l.length) <;> rfl
  · rw [if_neg hl]
    simp only [f46, t46, Tr.val_test, Tr.val_fin, qap, nT (show ¬ (l.length:Int) ≤ 100 by omega), if_true]
theorem qqy (x:Lim) (s:Mot):f40 (x, s, ()) = some (if mE x s = 0 then ((res x s).getD [], if (res x s).isSome = true then 0 else 12, ()) else ([], mE x s, ())):=by
  have e1:=qkl x s
  have hm2:(s.1, s.2.1, s.2.2.1, ()) = s:=rfl
  have hx2:((x.1.1, x.1.2.1, ()), x.2.1, x.2.2.1, x.2.2.2.1, ()) = x:=rfl
  by_cases h0:mE x s = 0
  · obtain ⟨hx, hw, hs⟩:=qiD h0
    rw [if_pos h0] at e1 ⊢
    have e2:=qmE hx hw hs
    have w (b:Bool) (e:Int):f80 (b, e, ()) = some (if b = true then e else 0, ()):=qkX _
    have w1:=w (!(res x s).isSome) 12
    simp only [f40, t40, Tr.val_test, Tr.val_fin, qby, hm2, hx2, g118, e1, g119, e2, g80, w1, Option.isSome_some, Option.getD_some, if_true, decide_true, Bool.not_true, Bool.false_eq_true, if_false]
    cases (res x s).isSome <;> rfl
  · rw [if_neg h0] at e1 ⊢
    simp only [f40, t40, Tr.val_test, Tr.val_fin, qby, hm2, hx2, g118, e1, Option.isSome_some, Option.getD_some, if_true, nT h0]
theorem qqz (x:Lim) (s:Mot):f41 (x, s, ()) = some (if mE x s = 0 then ((res x s).isSome, 0, ()) else (false, mE x s, ())):=by
  have e1:=qkl x s
  have hm2:(s.1, s.2.1, s.2.2.1, ()) = s:=rfl
  have hx2:((x.1.1, x.1.2.1, ()), x.2.1, x.2.2.1, x.2.2.2.1, ()) = x:=rfl
  by_cases h0:mE x s = 0
  · obtain ⟨hx, hw, hs⟩:=qiD h0
    rw [if_pos h0] at e1 ⊢
    have e2:=qmE hx hw hs
    simp only [f41, t41, Tr.val_test, Tr.val_fin, qby, hm2, hx2, g118, e1, g119, e2, Option.isSome_some, Option.getD_some, if_true, decide_true, Bool.not_true, Bool.false_eq_true, if_false]
  · rw [if_neg h0] at e1 ⊢
    simp only [f41, t41, Tr.val_test, Tr.val_fin, qby, hm2, hx2, g118, e1, Option.isSome_some, Option.getD_some, if_true, nT h0]
end Go.Vm.Mo

namespace Go.Vm.Mo
open Go
set_option linter.unusedVariables false
set_option linter.unusedSimpArgs false
theorem qpt {x:Lim} {s:Mot} (hx:okL x = true) (hw:x.1.1 ≤ x.1.2.1) (hs:okM x s = true):((res x s).getD []).length ≤ 14399:=by
  cases h:res x s with
  | none=>simp
  | some l=>exact (qkN hx hw hs h).1
theorem qqA (x:Lim) (s:Mot) (l:List Int):f7 (x, s, l, ()) = some (true, ()):=by
  have hm2:(s.1, s.2.1, s.2.2.1, ()) = s:=rfl
  have hx2:((x.1.1, x.1.2.1, ()), x.2.1, x.2.2.1, x.2.2.2.1, ()) = x:=rfl
  by_cases h102:(l.length:Int) ≤ 102
  rotate_left
  · simp only [f7, t7, Tr.val_test, Tr.val_fin, qap, nT h102, if_true]
  have e39:=qpa x
  have e43:=qo1 x
  have e44:=qp9 x s
  have e40:=qqy x s
  have e41:=qqz x s
  have e35:=qqm l (by omega)
  have e42:=qqe x s l (by omega)
  simp only [f7, t7, Tr.val_test, Tr.val_fin, qap, qby, hm2, hx2, nF h102, Bool.false_eq_true, if_false, g39, e39, g43, e43, g44, e44, g40, e40, g41, e41, g35, e35, g42, e42, Option.isSome_some, Option.getD_some, if_true, decide_true, Bool.not_true]
  by_cases h0:mE x s = 0
  · obtain ⟨hx, hw, hs⟩:=qiD h0
    have e45:=qqB hx hw hs
    have e46:=qqH hx hs l (by omega)
    have e23:=qop ((res x s).getD []) (by have:=qpt hx hw hs; omega)
    simp only [nF h0, if_pos h0, Bool.false_eq_true, if_false, g45, e45, g46, e46, g23, e23, Option.isSome_some, Option.getD_some, if_true, decide_true, Bool.not_true, beq_self_eq_true]
    cases hr:res x s with
    | none =>
      simp only [Option.isSome_none, Bool.false_eq_true, if_false, decide_true, Bool.not_true, Bool.not_false, if_true, Option.getD_none, List.length_nil]
      rfl
    | some m =>
      simp only [Option.isSome_some, if_true, decide_true, Bool.not_true, Bool.false_eq_true, if_false, Option.getD_some]
  · simp only [nT h0, if_neg h0, if_true, decide_true, List.length_nil, Bool.not_false]
    rfl
theorem law7 (d:Tys.data as7) (hw:Tys.Wf as7 d):ql1 Go.Proofs.Tryz.prog 7 as7 [.bool] d (true, ()):=by
  have h:=qqA d.1 d.2.1 d.2.2.1
  have hp:p7.pre d = true:=by
    show Option.isSome (f7 d) = true
    rw [show f7 d = some (true, ()) from h]; rfl
  have hg:p7.fn d = (true, ()):=by
    show (f7 d).getD _ = _
    rw [show f7 d = some (true, ()) from h]; rfl
  have:=ok7.runs d hp
  rw [hg] at this
  exact this
end Go.Vm.Mo
