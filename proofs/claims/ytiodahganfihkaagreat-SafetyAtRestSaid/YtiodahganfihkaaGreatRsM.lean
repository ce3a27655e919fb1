import Derived.Test.YtiodahganfihkaaGreatRsFb
import Derived.Test.YtiodahganfihkaaGreatA5
import Derived.Test.YtiodahganfihkaaGreatRsS
set_option linter.unusedVariables false
set_option linter.unusedSimpArgs false

namespace Go.Vm.Mo
open Go
set_option linter.unusedVariables false
set_option linter.unusedSimpArgs false
theorem dT {p:Prop} [Decidable p] (h:p):decide p = true:=decide_eq_true h
theorem dF {p:Prop} [Decidable p] (h:¬ p):decide p = false:=decide_eq_false h
theorem nT {p:Prop} [Decidable p] (h:¬ p):(!decide p) = true:=by rw [decide_eq_false h]; rfl
theorem nF {p:Prop} [Decidable p] (h:p):(!decide p) = false:=by rw [decide_eq_true h]; rfl
theorem dA {p q:Prop} [Decidable p] [Decidable q] (h:p) (k:q):(decide p && decide q) = true:=by rw [decide_eq_true h, decide_eq_true k]; rfl
theorem qgy (bad:Nat → Bool):∀ (n i:Nat), first bad n (i + 1) = (first (fun k=>bad (k + 1)) n i).map (· + 1)
  | 0, _=>rfl
  | n + 1, i=>by
    simp only [first]
    split
    · rfl
    · exact qgy bad n (i + 1)
def qbm:List Int → Int
  | []=>0
  | a :: l=>if a = 0 then qbm l else a
theorem qhF:∀ l:List Int, (match first (fun i=>!decide (l.getD i 0 = 0)) l.length 0 with
    | some k=>l.getD k 0
    | none=>0) = qbm l
  | []=>rfl
  | a :: l=>by
    simp only [List.length, first, qbm]
    by_cases ha:a = 0
    · subst ha
      have e:=qhF l
      have hf:first (fun i=>!decide (((0:Int) :: l).getD i 0 = 0)) l.length (0 + 1) = (first (fun i=>!decide (l.getD i 0 = 0)) l.length 0).map (· + 1):=by
        rw [qgy]; rfl
      simp only [hf, List.getD_cons_zero, decide_true, Bool.not_true, Bool.false_eq_true, if_false, if_true]
      rw [← e]
      cases first (fun i=>!decide (l.getD i 0 = 0)) l.length 0 with
      | none=>rfl
      | some k=>rfl
    · simp [ha]
theorem l79 (l:List Int) (h:l.length ≤ 1000000000):l79_0 ((l, (l.length:Int), (0:Int), ()), ()) = match first (fun i=>!decide (l.getD i 0 = 0)) l.length 0 with
    | some k=>some (.inr ((l.getD k 0, ()), ()))
    | none=>some (.inl ((), ())):=by
  refine qfg (fun i=>((l, (l.length:Int), (i:Int), ()), ())) (fun i=>!decide (l.getD i 0 = 0)) (fun k=>((l.getD k 0, ()), ())) (n:=l.length) ?_ ?_ (qaR (by omega))
  · intro i hi
    simp only [s79_0, t79_0, Tr.val_test, qar, qa6]
    rw [if_pos (by simp; omega), if_pos (by simp; omega)]
    simp only [Int.toNat_natCast, qbr (show i ≤ 9223372036854775806 by omega)]
    rfl
  · simp [s79_0, t79_0, qar]
theorem qqC (l:List Int) (h:l.length ≤ 1000000000):f79 (l, ()) = some (qbm l, ()):=by
  simp only [f79, t79, Tr.val_test, r79_0, l79 l h, ← qhF l]
  cases first (fun i=>!decide (l.getD i 0 = 0)) l.length 0 with
  | none=>rfl
  | some k=>rfl
theorem qlk (d:Tys.data as80):f80 d = some (if d.1 = true then d.2.1 else (0:Int), ()):=by
  simp only [f80, t80, Tr.val_test]
  split <;> rfl
def wi (lo hi x:Int):Bool:=decide (lo ≤ x) && decide (x ≤ hi)
theorem wi_iff {lo hi x:Int}:wi lo hi x = true ↔ lo ≤ x ∧ x ≤ hi:=by simp [wi]
theorem qeg (d:Tys.data as25):f25 d = some (wi d.2.1 d.2.2.1 d.1, ()):=by
  simp only [f25, t25, Tr.val_test, Tr.val_fin, qar, decide_eq_true_eq, wi]
  split <;> simp [*]
theorem l94 (lo hi:Int) (l:List Int) (h:l.length ≤ 1000000000):l94_0 ((lo, hi, l, (l.length:Int), (0:Int), ()), ()) = match first (fun i=>!wi lo hi (l.getD i 0)) l.length 0 with
    | some _=>some (.inr ((false, ()), ()))
    | none=>some (.inl ((), ())):=by
  refine qfg (fun i=>((lo, hi, l, (l.length:Int), (i:Int), ()), ())) (fun i=>!wi lo hi (l.getD i 0)) (fun _=>((false, ()), ())) (n:=l.length) ?_ ?_ (qaR (by omega))
  · intro i hi'
    simp only [s94_0, t94_0, Tr.val_test, Tr.val_fin, qar, Int.toNat_natCast, qbr (show i ≤ 9223372036854775806 by omega)]
    rw [if_pos (by simp; omega), if_pos (by simp; omega)]
    by_cases a0:lo ≤ l.getD i 0
    · by_cases a1:l.getD i 0 ≤ hi
      · simp only [wi, a0, a1, decide_true, Bool.and_self, Bool.not_true, if_true, if_false, Bool.false_eq_true]
      · simp only [wi, a0, a1, decide_true, decide_false, Bool.and_false, Bool.not_false, Bool.not_true, if_true, if_false, Bool.false_eq_true]
    · simp only [wi, a0, decide_false, Bool.false_and, Bool.not_false, if_true, if_false, Bool.false_eq_true]
  · simp [s94_0, t94_0, qar]
theorem qpa (lo hi:Int) (l:List Int) (h:l.length ≤ 1000000000):f94 (lo, hi, l, ()) = some ((first (fun i=>!wi lo hi (l.getD i 0)) l.length 0).isNone, ()):=by
  have hl:=l94 lo hi l h
  cases hf:first (fun i=>!wi lo hi (l.getD i 0)) l.length 0 with
  | none =>
    rw [hf] at hl
    simp only [f94, t94, Tr.val_test, Tr.val_fin, hl, qbT, Option.isSome_some, Option.isNone_none, if_true, Bool.false_eq_true, if_false]
  | some k =>
    rw [hf] at hl
    simp only [f94, t94, Tr.val_test, Tr.val_fin, hl, qbT, r94_0, outR, Option.isSome_some, Option.isNone_some, if_true]
theorem qgL (lo hi a:Int):f94 (lo, hi, [a], ()) = some (wi lo hi a, ()):=by
  rw [qpa lo hi _ (by simp)]
  simp only [first, List.length, List.getD_cons_zero]
  by_cases h1:wi lo hi a = true
  · simp [h1]
  · simp [h1]
theorem qpO (lo hi a b:Int):f94 (lo, hi, [a, b], ()) = some (wi lo hi a && wi lo hi b, ()):=by
  rw [qpa lo hi _ (by simp)]
  simp only [first, List.length, List.getD_cons_zero, List.getD_cons_succ]
  by_cases h1:wi lo hi a = true
  · by_cases h2:wi lo hi b = true
    · simp [h1, h2]
    · simp [h1, h2]
  · simp [h1]
theorem wn64 {x:Int} (h1:-9223372036854775807 ≤ x) (h2:x ≤ 9223372036854775807):IntKind.wrap .i64 (0 - x) = -x:=by
  rw [← qdI, qah (by omega) (by omega)]
  omega
abbrev Mot:=Int×Int×Int×Unit
abbrev Lim:=(Int×Int×Unit)×Int×Int×Int×Unit
def okM (x:Lim) (s:Mot):Bool:=wi x.1.1 x.1.2.1 s.1 && (wi (-x.2.1) x.2.1 s.2.1 && wi (-x.2.2.1) x.2.2.1 s.2.2.1)
def okL (x:Lim):Bool:=wi (-60) 60 x.1.1 && (wi (-60) 60 x.1.2.1 && (wi 1 8 x.2.1 && (wi 1 3 x.2.2.1 && wi 1 6 x.2.2.2.1)))
def mvd (s:Mot) (p:Int):Mot:=(s.1 + (s.2.1 + p), s.2.1 + p, p, ())
def prm (x:Lim) (s:Mot) (p:Int):Bool:=wi (-x.2.2.1) x.2.2.1 p && (wi (s.2.2.1 - x.2.2.2.1) (s.2.2.1 + x.2.2.2.1) p && okM x (mvd s p))
def nxU (x:Lim) (s:Mot):Nat → List (Int×Mot)
  | 0=>[]
  | k + 1=>nxU x s k++if prm x s ((k:Int) - x.2.2.1) = true then [((k:Int) - x.2.2.1, mvd s ((k:Int) - x.2.2.1))] else []
def nx (x:Lim) (s:Mot):List (Int×Mot):=nxU x s (2 * x.2.2.1 + 1).toNat
def rest (s:Mot):Bool:=decide (s.2.1 = 0) && decide (s.2.2.1 = 0)
theorem okM_iff {x:Lim} {s:Mot}:okM x s = true ↔ (x.1.1 ≤ s.1 ∧ s.1 ≤ x.1.2.1) ∧ (-x.2.1 ≤ s.2.1 ∧ s.2.1 ≤ x.2.1) ∧ (-x.2.2.1 ≤ s.2.2.1 ∧ s.2.2.1 ≤ x.2.2.1):=by
  simp only [okM, Bool.and_eq_true, wi_iff]
theorem okL_iff {x:Lim}:okL x = true ↔ (-60 ≤ x.1.1 ∧ x.1.1 ≤ 60) ∧ (-60 ≤ x.1.2.1 ∧ x.1.2.1 ≤ 60) ∧ (1 ≤ x.2.1 ∧ x.2.1 ≤ 8) ∧ (1 ≤ x.2.2.1 ∧ x.2.2.1 ≤ 3) ∧ (1 ≤ x.2.2.2.1 ∧ x.2.2.2.1 ≤ 6):=by
  simp only [okL, Bool.and_eq_true, wi_iff]
theorem prm_iff {x:Lim} {s:Mot} {p:Int}:prm x s p = true ↔ (-x.2.2.1 ≤ p ∧ p ≤ x.2.2.1) ∧ (s.2.2.1 - x.2.2.2.1 ≤ p ∧ p ≤ s.2.2.1 + x.2.2.2.1) ∧ okM x (mvd s p) = true:=by
  simp only [prm, Bool.and_eq_true, wi_iff]
theorem qqI {s:Mot}:rest s = true ↔ s.2.1 = 0 ∧ s.2.2.1 = 0:=by simp [rest]
theorem qnF {x:Lim} {s:Mot}:∀ {k:Nat} {e:Int×Mot}, e ∈ nxU x s k ↔ ∃ i, i < k ∧ prm x s ((i:Int) - x.2.2.1) = true ∧ e = ((i:Int) - x.2.2.1, mvd s ((i:Int) - x.2.2.1))
  | 0, e=>by simp [nxU]
  | k + 1, e=>by
    rw [nxU, List.mem_append, qnF]
    constructor
    · rintro (⟨i, h1, h2, h3⟩ | h)
      · exact ⟨i, by omega, h2, h3⟩
      · split at h
        · rename_i hp
          exact ⟨k, by omega, hp, by simpa using h⟩
        · cases h
    · rintro ⟨i, h1, h2, h3⟩
      by_cases hi:i = k
      · subst hi
        exact .inr (by rw [if_pos h2, h3]; simp)
      · exact .inl ⟨i, by omega, h2, h3⟩
theorem nx_mem {x:Lim} {s:Mot} {e:Int×Mot}:e ∈ nx x s ↔ prm x s e.1 = true ∧ e.2 = mvd s e.1:=by
  unfold nx
  rw [qnF]
  constructor
  · rintro ⟨i, h1, h2, rfl⟩
    exact ⟨h2, rfl⟩
  · rintro ⟨h1, h2⟩
    have hp:=(prm_iff.1 h1).1
    refine ⟨(e.1 + x.2.2.1).toNat, by omega, ?_, ?_⟩
    · rw [show (((e.1 + x.2.2.1).toNat:Nat):Int) - x.2.2.1 = e.1 by omega]; exact h1
    · rw [show (((e.1 + x.2.2.1).toNat:Nat):Int) - x.2.2.1 = e.1 by omega, ← h2]
theorem qqF {x:Lim} {s:Mot} {e:Int×Mot} (h:e ∈ nx x s):okM x e.2 = true:=by
  obtain ⟨h1, h2⟩:=nx_mem.1 h
  rw [h2]; exact (prm_iff.1 h1).2.2
def cel (x:Lim) (s:Mot):Int:=((s.1 - x.1.1) * (2 * x.2.1 + 1) + s.2.1 + x.2.1) * (2 * x.2.2.1 + 1) + s.2.2.1 + x.2.2.1
theorem digit_eq {a b c d w:Int} (hw:0 < w) (hb:0 ≤ b) (hb':b < w) (hd:0 ≤ d) (hd':d < w) (h:a * w + b = c * w + d):a = c ∧ b = d:=by
  have h1:(a * w + b) / w = a:=by rw [Int.add_comm, Int.add_mul_ediv_right _ _ (by omega), Int.ediv_eq_zero_of_lt hb hb']; omega
  have h2:(c * w + d) / w = c:=by rw [Int.add_comm, Int.add_mul_ediv_right _ _ (by omega), Int.ediv_eq_zero_of_lt hd hd']; omega
  have:a = c:=by rw [← h1, ← h2, h]
  subst this
  exact ⟨rfl, by omega⟩
theorem qlr {a b w n:Int} (hw:0 < w) (hb:0 ≤ b) (hb':b < w) (ha:0 ≤ a) (ha':a < n):0 ≤ a * w + b ∧ a * w + b < n * w:=by
  have h1:0 ≤ a * w:=Int.mul_nonneg ha (by omega)
  have h2:(a + 1) * w ≤ n * w:=Int.mul_le_mul_of_nonneg_right (by omega) (by omega)
  have h3:(a + 1) * w = a * w + w:=by rw [Int.add_mul, Int.one_mul]
  omega
def cells (x:Lim):Int:=(x.1.2.1 - x.1.1 + 1) * (2 * x.2.1 + 1) * (2 * x.2.2.1 + 1)
theorem qiX {x:Lim} {s:Mot} (hx:okL x = true) (hs:okM x s = true):0 ≤ cel x s ∧ cel x s < cells x:=by
  have a:=okL_iff.1 hx
  have b:=okM_iff.1 hs
  have h1:=qlr (a:=s.1 - x.1.1) (b:=s.2.1 + x.2.1) (w:=2 * x.2.1 + 1) (n:=x.1.2.1 - x.1.1 + 1) (by omega) (by omega) (by omega) (by omega) (by omega)
  have h2:=qlr (a:=(s.1 - x.1.1) * (2 * x.2.1 + 1) + (s.2.1 + x.2.1)) (b:=s.2.2.1 + x.2.2.1) (w:=2 * x.2.2.1 + 1) (n:=(x.1.2.1 - x.1.1 + 1) * (2 * x.2.1 + 1)) (by omega) (by omega) (by omega) h1.1 h1.2
  unfold cel cells
  rw [Int.add_assoc ((s.1 - x.1.1) * (2 * x.2.1 + 1)), Int.add_assoc (_ * (2 * x.2.2.1 + 1))]
  exact h2
theorem qmt {x:Lim} {s t:Mot} (hx:okL x = true) (hs:okM x s = true) (ht:okM x t = true) (h:cel x s = cel x t):s = t:=by
  have a:=okL_iff.1 hx
  have b:=okM_iff.1 hs
  have c:=okM_iff.1 ht
  unfold cel at h
  rw [Int.add_assoc (_ * (2 * x.2.2.1 + 1)), Int.add_assoc (_ * (2 * x.2.2.1 + 1))] at h
  obtain ⟨h1, h2⟩:=digit_eq (by omega) (by omega) (by omega) (by omega) (by omega) h
  rw [Int.add_assoc (_ * (2 * x.2.1 + 1)), Int.add_assoc (_ * (2 * x.2.1 + 1))] at h1
  obtain ⟨h3, h4⟩:=digit_eq (by omega) (by omega) (by omega) (by omega) (by omega) h1
  obtain ⟨s1, s2, s3, ⟨⟩⟩:=s
  obtain ⟨t1, t2, t3, ⟨⟩⟩:=t
  simp only at h2 h3 h4
  have e1:s1 = t1:=by omega
  have e2:s2 = t2:=by omega
  have e3:s3 = t3:=by omega
  rw [e1, e2, e3]
theorem qou {x:Lim} (hx:okL x = true) (hw:x.1.1 ≤ x.1.2.1):0 ≤ cells x ∧ cells x ≤ 14399:=by
  have a:=okL_iff.1 hx
  unfold cells
  have h1:(x.1.2.1 - x.1.1 + 1) * (2 * x.2.1 + 1) ≤ 121 * 17:=Int.mul_le_mul (by omega) (by omega) (by omega) (by omega)
  have h0:0 ≤ (x.1.2.1 - x.1.1 + 1) * (2 * x.2.1 + 1):=Int.mul_nonneg (by omega) (by omega)
  have h2:=Int.mul_le_mul h1 (show 2 * x.2.2.1 + 1 ≤ 7 by omega) (by omega) (by omega)
  have h3:=Int.mul_nonneg h0 (show 0 ≤ 2 * x.2.2.1 + 1 by omega)
  omega
abbrev Qm (x:Lim) (s:Mot) (i:Nat):List (Mot×Nat×Int):=Bf.Q (nx x) s 0 i
theorem qqK {x:Lim} {s:Mot} (hs:okM x s = true) (i:Nat):∀ e, e ∈ Qm x s i → okM x e.1 = true :=
  Bf.Q_all (nx x) s 0 (fun a=>okM x a = true) hs (fun a _ e he=>qqF he) i
theorem qpX {x:Lim} {s:Mot} (hx:okL x = true) (hw:x.1.1 ≤ x.1.2.1) (hs:okM x s = true) (i:Nat):(Qm x s i).length ≤ 14399 :=
  Nat.le_trans (Bf.Q_le (nx x) s 0 (fun a=>okM x a = true) hs (fun a _ e he=>qqF he) (fun a=>(cel x a).toNat) (cells x).toNat
    (fun a ha=>by have:=qiX hx ha; omega) (fun a b ha hb h=>qmt hx ha hb (by have:=qiX hx ha; have:=qiX hx hb; omega)) i)
    (by have:=qou hx hw; omega)
theorem qgd {p:Nat → Bool} {n:Nat} (h:∃ j, j < n ∧ p j = true):∃ k, first p n 0 = some k ∧ k < n ∧ p k = true ∧ ∀ j, j < k → p j = false:=by
  cases e:first p n 0 with
  | none =>
    obtain ⟨j, h1, h2⟩:=h
    have:=qbJ e j (by omega) (by omega)
    rw [this] at h2; cases h2
  | some k =>
    obtain ⟨_, h2, h3, h4⟩:=first_some e
    exact ⟨k, rfl, by omega, h3, fun j hj=>h4 j (by omega) hj⟩
theorem Qm_end {x:Lim} {s:Mot} (hx:okL x = true) (hw:x.1.1 ≤ x.1.2.1) (hs:okM x s = true):∃ n, n ≤ 14399 ∧ (Qm x s n).length = n ∧ ∀ j, j < n → j < (Qm x s j).length:=by
  obtain ⟨k, _, h1, h2, h3⟩:=qgd (p:=fun j=>decide ((Qm x s j).length ≤ j)) (n:=14400) ⟨14399, by omega, decide_eq_true (qpX hx hw hs _)⟩
  have h4:∀ j, j < k → j < (Qm x s j).length:=fun j hj=>by have:=of_decide_eq_false (h3 j hj); omega
  exact ⟨k, by omega, Nat.le_antisymm (of_decide_eq_true h2) (Bf.Q_len (nx x) s 0 k h4), h4⟩
def mt0:Mot:=(0, 0, 0, ())
def mAt (q:List (Mot×Nat×Int)) (k:Nat):Mot:=(q.getD k (mt0, 0, 0)).1
def frm (q:List (Mot×Nat×Int)) (k:Nat):Nat:=(q.getD k (mt0, 0, 0)).2.1
theorem qkt {q:List (Mot×Nat×Int)} {k:Nat} {e:Mot×Nat×Int} (h:q[k]? = some e):mAt q k = e.1:=by simp [mAt, h]
theorem qm9 {q:List (Mot×Nat×Int)} {k:Nat} {e:Mot×Nat×Int} (h:q[k]? = some e):frm q k = e.2.1:=by simp [frm, h]
theorem qhy {κ ν:Type} [DecidableEq κ] {l:List (κ×ν)} {d:κ}:(l.find? fun p=>decide (d = p.1)) = none ↔ d ∉ l.map (·.1):=by
  induction l with
  | nil=>simp
  | cons p l ih =>
    rw [List.find?_cons, List.map_cons, List.mem_cons]
    by_cases h:d = p.1
    · simp [h]
    · simp only [h, decide_false, false_or]; exact ih
def bef (q:List (Mot×Nat×Int)):List (Mot×Mot):=q.map fun e=>(e.1, mAt q e.2.1)
theorem qf8 (q:List (Mot×Nat×Int)):(bef q).map (·.1) = q.map (·.1):=by simp [bef]
theorem qpZ {q r:List (Mot×Nat×Int)} (h:∀ e, e ∈ q → e.2.1 < q.length):bef (q++r) = bef q++r.map fun e=>(e.1, mAt (q++r) e.2.1):=by
  unfold bef
  rw [List.map_append]
  congr 1
  refine List.map_congr_left fun e he=>?_
  have hl:=h e he
  simp only [mAt, List.getD_eq_getElem?_getD, List.getElem?_append_left hl]
theorem qoz {q:List (Mot×Nat×Int)} (hn:(q.map (·.1)).Nodup) {k:Nat} {e:Mot×Nat×Int} (h:q[k]? = some e):((bef q).find? fun p=>decide (e.1 = p.1)) = some (e.1, mAt q e.2.1):=by
  have hm:(e.1, mAt q e.2.1) ∈ bef q:=List.mem_map.2 ⟨e, List.mem_of_getElem? h, rfl⟩
  cases hf:(bef q).find? fun p=>decide (e.1 = p.1) with
  | none =>
    rw [qhy, qf8] at hf
    exact absurd (List.mem_map.2 ⟨e, List.mem_of_getElem? h, rfl⟩) hf
  | some p =>
    have h1:p.1 = e.1:=by have:=List.find?_some hf; simpa using (of_decide_eq_true this).symm
    have h2:=List.mem_of_find?_eq_some hf
    obtain ⟨e', he', rfl⟩:=List.mem_map.1 h2
    obtain ⟨k', hk'⟩:=List.getElem?_of_mem he'
    have h3:(q.map (·.1))[k]? = some e.1:=by rw [List.getElem?_map, h]; rfl
    have h4:(q.map (·.1))[k']? = some e.1:=by rw [List.getElem?_map, hk']; exact congrArg some h1
    have:k = k':=(List.getElem?_inj (by exact (List.getElem?_eq_some_iff.1 h3).1) hn).1 (h3.trans h4.symm)
    subst this
    rw [h] at hk'; cases hk'
    rfl
theorem qpF {q:List (Mot×Nat×Int)} (h:∀ e, e ∈ q → e.2.1 < q.length) {i:Nat} (hi:i < q.length) (n:Mot) (p:Int):bef (q++[(n, i, p)]) = bef q++[(n, mAt q i)]:=by
  rw [qpZ h]
  simp only [List.map_cons, List.map_nil, mAt, List.getD_eq_getElem?_getD, List.getElem?_append_left hi]
def fnd (q:List (Mot×Nat×Int)):List (Mot×Int×Int×Unit):=(List.range q.length).map fun k=>(mAt q k, (if k = 0 then -1 else (frm q k:Int)), (q.getD k (mt0, 0, 0)).2.2, ())
theorem fnd_len (q:List (Mot×Nat×Int)):(fnd q).length = q.length:=by simp [fnd]
theorem fnd_add {q:List (Mot×Nat×Int)} (h:0 < q.length) (e:Mot×Nat×Int):fnd (q++[e]) = fnd q++[(e.1, (e.2.1:Int), e.2.2, ())]:=by
  unfold fnd
  rw [List.length_append, List.length_cons, List.length_nil, Nat.zero_add, List.range_succ, List.map_append]
  congr 1
  · refine List.map_congr_left fun k hk=>?_
    have:=List.mem_range.1 hk
    simp only [mAt, frm, List.getD_eq_getElem?_getD, List.getElem?_append_left this]
  · simp only [List.map_cons, List.map_nil, mAt, frm, List.getD_eq_getElem?_getD, List.getElem?_append_right (Nat.le_refl _), Nat.sub_self, List.getElem?_cons_zero, Option.getD_some]
    rw [if_neg (by omega)]
theorem fnd_get {q:List (Mot×Nat×Int)} {k:Nat} (h:k < q.length) (d:Mot×Int×Int×Unit):(fnd q).getD k d = (mAt q k, (if k = 0 then -1 else (frm q k:Int)), (q.getD k (mt0, 0, 0)).2.2, ()):=by
  simp [fnd, h]
def sn (x:Lim) (q:List (Mot×Nat×Int)):List Bool:=(List.range (cells x).toNat).map fun (c:Nat)=>q.any fun e=>decide (cel x e.1 = (c:Int))
theorem sn_len (x:Lim) (q:List (Mot×Nat×Int)):(sn x q).length = (cells x).toNat:=by simp [sn]
theorem sn_get {x:Lim} (hx:okL x = true) {q:List (Mot×Nat×Int)} (hq:∀ e, e ∈ q → okM x e.1 = true) {s:Mot} (hs:okM x s = true) (d:Bool):(sn x q).getD (cel x s).toNat d = Bf.has q s:=by
  have hb:=qiX hx hs
  have hc:((cel x s).toNat:Int) = cel x s:=by omega
  simp only [sn, List.getD_eq_getElem?_getD, List.getElem?_map, List.getElem?_range (show (cel x s).toNat < (cells x).toNat by omega), Option.map_some, Option.getD_some, hc]
  rw [Bool.eq_iff_iff, List.any_eq_true, Bf.has_iff, List.mem_map]
  constructor
  · rintro ⟨e, he, h⟩
    exact ⟨e, he, qmt hx (hq e he) hs (of_decide_eq_true h)⟩
  · rintro ⟨e, he, h⟩
    exact ⟨e, he, decide_eq_true (by rw [h])⟩
theorem sn_add {x:Lim} (hx:okL x = true) (q:List (Mot×Nat×Int)) {e:Mot×Nat×Int} (hs:okM x e.1 = true):(sn x q).set (cel x e.1).toNat true = sn x (q++[e]):=by
  have hb:=qiX hx hs
  refine List.ext_getElem? fun c=>?_
  rw [List.getElem?_set]
  simp only [sn, List.length_map, List.length_range, List.getElem?_map, List.any_append, List.any_cons, List.any_nil, Bool.or_false]
  by_cases hc:(cel x e.1).toNat = c
  · rw [if_pos hc, if_pos (by omega), List.getElem?_range (by omega)]
    have:cel x e.1 = (c:Int):=by omega
    simp [this]
  · rw [if_neg hc]
    by_cases hl:c < (cells x).toNat
    · rw [List.getElem?_range hl]
      have:¬ cel x e.1 = (c:Int):=by omega
      simp [this]
    · rw [List.getElem?_eq_none (by simp; omega)]; rfl
theorem sn_nil (x:Lim):sn x [] = List.replicate (cells x).toNat false:=by
  refine List.ext_getElem? fun c=>?_
  rw [sn, List.getElem?_map, List.getElem?_replicate]
  by_cases h:c < (cells x).toNat
  · rw [List.getElem?_range h, if_pos h]; rfl
  · rw [if_neg h, List.getElem?_eq_none (by simp; omega)]; rfl
def endn (x:Lim) (s:Mot):Nat:=(first (fun j=>decide ((Qm x s j).length ≤ j)) 14400 0).getD 0
theorem qgc {x:Lim} {s:Mot} (hx:okL x = true) (hw:x.1.1 ≤ x.1.2.1) (hs:okM x s = true):endn x s ≤ 14399 ∧ (Qm x s (endn x s)).length = endn x s ∧ ∀ j, j < endn x s → j < (Qm x s j).length:=by
  obtain ⟨k, h0, h1, h2, h3⟩:=qgd (p:=fun j=>decide ((Qm x s j).length ≤ j)) (n:=14400) ⟨14399, by omega, decide_eq_true (qpX hx hw hs _)⟩
  have h4:∀ j, j < k → j < (Qm x s j).length:=fun j hj=>by have:=of_decide_eq_false (h3 j hj); omega
  have he:endn x s = k:=by unfold endn; rw [h0]; rfl
  rw [he]
  exact ⟨by omega, Nat.le_antisymm (of_decide_eq_true h2) (Bf.Q_len (nx x) s 0 k h4), h4⟩
def stp (x:Lim) (s:Mot):Option Nat:=first (fun i=>rest (mAt (Qm x s i) i)) (endn x s) 0
def res (x:Lim) (s:Mot):Option (List Int):=(stp x s).map fun k=>Bf.tr (Qm x s k) k k
theorem qlu {x:Lim} {s:Mot} (hx:okL x = true) (hw:x.1.1 ≤ x.1.2.1) (hs:okM x s = true) {k:Nat} (h:stp x s = some k) :
    k < 14399 ∧ k < (Qm x s k).length ∧ Bf.Fin (nx x) s 0 (Qm x s k) k ∧ rest (mAt (Qm x s k) k) = true ∧ ∀ j, j < k → rest (mAt (Qm x s k) j) = false:=by
  obtain ⟨e1, e2, e3⟩:=qgc hx hw hs
  obtain ⟨_, h2, h3, h4⟩:=first_some h
  have hl:=e3 k (by omega)
  refine ⟨by omega, hl, Bf.Q_fin (nx x) s 0 k (fun j hj=>e3 j (by omega)) (Nat.le_of_lt hl), h3, fun j hj=>?_⟩
  have:=h4 j (by omega) hj
  obtain ⟨r, hr⟩:=Bf.Q_mono (nx x) s 0 (show j ≤ k by omega)
  have hj':=e3 j (by omega)
  rw [show mAt (Qm x s k) j = mAt (Qm x s j) j by simp only [mAt, Qm, List.getD_eq_getElem?_getD, hr, List.getElem?_append_left hj']]
  exact this
theorem qds {q:List (Mot×Nat×Int)} {k:Nat} (h:k < q.length):q[k]? = some q[k] ∧ mAt q k = q[k].1 ∧ frm q k = q[k].2.1:=⟨List.getElem?_eq_getElem h, qkt (List.getElem?_eq_getElem h), qm9 (List.getElem?_eq_getElem h)⟩
theorem qip {x:Lim} {s:Mot} (hx:okL x = true) (hw:x.1.1 ≤ x.1.2.1) (hs:okM x s = true) {l:List Int} (h:res x s = some l):l.length ≤ 14399 ∧ ∃ c, Bf.Path (nx x) s l c ∧ rest c = true:=by
  unfold res at h
  cases hk:stp x s with
  | none=>rw [hk] at h; cases h
  | some k =>
    rw [hk] at h
    cases h
    obtain ⟨h1, h2, F, h4, _⟩:=qlu hx hw hs hk
    obtain ⟨h5, h6, _⟩:=qds h2
    refine ⟨Nat.le_trans (Bf.tr_len _ k k) (by omega), _, Bf.tr_path F k _ h5, ?_⟩
    rw [← h6]; exact h4
theorem qqc {x:Lim} {s:Mot} (hx:okL x = true) (hw:x.1.1 ≤ x.1.2.1) (hs:okM x s = true) {l':List Int} {c:Mot} (h:Bf.Path (nx x) s l' c) (hc:rest c = true):∃ l, res x s = some l ∧ l.length ≤ l'.length:=by
  cases hk:stp x s with
  | some k =>
    obtain ⟨h1, h2, F, h4, h5⟩:=qlu hx hw hs hk
    obtain ⟨e, he, hl⟩:=Bf.path_goal F rest (fun j e hj he=>by rw [← qkt he]; exact h5 j hj) h hc
    exact ⟨_, by unfold res; rw [hk]; rfl, hl⟩
  | none =>
    obtain ⟨e1, e2, e3⟩:=qgc hx hw hs
    have F:=Bf.Q_fin (nx x) s 0 (endn x s) e3 (Nat.le_of_eq e2.symm)
    have hn:=qbJ hk
    obtain ⟨e, he, hl⟩:=Bf.path_goal F rest (fun j e hj he=>by
      have h1:=hn j (by omega) (by omega)
      obtain ⟨r, hr⟩:=Bf.Q_mono (nx x) s 0 (show j ≤ endn x s by omega)
      have hj':=e3 j hj
      rw [← qkt he, show mAt (Qm x s (endn x s)) j = mAt (Qm x s j) j by simp only [mAt, Qm, List.getD_eq_getElem?_getD, hr, List.getElem?_append_left hj']]
      exact h1) h hc
    have h9:endn x s < (Qm x s (endn x s)).length:=(List.getElem?_eq_some_iff.1 he).1
    omega
def go (x:Lim) (s:Mot):List Int → Option Mot
  | []=>some s
  | p :: l=>if prm x s p = true then go x (mvd s p) l else none
theorem qk6 {x:Lim}:∀ (l m:List Int) (s:Mot), go x s (l++m) = (go x s l).bind fun b=>go x b m
  | [], m, s=>rfl
  | p :: l, m, s=>by
    simp only [List.cons_append, go]
    split
    · exact qk6 l m _
    · rfl
theorem qp0 {x:Lim} {s:Mot} {l:List Int} {c:Mot} (h:Bf.Path (nx x) s l c):go x s l = some c:=by
  induction h with
  | nil=>rfl
  | snoc h hx ih =>
    obtain ⟨h1, h2⟩:=nx_mem.1 hx
    simp only at h1 h2
    rw [qk6, ih]
    simp only [Option.bind, go]
    rw [if_pos h1, h2]
theorem qnl {x:Lim} {s:Mot}:∀ (l m:List Int) (b c:Mot), Bf.Path (nx x) s l b → go x b m = some c → Bf.Path (nx x) s (l++m) c
  | l, [], b, c, h, hg=>by simp only [go] at hg; cases hg; rw [List.append_nil]; exact h
  | l, p :: m, b, c, h, hg=>by
    simp only [go] at hg
    split at hg
    · rename_i hp
      have:=qnl (l++[p]) m (mvd b p) c (.snoc h (nx_mem.2 ⟨hp, rfl⟩)) hg
      rwa [List.append_assoc] at this
    · cases hg
theorem go_iff {x:Lim} {s:Mot} {l:List Int} {c:Mot}:Bf.Path (nx x) s l c ↔ go x s l = some c :=
  ⟨qp0, fun h=>qnl [] l s c (.nil s) h⟩
theorem qqy {x:Lim}:∀ (l:List Int) (s c:Mot), okM x s = true → go x s l = some c → okM x c = true
  | [], s, c, h, hg=>by simp only [go] at hg; cases hg; exact h
  | p :: l, s, c, h, hg=>by
    simp only [go] at hg
    split at hg
    · rename_i hp; exact qqy l _ c (prm_iff.1 hp).2.2 hg
    · cases hg
theorem qfw {x:Lim} (hx:okL x = true) (hw:x.1.1 ≤ x.1.2.1) {s:Mot} (hs:okM x s = true) {l:List Int} (h:res x s = some l):∃ c, go x s l = some c ∧ rest c = true :=
  let ⟨_, c, h1, h2⟩:=qip hx hw hs h; ⟨c, go_iff.1 h1, h2⟩
theorem qbP {x:Lim} (hx:okL x = true) (hw:x.1.1 ≤ x.1.2.1) {s:Mot} (hs:okM x s = true) {l':List Int} {c:Mot} (h:go x s l' = some c) (hc:rest c = true):∃ l, res x s = some l ∧ l.length ≤ l'.length :=
  qqc hx hw hs (go_iff.2 h) hc
theorem qog {x:Lim} (hx:okL x = true) (hw:x.1.1 ≤ x.1.2.1) {s:Mot} (hs:okM x s = true) {p:Int} {l:List Int} (h:res x s = some (p :: l)):prm x s p = true ∧ ∃ m, res x (mvd s p) = some m ∧ m.length = l.length:=by
  obtain ⟨c, h1, h2⟩:=qfw hx hw hs h
  simp only [go] at h1
  split at h1
  · rename_i hp
    have ho:=(prm_iff.1 hp).2.2
    obtain ⟨m, h3, h4⟩:=qbP hx hw ho h1 h2
    obtain ⟨c', h5, h6⟩:=qfw hx hw ho h3
    obtain ⟨l0, h7, h8⟩:=qbP hx hw hs (l':=p :: m) (c:=c') (by simp only [go]; rw [if_pos hp]; exact h5) h6
    rw [h] at h7; cases h7
    simp only [List.length_cons] at h8
    exact ⟨hp, m, h3, by omega⟩
  · cases h1
theorem qoP {x:Lim} (hx:okL x = true) (hw:x.1.1 ≤ x.1.2.1) {s:Mot} (hs:okM x s = true) {l:List Int} (h:res x s = some l):l = [] ↔ rest s = true:=by
  constructor
  · rintro rfl
    obtain ⟨c, h1, h2⟩:=qfw hx hw hs h
    simp only [go] at h1; cases h1; exact h2
  · intro hr
    obtain ⟨l0, h1, h2⟩:=qbP hx hw hs (l':=[]) rfl hr
    rw [h] at h1; cases h1
    exact List.eq_nil_of_length_eq_zero (by simpa using h2)
theorem qon {x y:Lim} (h1:y.1.1 ≤ x.1.1) (h2:x.1.2.1 ≤ y.1.2.1) (h3:x.2.1 ≤ y.2.1) (h4:x.2.2.1 ≤ y.2.2.1) (h5:x.2.2.2.1 ≤ y.2.2.2.1) {s:Mot} {p:Int} (h:prm x s p = true):prm y s p = true:=by
  obtain ⟨a, b, c⟩:=prm_iff.1 h
  have d:=okM_iff.1 c
  exact prm_iff.2 ⟨by omega, by omega, okM_iff.2 ⟨by omega, by omega, by omega⟩⟩
theorem qnr {x y:Lim} (h1:y.1.1 ≤ x.1.1) (h2:x.1.2.1 ≤ y.1.2.1) (h3:x.2.1 ≤ y.2.1) (h4:x.2.2.1 ≤ y.2.2.1) (h5:x.2.2.2.1 ≤ y.2.2.2.1):∀ (l:List Int) (s c:Mot), go x s l = some c → go y s l = some c
  | [], s, c, h=>h
  | p :: l, s, c, h=>by
    simp only [go] at h ⊢
    split at h
    · rename_i hp
      rw [if_pos (qon h1 h2 h3 h4 h5 hp)]
      exact qnr h1 h2 h3 h4 h5 l _ c h
    · cases h
end Go.Vm.Mo

namespace Go.Vm.Mo
open Go
set_option linter.unusedVariables false
set_option linter.unusedSimpArgs false
def ng (y:Int):Int:=IntKind.wrap .i64 (0 - y)
theorem qiI {y:Int} (h1:-9223372036854775807 ≤ y) (h2:y ≤ 9223372036854775807):ng y = -y:=wn64 h1 h2
theorem qfY (b x:Int):f117 (b, [x], ()) = some (!wi (ng b) b x, ()):=by
  have e:=qgL (ng b) b x
  have h:IntKind.wrap .i64 (0 - b) = ng b:=rfl
  simp only [f117, t117, Tr.val_test, Tr.val_fin, g94, h, e, Option.isSome_some, Option.getD_some, if_true]
theorem qoV (b x y:Int):f117 (b, [x, y], ()) = some (!(wi (ng b) b x && wi (ng b) b y), ()):=by
  have e:=qpO (ng b) b x y
  have h:IntKind.wrap .i64 (0 - b) = ng b:=rfl
  simp only [f117, t117, Tr.val_test, Tr.val_fin, g94, h, e, Option.isSome_some, Option.getD_some, if_true]
def cT (x:Lim) (s:Mot):Bool:=wi x.1.1 x.1.2.1 s.1 && (wi (ng x.2.1) x.2.1 s.2.1 && wi (ng x.2.2.1) x.2.2.1 s.2.2.1)
theorem qol {x:Lim} (hx:okL x = true) (s:Mot):cT x s = okM x s:=by
  have a:=okL_iff.1 hx
  unfold cT okM
  rw [qiI (by omega) (by omega), qiI (by omega) (by omega)]
theorem qk8 (x:Lim) (s:Mot):f160 ((x, ()), s, ()) = some (cT x s, ()):=by
  have e1:=qgL x.1.1 x.1.2.1 s.1
  have e2:=qfY x.2.1 s.2.1
  have e3:=qfY x.2.2.1 s.2.2.1
  simp only [f160, t160, Tr.val_test, Tr.val_fin, g94, e1, g117, e2, e3, Option.isSome_some, Option.getD_some, if_true, cT]
  rcases Bool.eq_false_or_eq_true (wi x.1.1 x.1.2.1 s.1) with h | h <;> rcases Bool.eq_false_or_eq_true (wi (ng x.2.1) x.2.1 s.2.1) with h2 | h2 <;> simp [h, h2]
theorem qk1 (x:Lim) (s:Mot):f123 (x, s, ()) = some (if cT x s = true then 0 else 2, ()):=by
  have e1:=qeg (s.1, x.1.1, x.1.2.1, ())
  have e2:=qeg (s.2.1, ng x.2.1, x.2.1, ())
  have e3:=qeg (s.2.2.1, ng x.2.2.1, x.2.2.1, ())
  have h (b:Int):IntKind.wrap .i64 (0 - b) = ng b:=rfl
  simp only [f123, t123, Tr.val_test, Tr.val_fin, g25, h, e1, e2, e3, Option.isSome_some, Option.getD_some, if_true, cT, qa6]
  rcases Bool.eq_false_or_eq_true (wi x.1.1 x.1.2.1 s.1) with h1 | h1 <;> rcases Bool.eq_false_or_eq_true (wi (ng x.2.1) x.2.1 s.2.1) with h2 | h2 <;> rcases Bool.eq_false_or_eq_true (wi (ng x.2.2.1) x.2.2.1 s.2.2.1) with h3 | h3 <;> simp [h1, h2, h3]
def lE (x:Lim):Int:=if okL x = true then (if x.1.1 ≤ x.1.2.1 then 0 else 9) else 2
theorem qp5 {x:Lim} (h:lE x = 0):okL x = true ∧ x.1.1 ≤ x.1.2.1:=by
  unfold lE at h
  split at h
  · split at h
    · exact ⟨by assumption, by assumption⟩
    · cases h
  · cases h
theorem qqz (x:Lim):f43 (x, ()) = some (lE x, ()):=by
  have e1:=qeg (x.1.1, -60, 60, ())
  have e2:=qeg (x.1.2.1, -60, 60, ())
  have e3:=qeg (x.2.1, 1, 8, ())
  have e4:=qeg (x.2.2.1, 1, 3, ())
  have e5:=qeg (x.2.2.2.1, 1, 6, ())
  simp only [f43, t43, Tr.val_test, Tr.val_fin, g25, e1, e2, e3, e4, e5, Option.isSome_some, Option.getD_some, if_true, qar, lE, okL]
  rcases Bool.eq_false_or_eq_true (wi (-60) 60 x.1.1) with h1 | h1
  · rcases Bool.eq_false_or_eq_true (wi (-60) 60 x.1.2.1) with h2 | h2
    · rcases Bool.eq_false_or_eq_true (wi 1 8 x.2.1) with h3 | h3
      · rcases Bool.eq_false_or_eq_true (wi 1 3 x.2.2.1) with h4 | h4
        · rcases Bool.eq_false_or_eq_true (wi 1 6 x.2.2.2.1) with h5 | h5
          · by_cases hw:x.1.1 ≤ x.1.2.1 <;> simp [h1, h2, h3, h4, h5, hw]
          · simp [h1, h2, h3, h4, h5]
        · simp [h1, h2, h3, h4]
      · simp [h1, h2, h3]
    · simp [h1, h2]
  · simp [h1]
theorem qfb (a b:Int):f79 ([a, b], ()) = some (qbm [a, b], ()):=qqC _ (by simp)
theorem qqH (x:Lim):f39 (x, ()) = some (lE x, ()):=by
  have n60:ng 60 = -60:=qiI (by omega) (by omega)
  have e1:=qoV 60 x.1.1 x.1.2.1
  rw [n60] at e1
  have e2:=qgL 1 8 x.2.1
  have e3:=qgL 1 3 x.2.2.1
  have e4:=qgL 1 6 x.2.2.2.1
  have w (b:Bool) (e:Int):f80 (b, e, ()) = some (if b = true then e else 0, ()):=qlk _
  have w1:f80 (true, 2, ()) = some ((2:Int), ()):=w true 2
  have w2:=w (!decide (x.1.1 ≤ x.1.2.1)) 9
  have w3:=w (!wi 1 6 x.2.2.2.1) 2
  have z1:=qfb (if (!wi 1 6 x.2.2.2.1) = true then 2 else 0) (if (!decide (x.1.1 ≤ x.1.2.1)) = true then 9 else 0)
  have z2:=qfb 2 (if (!decide (x.1.1 ≤ x.1.2.1)) = true then 9 else 0)
  simp only [f39, t39, Tr.val_test, Tr.val_fin, g117, e1, g94, e2, e3, e4, qar, g80, w1, w2, w3, g79, z1, z2, Option.isSome_some, Option.getD_some, if_true, lE, okL]
  rcases Bool.eq_false_or_eq_true (wi (-60) 60 x.1.1) with h1 | h1
  · rcases Bool.eq_false_or_eq_true (wi (-60) 60 x.1.2.1) with h2 | h2
    · rcases Bool.eq_false_or_eq_true (wi 1 8 x.2.1) with h3 | h3
      · rcases Bool.eq_false_or_eq_true (wi 1 3 x.2.2.1) with h4 | h4
        · rcases Bool.eq_false_or_eq_true (wi 1 6 x.2.2.2.1) with h5 | h5
          · by_cases hw:x.1.1 ≤ x.1.2.1 <;> simp [h1, h2, h3, h4, h5, hw, qbm]
          · simp [h1, h2, h3, h4, h5, qbm]
        · simp [h1, h2, h3, h4, qbm]
      · simp [h1, h2, h3, qbm]
    · simp [h1, h2, qbm]
  · simp [h1, qbm]
def mE (x:Lim) (s:Mot):Int:=if lE x = 0 then (if cT x s = true then 0 else 2) else lE x
theorem qqD (x:Lim) (s:Mot):f44 (x, s, ()) = some (mE x s, ()):=by
  have e1:=qqz x
  have e2:=qk1 x s
  simp only [f44, t44, Tr.val_test, Tr.val_fin, g43, e1, g123, e2, qa6, Option.isSome_some, Option.getD_some, if_true, mE]
  by_cases h:lE x = 0 <;> simp [h]
theorem qij (x:Lim) (s:Mot):f118 (x, s, ()) = some (if mE x s = 0 then ((x, ()), 0, ()) else ((((0, 0, ()), 0, 0, 0, ()), ()), mE x s, ())):=by
  have e1:=qqH x
  have e2:=qk8 x s
  have w (b:Bool) (e:Int):f80 (b, e, ()) = some (if b = true then e else 0, ()):=qlk _
  have w1:=w (!cT x s) 2
  have z1:=qfb (lE x) (if (!cT x s) = true then 2 else 0)
  have hm:qbm [lE x, if (!cT x s) = true then 2 else 0] = mE x s:=by
    unfold mE
    by_cases h:lE x = 0
    · simp only [qbm, if_pos h]
      cases cT x s <;> rfl
    · simp only [qbm, if_neg h]
  rw [hm] at z1
  simp only [f118, t118, Tr.val_test, Tr.val_fin, g39, e1, g160, e2, g80, w1, g79, z1, qa6, Option.isSome_some, Option.getD_some, if_true]
  by_cases h:mE x s = 0
  · rw [if_pos h, if_neg (by simp [h])]
  · rw [if_neg h, if_pos (by simp [h])]
theorem qgY {x:Lim} {s:Mot} (h:mE x s = 0):okL x = true ∧ x.1.1 ≤ x.1.2.1 ∧ okM x s = true:=by
  unfold mE at h
  split at h
  · rename_i hl
    obtain ⟨h1, h2⟩:=qp5 hl
    split at h
    · rename_i hc
      rw [qol h1] at hc
      exact ⟨h1, h2, hc⟩
    · cases h
  · rename_i hl; exact absurd h hl
theorem qh4 (s:Mot) (p:Int) (hs:-1000 ≤ s.1 ∧ s.1 ≤ 1000) (hs2:-1000 ≤ s.2.1 ∧ s.2.1 ≤ 1000) (hp:-1000 ≤ p ∧ p ≤ 1000):f121 (s, p, ()) = some (mvd s p, ()):=by
  have w1:wrap64 (s.2.1 + p) = s.2.1 + p:=qah (by omega) (by omega)
  have w2:wrap64 (s.1 + (s.2.1 + p)) = s.1 + (s.2.1 + p):=qah (by omega) (by omega)
  simp only [f121, t121, Tr.val_fin, w1, w2, mvd]
theorem qnM (s:Mot):f122 (s, ()) = some (rest s, ()):=by
  simp only [f122, t122, Tr.val_test, Tr.val_fin, qa6, rest]
  by_cases h:s.2.1 = 0 <;> simp [h]
theorem qpf (s:Mot):f49 (s, ()) = some (rest s, ()):=by
  simp only [f49, t49, Tr.val_test, Tr.val_fin, qa6, rest]
  by_cases h:s.2.1 = 0 <;> simp [h]
theorem qjH {x:Lim} {s:Mot} (hx:okL x = true) (hs:okM x s = true):(-60 ≤ s.1 ∧ s.1 ≤ 60) ∧ (-8 ≤ s.2.1 ∧ s.2.1 ≤ 8) ∧ (-3 ≤ s.2.2.1 ∧ s.2.2.1 ≤ 3):=by
  have a:=okL_iff.1 hx
  have b:=okM_iff.1 hs
  omega
theorem qke {x:Lim} {s:Mot} (hx:okL x = true) (hs:okM x s = true) (p:Int):f120 ((x, ()), s, p, ()) = some (prm x s p, ()):=by
  have a:=okL_iff.1 hx
  have b:=qjH hx hs
  have e1:=qfY x.2.2.1 p
  rw [qiI (by omega) (by omega)] at e1
  simp only [f120, t120, Tr.val_test, Tr.val_fin, g117, e1, Option.isSome_some, Option.getD_some, if_true, prm, Bool.not_not]
  rcases Bool.eq_false_or_eq_true (wi (-x.2.2.1) x.2.2.1 p) with h1 | h1
  · have hp:=wi_iff.1 h1
    have w:wrap64 (p - s.2.2.1) = p - s.2.2.1:=qah (by omega) (by omega)
    have e2:=qfY x.2.2.2.1 (p - s.2.2.1)
    rw [qiI (by omega) (by omega)] at e2
    have hw:wi (-x.2.2.2.1) x.2.2.2.1 (p - s.2.2.1) = wi (s.2.2.1 - x.2.2.2.1) (s.2.2.1 + x.2.2.2.1) p:=by
      rw [Bool.eq_iff_iff, wi_iff, wi_iff]; omega
    rw [hw] at e2
    have e3:=qh4 s p (by omega) (by omega) (by omega)
    have e4:=qk8 x (mvd s p)
    rw [qol hx] at e4
    simp only [h1, w, e2, g121, e3, g160, e4, Option.isSome_some, Option.getD_some, if_true, Bool.true_and, Bool.not_not]
    rcases Bool.eq_false_or_eq_true (wi (s.2.2.1 - x.2.2.2.1) (s.2.2.1 + x.2.2.2.1) p) with h2 | h2 <;> simp [h2]
  · simp [h1]
theorem qpb {x:Lim} {s:Mot} (hx:okL x = true) (hs:okM x s = true) (p:Int):f50 (x, s, p, ()) = some (if prm x s p = true then (mvd s p, true, ()) else (mt0, false, ())):=by
  have a:=okL_iff.1 hx
  have b:=qjH hx hs
  have h (b:Int):IntKind.wrap .i64 (0 - b) = ng b:=rfl
  have e1:=qeg (p, ng x.2.2.1, x.2.2.1, ())
  rw [qiI (by omega) (by omega)] at e1
  have n1:ng x.2.2.1 = -x.2.2.1:=qiI (by omega) (by omega)
  have w1:wrap64 (s.2.2.1 - x.2.2.2.1) = s.2.2.1 - x.2.2.2.1:=qah (by omega) (by omega)
  have w2:wrap64 (s.2.2.1 + x.2.2.2.1) = s.2.2.1 + x.2.2.2.1:=qah (by omega) (by omega)
  have e2:=qeg (p, s.2.2.1 - x.2.2.2.1, s.2.2.1 + x.2.2.2.1, ())
  simp only [f50, t50, Tr.val_test, Tr.val_fin, g25, h, n1, e1, w1, w2, e2, Option.isSome_some, Option.getD_some, if_true, prm, qa6]
  rcases Bool.eq_false_or_eq_true (wi (-x.2.2.1) x.2.2.1 p) with h1 | h1
  · have hp:=wi_iff.1 h1
    have w3:wrap64 (s.2.1 + p) = s.2.1 + p:=qah (by omega) (by omega)
    have w4:wrap64 (s.1 + (s.2.1 + p)) = s.1 + (s.2.1 + p):=qah (by omega) (by omega)
    have e3:=qk1 x (mvd s p)
    rw [qol hx] at e3
    have e3:f123 (x, (s.1 + (s.2.1 + p), s.2.1 + p, p, ()), ()) = some (if okM x (mvd s p) = true then 0 else 2, ()):=e3
    simp only [h1, w3, w4, g123, e3, Option.isSome_some, Option.getD_some, if_true]
    rcases Bool.eq_false_or_eq_true (wi (s.2.2.1 - x.2.2.2.1) (s.2.2.1 + x.2.2.2.1) p) with h2 | h2
    · rcases Bool.eq_false_or_eq_true (okM x (mvd s p)) with h3 | h3
      · simp only [h2, h3, Bool.not_true, Bool.false_eq_true, if_false, if_true, decide_true, Bool.and_self]
        rfl
      · simp only [h2, h3, Bool.not_true, Bool.false_eq_true, if_false, Bool.and_false]
        rfl
    · simp [h2, mt0]
  · simp [h1, mt0]
end Go.Vm.Mo

namespace Go.Vm.Mo
open Go
set_option linter.unusedVariables false
set_option linter.unusedSimpArgs false
theorem kq (a b:Mot):qbo MT a b = decide (a = b):=by
  obtain ⟨a1, a2, a3, ⟨⟩⟩:=a
  obtain ⟨b1, b2, b3, ⟨⟩⟩:=b
  show (match ql0 a1 b1 with | true=>(match ql0 a2 b2 with | true=>(match ql0 a3 b3 with | true=>true | false=>false) | false=>false) | false=>false) = _
  have hb (a b:Int):(a == b) = decide (a = b):=by by_cases h:a = b <;> simp [h]
  rw [qd3, qd3, qd3, hb, hb, hb]
  by_cases h1:a1 = b1
  · by_cases h2:a2 = b2
    · by_cases h3:a3 = b3
      · subst h1 h2 h3; simp
      · have e:decide (((a1, a2, a3, ()):Mot) = (b1, b2, b3, ())) = false:=decide_eq_false fun e=>h3 (congrArg (fun m:Mot=>m.2.2.1) e)
        rw [decide_eq_true h1, decide_eq_true h2, decide_eq_false h3]
        exact e.symm
    · have e:decide (((a1, a2, a3, ()):Mot) = (b1, b2, b3, ())) = false:=decide_eq_false fun e=>h2 (congrArg (fun m:Mot=>m.2.1) e)
      rw [decide_eq_true h1, decide_eq_false h2]
      exact e.symm
  · have e:decide (((a1, a2, a3, ()):Mot) = (b1, b2, b3, ())) = false:=decide_eq_false fun e=>h1 (congrArg (fun m:Mot=>m.1) e)
    rw [decide_eq_false h1]
    exact e.symm
theorem qir:∀ (l:List (Mot×Mot)) (d:Mot), qcF (k:=MT) (v:=MT) l d = (l.find? fun p=>decide (d = p.1)).map (·.2)
  | [], _=>rfl
  | p :: l, d=>by
    have ih:=qir l d
    show (match qbo MT d p.1 with | true=>some p.2 | false=>qcF (k:=MT) (v:=MT) l d) = _
    rw [kq, List.find?_cons]
    by_cases h:d = p.1
    · simp only [decide_eq_true h]; rfl
    · simp only [decide_eq_false h]; exact ih
theorem qno:∀ (l:List (Mot×Mot)) (d x:Mot), d ∉ l.map (·.1) → mput (k:=MT) (v:=MT) l d x = l++[(d, x)]
  | [], _, _, _=>rfl
  | p :: l, d, x, h=>by
    rw [List.map_cons, List.mem_cons, not_or] at h
    have ih:=qno l d x h.2
    show (match qbo MT d p.1 with | true=>(d, x) :: l | false=>p :: mput (k:=MT) (v:=MT) l d x) = _
    rw [kq, decide_eq_false h.1]
    exact congrArg (p :: ·) ih
theorem qnR (q:List (Mot×Nat×Int)) (d:Mot):found (qcF (k:=MT) (v:=MT) (bef q) d) = Bf.has q d:=by
  rw [qir]
  cases h:(bef q).find? fun p=>decide (d = p.1) with
  | none =>
    rw [qhy, qf8] at h
    simp [found, Bf.has, h]
  | some p =>
    have h1:=List.find?_some h
    have h2:=List.mem_of_find?_eq_some h
    have:d ∈ q.map (·.1):=by
      rw [← qf8, of_decide_eq_true h1]
      exact List.mem_map.2 ⟨p, h2, rfl⟩
    simp [found, Bf.has, this]
def ex1 (x:Lim) (now:Mot) (i:Nat) (q:List (Mot×Nat×Int)) (k:Nat):List (Mot×Nat×Int):=Bf.exts i q (nxU x now k)
theorem qk0 (x:Lim) (now:Mot) (i:Nat) (q:List (Mot×Nat×Int)) (k:Nat):ex1 x now i q (k + 1) = if prm x now ((k:Int) - x.2.2.1) = true then Bf.add i (ex1 x now i q k) ((k:Int) - x.2.2.1, mvd now ((k:Int) - x.2.2.1)) else ex1 x now i q k:=by
  unfold ex1 Bf.exts
  rw [nxU, List.foldl_append]
  split <;> rfl
theorem qnY (x:Lim) (now:Mot) (i:Nat) (q:List (Mot×Nat×Int)):∀ k, (ex1 x now i q k).length ≤ q.length + k
  | 0=>by simp [ex1, nxU, Bf.exts]
  | k + 1=>by
    have ih:=qnY x now i q k
    rw [qk0]
    split
    · unfold Bf.add
      split
      · omega
      · rw [List.length_append]; simp; omega
    · omega
theorem qp8 (x:Lim) (now:Mot) (i:Nat) (q:List (Mot×Nat×Int)) (k:Nat):∃ r, ex1 x now i q k = q++r ∧ ∀ e, e ∈ r → e.2.1 = i :=
  let ⟨r, h1, h2⟩:=Bf.exts_pre i (nxU x now k) q; ⟨r, h1, fun e he=>(h2 e he).1⟩
theorem l162 {x:Lim} (hx:okL x = true) {now:Mot} (hs:okM x now = true) {i:Nat} {q:List (Mot×Nat×Int)} (hi:i < q.length) (hn:mAt q i = now) (hq:∀ e, e ∈ q → e.2.1 < q.length) (hl:q.length ≤ 1000000) :
    l162_0 ((-x.2.2.1, ()), (), (x.1.1, x.1.2.1, x.2.1, x.2.2.1, x.2.2.2.1, ()), now, (q.map (·.1), ()), (), now, bef q, ()) = some (.inl ((), (), (x.1.1, x.1.2.1, x.2.1, x.2.2.1, x.2.2.2.1, ()), now, ((Bf.exts i q (nx x now)).map (·.1), ()), (), now, bef (Bf.exts i q (nx x now)), ())):=by
  have a:=okL_iff.1 hx
  have b:=qjH hx hs
  have key:=qcZ (step:=s162_0) (fun k=>(((k:Int) - x.2.2.1, ()), (), (x.1.1, x.1.2.1, x.2.1, x.2.2.1, x.2.2.2.1, ()), now, ((ex1 x now i q k).map (·.1), ()), (), now, bef (ex1 x now i q k), ()))
    (b:=((), (), (x.1.1, x.1.2.1, x.2.1, x.2.2.1, x.2.2.2.1, ()), now, ((ex1 x now i q (2 * x.2.2.1 + 1).toNat).map (·.1), ()), (), now, bef (ex1 x now i q (2 * x.2.2.1 + 1).toNat), ())) (n:=(2 * x.2.2.1 + 1).toNat) (m:=rounds) ?_ ?_ (qaR (by omega))
  · have h0:(((0:Nat):Int) - x.2.2.1) = -x.2.2.1:=by omega
    have h1:ex1 x now i q 0 = q:=rfl
    rw [h0, h1] at key
    exact key
  · intro k hk
    obtain ⟨r, hr, hrf⟩:=qp8 x now i q k
    have hlen:=qnY x now i q k
    have hnow:mAt (ex1 x now i q k) i = now:=by
      rw [hr]; simp only [mAt, List.getD_eq_getElem?_getD, List.getElem?_append_left hi] at hn ⊢; exact hn
    have hge:q.length ≤ (ex1 x now i q k).length:=by rw [hr, List.length_append]; omega
    have hfrom:∀ e, e ∈ ex1 x now i q k → e.2.1 < (ex1 x now i q k).length:=by
      intro e he
      rw [hr] at he
      rcases List.mem_append.1 he with he | he
      · have:=hq e he; omega
      · have:=hrf e he; omega
    have e1:=qke hx hs ((k:Int) - x.2.2.1)
    have w:wrap64 ((k:Int) - x.2.2.1 + 1) = ((k + 1:Nat):Int) - x.2.2.1:=by
      rw [qah (by omega) (by omega)]; omega
    rw [qk0]
    generalize ex1 x now i q k = E at hr hlen hnow hge hfrom ⊢
    have hk2:(k:Int) - x.2.2.1 ≤ x.2.2.1 ∧ -3 ≤ (k:Int) - x.2.2.1 ∧ (k:Int) - x.2.2.1 ≤ 3:=by omega
    have hk3:k ≤ 7:=by omega
    obtain ⟨⟨lo, hi', ⟨⟩⟩, sp, pu, je, ⟨⟩⟩:=x
    obtain ⟨n1, n2, n3, ⟨⟩⟩:=now
    simp only at e1 w a b hk2
    simp only [s162_0, t162_0, Tr.val_test, Tr.val_fin, qar, g120, e1, w, Option.isSome_some, Option.getD_some, if_true, dT hk2.1]
    rcases Bool.eq_false_or_eq_true (prm ((lo, hi', ()), sp, pu, je, ()) (n1, n2, n3, ()) ((k:Int) - pu)) with hp | hp
    · have e2:=qh4 (n1, n2, n3, ()) ((k:Int) - pu) (by simp only; omega) (by simp only; omega) ⟨by omega, by omega⟩
      have e3:=qnR E (mvd (n1, n2, n3, ()) ((k:Int) - pu))
      have hm:mvd (n1, n2, n3, ()) ((k:Int) - pu) = ((mvd (n1, n2, n3, ()) ((k:Int) - pu)).1, (mvd (n1, n2, n3, ()) ((k:Int) - pu)).2.1, (mvd (n1, n2, n3, ()) ((k:Int) - pu)).2.2.1, ()):=rfl
      simp only [hp, g121, e2, Option.isSome_some, Option.getD_some, if_true, ← hm, e3, Bf.add]
      rcases Bool.eq_false_or_eq_true (Bf.has E (mvd (n1, n2, n3, ()) ((k:Int) - pu))) with hh | hh
      · simp only [hh, Bool.not_true, Bool.false_eq_true, if_false, if_true]
      · have hno:mvd (n1, n2, n3, ()) ((k:Int) - pu) ∉ (bef E).map (·.1):=by
          rw [qf8]
          intro hmem
          rw [Bf.has_iff.2 hmem] at hh; cases hh
        have e4:=qno _ _ (n1, n2, n3, ()) hno
        have e5:=qpF hfrom (show i < E.length by omega) (mvd (n1, n2, n3, ()) ((k:Int) - pu)) ((k:Int) - pu)
        rw [hnow] at e5
        simp only [hh, Bool.not_false, Bool.false_eq_true, if_false, if_true, e4, e5, List.map_append, List.map_cons, List.map_nil, List.length_map]
        rw [if_pos (by simp only [Bool.and_eq_true, qax]; omega)]
    · simp only [hp, Bool.false_eq_true, if_false]
  · obtain ⟨⟨lo, hi', ⟨⟩⟩, sp, pu, je, ⟨⟩⟩:=x
    simp only at a
    simp only [s162_0, t162_0, Tr.val_test, Tr.val_fin, qar]
    rw [if_neg (by simp; omega)]
theorem eqM (a s:Mot):(a.1 == s.1 && (a.2.1 == s.2.1 && (a.2.2.1 == s.2.2.1 && true))) = decide (a = s):=by
  obtain ⟨a1, a2, a3, ⟨⟩⟩:=a
  obtain ⟨s1, s2, s3, ⟨⟩⟩:=s
  by_cases h1:a1 = s1 <;> by_cases h2:a2 = s2 <;> by_cases h3:a3 = s3 <;> simp [h1, h2, h3]
theorem qpc {x:Lim} {s:Mot} {q:List (Mot×Nat×Int)} {n:Nat} (F:Bf.Fin (nx x) s 0 q n) {k:Nat} (hk:k < q.length):qeB (qcF (k:=MT) (v:=MT) (bef q) (mAt q k)) ((0:Int), (0:Int), (0:Int), ()) = mAt q (frm q k):=by
  obtain ⟨h1, h2, h3⟩:=qds hk
  rw [qir, h2, qoz F.nodup h1]
  show mAt q q[k].2.1 = _
  rw [h3]
theorem qqb {q:List (Mot×Nat×Int)} {k t:Nat} (h:Bf.bk q k t < q.length):Bf.bk q k (t + 1) = frm q (Bf.bk q k t):=by
  obtain ⟨h1, h2, h3⟩:=qds h
  simp only [Bf.bk, h1, h3]
theorem qpg {x:Lim} {s:Mot} {q:List (Mot×Nat×Int)} {n:Nat} (F:Bf.Fin (nx x) s 0 q n) {k:Nat} (hk:k < q.length) (h0:0 < k):frm q k < k ∧ (q.getD k (mt0, 0, 0)).2.2 = (mAt q k).2.2.1:=by
  obtain ⟨h1, h2, h3⟩:=qds hk
  obtain ⟨h4, e', h5, h6⟩:=F.frm k _ h0 h1
  refine ⟨by rw [h3]; exact h4, ?_⟩
  have:=(nx_mem.1 h6).2
  simp only at this
  rw [h2, this]
  simp only [List.getD_eq_getElem?_getD, h1, Option.getD_some, mvd]
theorem qpY {x:Lim} {s:Mot} {q:List (Mot×Nat×Int)} {n:Nat} (F:Bf.Fin (nx x) s 0 q n) {k t:Nat} (h:Bf.bk q k t < q.length) (h0:0 < Bf.bk q k t):Bf.pl q k (t + 1) = Bf.pl q k t++[(mAt q (Bf.bk q k t)).2.2.1]:=by
  obtain ⟨h1, h2, h3⟩:=qds h
  have h4:=(qpg F h h0).2
  rw [← h4]
  simp only [Bf.pl, h1, List.getD_eq_getElem?_getD, Option.getD_some]
theorem l161 {x:Lim} {s:Mot} {q:List (Mot×Nat×Int)} {n:Nat} (F:Bf.Fin (nx x) s 0 q n) {k:Nat} (hk:k < q.length) (hl:q.length ≤ 1000000) :
    l161_0 (([], ()), bef q, mAt q k, ()) = some (.inl ((Bf.pl q k (Bf.tr q k k).length, ()), bef q, mAt q (Bf.bk q k (Bf.tr q k k).length), ())):=by
  have hD:=Bf.tr_len q k k
  refine qcZ (fun t=>((Bf.pl q k t, ()), bef q, mAt q (Bf.bk q k t), ())) (n:=(Bf.tr q k k).length) ?_ ?_ (qaR (by omega))
  · intro t ht
    obtain ⟨h1, h2, h3⟩:=Bf.bk_tr F hk t (by omega)
    have h4:=Bf.bk_pos F hk ht
    have h5:=qpc F h1
    have h6:=(qpg F h1 h4).1
    have hne:mAt q (frm q (Bf.bk q k t)) ≠ mAt q (Bf.bk q k t):=by
      intro e
      have:=F.inj (qds (show frm q (Bf.bk q k t) < q.length by omega)).1 (qds h1).1 (by rw [← (qds (show frm q (Bf.bk q k t) < q.length by omega)).2.1, ← (qds h1).2.1]; exact e)
      omega
    have h7:=eqM (mAt q (frm q (Bf.bk q k t))) (mAt q (Bf.bk q k t))
    rw [decide_eq_false hne] at h7
    rw [qpY F h1 h4, qqb h1]
    have hm:((mAt q (Bf.bk q k t)).1, (mAt q (Bf.bk q k t)).2.1, (mAt q (Bf.bk q k t)).2.2.1, ()) = mAt q (Bf.bk q k t):=rfl
    have hm2:((mAt q (frm q (Bf.bk q k t))).1, (mAt q (frm q (Bf.bk q k t))).2.1, (mAt q (frm q (Bf.bk q k t))).2.2.1, ()) = mAt q (frm q (Bf.bk q k t)):=rfl
    simp only [s161_0, t161_0, Tr.val_test, Tr.val_fin, hm, h5, h7, hm2, Bool.not_false, if_true, h3]
    rw [if_pos (by simp only [Bool.and_eq_true, qax]; omega)]
  · obtain ⟨h1, h2, h3⟩:=Bf.bk_tr F hk _ (Nat.le_refl _)
    have h4:=(Bf.bk_end F hk).1
    have h5:=qpc F h1
    have h6:frm q 0 = 0:=by rw [qm9 F.zero]
    rw [h4] at h5 ⊢
    rw [h6] at h5
    have h7:=eqM (mAt q 0) (mAt q 0)
    rw [decide_eq_true rfl] at h7
    have hm:((mAt q 0).1, (mAt q 0).2.1, (mAt q 0).2.2.1, ()) = mAt q 0:=rfl
    simp only [s161_0, t161_0, Tr.val_test, Tr.val_fin, hm, h5, h7, Bool.not_true, Bool.false_eq_true, if_false]
def rv (L:List Int) (t:Nat):List Int:=(List.range L.length).map fun j=>if j < t ∨ L.length - t ≤ j then L.getD (L.length - 1 - j) 0 else L.getD j 0
theorem qhH (L:List Int) (t:Nat):(rv L t).length = L.length:=by simp [rv]
theorem qfv (L:List Int) (t:Nat) {j:Nat} (h:j < L.length):(rv L t)[j]? = some (if j < t ∨ L.length - t ≤ j then L.getD (L.length - 1 - j) 0 else L.getD j 0):=by
  simp [rv, h]
theorem qpW (L:List Int):rv L 0 = L:=by
  refine List.ext_getElem? fun j=>?_
  by_cases h:j < L.length
  · rw [qfv L 0 h, if_neg (by omega)]
    simp [h]
  · rw [List.getElem?_eq_none (by rw [qhH]; omega), List.getElem?_eq_none (by omega)]
theorem qpU (L:List Int) {t:Nat} (h:t + t + 1 < L.length):((rv L t).set t ((rv L t).getD (L.length - 1 - t) 0)).set (L.length - 1 - t) ((rv L t).getD t 0) = rv L (t + 1):=by
  refine List.ext_getElem? fun j=>?_
  rw [List.getElem?_set, List.getElem?_set]
  simp only [List.length_set, qhH]
  have g1:(rv L t).getD t 0 = L.getD t 0:=by
    rw [List.getD_eq_getElem?_getD, qfv L t (by omega), if_neg (by omega)]; rfl
  have g2:(rv L t).getD (L.length - 1 - t) 0 = L.getD (L.length - 1 - t) 0:=by
    rw [List.getD_eq_getElem?_getD, qfv L t (by omega), if_neg (by omega)]; rfl
  rw [g1, g2]
  by_cases h1:L.length - 1 - t = j
  · subst h1
    rw [if_pos rfl, if_pos (by omega), qfv L (t + 1) (by omega), if_pos (by omega)]
    congr 2; omega
  · rw [if_neg h1]
    by_cases h2:t = j
    · subst h2
      rw [if_pos rfl, if_pos (by omega), qfv L (t + 1) (by omega), if_pos (by omega)]
    · rw [if_neg h2]
      by_cases hj:j < L.length
      · rw [qfv L t hj, qfv L (t + 1) hj]
        by_cases h3:j < t ∨ L.length - t ≤ j
        · rw [if_pos h3, if_pos (by omega)]
        · rw [if_neg h3, if_neg (by omega)]
      · rw [List.getElem?_eq_none (by rw [qhH]; omega), List.getElem?_eq_none (by rw [qhH]; omega)]
theorem qqx (L:List Int) {t:Nat} (h:L.length ≤ t + t + 1) (h2:t + t ≤ L.length):rv L t = L.reverse:=by
  refine List.ext_getElem? fun j=>?_
  by_cases hj:j < L.length
  · rw [qfv L t hj, List.getElem?_reverse hj, List.getElem?_eq_getElem (by omega)]
    congr 1
    by_cases h3:j < t ∨ L.length - t ≤ j
    · rw [if_pos h3, List.getD_eq_getElem?_getD, List.getElem?_eq_getElem (by omega)]; rfl
    · rw [if_neg h3, List.getD_eq_getElem?_getD, List.getElem?_eq_getElem (by omega)]
      simp only [Option.getD_some]
      congr 1; omega
  · rw [List.getElem?_eq_none (by rw [qhH]; omega), List.getElem?_eq_none (by simp; omega)]
theorem l155 (L:List Int) (h:1 ≤ L.length) (hl:L.length ≤ 1000000):l155_0 ((L.length, (0:Int), ((L.length - 1:Nat):Int), ()), L, ()) = some (.inl ((), L.reverse, ())):=by
  have key:=qcZ (step:=s155_0) (fun t=>((L.length, (t:Int), ((L.length:Int) - 1 - (t:Int)), ()), rv L t, ())) (b:=((), rv L (L.length / 2), ())) (n:=L.length / 2) (m:=rounds) ?_ ?_ (qaR (by omega))
  · rw [qpW, qqx L (by omega) (by omega)] at key
    have e:((L.length - 1:Nat):Int) = (L.length:Int) - 1 - ((0:Nat):Int):=by omega
    rw [e]
    exact key
  · intro t ht
    have hlen:=qhH L t
    have e:((L.length:Int) - 1 - (t:Int)).toNat = L.length - 1 - t:=by omega
    have w:wrap64 ((L.length:Int) - 1 - (t:Int) - 1) = (L.length:Int) - 1 - ((t + 1:Nat):Int):=by rw [qah (by omega) (by omega)]; omega
    simp only [s155_0, t155_0, Tr.val_test, Tr.val_fin, qar, Int.toNat_natCast, e, w, Nat.zero_add, List.length_set, hlen, qbr (show t ≤ 9223372036854775806 by omega), qpU L (show t + t + 1 < L.length by omega)]
    rw [if_pos (by simp; omega), if_pos (by simp; omega), if_pos (by rw [qax]; omega), if_pos (by simp; omega), if_pos (by rw [qax]; omega), if_pos (by rw [qax]; omega)]
  · simp only [s155_0, t155_0, Tr.val_test, Tr.val_fin, qar]
    rw [if_neg (by simp; omega)]
end Go.Vm.Mo

namespace Go.Vm.Mo
open Go
set_option linter.unusedVariables false
set_option linter.unusedSimpArgs false
theorem qgZ {A B C:Type} {step:A → Option (Out A B C)} (st:Nat → A) (bad:Nat → Bool) (r:Nat → C) {n m:Nat} {b:B}
    (h:∀ i, i < n → (∀ j, j < i → bad j = false) → step (st i) = if bad i = true then some (.ret (r i)) else some (.again (st (i + 1)))) (hb:(∀ j, j < n → bad j = false) → step (st n) = some (.brk b)) (hm:n < m) :
    itr step m (st 0) = match first bad n 0 with
      | some k=>some (.inr (r k))
      | none=>some (.inl b):=by
  cases e:first bad n 0 with
  | none =>
    have hn:=qbJ e
    have hg:∀ j, j < n → bad j = false:=fun j hj=>hn j (by omega) (by omega)
    exact qcZ st (fun i hi=>by rw [h i hi fun j hj=>hg j (by omega), hg i hi]; rfl) (hb hg) hm
  | some k =>
    obtain ⟨_, k2, k3, k4⟩:=first_some e
    have hk:k < n:=by omega
    have hg:∀ j, j < k → bad j = false:=fun j hj=>k4 j (by omega) (by omega)
    exact qnX (n:=k) st (fun i hi=>by rw [h i (by omega) fun j hj=>hg j (by omega), hg i hi]; rfl) (by rw [h k hk hg, k3]; rfl) (by omega)
theorem qpA {x:Lim} {s:Mot} {i:Nat} (h:i < (Qm x s i).length):Qm x s (i + 1) = Bf.exts i (Qm x s i) (nx x (mAt (Qm x s i) i)):=by
  obtain ⟨h1, h2, _⟩:=qds h
  have h3:(Bf.Q (nx x) s 0 i)[i]? = some (Qm x s i)[i]:=h1
  show Bf.Q (nx x) s 0 (i + 1) = _
  simp only [Bf.Q]
  rw [h3, h2]
theorem qpG {x:Lim} {s:Mot} {i:Nat} (h:∀ j, j < i → j < (Qm x s j).length) (hi:i < (Qm x s i).length):∀ e, e ∈ Qm x s i → e.2.1 < (Qm x s i).length:=by
  intro e he
  obtain ⟨k, hk⟩:=List.getElem?_of_mem he
  have hkl:k < (Qm x s i).length:=(List.getElem?_eq_some_iff.1 hk).1
  rcases Nat.eq_zero_or_pos k with rfl | h0
  · have:=Bf.Q_zero (nx x) s 0 i
    rw [hk] at this; cases this; show 0 < _; omega
  · have:=(Bf.Q_from (nx x) s 0 i h k e h0 hk).1
    omega
theorem qqs {x:Lim} {s:Mot} (hs:okM x s = true) {i k:Nat} (h:k < (Qm x s i).length):okM x (mAt (Qm x s i) k) = true:=by
  obtain ⟨h1, h2, _⟩:=qds h
  rw [h2]
  exact qqK hs i _ (List.mem_of_getElem? h1)
theorem qoX {q:List (Mot×Nat×Int)} {k:Nat} (h:k < q.length):(q.map (·.1)).getD k ((0:Int), (0:Int), (0:Int), ()) = mAt q k:=by
  simp [mAt, h]
def qk3 (x:Lim) (s:Mot):Option ((Unit×(Int×Int×Int×Int×Int×Unit)×(List Mot×Unit)×Unit×List (Mot×Mot)×Unit) ⊕ ((List Int×Bool×Unit)×(Int×Int×Int×Int×Int×Unit)×(List Mot×Unit)×Unit×List (Mot×Mot)×Unit)) :=
  match stp x s with
  | some k=>some (.inr ((Bf.tr (Qm x s k) k k, true, ()), (x.1.1, x.1.2.1, x.2.1, x.2.2.1, x.2.2.2.1, ()), ((Qm x s k).map (·.1), ()), (), bef (Qm x s k), ()))
  | none=>some (.inl ((), (x.1.1, x.1.2.1, x.2.1, x.2.2.1, x.2.2.2.1, ()), ((Qm x s (endn x s)).map (·.1), ()), (), bef (Qm x s (endn x s)), ()))
theorem l119 {x:Lim} {s:Mot} (hx:okL x = true) (hw:x.1.1 ≤ x.1.2.1) (hs:okM x s = true) :
    l119_0 (((0:Int), ()), (x.1.1, x.1.2.1, x.2.1, x.2.2.1, x.2.2.2.1, ()), ([s], ()), (), [(s, s)], ()) = qk3 x s:=by
  obtain ⟨n1, n2, n3⟩:=qgc hx hw hs
  have key:=qgZ (step:=s119_0) (fun i=>(((i:Int), ()), (x.1.1, x.1.2.1, x.2.1, x.2.2.1, x.2.2.2.1, ()), ((Qm x s i).map (·.1), ()), (), bef (Qm x s i), ())) (fun i=>rest (mAt (Qm x s i) i))
    (fun k=>((Bf.tr (Qm x s k) k k, true, ()), (x.1.1, x.1.2.1, x.2.1, x.2.2.1, x.2.2.2.1, ()), ((Qm x s k).map (·.1), ()), (), bef (Qm x s k), ())) (n:=endn x s) (m:=rounds)
    (b:=((), (x.1.1, x.1.2.1, x.2.1, x.2.2.1, x.2.2.2.1, ()), ((Qm x s (endn x s)).map (·.1), ()), (), bef (Qm x s (endn x s)), ())) ?_ ?_ (qaR (by omega))
  · have h0:Qm x s 0 = [(s, 0, 0)]:=rfl
    have h1:bef [(s, 0, (0:Int))] = [(s, s)]:=rfl
    rw [h0, h1] at key
    exact key.trans (by unfold qk3 stp; split <;> rfl)
  · intro i hi hbad
    have hil:=n3 i hi
    have hjl:∀ j, j < i → j < (Qm x s j).length:=fun j hj=>n3 j (by omega)
    have hQl:(Qm x s i).length ≤ 14399:=qpX hx hw hs i
    have hok:=qqs hs hil
    have e0:=qoX hil
    have e1:=qnM (mAt (Qm x s i) i)
    have hm:((mAt (Qm x s i) i).1, (mAt (Qm x s i) i).2.1, (mAt (Qm x s i) i).2.2.1, ()) = mAt (Qm x s i) i:=rfl
    have a:=okL_iff.1 hx
    have hng:IntKind.wrap .i64 (0 - x.2.2.1) = -x.2.2.1:=qiI (by omega) (by omega)
    simp only [s119_0, t119_0, Tr.val_test, Tr.val_fin, qar, Int.toNat_natCast, e0, hm, g122, e1, List.length_map, Option.isSome_some, Option.getD_some, if_true, hng]
    rw [if_pos (by simp; omega), if_pos (by simp; omega)]
    rcases Bool.eq_false_or_eq_true (rest (mAt (Qm x s i) i)) with hr | hr
    · have F:=Bf.Q_fin (nx x) s 0 i hjl (Nat.le_of_lt hil)
      have e2:=l161 F hil (show (Qm x s i).length ≤ 1000000 by omega)
      obtain ⟨d1, d2⟩:=Bf.bk_end F hil
      have hD:(Bf.tr (Qm x s i) i i).length ≤ i:=Bf.tr_len _ i i
      rw [d2] at e2
      simp only [hr, if_true, e2, qc2, b161_0, outB, Option.isSome_some, List.length_reverse]
      by_cases h0:1 ≤ (Bf.tr (Qm x s i) i i).length
      · have e3:=l155 (Bf.tr (Qm x s i) i i).reverse (by rw [List.length_reverse]; exact h0) (by rw [List.length_reverse]; omega)
        rw [List.reverse_reverse, List.length_reverse] at e3
        have w:wrap64 (((Bf.tr (Qm x s i) i i).length:Int) - 1) = (((Bf.tr (Qm x s i) i i).length - 1:Nat):Int):=by rw [qah (by omega) (by omega)]; omega
        rw [if_pos (by rw [qax]; exact h0)]
        simp only [w, e3, qc2, b155_0, outB, Option.isSome_some, if_true]
        rw [if_pos (by rw [qi2])]
      · have hz:Bf.tr (Qm x s i) i i = []:=List.eq_nil_of_length_eq_zero (by omega)
        rw [if_neg (by rw [qax]; exact h0)]
        have e4:l155_0_1 (((([]:List Int), (0:Int), (-1:Int), ())), ()) = some (.inl ((), ())):=by
          refine qcZ (fun _=>(((([]:List Int), (0:Int), (-1:Int), ())), ())) (n:=0) (fun i hi=>by omega) ?_ (qaR (by omega))
          simp [s155_0_1, t155_0_1, qar]
        have w:wrap64 (((0:Nat):Int) - 1) = -1:=by rw [qah (by omega) (by omega)]; omega
        rw [hz]
        simp only [List.reverse_nil, List.length_nil, w, e4, if_true]
    · have e2:=l162 hx hok hil rfl (qpG hjl hil) (by omega)
      rw [← qpA hil] at e2
      simp only [hr, Bool.false_eq_true, if_false, e2, qc2, b162_0, outB, Option.isSome_some, if_true, qbr (show i ≤ 9223372036854775806 by omega)]
  · intro _
    simp only [s119_0, t119_0, Tr.val_test, Tr.val_fin, qar, List.length_map, n2]
    rw [if_neg (by simp)]
theorem qkN {x:Lim} {s:Mot} (hx:okL x = true) (hw:x.1.1 ≤ x.1.2.1) (hs:okM x s = true):f119 ((x, ()), s, ()) = some ((res x s).getD [], (res x s).isSome, ()):=by
  have e:=l119 hx hw hs
  have hm:mput (k:=MT) (v:=MT) [] (s.1, s.2.1, s.2.2.1, ()) (s.1, s.2.1, s.2.2.1, ()) = [(s, s)]:=rfl
  have hm2:(s.1, s.2.1, s.2.2.1, ()) = s:=rfl
  rw [hm2] at hm
  unfold res
  cases hk:stp x s with
  | none =>
    simp only [qk3, hk] at e
    simp only [f119, t119, Tr.val_test, Tr.val_fin, hm, hm2, e, qbT, Option.isSome_some, if_true, Bool.false_eq_true, if_false]
    rfl
  | some k =>
    simp only [qk3, hk] at e
    simp only [f119, t119, Tr.val_test, Tr.val_fin, hm, hm2, e, qbT, r119_0, outR, Option.isSome_some, if_true]
    rfl
end Go.Vm.Mo

namespace Go.Vm.Mo
open Go
set_option linter.unusedVariables false
set_option linter.unusedSimpArgs false
def wyU (x:Lim) (s:Mot):Nat → List Int
  | 0=>[]
  | k + 1=>wyU x s k++if (prm x s ((k:Int) - x.2.2.1) && (res x (mvd s ((k:Int) - x.2.2.1))).isSome) = true then [(k:Int) - x.2.2.1] else []
def wys (x:Lim) (s:Mot):List Int:=wyU x s (2 * x.2.2.1 + 1).toNat
theorem qim (x:Lim) (s:Mot):∀ k, (wyU x s k).length ≤ k
  | 0=>Nat.le_refl _
  | k + 1=>by
    have:=qim x s k
    unfold wyU
    rw [List.length_append]
    split <;> simp <;> omega
theorem qqM {x:Lim} (hx:okL x = true) (hw:x.1.1 ≤ x.1.2.1) {s:Mot} (hs:okM x s = true) :
    l162_0_1 ((-x.2.2.1, ()), (), (x.1.1, x.1.2.1, x.2.1, x.2.2.1, x.2.2.2.1, ()), s, (x.1.1, x.1.2.1, x.2.1, x.2.2.1, x.2.2.2.1, ()), ([], ()), ()) = some (.inl ((), (), (x.1.1, x.1.2.1, x.2.1, x.2.2.1, x.2.2.2.1, ()), s, (x.1.1, x.1.2.1, x.2.1, x.2.2.1, x.2.2.2.1, ()), (wys x s, ()), ())):=by
  have a:=okL_iff.1 hx
  have b:=qjH hx hs
  have key:=qcZ (step:=s162_0_1) (fun k=>(((k:Int) - x.2.2.1, ()), (), (x.1.1, x.1.2.1, x.2.1, x.2.2.1, x.2.2.2.1, ()), s, (x.1.1, x.1.2.1, x.2.1, x.2.2.1, x.2.2.2.1, ()), (wyU x s k, ()), ()))
    (b:=((), (), (x.1.1, x.1.2.1, x.2.1, x.2.2.1, x.2.2.2.1, ()), s, (x.1.1, x.1.2.1, x.2.1, x.2.2.1, x.2.2.2.1, ()), (wyU x s (2 * x.2.2.1 + 1).toNat, ()), ())) (n:=(2 * x.2.2.1 + 1).toNat) (m:=rounds) ?_ ?_ (qaR (by omega))
  · have h0:(((0:Nat):Int) - x.2.2.1) = -x.2.2.1:=by omega
    have h1:wyU x s 0 = []:=rfl
    rw [h0, h1] at key
    exact key
  · intro k hk
    have hlen:=qim x s k
    have e1:=qke hx hs ((k:Int) - x.2.2.1)
    have w:wrap64 ((k:Int) - x.2.2.1 + 1) = ((k + 1:Nat):Int) - x.2.2.1:=by
      rw [qah (by omega) (by omega)]; omega
    have hk2:(k:Int) - x.2.2.1 ≤ x.2.2.1:=by omega
    have hk3:k ≤ 7:=by omega
    have hk4:-1000 ≤ (k:Int) - x.2.2.1 ∧ (k:Int) - x.2.2.1 ≤ 1000:=by omega
    have hu:wyU x s (k + 1) = wyU x s k++if (prm x s ((k:Int) - x.2.2.1) && (res x (mvd s ((k:Int) - x.2.2.1))).isSome) = true then [(k:Int) - x.2.2.1] else []:=rfl
    rw [hu]
    generalize hp':(k:Int) - x.2.2.1 = p at *
    have hm:((mvd s p).1, (mvd s p).2.1, (mvd s p).2.2.1, ()) = mvd s p:=rfl
    have hm2:(s.1, s.2.1, s.2.2.1, ()) = s:=rfl
    have hx2:((x.1.1, x.1.2.1, ()), x.2.1, x.2.2.1, x.2.2.2.1, ()) = x:=rfl
    simp only [s162_0_1, t162_0_1, Tr.val_test, Tr.val_fin, qar, hm2, hx2, g120, e1, w, Option.isSome_some, Option.getD_some, if_true, dT hk2]
    rcases Bool.eq_false_or_eq_true (prm x s p) with hp | hp
    · have hmo:=(prm_iff.1 hp).2.2
      have e2:=qh4 s p ⟨by omega, by omega⟩ ⟨by omega, by omega⟩ hk4
      have e3:=qkN hx hw hmo
      simp only [hp, if_true, g121, e2, hm, g119, e3, Option.isSome_some, Option.getD_some, Bool.true_and]
      rcases Bool.eq_false_or_eq_true (res x (mvd s p)).isSome with hh | hh
      · simp only [hh, if_true]
        rw [if_pos (by simp only [Bool.and_eq_true, qax]; omega)]
      · simp only [hh, Bool.false_eq_true, if_false, List.append_nil]
    · simp only [hp, Bool.false_eq_true, if_false, Bool.false_and, List.append_nil]
  · simp only [s162_0_1, t162_0_1, Tr.val_test, Tr.val_fin, qar]
    rw [if_neg (by simp; omega)]
theorem qqB (x:Lim) (s:Mot):f47 (x, s, ()) = some (if mE x s = 0 then (wys x s, 0, ()) else ([], mE x s, ())):=by
  have e1:=qij x s
  by_cases h:mE x s = 0
  · obtain ⟨hx, hw, hs⟩:=qgY h
    have a:=okL_iff.1 hx
    have hng:IntKind.wrap .i64 (0 - x.2.2.1) = -x.2.2.1:=qiI (by omega) (by omega)
    have e2:=qqM hx hw hs
    rw [if_pos h] at e1 ⊢
    simp only [f47, t47, Tr.val_test, Tr.val_fin, qa6, g118, e1, Option.isSome_some, Option.getD_some, if_true, decide_true, Bool.not_true, Bool.false_eq_true, if_false, hng]
    have hm2:(s.1, s.2.1, s.2.2.1, ()) = s:=rfl
    simp only [hm2, e2, qc2, b162_0_1, outB, Option.isSome_some, if_true]
  · rw [if_neg h] at e1 ⊢
    simp only [f47, t47, Tr.val_test, Tr.val_fin, qa6, g118, e1, Option.isSome_some, Option.getD_some, if_true, nT h]
end Go.Vm.Mo

namespace Go.Vm.Mo
open Go
set_option linter.unusedVariables false
set_option linter.unusedSimpArgs false
theorem qpe (x:List Int) (h:x.length ≤ 100000):f35 (x, ()) = some (x, ()):=by
  simp only [f35, t35, Tr.val_test, Tr.val_fin, List.nil_append]
  rw [if_pos (by simp only [Bool.and_eq_true, qax]; omega)]
def mo (s:Mot) (l:List Int):Nat → Mot
  | 0=>s
  | i + 1=>mvd (mo s l i) (l.getD i 0)
def bdP (x:Lim) (s:Mot) (l:List Int) (i:Nat):Bool:=!prm x (mo s l i) (l.getD i 0)
theorem qqL {x:Lim} {s:Mot} (hs:okM x s = true) {l:List Int}:∀ i, (∀ j, j < i → bdP x s l j = false) → okM x (mo s l i) = true
  | 0, _=>hs
  | i + 1, h=>by
    have h1:=h i (by omega)
    unfold bdP at h1
    exact (prm_iff.1 (show prm x (mo s l i) (l.getD i 0) = true by revert h1; cases prm x (mo s l i) (l.getD i 0) <;> simp)).2.2
theorem qkj {x:Lim} {s:Mot} {l:List Int} {i:Nat}:prm x (mo s l i) (l.getD i 0) = !bdP x s l i:=by unfold bdP; rw [Bool.not_not]
def stE (x:Lim) (s:Mot) (l:List Int):Int×Int:=match first (bdP x s l) l.length 0 with
  | some _=>(0, 24)
  | none=>if rest (mo s l l.length) = true then ((mo s l l.length).1, 0) else (0, 21)
theorem l42 {x:Lim} (hx:okL x = true) {s:Mot} (hs:okM x s = true) (l:List Int) (h:l.length ≤ 100000) :
    l42_0 ((l, (l.length:Int), (0:Int), ()), s, (x.1.1, x.1.2.1, x.2.1, x.2.2.1, x.2.2.2.1, ()), ()) = match first (bdP x s l) l.length 0 with
      | some k=>some (.inr ((0, 24, ()), mo s l k, (x.1.1, x.1.2.1, x.2.1, x.2.2.1, x.2.2.2.1, ()), ()))
      | none=>some (.inl ((), mo s l l.length, (x.1.1, x.1.2.1, x.2.1, x.2.2.1, x.2.2.2.1, ()), ())):=by
  refine qgZ (fun i=>((l, (l.length:Int), (i:Int), ()), mo s l i, (x.1.1, x.1.2.1, x.2.1, x.2.2.1, x.2.2.2.1, ()), ())) (bdP x s l) (fun k=>((0, 24, ()), mo s l k, (x.1.1, x.1.2.1, x.2.1, x.2.2.1, x.2.2.2.1, ()), ())) (n:=l.length) ?_ ?_ (qaR (by omega))
  · intro i hi hb
    have hok:=qqL hs i hb
    have bd:=qjH hx hok
    have a:=okL_iff.1 hx
    have e1:=qke hx hok (l.getD i 0)
    have hm2:((mo s l i).1, (mo s l i).2.1, (mo s l i).2.2.1, ()) = mo s l i:=rfl
    have hx2:((x.1.1, x.1.2.1, ()), x.2.1, x.2.2.1, x.2.2.2.1, ()) = x:=rfl
    have hmo:mo s l (i + 1) = mvd (mo s l i) (l.getD i 0):=rfl
    rw [qkj] at e1
    simp only [s42_0, t42_0, Tr.val_test, Tr.val_fin, qar, Int.toNat_natCast, hm2, hx2, g120, e1, Option.isSome_some, Option.getD_some, if_true, Bool.not_not, qbr (show i ≤ 9223372036854775806 by omega)]
    rw [if_pos (by simp; omega), if_pos (by simp; omega)]
    rcases Bool.eq_false_or_eq_true (bdP x s l i) with hp | hp
    · simp only [hp, if_true]
    · have hpr:prm x (mo s l i) (l.getD i 0) = true:=by rw [qkj, hp]; rfl
      have hp1:=(prm_iff.1 hpr).1
      have e2:=qh4 (mo s l i) (l.getD i 0) ⟨by omega, by omega⟩ ⟨by omega, by omega⟩ ⟨by omega, by omega⟩
      simp only [hp, Bool.false_eq_true, if_false, g121, e2, Option.isSome_some, Option.getD_some, if_true, hmo]
  · intro _
    simp [s42_0, t42_0, qar]
theorem qo5 (x:Lim) (s:Mot) (l:List Int) (h:l.length ≤ 100000):f42 (x, s, l, ()) = some (if mE x s = 0 then (if l.length ≤ 100 then ((stE x s l).1, (stE x s l).2, ()) else (0, 8, ())) else (0, mE x s, ())):=by
  have e1:=qij x s
  have w (b:Bool) (e:Int):f80 (b, e, ()) = some (if b = true then e else 0, ()):=qlk _
  have w1:=w (!decide ((l.length:Int) ≤ 100)) 8
  have hm2:(s.1, s.2.1, s.2.2.1, ()) = s:=rfl
  have hx2:((x.1.1, x.1.2.1, ()), x.2.1, x.2.2.1, x.2.2.2.1, ()) = x:=rfl
  by_cases h0:mE x s = 0
  · obtain ⟨hx, hw, hs⟩:=qgY h0
    rw [if_pos h0] at e1 ⊢
    have e2:=l42 hx hs l h
    by_cases hl:l.length ≤ 100
    · have z1:f79 ([0, if (!decide ((l.length:Int) ≤ 100)) = true then 8 else 0], ()) = some (0, ()):=by
        rw [qfb, nF (show (l.length:Int) ≤ 100 by omega)]; rfl
      rw [if_pos hl]
      simp only [f42, t42, Tr.val_test, Tr.val_fin, qar, qa6, hm2, hx2, g118, e1, g80, w1, g79, z1, Option.isSome_some, Option.getD_some, if_true, decide_true, Bool.not_true, Bool.false_eq_true, if_false]
      unfold stE
      cases hf:first (bdP x s l) l.length 0 with
      | some k =>
        rw [hf] at e2
        simp only [e2, qbT, r42_0, outR, Option.isSome_some, if_true]
      | none =>
        rw [hf] at e2
        have e3:=qnM (mo s l l.length)
        have hm3:((mo s l l.length).1, (mo s l l.length).2.1, (mo s l l.length).2.2.1, ()) = mo s l l.length:=rfl
        simp only [e2, qbT, b42_0, outB, Option.isSome_some, if_true, Bool.false_eq_true, if_false, hm3, g122, e3, Option.getD_some]
        cases rest (mo s l l.length) <;> rfl
    · have z1:f79 ([0, if (!decide ((l.length:Int) ≤ 100)) = true then 8 else 0], ()) = some (8, ()):=by
        rw [qfb, nT (show ¬ (l.length:Int) ≤ 100 by omega)]; rfl
      rw [if_neg hl]
      simp only [f42, t42, Tr.val_test, Tr.val_fin, qar, qa6, hm2, hx2, g118, e1, g80, w1, g79, z1, Option.isSome_some, Option.getD_some, if_true]
      rfl
  · rw [if_neg h0] at e1 ⊢
    have z1:f79 ([mE x s, if (!decide ((l.length:Int) ≤ 100)) = true then 8 else 0], ()) = some (mE x s, ()):=by
      rw [qfb]; simp only [qbm, if_neg h0]
    simp only [f42, t42, Tr.val_test, Tr.val_fin, qar, qa6, hm2, hx2, g118, e1, g80, w1, g79, z1, Option.isSome_some, Option.getD_some, if_true, nT h0]
theorem qm7 (x:Lim) (s:Mot):f40 (x, s, ()) = some (if mE x s = 0 then ((res x s).getD [], if (res x s).isSome = true then 0 else 12, ()) else ([], mE x s, ())):=by
  have e1:=qij x s
  have hm2:(s.1, s.2.1, s.2.2.1, ()) = s:=rfl
  have hx2:((x.1.1, x.1.2.1, ()), x.2.1, x.2.2.1, x.2.2.2.1, ()) = x:=rfl
  by_cases h0:mE x s = 0
  · obtain ⟨hx, hw, hs⟩:=qgY h0
    rw [if_pos h0] at e1 ⊢
    have e2:=qkN hx hw hs
    have w (b:Bool) (e:Int):f80 (b, e, ()) = some (if b = true then e else 0, ()):=qlk _
    have w1:=w (!(res x s).isSome) 12
    simp only [f40, t40, Tr.val_test, Tr.val_fin, qa6, hm2, hx2, g118, e1, g119, e2, g80, w1, Option.isSome_some, Option.getD_some, if_true, decide_true, Bool.not_true, Bool.false_eq_true, if_false]
    cases (res x s).isSome <;> rfl
  · rw [if_neg h0] at e1 ⊢
    simp only [f40, t40, Tr.val_test, Tr.val_fin, qa6, hm2, hx2, g118, e1, Option.isSome_some, Option.getD_some, if_true, nT h0]
theorem qo2 (x:Lim) (s:Mot):f41 (x, s, ()) = some (if mE x s = 0 then ((res x s).isSome, 0, ()) else (false, mE x s, ())):=by
  have e1:=qij x s
  have hm2:(s.1, s.2.1, s.2.2.1, ()) = s:=rfl
  have hx2:((x.1.1, x.1.2.1, ()), x.2.1, x.2.2.1, x.2.2.2.1, ()) = x:=rfl
  by_cases h0:mE x s = 0
  · obtain ⟨hx, hw, hs⟩:=qgY h0
    rw [if_pos h0] at e1 ⊢
    have e2:=qkN hx hw hs
    simp only [f41, t41, Tr.val_test, Tr.val_fin, qa6, hm2, hx2, g118, e1, g119, e2, Option.isSome_some, Option.getD_some, if_true, decide_true, Bool.not_true, Bool.false_eq_true, if_false]
  · rw [if_neg h0] at e1 ⊢
    simp only [f41, t41, Tr.val_test, Tr.val_fin, qa6, hm2, hx2, g118, e1, Option.isSome_some, Option.getD_some, if_true, nT h0]
end Go.Vm.Mo

namespace Go.Vm.Mo
open Go
set_option linter.unusedVariables false
set_option linter.unusedSimpArgs false
theorem qiC (x:Lim) (s:Mot) (p:Int) (l:List Int):∀ i, mo s (p :: l) (i + 1) = mo (mvd s p) l i
  | 0=>rfl
  | i + 1=>by
    show mvd (mo s (p :: l) (i + 1)) (l.getD i 0) = mvd (mo (mvd s p) l i) (l.getD i 0)
    rw [qiC x s p l i]
theorem qpm (x:Lim):∀ (l:List Int) (s:Mot), go x s l = match first (bdP x s l) l.length 0 with
    | some _=>none
    | none=>some (mo s l l.length)
  | [], s=>rfl
  | p :: l, s=>by
    have ih:=qpm x l (mvd s p)
    have hf:first (bdP x s (p :: l)) l.length (0 + 1) = (first (bdP x (mvd s p) l) l.length 0).map (· + 1):=by
      rw [qgy]
      congr 1
      refine qge fun j _ _=>?_
      show (!prm x (mo s (p :: l) (j + 1)) (l.getD j 0)) = !prm x (mo (mvd s p) l j) (l.getD j 0)
      rw [qiC x s p l j]
    have h0:bdP x s (p :: l) 0 = !prm x s p:=rfl
    simp only [go, List.length_cons, first, h0]
    cases hp:prm x s p with
    | false=>rfl
    | true =>
      simp only [Bool.not_true, Bool.false_eq_true, if_false, if_true]
      rw [hf, ih, qiC x s p l l.length]
      cases first (bdP x (mvd s p) l) l.length 0 <;> rfl
theorem qna {x:Lim} {s:Mot} {l:List Int} {c:Mot} (h:go x s l = some c):mo s l l.length = c ∧ ∀ i, i < l.length → prm x (mo s l i) (l.getD i 0) = true:=by
  rw [qpm] at h
  cases hf:first (bdP x s l) l.length 0 with
  | some k=>rw [hf] at h; cases h
  | none =>
    rw [hf] at h; cases h
    refine ⟨rfl, fun i hi=>?_⟩
    have:=qbJ hf i (by omega) (by omega)
    rw [qkj, this]; rfl
theorem stE_go {x:Lim} {s:Mot} {l:List Int}:((stE x s l).2 = 0 ↔ ∃ c, go x s l = some c ∧ rest c = true) ∧ ∀ c, go x s l = some c → rest c = true → stE x s l = (c.1, 0):=by
  unfold stE
  rw [qpm]
  cases first (bdP x s l) l.length 0 with
  | some k=>simp
  | none =>
    rcases Bool.eq_false_or_eq_true (rest (mo s l l.length)) with h | h
    · simp [h]
    · simp [h]
theorem qnb {s:Mot} {l:List Int} {i:Nat} (h:i ≤ l.length):∀ j, j ≤ i → mo s (l.take i) j = mo s l j
  | 0, _=>rfl
  | j + 1, hj=>by
    show mvd (mo s (l.take i) j) ((l.take i).getD j 0) = mvd (mo s l j) (l.getD j 0)
    rw [qnb h j (by omega)]
    congr 1
    simp [List.getD_eq_getElem?_getD, List.getElem?_take, show j < i by omega]
theorem qn6 {x:Lim} (hx:okL x = true) (hw:x.1.1 ≤ x.1.2.1) {s:Mot} (hs:okM x s = true) {l:List Int} (h:res x s = some l) {i:Nat} (hi:i ≤ l.length):okM x (mo s l i) = true ∧ ∃ m, res x (mo s l i) = some m ∧ m.length = l.length - i:=by
  obtain ⟨c, h1, h2⟩:=qfw hx hw hs h
  have hl:l = l.take i++l.drop i:=(List.take_append_drop i l).symm
  rw [hl, qk6] at h1
  cases hb:go x s (l.take i) with
  | none=>rw [hb] at h1; cases h1
  | some b =>
    rw [hb] at h1
    have h1:go x b (l.drop i) = some c:=h1
    have hbo:=qqy _ _ _ hs hb
    have hmo:mo s l i = b:=by
      have:=(qna hb).1
      rw [List.length_take, Nat.min_eq_left hi] at this
      rw [← this, qnb hi i (Nat.le_refl _)]
    rw [hmo]
    obtain ⟨m, h3, h4⟩:=qbP hx hw hbo h1 h2
    obtain ⟨c', h5, h6⟩:=qfw hx hw hbo h3
    obtain ⟨l0, h7, h8⟩:=qbP hx hw hs (l':=l.take i++m) (c:=c') (by rw [qk6, hb]; exact h5) h6
    rw [h] at h7; cases h7
    rw [List.length_append, List.length_take, Nat.min_eq_left hi] at h8
    rw [List.length_drop] at h4
    exact ⟨hbo, m, h3, by omega⟩
theorem qmU {x:Lim} {s:Mot}:∀ {k:Nat} {p:Int}, p ∈ wyU x s k ↔ ∃ i, i < k ∧ p = (i:Int) - x.2.2.1 ∧ prm x s p = true ∧ (res x (mvd s p)).isSome = true
  | 0, p=>by simp [wyU]
  | k + 1, p=>by
    rw [wyU, List.mem_append, qmU]
    constructor
    · rintro (⟨i, h1, h2⟩ | h)
      · exact ⟨i, by omega, h2⟩
      · split at h
        · rename_i hp
          rw [Bool.and_eq_true] at hp
          have:p = (k:Int) - x.2.2.1:=by simpa using h
          subst this
          exact ⟨k, by omega, rfl, hp.1, hp.2⟩
        · cases h
    · rintro ⟨i, h1, h2, h3, h4⟩
      by_cases hi:i = k
      · subst hi
        refine .inr ?_
        rw [← h2, if_pos (by rw [h3, h4]; rfl)]
        simp
      · exact .inl ⟨i, by omega, h2, h3, h4⟩
theorem wys_mem {x:Lim} {s:Mot} {p:Int}:p ∈ wys x s ↔ prm x s p = true ∧ (res x (mvd s p)).isSome = true:=by
  unfold wys
  rw [qmU]
  constructor
  · rintro ⟨i, _, _, h3, h4⟩; exact ⟨h3, h4⟩
  · rintro ⟨h1, h2⟩
    have:=(prm_iff.1 h1).1
    exact ⟨(p + x.2.2.1).toNat, by omega, by omega, h1, h2⟩
theorem qmY {x:Lim} {s:Mot}:∀ (k:Nat), (∀ p, p ∈ wyU x s k → p < (k:Int) - x.2.2.1) ∧ ∀ i, i + 1 < (wyU x s k).length → (wyU x s k).getD i 0 < (wyU x s k).getD (i + 1) 0
  | 0=>⟨by simp [wyU], by simp [wyU]⟩
  | k + 1=>by
    obtain ⟨h1, h2⟩:=qmY (x:=x) (s:=s) k
    unfold wyU
    split
    · refine ⟨fun p hp=>?_, fun i hi=>?_⟩
      · rcases List.mem_append.1 hp with hp | hp
        · have:=h1 p hp; omega
        · have:p = (k:Int) - x.2.2.1:=by simpa using hp
          omega
      · rw [List.length_append, List.length_singleton] at hi
        have hl:i < (wyU x s k).length:=by omega
        rw [List.getD_eq_getElem?_getD, List.getElem?_append_left hl, ← List.getD_eq_getElem?_getD]
        by_cases h3:i + 1 < (wyU x s k).length
        · rw [List.getD_eq_getElem?_getD (i:=i + 1), List.getElem?_append_left h3, ← List.getD_eq_getElem?_getD]
          exact h2 i h3
        · rw [List.getD_eq_getElem?_getD (i:=i + 1), List.getElem?_append_right (by omega), show i + 1 - (wyU x s k).length = 0 by omega]
          show _ < (k:Int) - x.2.2.1
          refine h1 _ ?_
          rw [List.getD_eq_getElem?_getD, List.getElem?_eq_getElem hl]
          exact List.getElem_mem hl
    · rw [List.append_nil]
      exact ⟨fun p hp=>by have:=h1 p hp; omega, h2⟩
end Go.Vm.Mo

namespace Go.Vm.Mo
open Go
set_option linter.unusedVariables false
set_option linter.unusedSimpArgs false
theorem l51 (l:List Int) (p:Int) (h:l.length ≤ 1000000):l51_0 ((l, p, (0:Int), ()), ()) = match first (fun i=>decide (l.getD i 0 = p)) l.length 0 with
    | some _=>some (.inr ((true, ()), ()))
    | none=>some (.inl ((), ())):=by
  refine qfg (fun i=>((l, p, (i:Int), ()), ())) (fun i=>decide (l.getD i 0 = p)) (fun _=>((true, ()), ())) (n:=l.length) ?_ ?_ (qaR (by omega))
  · intro i hi
    simp only [s51_0, t51_0, Tr.val_test, Tr.val_fin, qar, qa6, Int.toNat_natCast, qbr (show i ≤ 9223372036854775806 by omega)]
    rw [if_pos (by simp; omega), if_pos (by simp; omega)]
  · simp [s51_0, t51_0, qar]
theorem qpz {l:List Int} {p:Int} (h:l.length ≤ 1000000) (hp:p ∈ l):f51 (l, p, ()) = some (true, ()):=by
  have e:=l51 l p h
  cases hf:first (fun i=>decide (l.getD i 0 = p)) l.length 0 with
  | none =>
    obtain ⟨i, hi⟩:=List.getElem?_of_mem hp
    have hil:i < l.length:=(List.getElem?_eq_some_iff.1 hi).1
    have:=of_decide_eq_false (qbJ hf i (by omega) (by omega))
    rw [List.getD_eq_getElem?_getD, hi] at this
    exact absurd rfl this
  | some k =>
    rw [hf] at e
    simp only [f51, t51, Tr.val_test, Tr.val_fin, e, qbT, r51_0, outR, Option.isSome_some, if_true]
theorem qp4 {x:Lim} (hx:okL x = true) (hw:x.1.1 ≤ x.1.2.1) {s:Mot} (hs:okM x s = true):mE x s = 0:=by
  unfold mE lE
  rw [if_pos hx, if_pos hw, if_pos rfl, qol hx, if_pos hs]
theorem l90 {x:Lim} (hx:okL x = true) (hw:x.1.1 ≤ x.1.2.1) {s:Mot} (hs:okM x s = true) {l:List Int} (h:res x s = some l) :
    l9_0 ((l, (0:Int), ()), (x.1.1, x.1.2.1, x.2.1, x.2.2.1, x.2.2.2.1, ()), s, s, ()) = some (.inl ((l, ()), (x.1.1, x.1.2.1, x.2.1, x.2.2.1, x.2.2.2.1, ()), s, mo s l l.length, ())):=by
  have hlen:=(qip hx hw hs h).1
  obtain ⟨c, hg, hr⟩:=qfw hx hw hs h
  obtain ⟨_, hall⟩:=qna hg
  refine qcZ (fun i=>((l, (i:Int), ()), (x.1.1, x.1.2.1, x.2.1, x.2.2.1, x.2.2.2.1, ()), s, mo s l i, ())) (n:=l.length) ?_ ?_ (qaR (by omega))
  · intro i hi
    obtain ⟨ho, _⟩:=qn6 hx hw hs h (show i ≤ l.length by omega)
    obtain ⟨ho1, m, hm, hml⟩:=qn6 hx hw hs h (show i + 1 ≤ l.length by omega)
    have hp:=hall i hi
    have e1:=qpb hx ho (l.getD i 0)
    rw [if_pos hp] at e1
    have hmo:mvd (mo s l i) (l.getD i 0) = mo s l (i + 1):=rfl
    rw [hmo] at e1
    have e2:=qm7 x (mo s l (i + 1))
    rw [if_pos (qp4 hx hw ho1), hm] at e2
    have e2:f40 (x, mo s l (i + 1), ()) = some (m, 0, ()):=e2
    have hm2:((mo s l i).1, (mo s l i).2.1, (mo s l i).2.2.1, ()) = mo s l i:=rfl
    have hm3:((mo s l (i + 1)).1, (mo s l (i + 1)).2.1, (mo s l (i + 1)).2.2.1, ()) = mo s l (i + 1):=rfl
    have hx2:((x.1.1, x.1.2.1, ()), x.2.1, x.2.2.1, x.2.2.2.1, ()) = x:=rfl
    have w1:wrap64 ((l.length:Int) - (i:Int)) = (l.length:Int) - (i:Int):=qah (by omega) (by omega)
    have w2:wrap64 ((l.length:Int) - (i:Int) - 1) = (m.length:Int):=by rw [qah (by omega) (by omega)]; omega
    simp only [s9_0, t9_0, Tr.val_test, Tr.val_fin, qar, qa6, Int.toNat_natCast, hm2, hx2, g50, e1, hm3, g40, e2, Option.isSome_some, Option.getD_some, if_true, Bool.not_true, Bool.false_eq_true, if_false, decide_true, w1, w2, qbr (show i ≤ 9223372036854775806 by omega)]
    rw [if_pos (by simp; omega), if_pos (by simp; omega)]
    split <;> rfl
  · simp [s9_0, t9_0, qar]
theorem l92 {x:Lim} (hx:okL x = true) (hw:x.1.1 ≤ x.1.2.1) {s:Mot} (hs:okM x s = true) :
    l9_2 ((wys x s, (0:Int), ()), (x.1.1, x.1.2.1, x.2.1, x.2.2.1, x.2.2.2.1, ()), s, ()) = some (.inl ((), (x.1.1, x.1.2.1, x.2.1, x.2.2.1, x.2.2.2.1, ()), s, ())):=by
  have a:=okL_iff.1 hx
  have hlen:(wys x s).length ≤ 7:=by have:=qim x s (2 * x.2.2.1 + 1).toNat; unfold wys; omega
  have hasc:=(qmY (x:=x) (s:=s) (2 * x.2.2.1 + 1).toNat).2
  refine qcZ (fun i=>((wys x s, (i:Int), ()), (x.1.1, x.1.2.1, x.2.1, x.2.2.1, x.2.2.2.1, ()), s, ())) (n:=(wys x s).length) ?_ ?_ (qaR (by omega))
  · intro i hi
    have hmem:(wys x s).getD i 0 ∈ wys x s:=by
      rw [List.getD_eq_getElem?_getD, List.getElem?_eq_getElem hi]; exact List.getElem_mem hi
    obtain ⟨hp, hr⟩:=wys_mem.1 hmem
    have ho:=(prm_iff.1 hp).2.2
    have e1:=qpb hx hs ((wys x s).getD i 0)
    rw [if_pos hp] at e1
    have e2:=qo2 x (mvd s ((wys x s).getD i 0))
    rw [if_pos (qp4 hx hw ho), hr] at e2
    have hm2:(s.1, s.2.1, s.2.2.1, ()) = s:=rfl
    have hx2:((x.1.1, x.1.2.1, ()), x.2.1, x.2.2.1, x.2.2.2.1, ()) = x:=rfl
    have hm3:((mvd s ((wys x s).getD i 0)).1, (mvd s ((wys x s).getD i 0)).2.1, (mvd s ((wys x s).getD i 0)).2.2.1, ()) = mvd s ((wys x s).getD i 0):=rfl
    simp only [s9_2, t9_2, Tr.val_test, Tr.val_fin, qar, qa6, Int.toNat_natCast, hm2, hx2, g50, e1, hm3, g41, e2, Option.isSome_some, Option.getD_some, if_true, Bool.not_true, Bool.false_eq_true, if_false, decide_true, qbr (show i ≤ 9223372036854775806 by omega)]
    rw [if_pos (by simp; omega), if_pos (by simp; omega)]
    by_cases h0:i = 0
    · subst h0
      rw [if_neg (by simp)]
    · have w:wrap64 ((i:Int) - 1) = ((i - 1:Nat):Int):=by rw [qah (by omega) (by omega)]; omega
      have hlt:=hasc (i - 1) (show i - 1 + 1 < (wys x s).length by omega)
      rw [show i - 1 + 1 = i by omega] at hlt
      have hlt:(wys x s).getD (i - 1) 0 < (wys x s).getD i 0:=hlt
      rw [if_pos (by simp; omega), w]
      simp only [Int.toNat_natCast]
      rw [if_pos (by simp; omega), if_neg (by simp only [decide_eq_true_eq]; omega)]
  · simp [s9_2, t9_2, qar]
def wd (x:Lim):Lim:=((if -60 < x.1.1 - 2 then x.1.1 - 2 else -60, if x.1.2.1 + 2 < 60 then x.1.2.1 + 2 else 60, ()), if x.2.1 + 1 < 8 then x.2.1 + 1 else 8, if x.2.2.1 + 1 < 3 then x.2.2.1 + 1 else 3, if x.2.2.2.1 + 1 < 6 then x.2.2.2.1 + 1 else 6, ())
theorem qqQ {x:Lim} (hx:okL x = true) (hw:x.1.1 ≤ x.1.2.1):okL (wd x) = true ∧ (wd x).1.1 ≤ x.1.1 ∧ x.1.2.1 ≤ (wd x).1.2.1 ∧ x.2.1 ≤ (wd x).2.1 ∧ x.2.2.1 ≤ (wd x).2.2.1 ∧ x.2.2.2.1 ≤ (wd x).2.2.2.1:=by
  have a:=okL_iff.1 hx
  obtain ⟨⟨lo, hi, ⟨⟩⟩, sp, pu, je, ⟨⟩⟩:=x
  simp only at a hw
  rw [okL_iff]
  simp only [wd]
  refine ⟨⟨?_, ?_, ?_, ?_, ?_⟩, ?_, ?_, ?_, ?_, ?_⟩ <;> (split <;> omega)
theorem qop {x:Lim} (hx:okL x = true) (hw:x.1.1 ≤ x.1.2.1) {s:Mot} (hs:okM x s = true) {l:List Int} (h:res x s = some l):mE (wd x) s = 0 ∧ ∃ m, res (wd x) s = some m ∧ m.length ≤ l.length:=by
  obtain ⟨w0, w1, w2, w3, w4, w5⟩:=qqQ hx hw
  have b:=okM_iff.1 hs
  have hs':okM (wd x) s = true:=okM_iff.2 ⟨by omega, by omega, by omega⟩
  have hw':(wd x).1.1 ≤ (wd x).1.2.1:=by omega
  obtain ⟨c, hg, hr⟩:=qfw hx hw hs h
  exact ⟨qp4 w0 hw' hs', qbP w0 hw' hs' (qnr w1 w2 w3 w4 w5 l s c hg) hr⟩
end Go.Vm.Mo

namespace Go.Vm.Mo
open Go
set_option linter.unusedVariables false
set_option linter.unusedSimpArgs false
theorem qqn (x:Lim) (s:Mot) (l:List Int):f9 (x, s, l, ()) = some (true, ()):=by
  have hm2:(s.1, s.2.1, s.2.2.1, ()) = s:=rfl
  have hx2:((x.1.1, x.1.2.1, ()), x.2.1, x.2.2.1, x.2.2.2.1, ()) = x:=rfl
  have e44:=qqD x s
  simp only [f9, t9, Tr.val_test, Tr.val_fin, qar, qa6, hm2, hx2, g44, e44, Option.isSome_some, Option.getD_some, if_true]
  by_cases h0:mE x s = 0
  rotate_left
  · simp only [nT h0, if_true]
  obtain ⟨hx, hw, hs⟩:=qgY h0
  have a:=okL_iff.1 hx
  have wl:wrap64 (x.1.2.1 - x.1.1) = x.1.2.1 - x.1.1:=qah (by omega) (by omega)
  by_cases h40:x.1.2.1 - x.1.1 ≤ 40
  rotate_left
  · simp only [nF h0, wl, nT h40, Bool.false_eq_true, if_false, if_true]
  by_cases h100:(l.length:Int) ≤ 100
  rotate_left
  · simp only [nF h0, wl, nF h40, nT h100, Bool.false_eq_true, if_false, if_true]
  have e40:=qm7 x s
  have e41:=qo2 x s
  have e35:=qpe l (by omega)
  have e42:=qo5 x s l (by omega)
  rw [if_pos h0] at e40 e41 e42
  rw [if_pos (show l.length ≤ 100 by omega)] at e42
  cases hr:res x s with
  | none =>
    rw [hr] at e40 e41
    have hne:¬ (stE x s l).2 = 0:=by
      intro h
      obtain ⟨c, h1, h2⟩:=stE_go.1.1 h
      obtain ⟨m, h3, _⟩:=qbP hx hw hs h1 h2
      rw [hr] at h3; cases h3
    have e40:f40 (x, s, ()) = some ([], 12, ()):=e40
    have e41:f41 (x, s, ()) = some (false, 0, ()):=e41
    simp only [nF h0, wl, nF h40, nF h100, Bool.false_eq_true, if_false, g40, e40, g41, e41, g35, e35, g42, e42, Option.isSome_some, Option.getD_some, if_true, decide_true, Bool.not_true, nT hne]
    rfl
  | some m =>
    rw [hr] at e40 e41
    have e40:f40 (x, s, ()) = some (m, 0, ()):=e40
    have e41:f41 (x, s, ()) = some (true, 0, ()):=e41
    have hml:=(qip hx hw hs hr).1
    obtain ⟨c, hg, hrc⟩:=qfw hx hw hs hr
    have hmo:=(qna hg).1
    have e49:=qpf s
    have e49c:=qpf c
    rw [hrc] at e49c
    have hnil:(!(decide ((m.length:Int) = 0) == rest s)) = false:=by
      have:=qoP hx hw hs hr
      rcases Bool.eq_false_or_eq_true (rest s) with h | h
      · have:m = []:=this.2 h
        subst this; rw [h]; rfl
      · have:m ≠ []:=fun e=>by rw [this.1 e] at h; cases h
        have:¬ (m.length:Int) = 0:=fun e=>this (List.eq_nil_of_length_eq_zero (by omega))
        rw [h, dF this]; rfl
    have e90:=l90 hx hw hs hr
    rw [hmo] at e90
    have e47:=qqB x s
    rw [if_pos h0] at e47
    obtain ⟨hE, m2, hm2r, hm2l⟩:=qop hx hw hs hr
    have e40w:=qm7 (wd x) s
    rw [if_pos hE, hm2r] at e40w
    have e40w:f40 (wd x, s, ()) = some (m2, 0, ()):=e40w
    have w1:wrap64 (x.1.1 - 2) = x.1.1 - 2:=qah (by omega) (by omega)
    have w2:wrap64 (x.1.2.1 + 2) = x.1.2.1 + 2:=qah (by omega) (by omega)
    have w3:wrap64 (x.2.1 + 1) = x.2.1 + 1:=qah (by omega) (by omega)
    have w4:wrap64 (x.2.2.1 + 1) = x.2.2.1 + 1:=qah (by omega) (by omega)
    have w5:wrap64 (x.2.2.2.1 + 1) = x.2.2.2.1 + 1:=qah (by omega) (by omega)
    have hwd:((if -60 < x.1.1 - 2 then x.1.1 - 2 else -60, if x.1.2.1 + 2 < 60 then x.1.2.1 + 2 else 60, ()), if x.2.1 + 1 < 8 then x.2.1 + 1 else 8, if x.2.2.1 + 1 < 3 then x.2.2.1 + 1 else 3, if x.2.2.2.1 + 1 < 6 then x.2.2.2.1 + 1 else 6, ()) = wd x:=rfl
    have e92:=l92 hx hw hs
    have wlen:(wys x s).length ≤ 7:=by have:=qim x s (2 * x.2.2.1 + 1).toNat; unfold wys; omega
    have e51:0 < m.length → f51 (wys x s, m.getD 0 0, ()) = some (true, ()):=by
      intro h
      refine qpz (by omega) (wys_mem.2 ?_)
      obtain ⟨p, m', rfl⟩:∃ p m', m = p :: m':=by
        cases m with
        | nil=>cases h
        | cons p m'=>exact ⟨p, m', rfl⟩
      obtain ⟨h1, m'', h2, _⟩:=qog hx hw hs hr
      exact ⟨h1, by show (res x (mvd s p)).isSome = true; rw [h2]; rfl⟩
    have hcm:(c.1, c.2.1, c.2.2.1, ()) = c:=rfl
    have e35m:=qpe m (by omega)
    have e42m:m.length ≤ 100 → f42 (x, s, m, ()) = some (c.1, 0, ()):=by
      intro h
      have e:=qo5 x s m (by omega)
      rw [if_pos h0, if_pos h, stE_go.2 c hg hrc] at e
      exact e
    have acc:(stE x s l).2 = 0 → m.length ≤ l.length:=by
      intro h
      obtain ⟨c', h1, h2⟩:=stE_go.1.1 h
      obtain ⟨m', h3, h4⟩:=qbP hx hw hs h1 h2
      rw [hr] at h3; cases h3; exact h4
    have k1:(!decide ((m.length:Int) ≤ 20000)) = false:=nF (by omega)
    have k2:(!decide ((m2.length:Int) ≤ (m.length:Int))) = false:=nF (by omega)
    simp only [nF h0, wl, nF h40, nF h100, Bool.false_eq_true, if_false, g40, e40, g41, e41, g35, e35, g42, e42, Option.isSome_some, Option.getD_some, if_true, decide_true, Bool.not_true, beq_self_eq_true,
      k1, g49, e49, hnil, e90, qbT, b9_0, outB, hx2, hm2, hcm, e49c, w1, w2, w3, w4, w5, hwd, e40w, g47, e47, k2, e92, e35m]
    by_cases hm100:(m.length:Int) ≤ 100
    · have e:=e42m (by omega)
      by_cases hp:0 < m.length
      · have e5:=e51 hp
        have t1:(!decide ((m.length:Int) ≤ 0)) = true:=nT (by omega)
        have t2:decide ((0:Int) < (m.length:Int)) = true:=dT (by omega)
        by_cases hac:(stE x s l).2 = 0
        · have t3:(!decide ((m.length:Int) ≤ (l.length:Int))) = false:=nF (by have:=acc hac; omega)
          simp only [dT hac, dT hm100, t3, e, t1, t2, e5, g51, Bool.and_self, Option.isSome_some, Option.getD_some, if_true, decide_true, Bool.not_true, Bool.false_eq_true, if_false]
        · simp only [dF hac, dT hm100, e, t1, t2, e5, g51, Bool.and_self, Option.isSome_some, Option.getD_some, if_true, decide_true, Bool.not_true, Bool.false_eq_true, if_false]
      · have t1:(!decide ((m.length:Int) ≤ 0)) = false:=nF (by omega)
        by_cases hac:(stE x s l).2 = 0
        · have t3:(!decide ((m.length:Int) ≤ (l.length:Int))) = false:=nF (by have:=acc hac; omega)
          simp only [dT hac, dT hm100, t3, e, t1, Option.isSome_some, Option.getD_some, if_true, decide_true, Bool.not_true, Bool.false_eq_true, if_false]
        · simp only [dF hac, dT hm100, e, t1, Option.isSome_some, Option.getD_some, if_true, decide_true, Bool.not_true, Bool.false_eq_true, if_false]
    · have hp:0 < m.length:=by omega
      have e5:=e51 hp
      have t1:(!decide ((m.length:Int) ≤ 0)) = true:=nT (by omega)
      have t2:decide ((0:Int) < (m.length:Int)) = true:=dT (by omega)
      by_cases hac:(stE x s l).2 = 0
      · have t3:(!decide ((m.length:Int) ≤ (l.length:Int))) = false:=nF (by have:=acc hac; omega)
        simp only [dT hac, dF hm100, t3, t1, t2, e5, g51, Bool.and_self, Option.isSome_some, Option.getD_some, if_true, decide_true, Bool.not_true, Bool.false_eq_true, if_false]
      · simp only [dF hac, dF hm100, t1, t2, e5, g51, Bool.and_self, Option.isSome_some, Option.getD_some, if_true, decide_true, Bool.not_true, Bool.false_eq_true, if_false]
theorem law9 (d:Tys.data as9) (hw:Tys.Wf as9 d):qmm Go.Proofs.Tryz.prog 9 as9 [.bool] d (true, ()):=by
  have h:=qqn d.1 d.2.1 d.2.2.1
  have hp:p9.pre d = true:=by
    show Option.isSome (f9 d) = true
    rw [show f9 d = some (true, ()) from h]; rfl
  have hg:p9.fn d = (true, ()):=by
    show (f9 d).getD _ = _
    rw [show f9 d = some (true, ()) from h]; rfl
  have:=ok9.runs d hp
  rw [hg] at this
  exact this
end Go.Vm.Mo
