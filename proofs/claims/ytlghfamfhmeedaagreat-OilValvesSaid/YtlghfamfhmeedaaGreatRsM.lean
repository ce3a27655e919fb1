import Derived.Test.YtlghfamfhmeedaaGreatRsFb
import Derived.Test.YtlghfamfhmeedaaGreatRsS
import Derived.Test.YtlghfamfhmeedaaGreatA5
import Derived.Test.YtlghfamfhmeedaaGreatRsFc
set_option linter.unusedVariables false
set_option linter.unusedSimpArgs false

namespace Go.Vm.Mo
open Go
set_option linter.unusedVariables false
set_option linter.unusedSimpArgs false
theorem dT {p:Prop} [Decidable p] (h:p):decide p = true:=decide_eq_true h
theorem dF {p:Prop} [Decidable p] (h:¬ p):decide p = false:=decide_eq_false h
theorem nT {p:Prop} [Decidable p] (h:¬ p):(!decide p) = true:=by rw [decide_eq_false h]; rfl
theorem nF {p:Prop} [Decidable p] (h:p):(!decide p) = false:=by rw [decide_eq_true h]; rfl
theorem dA {p q:Prop} [Decidable p] [Decidable q] (h:p) (k:q):(decide p && decide q) = true:=by rw [decide_eq_true h,decide_eq_true k]; rfl
def low (a b:Int):Int×Int×Unit:=(a.tdiv (Int.gcd a b),b.tdiv (Int.gcd a b),())
theorem qdw {n:Int} (h1:-9223372036854775808 ≤ n) (h2:n ≤ 9223372036854775807):IntKind.wrap .i64 n = n:=by rw [← qct,qab h1 h2]
theorem qph (a b:Int) (ha:a.natAbs ≤ 9223372036854775807) (hb:b.natAbs ≤ 9223372036854775807):IntKind.wrap .i64 (a.tdiv (Int.gcd a b)) = (low a b).1 ∧ IntKind.wrap .i64 (b.tdiv (Int.gcd a b)) = (low a b).2.1:=by
  have h1:=qgx a (Int.gcd a b)
  have h2:=qgx b (Int.gcd a b)
  exact ⟨qdw (by omega) (by omega),qdw (by omega) (by omega)⟩
theorem qrY (x:Int) (h:x.natAbs ≤ 9223372036854775807):f185 (x,()) = some ((x.natAbs:Int),()):=by
  simp only [f185,t185,Tr.val_fin]
  rw [qdw (by omega) (by omega)]
  have e:(if x < 0 - x then 0 - x else x) = (x.natAbs:Int):=by split <;> omega
  rw [e]
theorem qr2 {n:Nat} (h:n ≤ 9223372036854775808):n < rounds:=by unfold rounds; omega
theorem qjo (bad:Nat → Bool):∀ (n i:Nat),first bad n (i + 1) = (first (fun k=>bad (k + 1)) n i).map (· + 1)
  | 0, _=>rfl
  | n + 1, i=>by
    simp only [first]
    split
    · rfl
    · exact qjo bad n (i + 1)
def qbK:List Int → Int
  | []=>0
  | a :: l=>if a = 0 then qbK l else a
theorem qhF:∀ l:List Int,(match first (fun i=>!decide (l.getD i 0 = 0)) l.length 0 with
    | some k=>l.getD k 0
    | none=>0) = qbK l
  | []=>rfl
  | a :: l=>by
    simp only [List.length,first,qbK]
    by_cases ha:a = 0
    · subst ha
      have e:=qhF l
      have hf:first (fun i=>!decide (((0:Int) :: l).getD i 0 = 0)) l.length (0 + 1) = (first (fun i=>!decide (l.getD i 0 = 0)) l.length 0).map (· + 1):=by
        rw [qjo]; rfl
      simp only [hf,List.getD_cons_zero,decide_true,Bool.not_true,Bool.false_eq_true,if_false,if_true]
      rw [← e]
      cases first (fun i=>!decide (l.getD i 0 = 0)) l.length 0 with
      | none=>rfl
      | some k=>rfl
    · simp [ha]
theorem l94 (l:List Int) (h:l.length ≤ 1000000000):l94_0 ((l,(l.length:Int),(0:Int),()),()) = match first (fun i=>!decide (l.getD i 0 = 0)) l.length 0 with
    | some k=>some (.inr ((l.getD k 0, ()), ()))
    | none=>some (.inl ((), ())):=by
  refine qcg (fun i=>((l,(l.length:Int),(i:Int),()),())) (fun i=>!decide (l.getD i 0 = 0)) (fun k=>((l.getD k 0,()),())) (n:=l.length) ?_ ?_ (qam (by omega))
  · intro i hi
    simp only [s94_0,t94_0,Tr.val_test,qaf,qau]
    rw [if_pos (by simp; omega),if_pos (by simp; omega)]
    simp only [Int.toNat_natCast,qay (show i ≤ 9223372036854775806 by omega)]
    rfl
  · simp [s94_0,t94_0,qaf]
theorem qht (l:List Int) (h:l.length ≤ 1000000000):f94 (l,()) = some (qbK l,()):=by
  simp only [f94,t94,Tr.val_test,r94_0,l94 l h,← qhF l]
  cases first (fun i=>!decide (l.getD i 0 = 0)) l.length 0 with
  | none=>rfl
  | some k=>rfl
theorem qlq (d:Tys.data as95):f95 d = some (if d.1 = true then d.2.1 else (0:Int), ()):=by
  simp only [f95,t95,Tr.val_test]
  split <;> rfl
def wi (lo hi x:Int):Bool:=decide (lo ≤ x) && decide (x ≤ hi)
theorem wi_iff {lo hi x:Int}:wi lo hi x = true ↔ lo ≤ x ∧ x ≤ hi:=by simp [wi]
theorem qm7 (d:Tys.data as20):f20 d = some (wi d.2.1 d.2.2.1 d.1, ()):=by
  simp only [f20,t20,Tr.val_test,Tr.val_fin,qaf,decide_eq_true_eq,wi]
  split <;> simp [*]
theorem l93 (lo hi:Int) (l:List Int) (h:l.length ≤ 1000000000):l93_0 ((lo,hi,l,(l.length:Int),(0:Int),()),()) = match first (fun i=>!wi lo hi (l.getD i 0)) l.length 0 with
    | some _=>some (.inr ((false, ()), ()))
    | none=>some (.inl ((), ())):=by
  refine qcg (fun i=>((lo,hi,l,(l.length:Int),(i:Int),()),())) (fun i=>!wi lo hi (l.getD i 0)) (fun _=>((false,()),())) (n:=l.length) ?_ ?_ (qam (by omega))
  · intro i hi'
    simp only [s93_0,t93_0,Tr.val_test,Tr.val_fin,qaf,Int.toNat_natCast,qay (show i ≤ 9223372036854775806 by omega)]
    rw [if_pos (by simp; omega),if_pos (by simp; omega)]
    by_cases a0:lo ≤ l.getD i 0
    · by_cases a1:l.getD i 0 ≤ hi
      · simp only [wi,a0,a1,decide_true,Bool.and_self,Bool.not_true,if_true,if_false,Bool.false_eq_true]
      · simp only [wi,a0,a1,decide_true,decide_false,Bool.and_false,Bool.not_false,Bool.not_true,if_true,if_false,Bool.false_eq_true]
    · simp only [wi,a0,decide_false,Bool.false_and,Bool.not_false,if_true,if_false,Bool.false_eq_true]
  · simp [s93_0,t93_0,qaf]
theorem qoK (lo hi:Int) (l:List Int) (h:l.length ≤ 1000000000):f93 (lo,hi,l,()) = some ((first (fun i=>!wi lo hi (l.getD i 0)) l.length 0).isNone,()):=by
  have hl:=l93 lo hi l h
  cases hf:first (fun i=>!wi lo hi (l.getD i 0)) l.length 0 with
  | none =>
    rw [hf] at hl
    simp only [f93,t93,Tr.val_test,Tr.val_fin,hl,qb5,Option.isSome_some,Option.isNone_none,if_true,Bool.false_eq_true,if_false]
  | some k =>
    rw [hf] at hl
    simp only [f93,t93,Tr.val_test,Tr.val_fin,hl,qb5,r93_0,outR,Option.isSome_some,Option.isNone_some,if_true]
theorem qny (lo hi a:Int):f93 (lo,hi,[a],()) = some (wi lo hi a,()):=by
  rw [qoK lo hi _ (by simp)]
  simp only [first,List.length,List.getD_cons_zero]
  by_cases h1:wi lo hi a = true
  · simp [h1]
  · simp [h1]
theorem qot (lo hi a b:Int):f93 (lo,hi,[a,b],()) = some (wi lo hi a && wi lo hi b,()):=by
  rw [qoK lo hi _ (by simp)]
  simp only [first,List.length,List.getD_cons_zero,List.getD_cons_succ]
  by_cases h1:wi lo hi a = true
  · by_cases h2:wi lo hi b = true
    · simp [h1,h2]
    · simp [h1,h2]
  · simp [h1]
theorem wn64 {x:Int} (h1:-9223372036854775807 ≤ x) (h2:x ≤ 9223372036854775807):IntKind.wrap .i64 (0 - x) = -x:=by
  rw [← qct,qab (by omega) (by omega)]
  omega
end Go.Vm.Mo

namespace Go.Vm.Mo
open Go
set_option linter.unusedVariables false
set_option linter.unusedSimpArgs false
abbrev Fl:=Int×Int×Int×Unit
def vd (l:List Fl) (i:Nat):Int:=(l.getD i ((0:Int), (0:Int), (0:Int), ())).1
def vlo (l:List Fl) (i:Nat):Int:=(l.getD i ((0:Int), (0:Int), (0:Int), ())).2.1
def vhi (l:List Fl) (i:Nat):Int:=(l.getD i ((0:Int), (0:Int), (0:Int), ())).2.2.1
def wdn (l:List Fl) (i:Nat):Bool:=if i = 0 then decide (vd l 0 = 0) else decide (vd l (i - 1) < vd l i) && (decide (vlo l (i - 1) ≤ vlo l i) && decide (vhi l (i - 1) ≤ vhi l i))
def vE (l:List Fl) (i:Nat):Int:=if (wi 0 1000 (vd l i) && (wi 0 50 (vlo l i) && wi 0 50 (vhi l i))) = true then (if (decide (vlo l i ≤ vhi l i) && wdn l i) = true then 0 else 9) else 2
theorem qmT (l:List Fl) (i:Nat):vE l i = if (wi 0 1000 (l.getD i ((0:Int), (0:Int), (0:Int), ())).1 && (wi 0 50 (l.getD i ((0:Int), (0:Int), (0:Int), ())).2.1 && wi 0 50 (l.getD i ((0:Int), (0:Int), (0:Int), ())).2.2.1)) = true then (if (decide ((l.getD i ((0:Int), (0:Int), (0:Int), ())).2.1 ≤ (l.getD i ((0:Int), (0:Int), (0:Int), ())).2.2.1) && wdn l i) = true then 0 else 9) else 2:=rfl
theorem qoW (l:List Fl) (i:Nat):wdn l i = if i = 0 then decide ((l.getD 0 ((0:Int), (0:Int), (0:Int), ())).1 = 0) else decide ((l.getD (i - 1) ((0:Int), (0:Int), (0:Int), ())).1 < (l.getD i ((0:Int), (0:Int), (0:Int), ())).1) && (decide ((l.getD (i - 1) ((0:Int), (0:Int), (0:Int), ())).2.1 ≤ (l.getD i ((0:Int), (0:Int), (0:Int), ())).2.1) && decide ((l.getD (i - 1) ((0:Int), (0:Int), (0:Int), ())).2.2.1 ≤ (l.getD i ((0:Int), (0:Int), (0:Int), ())).2.2.1)):=rfl
theorem qp6 (l:List Fl) (i:Nat) (h:i < l.length) (hs:l.length ≤ 1000000):f140 (l,(i:Int),()) = some (wdn l i,()):=by
  have b1:(decide ((0:Int) ≤ (i:Int)) && decide ((i:Int) < (l.length:Int))) = true:=dA (by omega) (by omega)
  rcases Nat.eq_zero_or_pos i with e | e
  · subst e
    have b0:(decide ((0:Int) ≤ ((0:Nat):Int)) && decide (((0:Nat):Int) < (l.length:Int))) = true:=dA (by omega) (by omega)
    simp only [f140,t140,qau,b0,Tr.val_test,Tr.val_fin,wdn,if_true,vd,Int.toNat_natCast]
    rfl
  · have z:decide ((i:Int) = 0) = false:=dF (by omega)
    have w:wrap64 ((i:Int) - 1) = ((i - 1:Nat):Int):=by rw [qab (by omega) (by omega)]; omega
    have b2:(decide ((0:Int) ≤ ((i - 1:Nat):Int)) && decide (((i - 1:Nat):Int) < (l.length:Int))) = true:=dA (by omega) (by omega)
    simp only [f140,t140,qau,qaf,z,b1,w,b2,Tr.val_test,Tr.val_fin,if_true,Bool.false_eq_true,if_false,Int.toNat_natCast,wdn,if_neg (show ¬ i = 0 by omega)]
    show (if (!decide (vd l i ≤ vd l (i - 1))) = true then if decide (vlo l (i - 1) ≤ vlo l i) = true then some (decide (vhi l (i - 1) ≤ vhi l i),()) else some (false,()) else some (false,())) = _
    by_cases h1:vd l (i - 1) < vd l i
    · rw [nT (show ¬ vd l i ≤ vd l (i - 1) by omega),dT h1,if_pos rfl,Bool.true_and]
      by_cases h2:vlo l (i - 1) ≤ vlo l i
      · rw [dT h2,if_pos rfl,Bool.true_and]
      · rw [dF h2,if_neg (by decide),Bool.false_and]
    · rw [nF (show vd l i ≤ vd l (i - 1) by omega),dF h1,if_neg (by decide),Bool.false_and]
theorem l138 (l:List Fl) (h:l.length ≤ 1000000):l138_0 ((l,(l.length:Int),(0:Int),()),(l,()),()) = match first (fun i=>!decide (vE l i = 0)) l.length 0 with
    | some k=>some (.inr (((k:Int), vE l k, ()), (l, ()), ()))
    | none=>some (.inl ((), (l, ()), ())):=by
  refine qcg (fun i=>((l,(l.length:Int),(i:Int),()),(l,()),())) (fun i=>!decide (vE l i = 0)) (fun k=>(((k:Int),vE l k,()),(l,()),())) (n:=l.length) ?_ ?_ (qam (by omega))
  · intro i hi
    have e140:=qp6 l i hi h
    have e1:=qny 0 1000 (vd l i)
    have e2:=qot 0 50 (vlo l i) (vhi l i)
    have e94:∀ x y:Int,f94 ([x,y],()) = some (qbK [x,y],()):=fun x y=>qht _ (by simp)
    simp only [vd,vlo,vhi] at e1 e2
    have hv:=qmT l i
    have q1:(!decide ((l.length:Int) ≤ (i:Int))) = true:=nT (by omega)
    have b1:(decide ((0:Int) ≤ (i:Int)) && decide ((i:Int) < (l.length:Int))) = true:=dA (by omega) (by omega)
    simp only [s138_0,t138_0,q1,b1,Tr.val_test,Tr.val_fin,Tr.val_stop,if_true,Int.toNat_natCast,qay (show i ≤ 9223372036854775806 by omega),g93,e1,e2,g95,qlq,g94,e94,g140,e140,Option.isSome_some,Option.getD_some,qau,qaf,qbK,hv]
    rcases Bool.eq_false_or_eq_true (wi 0 1000 (l.getD i ((0:Int), (0:Int), (0:Int), ())).1) with hA | hA <;> rcases Bool.eq_false_or_eq_true (wi 0 50 (l.getD i ((0:Int), (0:Int), (0:Int), ())).2.1 && wi 0 50 (l.getD i ((0:Int), (0:Int), (0:Int), ())).2.2.1) with hB | hB <;> rcases Bool.eq_false_or_eq_true (decide ((l.getD i ((0:Int), (0:Int), (0:Int), ())).2.1 ≤ (l.getD i ((0:Int), (0:Int), (0:Int), ())).2.2.1)) with hC | hC <;> rcases Bool.eq_false_or_eq_true (wdn l i) with hD | hD <;> simp only [hA, hB, hC, hD] <;> rfl
  · have q1:(!decide ((l.length:Int) ≤ (l.length:Int))) = false:=nF (by omega)
    simp only [s138_0,t138_0,qaf,q1,Tr.val_test,Tr.val_fin,Bool.false_eq_true,if_false]
def nE (n:Nat):Int:=if n < 2 then 10 else if 8 < n then 8 else 0
theorem qrJ (n:Nat):f90 ((n:Int),()) = some (nE n,()):=by
  have e94:∀ x y:Int,f94 ([x,y],()) = some (qbK [x,y],()):=fun x y=>qht _ (by simp)
  simp only [f90,t90,g95,qlq,g94,e94,qaf,Option.isSome_some,Option.getD_some,Tr.val_test,Tr.val_fin,if_true,qbK,nE]
  by_cases h1:n < 2
  · rw [nT (show ¬ (2:Int) ≤ (n:Int) by omega),if_pos h1]; rfl
  · rw [nF (show (2:Int) ≤ (n:Int) by omega),if_neg h1]
    by_cases h2:8 < n
    · rw [nT (show ¬ (n:Int) ≤ 8 by omega),if_pos h2]; rfl
    · rw [nF (show (n:Int) ≤ 8 by omega),if_neg h2]; rfl
def vC (l:List Fl):Int×Int×Unit:=if nE l.length = 0 then (match first (fun i=>!decide (vE l i = 0)) l.length 0 with
  | some k=>((k:Int), vE l k, ())
  | none=>(0, 0, ())) else (0, nE l.length, ())
theorem qpI (l:List Fl) (h:l.length ≤ 1000000):f71 (l,()) = some (vC l):=by
  have e:=qrJ l.length
  have e1:=l138 l h
  simp only [f71,t71,g90,e,qau,Option.isSome_some,Option.getD_some,Tr.val_test,Tr.val_fin,if_true,vC]
  by_cases z:nE l.length = 0
  · rw [nF z,if_neg (by decide),if_pos z]
    cases hf:first (fun i=>!decide (vE l i = 0)) l.length 0 with
    | none =>
      rw [hf] at e1
      simp only [e1,qb5,Option.isSome_some,if_true,Bool.false_eq_true,if_false]
    | some k =>
      rw [hf] at e1
      simp only [e1,qb5,r138_0,outR,Option.isSome_some,if_true]
  · rw [nT z,if_pos rfl,if_neg z]
end Go.Vm.Mo

namespace Go.Vm.Mo
open Go
set_option linter.unusedVariables false
set_option linter.unusedSimpArgs false
theorem qp0 (d:Tys.data as36):f36 d = some (if wi 0 50 d.1 = true then (0:Int) else 2, ()):=by
  simp only [f36,t36,g20,qm7,Option.isSome_some,Option.getD_some,Tr.val_test,Tr.val_fin,if_true]
  rcases Bool.eq_false_or_eq_true (wi 0 50 d.1) with h | h <;> simp only [h] <;> rfl
theorem qrM (l:List Fl) (h:l.length ≤ 1000):f72 (l,()) = some (l,()):=by
  simp only [f72,t72,Tr.val_test,Tr.val_fin,Tr.val_stop,List.nil_append]
  rw [if_pos (by simp only [Bool.and_eq_true,qa3]; omega),if_pos (by rw [qjD]; omega)]
theorem l75 (l:List Fl) (h:l.length ≤ 1000000):l75_0 ((l,(0:Int),()),()) = match first (fun i=>!decide (vE l i = 0)) l.length 0 with
    | some k=>some (.inr (((k:Int), vE l k, ()), ()))
    | none=>some (.inl ((), ())):=by
  refine qcg (fun i=>((l,(i:Int),()),())) (fun i=>!decide (vE l i = 0)) (fun k=>(((k:Int),vE l k,()),())) (n:=l.length) ?_ ?_ (qam (by omega))
  · intro i hi
    have hv:=qmT l i
    have hw:=qoW l i
    have q1:(!decide ((l.length:Int) ≤ (i:Int))) = true:=nT (by omega)
    have b1:(decide ((0:Int) ≤ (i:Int)) && decide ((i:Int) < (l.length:Int))) = true:=dA (by omega) (by omega)
    have o1:(decide ((l.getD i ((0:Int), (0:Int), (0:Int), ())).2.1 ≤ (l.getD i ((0:Int), (0:Int), (0:Int), ())).2.2.1)) = decide (vlo l i ≤ vhi l i):=rfl
    simp only [s75_0,t75_0,q1,b1,Tr.val_test,Tr.val_fin,Tr.val_stop,if_true,Int.toNat_natCast,qay (show i ≤ 9223372036854775806 by omega),g20,qm7,g36,qp0,Option.isSome_some,Option.getD_some,qau,qaf,hv,hw]
    rcases Nat.eq_zero_or_pos i with e | e
    · subst e
      have z:decide (((0:Nat):Int) = 0) = true:=rfl
      have z2:(!decide (((0:Nat):Int) ≤ 0)) = false:=rfl
      simp only [z,z2,if_true,Bool.false_eq_true,if_false]
      rcases Bool.eq_false_or_eq_true (wi 0 1000 (l.getD 0 ((0:Int), (0:Int), (0:Int), ())).1) with hA | hA <;> rcases Bool.eq_false_or_eq_true (wi 0 50 (l.getD 0 ((0:Int), (0:Int), (0:Int), ())).2.1) with hB | hB <;> rcases Bool.eq_false_or_eq_true (wi 0 50 (l.getD 0 ((0:Int), (0:Int), (0:Int), ())).2.2.1) with hB' | hB' <;> rcases Bool.eq_false_or_eq_true (decide ((l.getD 0 ((0:Int), (0:Int), (0:Int), ())).2.1 ≤ (l.getD 0 ((0:Int), (0:Int), (0:Int), ())).2.2.1)) with hC | hC <;> rcases Bool.eq_false_or_eq_true (decide ((l.getD 0 ((0:Int), (0:Int), (0:Int), ())).1 = 0)) with hD | hD <;> simp only [hA, hB, hB', hC, hD] <;> rfl
    · have z:decide ((i:Int) = 0) = false:=dF (by omega)
      have z2:(!decide ((i:Int) ≤ 0)) = true:=nT (by omega)
      have w:wrap64 ((i:Int) - 1) = ((i - 1:Nat):Int):=by rw [qab (by omega) (by omega)]; omega
      have b2:(decide ((0:Int) ≤ ((i - 1:Nat):Int)) && decide (((i - 1:Nat):Int) < (l.length:Int))) = true:=dA (by omega) (by omega)
      simp only [z,z2,w,b2,if_true,Bool.false_eq_true,if_false,Int.toNat_natCast,if_neg (show ¬ i = 0 by omega)]
      have hlt:decide ((l.getD (i - 1) ((0:Int), (0:Int), (0:Int), ())).1 < (l.getD i ((0:Int), (0:Int), (0:Int), ())).1) = !decide ((l.getD i ((0:Int), (0:Int), (0:Int), ())).1 ≤ (l.getD (i - 1) ((0:Int), (0:Int), (0:Int), ())).1):=by
        by_cases k:(l.getD i ((0:Int), (0:Int), (0:Int), ())).1 ≤ (l.getD (i - 1) ((0:Int), (0:Int), (0:Int), ())).1
        · rw [nF k,dF (by omega)]
        · rw [nT k,dT (by omega)]
      simp only [hlt]
      rcases Bool.eq_false_or_eq_true (wi 0 1000 (l.getD i ((0:Int), (0:Int), (0:Int), ())).1) with hA | hA
      · rcases Bool.eq_false_or_eq_true (wi 0 50 (l.getD i ((0:Int), (0:Int), (0:Int), ())).2.1) with hB | hB
        · rcases Bool.eq_false_or_eq_true (wi 0 50 (l.getD i ((0:Int), (0:Int), (0:Int), ())).2.2.1) with hB' | hB'
          · rcases Bool.eq_false_or_eq_true (decide ((l.getD i ((0:Int), (0:Int), (0:Int), ())).2.1 ≤ (l.getD i ((0:Int), (0:Int), (0:Int), ())).2.2.1)) with hC | hC
            · rcases Bool.eq_false_or_eq_true (decide ((l.getD i ((0:Int), (0:Int), (0:Int), ())).1 ≤ (l.getD (i - 1) ((0:Int), (0:Int), (0:Int), ())).1)) with hD | hD <;> rcases Bool.eq_false_or_eq_true (decide ((l.getD (i - 1) ((0:Int), (0:Int), (0:Int), ())).2.1 ≤ (l.getD i ((0:Int), (0:Int), (0:Int), ())).2.1)) with hE | hE <;> rcases Bool.eq_false_or_eq_true (decide ((l.getD (i - 1) ((0:Int), (0:Int), (0:Int), ())).2.2.1 ≤ (l.getD i ((0:Int), (0:Int), (0:Int), ())).2.2.1)) with hF | hF <;> simp only [hA, hB, hB', hC, hD, hE, hF] <;> rfl
            · simp only [hA,hB,hB',hC]; rfl
          · simp only [hA,hB,hB']; rfl
        · simp only [hA,hB]; rfl
      · simp only [hA]; rfl
  · have q1:(!decide ((l.length:Int) ≤ (l.length:Int))) = false:=nF (by omega)
    simp only [s75_0,t75_0,qaf,q1,Tr.val_test,Tr.val_fin,Bool.false_eq_true,if_false]
theorem qrz (l:List Fl) (h:l.length ≤ 1000000):f75 (l,()) = some (vC l):=by
  have e1:=l75 l h
  simp only [f75,t75,qaf,Tr.val_test,Tr.val_fin,vC]
  by_cases h1:l.length < 2
  · have z:nE l.length = 10:=if_pos h1
    rw [nT (show ¬ (2:Int) ≤ (l.length:Int) by omega),if_pos rfl,if_neg (by rw [z]; decide),z]
  · rw [nF (show (2:Int) ≤ (l.length:Int) by omega),if_neg (by decide)]
    by_cases h2:8 < l.length
    · have z:nE l.length = 8:=by unfold nE; rw [if_neg h1,if_pos h2]
      rw [nT (show ¬ (l.length:Int) ≤ 8 by omega),if_pos rfl,if_neg (by rw [z]; decide),z]
    · have z:nE l.length = 0:=by unfold nE; rw [if_neg h1,if_neg h2]
      rw [nF (show (l.length:Int) ≤ 8 by omega),if_neg (by decide),if_pos z]
      cases hf:first (fun i=>!decide (vE l i = 0)) l.length 0 with
      | none =>
        rw [hf] at e1
        simp only [e1,qb5,Option.isSome_some,if_true,Bool.false_eq_true,if_false]
      | some k =>
        rw [hf] at e1
        simp only [e1,qb5,r75_0,outR,Option.isSome_some,if_true]
end Go.Vm.Mo

namespace Go.Vm.Mo
open Go
set_option linter.unusedVariables false
set_option linter.unusedSimpArgs false
theorem qnL {n:Int} (h1:-9223372036854775808 ≤ n) (h2:n ≤ 9223372036854775807):IntKind.wrap .i64 n = n:=by rw [← qct,qab h1 h2]
theorem qpe (x:Int) (h:x.natAbs ≤ 9223372036854775807):f185 (x,()) = some ((x.natAbs:Int),()):=by
  simp only [f185,t185,Tr.val_fin]
  rw [qnL (by omega) (by omega)]
  have e:(if x < 0 - x then 0 - x else x) = (x.natAbs:Int):=by split <;> omega
  rw [e]
theorem l199 (l:List Int) (h:l.length ≤ 1000000000):l199_0 ((l,(l.length:Int),()),()) = some (.inl ((l,(qdC l l.length:Int),()),())):=by
  have hle:=qfT l l.length
  refine qcQ (fun i=>((l,((l.length - i:Nat):Int),()),())) (n:=l.length - qdC l l.length) ?_ ?_ (qam (by omega))
  · intro i hi
    have h0:=qhG l l.length (l.length - i - 1) (by omega) (by omega)
    have e:wrap64 (((l.length - i:Nat):Int) - 1) = ((l.length - i - 1:Nat):Int):=by rw [qab (by omega) (by omega)]; omega
    simp only [s199_0,t199_0,Tr.val_test,Tr.val_fin,qaf,qau,e,Int.toNat_natCast,h0]
    rw [if_pos (by simp <;> omega),if_pos (by simp <;> omega),if_pos (by simp)]
    rfl
  · have e0:l.length - (l.length - qdC l l.length) = qdC l l.length:=by omega
    dsimp only
    rw [e0]
    cases hk:qdC l l.length with
    | zero=>simp [s199_0, t199_0, qaf]
    | succ m =>
      have h0:=qfi l l.length m hk
      have e:wrap64 (((m + 1:Nat):Int) - 1) = ((m:Nat):Int):=by rw [qab (by omega) (by omega)]; omega
      simp only [s199_0,t199_0,Tr.val_test,Tr.val_fin,qaf,qau,e,Int.toNat_natCast]
      rw [if_pos (by simp <;> omega),if_pos (by simp <;> omega),if_neg (by simpa using h0)]
theorem qkn (l:List Int) (h:l.length ≤ 1000000000) (hd:Dg l):f199 (l,()) = some (dig (dval l).toNat,()):=by
  have hle:=qfT l l.length
  simp only [f199,t199,b199_0,l199 l h,Tr.val_test,Tr.val_fin,qaV,if_true,outB,Int.toNat_natCast]
  rw [if_pos (by simp <;> omega),qo7 hd]
def mkN (s n:Int):Int×List Int×PUnit:=if n = 0 then (0,[],()) else (s,dig n.toNat,())
theorem qem (s:Int) (l:List Int) (h:l.length ≤ 1000000000) (hd:Dg l):f186 (s,l,()) = some (mkN s (dval l),()):=by
  have h0:=qb2 hd
  simp only [f186,t186,g199,qkn l h hd,Option.isSome_some,Option.getD_some,Tr.val_test,Tr.val_fin,qau,if_true,mkN]
  by_cases e:dval l = 0
  · rw [if_pos (by rw [e]; simp [qaN]),if_pos e,e]
    simp [qaN]
  · rw [if_neg e,if_neg]
    intro h2
    simp only [decide_eq_true_eq] at h2
    have h3:(dig (dval l).toNat).length = 0:=by omega
    have:=dig_nil.1 (List.eq_nil_of_length_eq_zero h3)
    omega
theorem qgd {s z:Int} (h:z ≠ 0 → s = z.sign):mkN s z.natAbs = enc z:=by
  unfold mkN enc
  by_cases e:z = 0
  · subst e; simp [qaN]
  · rw [if_neg (by omega),h e]; simp
theorem qkR (l:List Int) (i:Nat):f211 (l,(i:Int),()) = some (l.getD i 0,()):=by
  simp only [f211,t211,Tr.val_test,Tr.val_fin,qaf]
  by_cases h:i < l.length
  · rw [if_pos (by simp <;> omega),if_pos (by simp <;> omega)]; simp
  · rw [if_neg (by simp <;> omega)]
    simp [List.getD,List.getElem?_eq_none (Nat.le_of_not_lt h)]
theorem qrL (s b:Int):∀ (k:Nat) (x:Int) (acc:List Int) (m:Nat),(x.natAbs:Int) < pw k → x.natAbs ≤ 9223372036854775807 → acc.length + k ≤ 1000000 → k < m →
    itr s164_0 m ((x,s,acc,()),((b,()),())) = some (.inl ((s,acc++dig x.natAbs,()),((b,()),())))
  | 0, x, acc, m, h1, _, _, hm=>by
    have:x = 0:=by simp only [pw] at h1; omega
    subst this
    obtain ⟨m,rfl⟩:∃ j,m = j + 1:=⟨m - 1,by omega⟩
    simp [itr,s164_0,t164_0,qau,qaN]
  | k + 1, x, acc, m, h1, h2, h3, hm=>by
    obtain ⟨m,rfl⟩:∃ j,m = j + 1:=⟨m - 1,by omega⟩
    by_cases hx:x = 0
    · subst hx
      simp [itr,s164_0,t164_0,qau,qaN]
    · have e1:(Int.tmod x 1000000000).natAbs = x.natAbs % 1000000000:=by rw [Int.natAbs_tmod]; rfl
      have e2:(Int.tdiv x 1000000000).natAbs = x.natAbs / 1000000000:=by rw [Int.natAbs_tdiv]; rfl
      have e3:IntKind.wrap .i64 (Int.tdiv x 1000000000) = Int.tdiv x 1000000000:=qnL (by omega) (by omega)
      have st:s164_0 ((x,s,acc,()),((b,()),())) = some (.again ((Int.tdiv x 1000000000,s,acc++[((x.natAbs % 1000000000:Nat):Int)],()),((b,()),()))):=by
        simp only [s164_0,t164_0,g185,qpe (Int.tmod x 1000000000) (by omega),Option.isSome_some,Option.getD_some,Tr.val_test,Tr.val_fin,qau,e3,e1,if_true]
        rw [if_pos (by simpa using hx),if_pos (by simp <;> omega)]
      simp only [pw] at h1
      rw [itr,st]
      dsimp only
      rw [qrL s b k (Int.tdiv x 1000000000) _ m (by omega) (by omega) (by simp <;> omega) (by omega),qer (show x.natAbs ≠ 0 by omega),e2]
      simp
theorem qdD (x:Int) (h:x.natAbs ≤ 9223372036854775807):f164 (x,()) = some (enc x,()):=by
  have hl:∀ s:Int,l164_0 ((x,s,[],()),(((0:Int),()),())) = some (.inl ((s,dig x.natAbs,()),(((0:Int),()),()))):=fun s=>by
    have:=qrL s 0 3 x [] rounds (by simp only [pw]; omega) h (by simp) (qam (by omega))
    simpa [l164_0] using this
  have hg:(dig x.natAbs).length ≤ 3:=qaP (by simp only [pw]; omega)
  have e:=qbG x.natAbs
  simp only [f164,t164,b164_0,hl,g186,qem _ (dig x.natAbs) (by omega) (qbA _),e,Option.isSome_some,Option.getD_some,Tr.val_test,Tr.val_fin,qaV,outB,if_true,qaf]
  by_cases hx:0 ≤ x
  · rw [if_neg (by simp <;> omega)]
    have:mkN 1 (x.natAbs:Int) = enc x:=qgd fun h=>by rw [Int.sign_eq_one_of_pos (by omega)]
    rw [this]
  · rw [if_pos (by simp <;> omega)]
    have:mkN (-1) (x.natAbs:Int) = enc x:=qgd fun h=>by rw [Int.sign_eq_neg_one_of_neg (by omega)]
    rw [this]
def cA (a b:List Int):Nat → Int
  | 0=>0
  | i + 1=>(a.getD i 0 + b.getD i 0 + cA a b i) / 1000000000
def oA (a b:List Int):Nat → List Int
  | 0=>[]
  | i + 1=>oA a b i++[(a.getD i 0 + b.getD i 0 + cA a b i) % 1000000000]
theorem qo8 {a b:List Int} (ha:Dg a) (hb:Dg b):∀ i,0 ≤ cA a b i ∧ cA a b i ≤ 1
  | 0=>by simp [cA]
  | i + 1=>by
    have:=qo8 ha hb i; have:=ha.getD i; have:=hb.getD i
    simp only [cA]; omega
theorem qlR (a b:List Int):∀ i,(oA a b i).length = i
  | 0=>rfl
  | i + 1=>by simp [oA, qlR a b i]
theorem qrB (a b:List Int):∀ i,Dg (oA a b i)
  | 0=>Dg.nil
  | i + 1=>(qrB a b i).push (by omega) (by omega)
theorem qrT (a b:List Int):∀ i,dval (oA a b i) + pw i * cA a b i = dval (a.take i) + dval (b.take i)
  | 0=>by simp [oA, cA, dval, pw]
  | i + 1=>by
    have ih:=qrT a b i
    rw [oA,qkK,qlR,qbo,qbo,cA,pw]
    generalize hs:a.getD i 0 + b.getD i 0 + cA a b i = s at *
    have e:s % 1000000000 = s - 1000000000 * (s / 1000000000):=by omega
    have e2:pw i * (s % 1000000000) + 1000000000 * pw i * (s / 1000000000) = pw i * s:=by
      rw [e,Int.mul_sub,Int.mul_comm 1000000000 (pw i),Int.mul_assoc]; omega
    have e3:pw i * s = pw i * a.getD i 0 + pw i * b.getD i 0 + pw i * cA a b i:=by rw [← hs,Int.mul_add,Int.mul_add]
    omega
def nA (a b:List Int):Nat:=if cA a b (max a.length b.length) = 0 then max a.length b.length else max a.length b.length + 1
theorem qpN {a b:List Int} (ha:Dg a) (hb:Dg b):cA a b (nA a b) = 0:=by
  unfold nA
  split
  · assumption
  · have:=qo8 ha hb (max a.length b.length)
    have e1:a.getD (max a.length b.length) 0 = 0:=by simp [List.getD,List.getElem?_eq_none (Nat.le_max_left a.length b.length)]
    have e2:b.getD (max a.length b.length) 0 = 0:=by simp [List.getD,List.getElem?_eq_none (Nat.le_max_right a.length b.length)]
    simp only [cA,e1,e2]; omega
theorem qmx {a b:List Int} (ha:Dg a) (hb:Dg b) {i:Nat} (hl:i ≤ 1000000) (h:i < a.length ∨ i < b.length ∨ 0 < cA a b i) :
    s204_0 ((a,b,oA a b i,cA a b i,(i:Int),()),()) = some (.again ((a,b,oA a b (i + 1),cA a b (i + 1),((i + 1:Nat):Int),()),())):=by
  have h1:=qo8 ha hb i; have h2:=ha.getD i; have h3:=hb.getD i
  have e1:wrap64 (wrap64 (a.getD i 0 + b.getD i 0) + cA a b i) = a.getD i 0 + b.getD i 0 + cA a b i:=by
    rw [qab (n:=a.getD i 0 + b.getD i 0) (by omega) (by omega),qab (by omega) (by omega)]
  have e2:IntKind.wrap .i64 (Int.tdiv (a.getD i 0 + b.getD i 0 + cA a b i) 1000000000) = cA a b (i + 1):=by
    rw [Int.tdiv_eq_ediv_of_nonneg (by omega),qnL (by omega) (by omega),cA]
  have e3:Int.tmod (a.getD i 0 + b.getD i 0 + cA a b i) 1000000000 = (a.getD i 0 + b.getD i 0 + cA a b i) % 1000000000:=Int.tmod_eq_emod_of_nonneg (by omega)
  have e4:wrap64 ((i:Int) + 1) = ((i + 1:Nat):Int):=qay (by omega)
  have e5:(Nat.ble ((2 * ((oA a b i).length + 1) + 192) * 8) 281474976710656 && Nat.ble ((oA a b i).length + 1) 281474976710656) = true:=by
    rw [qlR]; simp; omega
  simp only [s204_0,t204_0,g211,qkR a i,qkR b i,Option.isSome_some,Option.getD_some,Tr.val_test,Tr.val_fin,qaf,if_true,e1,e2,e3,e4,e5]
  by_cases c1:i < a.length
  · rw [if_pos (by simp <;> omega)]; rfl
  · rw [if_neg (by simp <;> omega)]
    by_cases c2:i < b.length
    · rw [if_pos (by simp <;> omega)]; rfl
    · rw [if_neg (by simp <;> omega),if_pos (by simp <;> omega)]; rfl
theorem qqA (a b:List Int) (ha:Dg a) (hb:Dg b) (h1:a.length ≤ 100000) (h2:b.length ≤ 100000):f204 (a,b,()) = some (oA a b (nA a b),()):=by
  have hn:nA a b ≤ max a.length b.length + 1:=by unfold nA; split <;> omega
  have hl:l204_0 ((a,b,[],(0:Int),(0:Int),()),()) = some (.inl ((oA a b (nA a b),()),())):=by
    refine qcQ (fun i=>((a,b,oA a b i,cA a b i,(i:Int),()),())) (n:=nA a b) ?_ ?_ (qam (by omega))
    · intro i hi
      refine qmx ha hb (by omega) ?_
      have:=qo8 ha hb i
      unfold nA at hi
      split at hi
      · omega
      · rename_i hc
        by_cases e:i = max a.length b.length
        · rw [← e] at hc; omega
        · omega
    · have hc:=qpN ha hb
      have hm:max a.length b.length ≤ nA a b:=by unfold nA; split <;> omega
      simp only [s204_0,t204_0,Tr.val_test,Tr.val_fin,qaf,hc]
      rw [if_neg (by simp <;> omega),if_neg (by simp <;> omega),if_neg (by simp)]
  simp only [f204,t204,b204_0,hl,Tr.val_test,Tr.val_fin,qaV,if_true,outB]
theorem qrN {a b:List Int} (ha:Dg a) (hb:Dg b):dval (oA a b (nA a b)) = dval a + dval b:=by
  have h:=qrT a b (nA a b)
  have hm:max a.length b.length ≤ nA a b:=by unfold nA; split <;> omega
  rw [qpN ha hb,qaK a (by omega),qaK b (by omega)] at h
  omega
def cS (a b:List Int):Nat → Int
  | 0=>0
  | i + 1=>if a.getD i 0 - b.getD i 0 - cS a b i < 0 then 1 else 0
def oS (a b:List Int):Nat → List Int
  | 0=>[]
  | i + 1=>oS a b i++[if a.getD i 0 - b.getD i 0 - cS a b i < 0 then a.getD i 0 - b.getD i 0 - cS a b i + 1000000000 else a.getD i 0 - b.getD i 0 - cS a b i]
theorem qqK (a b:List Int):∀ i,0 ≤ cS a b i ∧ cS a b i ≤ 1
  | 0=>by simp [cS]
  | i + 1=>by simp only [cS]; split <;> omega
theorem qjv (a b:List Int):∀ i,(oS a b i).length = i
  | 0=>rfl
  | i + 1=>by simp [oS, qjv a b i]
theorem qrb {a b:List Int} (ha:Dg a) (hb:Dg b):∀ i,Dg (oS a b i)
  | 0=>Dg.nil
  | i + 1=>by
    have:=qqK a b i; have:=ha.getD i; have:=hb.getD i
    exact (qrb ha hb i).push (by split <;> omega) (by split <;> omega)
theorem qrP (a b:List Int):∀ i,dval (oS a b i) - pw i * cS a b i = dval (a.take i) - dval (b.take i)
  | 0=>by simp [oS, cS, dval, pw]
  | i + 1=>by
    have ih:=qrP a b i
    rw [oS,qkK,qjv,qbo,qbo,cS,pw]
    generalize hs:a.getD i 0 - b.getD i 0 - cS a b i = s at *
    have e3:pw i * s = pw i * a.getD i 0 - pw i * b.getD i 0 - pw i * cS a b i:=by rw [← hs,Int.mul_sub,Int.mul_sub]
    by_cases h:s < 0
    · rw [if_pos h,if_pos h,Int.mul_add]; omega
    · rw [if_neg h,if_neg h]; omega
theorem qk3 (a b:List Int) (ha:Dg a) (hb:Dg b) (h1:a.length ≤ 1000000) (h2:b.length ≤ a.length) (h3:dval b ≤ dval a):f201 (a,b,()) = some (dig (dval a - dval b).toNat,()):=by
  have hl:l201_0 ((a,b,[],(0:Int),(0:Int),()),()) = some (.inl ((oS a b a.length,()),())):=by
    refine qcQ (fun i=>((a,b,oS a b i,cS a b i,(i:Int),()),())) (n:=a.length) ?_ ?_ (qam (by omega))
    · intro i hi
      have h1:=qqK a b i; have h2:=ha.getD i; have h3:=hb.getD i
      have e0:wrap64 (a.getD i 0 - b.getD i 0) = a.getD i 0 - b.getD i 0:=qab (by omega) (by omega)
      have e1:wrap64 (wrap64 (a.getD i 0 - b.getD i 0) - cS a b i) = a.getD i 0 - b.getD i 0 - cS a b i:=by
        rw [e0,qab (by omega) (by omega)]
      have e2:wrap64 (a.getD i 0 - b.getD i 0 - cS a b i + 1000000000) = a.getD i 0 - b.getD i 0 - cS a b i + 1000000000:=qab (by omega) (by omega)
      have e4:wrap64 ((i:Int) + 1) = ((i + 1:Nat):Int):=qay (by omega)
      have e5:(Nat.ble ((2 * ((oS a b i).length + 1) + 192) * 8) 281474976710656 && Nat.ble ((oS a b i).length + 1) 281474976710656) = true:=by
        rw [qjv]; simp; omega
      simp only [s201_0,t201_0,g211,qkR b i,Option.isSome_some,Option.getD_some,Tr.val_test,Tr.val_fin,qaf,if_true,e1,e2,e4,e5,Int.toNat_natCast,oS,cS]
      rw [if_pos (by simp <;> omega),if_pos (by simp <;> omega)]
      by_cases h:a.getD i 0 - b.getD i 0 - cS a b i < 0
      · rw [if_pos (by simp only [Bool.not_eq_true',decide_eq_false_iff_not]; omega),if_pos h,if_pos h]
      · rw [if_neg (by simp only [Bool.not_eq_true',decide_eq_false_iff_not]; omega),if_neg h,if_neg h]
    · simp [s201_0,t201_0,qaf]
  have hd:=qrb ha hb a.length
  have hv:=qrP a b a.length
  rw [qaK a (Nat.le_refl _),qaK b h2] at hv
  have hlt:=qif hd
  rw [qjv] at hlt
  have hc:=qqK a b a.length
  have hc0:cS a b a.length = 0:=by
    by_cases e:cS a b a.length = 1
    · rw [e] at hv; omega
    · omega
  rw [hc0,Int.mul_zero,Int.sub_zero] at hv
  simp only [f201,t201,b201_0,hl,g199,qkn _ (show (oS a b a.length).length ≤ 1000000000 by rw [qjv]; omega) hd,hv,Option.isSome_some,Option.getD_some,Tr.val_test,Tr.val_fin,qaV,if_true,outB]
theorem qnX {l:List Int} (hd:Dg l) (hc:Can l) {m:Nat} (hm:l.length = m + 1):pw m ≤ dval l:=by
  have h3:=qbo l m
  rw [qaK _ (by omega)] at h3
  have h2:=hc m hm
  have h4:=qb2 (hd.take m)
  have h5:=hd.getD m
  have h7:pw m * 1 ≤ pw m * l.getD m 0:=Int.mul_le_mul_of_nonneg_left (by omega) (Int.le_of_lt (qel m))
  omega
theorem qnE {a b:List Int} (ha:Dg a) (hb:Dg b) {j:Nat} (hlt:a.getD j 0 < b.getD j 0):∀ n,(∀ i,j < i → i < j + 1 + n → a.getD i 0 = b.getD i 0) → dval (a.take (j + 1 + n)) < dval (b.take (j + 1 + n))
  | 0, _=>by
    rw [Nat.add_zero,qbo,qbo]
    have h1:=qif (ha.take j)
    have h2:=qb2 (hb.take j)
    have h3:pw (a.take j).length ≤ pw j:=qjf (by simp; omega)
    have h7:pw j * (a.getD j 0 + 1) ≤ pw j * b.getD j 0:=Int.mul_le_mul_of_nonneg_left (by omega) (Int.le_of_lt (qel j))
    rw [Int.mul_add] at h7
    omega
  | n + 1, h=>by
    have ih:=qnE ha hb hlt n fun i h1 h2=>h i h1 (by omega)
    have e:=h (j + 1 + n) (by omega) (by omega)
    rw [← Nat.add_assoc,qbo,qbo,e]
    omega
theorem qn6 (a b:List Int) (ha:Dg a) (hb:Dg b) (ca:Can a) (cb:Can b) (h1:a.length ≤ 1000000):f200 (a,b,()) = some ((dval a - dval b).sign,()):=by
  simp only [f200,t200,Tr.val_test,Tr.val_fin,qaf,qau]
  by_cases hle:a.length = b.length
  · rw [if_neg (by simp; omega)]
    have e0:wrap64 ((a.length:Int) - 1) = (a.length:Int) - 1:=qab (by omega) (by omega)
    have hl:l200_0 ((a,b,(a.length:Int) - 1,()),()) = match first (fun k=>!decide (a.getD (a.length - 1 - k) 0 = b.getD (a.length - 1 - k) 0)) a.length 0 with
        | some k=>some (.inr (((if a.getD (a.length - 1 - k) 0 < b.getD (a.length - 1 - k) 0 then (-1:Int) else 1), ()), ()))
        | none=>some (.inl ((), ())):=by
      have:=qcg (step:=s200_0) (m:=rounds) (n:=a.length) (fun k=>((a,b,(a.length:Int) - 1 - (k:Int),()),())) (fun k=>!decide (a.getD (a.length - 1 - k) 0 = b.getD (a.length - 1 - k) 0))
        (fun k=>(((if a.getD (a.length - 1 - k) 0 < b.getD (a.length - 1 - k) 0 then (-1:Int) else 1),()),())) (b:=((),())) ?_ ?_ (qam (by omega))
      · rw [l200_0,show (a.length:Int) - 1 = (a.length:Int) - 1 - ((0:Nat):Int) by omega]; exact this
      · intro k hk
        have e1:(a.length:Int) - 1 - (k:Int) = ((a.length - 1 - k:Nat):Int):=by omega
        have e2:wrap64 (((a.length - 1 - k:Nat):Int) - 1) = (a.length:Int) - 1 - ((k + 1:Nat):Int):=by rw [qab (by omega) (by omega)]; omega
        simp only [e1,s200_0,t200_0,Tr.val_test,Tr.val_fin,qaf,Int.toNat_natCast,e2]
        rw [if_pos (by simp),if_pos (by simp; omega),if_pos (by simp; omega)]
        generalize a.getD (a.length - 1 - k) 0 = x
        generalize b.getD (a.length - 1 - k) 0 = y
        rcases Int.lt_trichotomy x y with h | h | h
        · rw [if_pos (by simp; omega),if_pos (by simp; omega),if_pos h]
        · rw [if_neg (by simp; omega),if_neg (by simp; omega),if_neg (by simp; omega)]
        · rw [if_neg (by simp; omega),if_pos (by simp; omega),if_pos (by simp; omega),if_neg (by omega)]
      · simp only [s200_0,t200_0,Tr.val_test,Tr.val_fin,qaf]
        rw [if_neg (by simp; omega)]
    rw [e0,r200_0,hl]
    have hta:=qaK a (Nat.le_refl _)
    have htb:=qaK b (Nat.le_of_eq hle.symm)
    cases hf:first (fun k=>!decide (a.getD (a.length - 1 - k) 0 = b.getD (a.length - 1 - k) 0)) a.length 0 with
    | none =>
      have hn:=qea hf
      have:∀ n,n ≤ a.length → dval (a.take n) = dval (b.take n):=by
        intro n
        induction n with
        | zero=>intro _; simp
        | succ n ih =>
          intro h
          have:=hn (a.length - 1 - n) (by omega) (by omega)
          rw [show a.length - 1 - (a.length - 1 - n) = n by omega] at this
          rw [qbo,qbo,ih (by omega),show a.getD n 0 = b.getD n 0 by simpa using this]
      have e:=this a.length (Nat.le_refl _)
      rw [hta,htb] at e
      simp [e,qb5]
    | some k =>
      obtain ⟨q1,q2,q3,q4⟩:=first_some hf
      have hne:a.getD (a.length - 1 - k) 0 ≠ b.getD (a.length - 1 - k) 0:=by simpa using q3
      have heq:∀ i,a.length - 1 - k < i → i < a.length - 1 - k + 1 + k → a.getD i 0 = b.getD i 0:=fun i h1 h2=>by
        have:=q4 (a.length - 1 - i) (by omega) (by omega)
        rw [show a.length - 1 - (a.length - 1 - i) = i by omega] at this
        simpa using this
      have hN:a.length - 1 - k + 1 + k = a.length:=by omega
      simp only [qb5,Option.isSome_some,if_true,outR]
      by_cases h:a.getD (a.length - 1 - k) 0 < b.getD (a.length - 1 - k) 0
      · have:=qnE ha hb h k heq
        rw [hN,hta,htb] at this
        rw [if_pos h,Int.sign_eq_neg_one_of_neg (by omega)]
      · have:=qnE hb ha (j:=a.length - 1 - k) (by omega) k fun i h1 h2=>(heq i h1 h2).symm
        rw [hN,hta,htb] at this
        rw [if_neg h,Int.sign_eq_one_of_pos (by omega)]
  · rw [if_pos (by simp; omega)]
    by_cases h:a.length < b.length
    · rw [if_pos (by simp; omega)]
      have hx:=qif ha
      obtain ⟨m,hm⟩:∃ m,b.length = m + 1:=⟨b.length - 1,by omega⟩
      have hy:=qnX hb cb hm
      have:pw a.length ≤ pw m:=qjf (by omega)
      rw [Int.sign_eq_neg_one_of_neg (by omega)]
    · rw [if_neg (by simp; omega)]
      have hx:=qif hb
      obtain ⟨m,hm⟩:∃ m,a.length = m + 1:=⟨a.length - 1,by omega⟩
      have hy:=qnX ha ca hm
      have:pw b.length ≤ pw m:=qjf (by omega)
      rw [Int.sign_eq_one_of_pos (by omega)]
theorem qnH (n c i:Nat) (s0 s1 z:Int) (a b buf:List Int) (hi:i < a.length) (ha:Dg a) (hb:Dg b) (hbuf:Dg buf) (hlen:buf.length = n) (hn:i + b.length ≤ n) (hs:n ≤ 1000000) :
    l167_2 (((n,c),((i:Int),(0:Int),(0:Int),())),((s0,a,()),(s1,b,()),(z,()),buf,())) =
      some (.inl (((n, c), ((i:Int), (mI (a.getD i 0) b i buf b.length).2, ())), ((s0, a, ()), (s1, b, ()), (z, ()), (mI (a.getD i 0) b i buf b.length).1, ()))):=by
  refine qcQ (fun j=>(((n, c), ((i:Int), (mI (a.getD i 0) b i buf j).2, (j:Int), ())), ((s0, a, ()), (s1, b, ()), (z, ()), (mI (a.getD i 0) b i buf j).1, ()))) (n:=b.length) ?_ ?_ (qam (by omega))
  · intro j hj
    obtain ⟨h1,h2,h3⟩:=qpv (i:=i) (ha.getD i) hb hbuf j
    have h4:=h1.getD (i + j)
    have h5:=qpV (ha.getD i) (hb.getD j)
    have hml:=qhB (a.getD i 0) b i buf j
    have e0:wrap64 ((i:Int) + (j:Int)) = ((i + j:Nat):Int):=by rw [qab (by omega) (by omega)]; omega
    have e1:wrap64 (a.getD i 0 * b.getD j 0) = a.getD i 0 * b.getD j 0:=qab (by omega) (by omega)
    have e2:wrap64 (wrap64 ((mI (a.getD i 0) b i buf j).1.getD (i + j) 0 + a.getD i 0 * b.getD j 0) + (mI (a.getD i 0) b i buf j).2) = (mI (a.getD i 0) b i buf j).1.getD (i + j) 0 + a.getD i 0 * b.getD j 0 + (mI (a.getD i 0) b i buf j).2:=by
      rw [qab (n:=(mI (a.getD i 0) b i buf j).1.getD (i + j) 0 + a.getD i 0 * b.getD j 0) (by omega) (by omega), qab (by omega) (by omega)]
    have e3:Int.tmod ((mI (a.getD i 0) b i buf j).1.getD (i + j) 0 + a.getD i 0 * b.getD j 0 + (mI (a.getD i 0) b i buf j).2) 1000000000 = ((mI (a.getD i 0) b i buf j).1.getD (i + j) 0 + a.getD i 0 * b.getD j 0 + (mI (a.getD i 0) b i buf j).2) % 1000000000:=Int.tmod_eq_emod_of_nonneg (by omega)
    have e4:IntKind.wrap .i64 (Int.tdiv ((mI (a.getD i 0) b i buf j).1.getD (i + j) 0 + a.getD i 0 * b.getD j 0 + (mI (a.getD i 0) b i buf j).2) 1000000000) = ((mI (a.getD i 0) b i buf j).1.getD (i + j) 0 + a.getD i 0 * b.getD j 0 + (mI (a.getD i 0) b i buf j).2) / 1000000000:=by
      rw [Int.tdiv_eq_ediv_of_nonneg (by omega),qnL (by omega) (by omega)]
    have e5:wrap64 ((j:Int) + 1) = ((j + 1:Nat):Int):=qay (by omega)
    simp only [s167_2,t167_2,Tr.val_test,Tr.val_fin,qaf,e0,Int.toNat_natCast,Nat.zero_add,e1,e2,e3,e4,e5]
    rw [if_pos (by simp; omega),if_pos (by simp; omega),if_pos (by rw [hml,qa3]; omega),if_pos (by simp; omega),if_pos (by simp; omega)]
    rfl
  · simp [s167_2,t167_2,qaf]
theorem qnd (s0 s1 z:Int) (a b:List Int) (n:Nat) (ha:Dg a) (hb:Dg b) (hn:n = a.length + b.length + 1) (hs:n ≤ 1000000) :
    l167_0 (((n,n),((0:Int),())),((s0,a,()),(s1,b,()),(z,()),List.replicate n 0,())) = some (.inl (((n,n),()),((s0,a,()),(s1,b,()),(z,()),mO a b a.length,()))):=by
  subst hn
  refine qcQ (fun i=>(((a.length + b.length + 1,a.length + b.length + 1),((i:Int),())),((s0,a,()),(s1,b,()),(z,()),mO a b i,()))) (n:=a.length) ?_ ?_ (qam (by omega))
  · intro i hi
    have hl:=qnH (a.length + b.length + 1) (a.length + b.length + 1) i s0 s1 z a b (mO a b i) hi ha hb (qpz ha hb i) (qh2 a b i) (by omega) hs
    obtain ⟨h1,h2,h3⟩:=qpv (i:=i) (ha.getD i) hb (qpz ha hb i) b.length
    have e0:wrap64 ((i:Int) + (b.length:Int)) = ((i + b.length:Nat):Int):=by rw [qab (by omega) (by omega)]; omega
    have e1:wrap64 ((mI (a.getD i 0) b i (mO a b i) b.length).1.getD (i + b.length) 0 + (mI (a.getD i 0) b i (mO a b i) b.length).2) = (mI (a.getD i 0) b i (mO a b i) b.length).1.getD (i + b.length) 0 + (mI (a.getD i 0) b i (mO a b i) b.length).2:=by
      rw [qnA]; exact qab (by omega) (by omega)
    have e5:wrap64 ((i:Int) + 1) = ((i + 1:Nat):Int):=qay (by omega)
    have hml:(mI (a.getD i 0) b i (mO a b i) b.length).1.length = a.length + b.length + 1:=by rw [qhB, qh2]
    simp only [s167_0,t167_0,b167_2,hl,qaV,outB,Tr.val_test,Tr.val_fin,qaf,e0,Int.toNat_natCast,Nat.zero_add,e1,e5,if_true]
    rw [if_pos (by simp; omega),if_pos (by simp; omega),if_pos (by rw [hml,qa3]; omega)]
    rfl
  · simp [s167_0,t167_0,qaf]
theorem qpj (s0 s1:Int) (a b:List Int) (ha:Dg a) (hb:Dg b) (h:a.length + b.length + 1 ≤ 1000000):f167 ((s0,a,()),(s1,b,()),()) = some (mkN (wrap64 (s0 * s1)) (dval a * dval b),()):=by
  have e0:wrap64 (wrap64 ((a.length:Int) + (b.length:Int)) + 1) = ((a.length + b.length + 1:Nat):Int):=by
    rw [qab (n:=(a.length:Int) + (b.length:Int)) (by omega) (by omega),qab (by omega) (by omega)]; omega
  have hl:=qnd s0 s1 0 a b _ ha hb rfl h
  have hd:=qpz ha hb a.length
  have hv:=qra a b a.length (Nat.le_refl _)
  rw [qaK a (Nat.le_refl _)] at hv
  have hlen:=qh2 a b a.length
  have hf:f186 (wrap64 (s0 * s1),mO a b a.length,()) = some (mkN (wrap64 (s0 * s1)) (dval a * dval b),()):=by rw [qem _ _ (by omega) hd,hv]
  simp only [f167,t167,e0,Int.toNat_natCast,b167_0,hl,qaV,outB,Tr.val_test,Tr.val_fin,if_true,hlen,g186,hf,Option.isSome_some,Option.getD_some]
  rw [if_pos (by simp; omega),if_pos (by simp)]
theorem qet (x y:Int) (h:(dig x.natAbs).length + (dig y.natAbs).length + 1 ≤ 1000000):f167 (enc x,enc y,()) = some (enc (x * y),()):=by
  have hf:=qpj x.sign y.sign (dig x.natAbs) (dig y.natAbs) (qbA _) (qbA _) h
  rw [qbG,qbG] at hf
  have hw:wrap64 (x.sign * y.sign) = (x * y).sign:=by
    rw [← Int.sign_mul]
    have:(x * y).sign = -1 ∨ (x * y).sign = 0 ∨ (x * y).sign = 1:=by
      rcases Int.lt_trichotomy (x * y) 0 with h | h | h
      · left; exact Int.sign_eq_neg_one_of_neg h
      · right; left; rw [h]; rfl
      · right; right; exact Int.sign_eq_one_of_pos h
    exact qab (by omega) (by omega)
  rw [hw] at hf
  have he:mkN (x * y).sign ((x.natAbs:Int) * (y.natAbs:Int)) = enc (x * y):=by
    rw [← Int.natCast_mul,← Int.natAbs_mul]
    exact qgd fun _=>rfl
  rw [he] at hf
  exact hf
theorem qb0 (x:Int):(x < 0 ∧ x.sign = -1) ∨ (x = 0 ∧ x.sign = 0) ∨ (0 < x ∧ x.sign = 1):=by
  rcases Int.lt_trichotomy x 0 with h | h | h
  · exact .inl ⟨h,Int.sign_eq_neg_one_of_neg h⟩
  · exact .inr (.inl ⟨h,by rw [h]; rfl⟩)
  · exact .inr (.inr ⟨h,Int.sign_eq_one_of_pos h⟩)
theorem qpA (s0 s1:Int) (a b:List Int) (ha:Dg a) (hb:Dg b) (ca:Can a) (cb:Can b) (h1:a.length ≤ 100000) (h2:b.length ≤ 100000):f184 ((s0,a,()),(s1,b,()),()) =
    if s0 = 0 then some ((s1,b,()),()) else if s1 = 0 then some ((s0,a,()),()) else if s0 = s1 then some (mkN s0 (dval a + dval b),()) else
    if dval a = dval b then some ((0,[],()),()) else if dval b < dval a then some (mkN s0 (dval a - dval b),()) else some (mkN s1 (dval b - dval a),()):=by
  have hle:∀ {l:List Int} {n:Int},Dg l → Can l → dval l ≤ n → ∀ {l2:List Int},Dg l2 → n = dval l2 → l.length ≤ l2.length:=fun {l n} hd hc hn {l2} hd2 e=>by
    rcases Nat.lt_or_ge l2.length l.length with h | h
    · exfalso
      obtain ⟨m,hm⟩:∃ m,l.length = m + 1:=⟨l.length - 1,by omega⟩
      have:=qnX hd hc hm
      have:=qif hd2
      have:pw l2.length ≤ pw m:=qjf (by omega)
      omega
    · exact h
  have hn:nA a b ≤ max a.length b.length + 1:=by unfold nA; split <;> omega
  simp only [f184,t184,Tr.val_test,Tr.val_fin,qau,qaf,decide_eq_true_eq]
  by_cases c1:s0 = 0
  · rw [if_pos c1,if_pos c1]
  rw [if_neg c1,if_neg c1]
  by_cases c2:s1 = 0
  · rw [if_pos c2,if_pos c2]
  rw [if_neg c2,if_neg c2]
  by_cases c3:s0 = s1
  · rw [if_pos c3,if_pos c3]
    simp only [g204,qqA a b ha hb h1 h2,Option.isSome_some,Option.getD_some,if_true,g186,qem s0 (oA a b (nA a b)) (by rw [qlR]; omega) (qrB a b _),qrN ha hb]
  rw [if_neg c3,if_neg c3]
  simp only [g200,qn6 a b ha hb ca cb (by omega),Option.isSome_some,Option.getD_some,if_true]
  rcases qb0 (dval a - dval b) with ⟨hs,e⟩ | ⟨hs,e⟩ | ⟨hs,e⟩
  · have hl:=hle ha ca (show dval a ≤ dval b by omega) hb rfl
    have hv:((dval b - dval a).toNat:Int) = dval b - dval a:=by omega
    have hlen:(dig (dval b - dval a).toNat).length ≤ b.length:=qaP (by have:=qif hb; have:=qb2 ha; omega)
    rw [if_neg (by rw [e]; omega),if_neg (by rw [e]; simp)]
    simp only [g201,qk3 b a hb ha (by omega) hl (by omega),Option.isSome_some,Option.getD_some,if_true,g186,qem s1 (dig (dval b - dval a).toNat) (by omega) (qbA _),qbG,hv]
    rw [if_neg (by omega),if_neg (by omega)]
  · rw [if_pos (by rw [e]),if_pos (by omega)]
  · have hl:=hle hb cb (show dval b ≤ dval a by omega) ha rfl
    have hv:((dval a - dval b).toNat:Int) = dval a - dval b:=by omega
    have hlen:(dig (dval a - dval b).toNat).length ≤ a.length:=qaP (by have:=qif ha; have:=qb2 hb; omega)
    rw [if_neg (by rw [e]; omega),if_pos (by rw [e]; simp)]
    simp only [g201,qk3 a b ha hb (by omega) hl (by omega),Option.isSome_some,Option.getD_some,if_true,g186,qem s0 (dig (dval a - dval b).toNat) (by omega) (qbA _),qbG,hv]
    rw [if_neg (by omega),if_pos (by omega)]
theorem qfC {s n z:Int} (h:n = z.natAbs) (hs:z ≠ 0 → s = z.sign):mkN s n = enc z:=by rw [h]; exact qgd hs
theorem qmO (x y:Int) (h1:(dig x.natAbs).length ≤ 100000) (h2:(dig y.natAbs).length ≤ 100000):f184 (enc x,enc y,()) = some (enc (x + y),()):=by
  have hf:=qpA x.sign y.sign (dig x.natAbs) (dig y.natAbs) (qbA _) (qbA _) (qgf _) (qgf _) h1 h2
  rw [qbG,qbG] at hf
  refine hf.trans ?_
  have t0:(0:Int).sign = 0:=rfl
  rcases qb0 x with ⟨hx,ex⟩ | ⟨hx,ex⟩ | ⟨hx,ex⟩
  · rcases qb0 y with ⟨hy,ey⟩ | ⟨hy,ey⟩ | ⟨hy,ey⟩
    · rw [ex,ey,if_neg (by omega),if_neg (by omega),if_pos rfl,qfC (z:=x + y) (by omega) fun _=>by rw [Int.sign_eq_neg_one_of_neg (by omega)]]
    · rw [ex,ey,if_neg (by omega),if_pos rfl]; subst hy; rw [Int.add_zero,enc,ex]
    · rw [ex,ey,if_neg (by omega),if_neg (by omega),if_neg (by omega)]
      split
      · have:x + y = 0:=by omega
        rw [this]; simp [enc,qaN]
      · split
        · rw [qfC (z:=x + y) (by omega) fun _=>by rw [Int.sign_eq_neg_one_of_neg (by omega)]]
        · rw [qfC (z:=x + y) (by omega) fun _=>by rw [Int.sign_eq_one_of_pos (by omega)]]
  · rw [ex,if_pos rfl]; subst hx; rw [Int.zero_add,enc]
  · rcases qb0 y with ⟨hy,ey⟩ | ⟨hy,ey⟩ | ⟨hy,ey⟩
    · rw [ex,ey,if_neg (by omega),if_neg (by omega),if_neg (by omega)]
      split
      · have:x + y = 0:=by omega
        rw [this]; simp [enc,qaN]
      · split
        · rw [qfC (z:=x + y) (by omega) fun _=>by rw [Int.sign_eq_one_of_pos (by omega)]]
        · rw [qfC (z:=x + y) (by omega) fun _=>by rw [Int.sign_eq_neg_one_of_neg (by omega)]]
    · rw [ex,ey,if_neg (by omega),if_pos rfl]; subst hy; rw [Int.add_zero,enc,ex]
    · rw [ex,ey,if_neg (by omega),if_neg (by omega),if_pos rfl,qfC (z:=x + y) (by omega) fun _=>by rw [Int.sign_eq_one_of_pos (by omega)]]
theorem qqm (x:Int):(IntKind.wrap .i64 (0 - x.sign),dig x.natAbs,()) = enc (-x):=by
  have:IntKind.wrap .i64 (0 - x.sign) = (-x).sign:=by
    rw [Int.sign_neg]
    rcases qb0 x with ⟨_,e⟩ | ⟨_,e⟩ | ⟨_,e⟩ <;> rw [e] <;> rfl
  rw [this,enc,Int.natAbs_neg]
theorem qis (x:Int):f179 (enc x,()) = some (enc (-x),()):=by
  rw [← qqm]; rfl
theorem qky (x y:Int) (h1:(dig x.natAbs).length ≤ 100000) (h2:(dig y.natAbs).length ≤ 100000):f187 (enc x,enc y,()) = some (enc (x - y),()):=by
  have e0:f179 ((y.sign,dig y.natAbs,()),()) = some (enc (-y),()):=qis y
  have e1:f184 ((x.sign, dig x.natAbs, ()), ((enc (-y)).1, (enc (-y)).2.1, ()), ()) = some (enc (x - y), ()):=qmO x (-y) h1 (by rw [Int.natAbs_neg]; exact h2)
  show f187 ((x.sign,dig x.natAbs,()),(y.sign,dig y.natAbs,()),()) = _
  simp only [f187,t187,g179,e0,g184,e1,Option.isSome_some,Option.getD_some,Tr.val_test,Tr.val_fin,if_true]
theorem qnb (x y:Int) (h1:(dig x.natAbs).length ≤ 100000) (h2:(dig y.natAbs).length ≤ 100000):f166 (enc x,enc y,()) = some ((x - y).sign,()):=by
  have e0:f187 ((x.sign,dig x.natAbs,()),(y.sign,dig y.natAbs,()),()) = some (enc (x - y),()):=qky x y h1 h2
  show f166 ((x.sign,dig x.natAbs,()),(y.sign,dig y.natAbs,()),()) = _
  simp only [f166,t166,g187,e0,Option.isSome_some,Option.getD_some,Tr.val_test,Tr.val_fin,if_true]
  rfl
theorem qnt (x:Int):f212 (enc x,()) = some (enc x.natAbs,()):=by
  have e0:f179 ((x.sign,dig x.natAbs,()),()) = some (enc (-x),()):=qis x
  show f212 ((x.sign,dig x.natAbs,()),()) = _
  simp only [f212,t212,g179,e0,Option.isSome_some,Option.getD_some,Tr.val_test,Tr.val_fin,qaf,if_true]
  rcases qb0 x with ⟨h,e⟩ | ⟨h,e⟩ | ⟨h,e⟩
  · rw [if_pos (by rw [e]; simp),show ((x.natAbs:Nat):Int) = -x by omega]
  · subst h; rfl
  · rw [if_neg (by rw [e]; simp),show ((x.natAbs:Nat):Int) = x by omega]; rfl
theorem qcJ {m n:Nat} (h:m ≤ n):(dig m).length ≤ (dig n).length:=qaP (by have:=qa9 n; omega)
theorem qnf {x:Int} (h:0 < x):f186 (1,dig x.natAbs,()) = f186 (x.sign,dig x.natAbs,()):=by rw [Int.sign_eq_one_of_pos h]
theorem qlA (x:Int) (h:(dig x.natAbs).length ≤ 1000000000):f186 (x.sign,dig x.natAbs,()) = some (enc x,()):=by
  rw [qem _ _ h (qbA _),qbG,qgd fun _=>rfl]
theorem qgV {x:Int} (h0:0 ≤ x) (h:x < 1000000000):(dig x.natAbs).length ≤ 1:=qaP (by simp only [pw]; omega)
theorem qlE {x y:Int} (hx:(dig x.natAbs).length ≤ 10000) (h0:0 ≤ y) (h:y < 1000000000):f167 (((enc x).1, (enc x).2.1, ()), ((enc y).1, (enc y).2.1, ()), ()) = some (enc (x * y), ()) :=
  qet x y (by have:=qgV h0 h; omega)
theorem qqP (n c:Nat) (i s0 s1 z:Int) (a buf:List Int) (V Y:Int) (hV:0 ≤ V) (hY:0 < Y) (hl:(dig Y.natAbs).length ≤ 10000) (hq:V / Y ≤ 999999999) :
    ∀ (k:Nat) (lo hi:Int) (m:Nat),(hi - lo).toNat ≤ k → 0 ≤ lo → lo ≤ V / Y → V / Y ≤ hi → hi ≤ 999999999 → k < m →
      itr s178_2 m (((n,c),(dig V.toNat,i,lo,hi,())),((s0,a,()),(s1,dig Y.natAbs,()),(z,()),buf,())) =
        some (.inl (((n,c),(dig V.toNat,i,V / Y,())),((s0,a,()),(s1,dig Y.natAbs,()),(z,()),buf,())))
  | k, lo, hi, m, hk, h1, h2, h3, h4, hm=>by
    obtain ⟨m,rfl⟩:∃ j,m = j + 1:=⟨m - 1,by omega⟩
    by_cases h:lo < hi
    · obtain ⟨k,rfl⟩:∃ j,k = j + 1:=⟨k - 1,by omega⟩
      have e0:IntKind.wrap .i64 (Int.tdiv (wrap64 (wrap64 (lo + hi) + 1)) 2) = (lo + hi + 1) / 2:=by
        rw [qab (n:=lo + hi) (by omega) (by omega),qab (by omega) (by omega),Int.tdiv_eq_ediv_of_nonneg (by omega),qnL (by omega) (by omega)]
      have e5:wrap64 ((lo + hi + 1) / 2 - 1) = (lo + hi + 1) / 2 - 1:=qab (by omega) (by omega)
      generalize hmid:(lo + hi + 1) / 2 = mid at *
      have b1:0 ≤ mid:=by omega
      have b2:mid < 1000000000:=by omega
      have e1:f186 (1,dig Y.natAbs,()) = some (enc Y,()):=by rw [qnf hY,qlA Y (by omega)]
      have e2:=qdD mid (by omega)
      have e3:=qlE (x:=Y) hl b1 b2
      have hnn:0 ≤ Y * mid:=Int.mul_nonneg (by omega) b1
      have hvn:((V.toNat:Nat):Int) = V:=by omega
      have hlm:(dig (Y * mid).natAbs).length ≤ (dig Y.natAbs).length + 1:=qaP (by
        have q1:=qa9 Y.natAbs
        have q3:Y * mid < Y * 1000000000:=Int.mul_lt_mul_of_pos_left b2 hY
        simp only [pw]
        omega)
      have e4:f200 ((enc (Y * mid)).2.1, dig V.toNat, ()) = some ((Y * mid - V).sign, ()):=by
        have:=qn6 (dig (Y * mid).natAbs) (dig V.toNat) (qbA _) (qbA _) (qgf _) (qgf _) (by omega)
        rw [qbG,qbG,hvn,show (((Y * mid).natAbs:Nat):Int) = Y * mid by omega] at this
        exact this
      have hiff:mid ≤ V / Y ↔ Y * mid ≤ V:=by rw [Int.le_ediv_iff_mul_le hY,Int.mul_comm]
      have hstep:s178_2 (((n,c),(dig V.toNat,i,lo,hi,())),((s0,a,()),(s1,dig Y.natAbs,()),(z,()),buf,())) =
          some (.again (((n,c),(dig V.toNat,i,(if mid ≤ V / Y then mid else lo),(if mid ≤ V / Y then hi else mid - 1),())),((s0,a,()),(s1,dig Y.natAbs,()),(z,()),buf,()))):=by
        simp only [s178_2,t178_2,e0,e5,g186,e1,g164,e2,g167,e3,g200,e4,Option.isSome_some,Option.getD_some,Tr.val_test,Tr.val_fin,qaf,if_true]
        rw [if_pos (by simp; omega)]
        rcases qb0 (Y * mid - V) with ⟨w,es⟩ | ⟨w,es⟩ | ⟨w,es⟩
        · have:=hiff.2 (by omega)
          rw [if_pos (by rw [es]; simp),if_pos this,if_pos this]
        · have:=hiff.2 (by omega)
          rw [if_pos (by rw [es]; simp),if_pos this,if_pos this]
        · have:¬ mid ≤ V / Y:=fun t=>by have:=hiff.1 t; omega
          rw [if_neg (by rw [es]; simp),if_neg this,if_neg this]
      rw [itr,hstep]
      dsimp only
      by_cases hc:mid ≤ V / Y
      · rw [if_pos hc,if_pos hc]
        exact qqP n c i s0 s1 z a buf V Y hV hY hl hq k mid hi m (by omega) b1 hc h3 h4 (by omega)
      · rw [if_neg hc,if_neg hc]
        exact qqP n c i s0 s1 z a buf V Y hV hY hl hq k lo (mid - 1) m (by omega) h1 h2 (by omega) (by omega) (by omega)
    · have:lo = V / Y:=by omega
      rw [itr]
      simp only [s178_2,t178_2,Tr.val_test,Tr.val_fin,qaf]
      rw [if_neg (by simp; omega),this]
theorem qj3 (q:Int) (d:List Int):∀ j,(List.replicate (j + 1) 0++d).set j q = List.replicate j 0++q :: d
  | 0=>by simp
  | j + 1=>by
    rw [List.replicate_succ,List.cons_append,List.set_cons_succ,qj3 q d j,List.replicate_succ,List.cons_append]
def upA (a:List Int):Nat → Int
  | 0=>0
  | k + 1=>a.getD (a.length - 1 - k) 0 + 1000000000 * upA a k
theorem qlB (a:List Int):∀ k,k ≤ a.length → upA a k = dval (a.drop (a.length - k))
  | 0, _=>by simp [upA, dval]
  | k + 1, h=>by
    have e:a.length - (k + 1) + 1 = a.length - k:=by omega
    rw [upA,qlB a k (by omega),List.drop_eq_getElem_cons (show a.length - (k + 1) < a.length by omega),dval,e]
    congr 1
    have:a.length - 1 - k = a.length - (k + 1):=by omega
    rw [this]
    simp [List.getD,show a.length - (k + 1) < a.length by omega]
def dQ (a:List Int) (Y:Int):Nat → List Int
  | 0=>[]
  | k + 1=>((a.getD (a.length - 1 - k) 0 + 1000000000 * (upA a k % Y)) / Y) :: dQ a Y k
theorem qmY (a:List Int) (Y:Int):∀ k,(dQ a Y k).length = k
  | 0=>rfl
  | k + 1=>by simp [dQ, qmY a Y k]
theorem qle {a:List Int} (ha:Dg a) {Y:Int} (hY:0 < Y) (k:Nat):0 ≤ (a.getD (a.length - 1 - k) 0 + 1000000000 * (upA a k % Y)) / Y ∧ (a.getD (a.length - 1 - k) 0 + 1000000000 * (upA a k % Y)) / Y < 1000000000:=by
  have h1:=ha.getD (a.length - 1 - k)
  have h2:=Int.emod_nonneg (upA a k) (show Y ≠ 0 by omega)
  have h3:=Int.emod_lt_of_pos (upA a k) hY
  refine ⟨Int.ediv_nonneg (by omega) (by omega),Int.ediv_lt_of_lt_mul hY (by omega)⟩
theorem qrj {a:List Int} (ha:Dg a) {Y:Int} (hY:0 < Y):∀ k,Dg (dQ a Y k)
  | 0=>Dg.nil
  | k + 1=>fun d hd=>by
    rcases List.mem_cons.1 hd with rfl | hd
    · exact qle ha hY k
    · exact qrj ha hY k d hd
theorem qi4 (a:List Int) {Y:Int} (k:Nat):upA a (k + 1) = a.getD (a.length - 1 - k) 0 + 1000000000 * (upA a k % Y) + Y * (1000000000 * (upA a k / Y)):=by
  have:=Int.emod_add_mul_ediv (upA a k) Y
  rw [upA]
  have e:Y * (1000000000 * (upA a k / Y)) = 1000000000 * (Y * (upA a k / Y)):=by rw [Int.mul_left_comm]
  omega
theorem qrI (a:List Int) {Y:Int} (hY:0 < Y):∀ k,dval (dQ a Y k) = upA a k / Y
  | 0=>by simp [dQ, dval, upA]
  | k + 1=>by
    rw [dQ,dval,qrI a hY k,qi4 a (Y:=Y) k,Int.add_mul_ediv_left _ _ (by omega)]
theorem qp8 (a:List Int) {Y:Int} (k:Nat):upA a (k + 1) % Y = (a.getD (a.length - 1 - k) 0 + 1000000000 * (upA a k % Y)) % Y:=by
  rw [qi4 a (Y:=Y) k,Int.add_mul_emod_self_left]
theorem qrH (V Y:Int) (hV:0 ≤ V) (hY:0 < Y):f201 (dig V.toNat, (enc (Y * (V / Y))).2.1, ()) = f201 (dig V.toNat, dig (Y * (V / Y)).toNat, ()):=by
  have h:0 ≤ Y * (V / Y):=Int.mul_nonneg (by omega) (Int.ediv_nonneg hV (by omega))
  rw [show (Y * (V / Y)).toNat = (Y * (V / Y)).natAbs by omega]; rfl
theorem qo5 (V Y:Int) (hV:0 ≤ V) (hY:0 < Y) (h:(dig V.toNat).length ≤ 1000000):f201 (dig V.toNat, (enc (Y * (V / Y))).2.1, ()) = some (dig (V % Y).toNat, ()):=by
  have h0:0 ≤ Y * (V / Y):=Int.mul_nonneg (by omega) (Int.ediv_nonneg hV (by omega))
  have h1:=Int.emod_add_mul_ediv V Y
  have h2:=Int.emod_nonneg V (show Y ≠ 0 by omega)
  have e1:((V.toNat:Nat):Int) = V:=by omega
  have e2:(((Y * (V / Y)).toNat:Nat):Int) = Y * (V / Y):=by omega
  rw [qrH V Y hV hY,qk3 _ _ (qbA _) (qbA _) h (qcJ (by omega)) (by rw [qbG,qbG]; omega),qbG,qbG,e1,e2,show V - Y * (V / Y) = V % Y by omega]
theorem l178 (s0 s1 z:Int) (a:List Int) (Y:Int) (ha:Dg a) (hY:0 < Y) (hl:(dig Y.natAbs).length ≤ 10000) (h:a.length ≤ 10000) :
    l178_0 (((a.length,a.length),([],(a.length:Int) - 1,())),((s0,a,()),(s1,dig Y.natAbs,()),(z,()),List.replicate a.length 0,())) =
      some (.inl (((a.length,a.length),(dig (upA a a.length % Y).toNat,())),((s0,a,()),(s1,dig Y.natAbs,()),(z,()),dQ a Y a.length,()))):=by
  have key:=qcQ (step:=s178_0) (m:=rounds) (n:=a.length) (b:=(((a.length,a.length),(dig (upA a a.length % Y).toNat,())),((s0,a,()),(s1,dig Y.natAbs,()),(z,()),dQ a Y a.length,())))
    (fun k=>(((a.length,a.length),(dig (upA a k % Y).toNat,(a.length:Int) - 1 - (k:Int),())),((s0,a,()),(s1,dig Y.natAbs,()),(z,()),List.replicate (a.length - k) 0++dQ a Y k,()))) ?_ ?_ (qam (by omega))
  · have h0:dig (upA a 0 % Y).toNat = []:=by simp [upA,qaN]
    have h1:List.replicate (a.length - 0) (0:Int)++dQ a Y 0 = List.replicate a.length 0:=by simp [dQ]
    have h2:(a.length:Int) - 1 - ((0:Nat):Int) = (a.length:Int) - 1:=by omega
    simp only [h0,h1,h2] at key
    exact key
  · intro k hk
    have hidx:(a.length:Int) - 1 - (k:Int) = ((a.length - 1 - k:Nat):Int):=by omega
    have hnext:wrap64 (((a.length - 1 - k:Nat):Int) - 1) = (a.length:Int) - 1 - ((k + 1:Nat):Int):=by rw [qab (by omega) (by omega)]; omega
    have hrep:List.replicate (a.length - k) (0:Int) = List.replicate ((a.length - 1 - k) + 1) 0:=by congr 1; omega
    have hset:(List.replicate (a.length - k) 0++dQ a Y k).set (a.length - 1 - k) ((a.getD (a.length - 1 - k) 0 + 1000000000 * (upA a k % Y)) / Y) = List.replicate (a.length - (k + 1)) 0++dQ a Y (k + 1):=by
      rw [hrep,qj3,dQ,show a.length - (k + 1) = a.length - 1 - k by omega]
    have hblen:(List.replicate (a.length - k) (0:Int)++dQ a Y k).length = a.length:=by rw [List.length_append,List.length_replicate,qmY]; omega
    have hb:=qle ha hY k
    have hd:=ha.getD (a.length - 1 - k)
    have hr0:=Int.emod_nonneg (upA a k) (show Y ≠ 0 by omega)
    have hr1:=Int.emod_lt_of_pos (upA a k) hY
    have hmod:=qp8 a (Y:=Y) k
    generalize hR:upA a k % Y = R at *
    generalize hV:a.getD (a.length - 1 - k) 0 + 1000000000 * R = V at *
    have hV0:0 ≤ V:=by omega
    have hRl:(dig R.toNat).length ≤ 10000:=Nat.le_trans (qcJ (by omega)) hl
    have hVl:(dig V.toNat).length ≤ 10001:=by
      refine Nat.le_trans (m:=(dig Y.natAbs).length + 1) (qaP ?_) (by omega)
      have q1:=qa9 Y.natAbs
      simp only [pw]; omega
    have hdg:Dg ([a.getD (a.length - 1 - k) 0]++dig R.toNat):=Dg.append (fun x hx=>by rw [List.mem_singleton] at hx; subst hx; exact hd) (qbA _)
    have hf:f199 ([a.getD (a.length - 1 - k) 0]++dig R.toNat,()) = some (dig V.toNat,()):=by
      rw [qkn _ (by simp; omega) hdg]
      congr 3
      have:dval ([a.getD (a.length - 1 - k) 0]++dig R.toNat) = V:=by
        show a.getD (a.length - 1 - k) 0 + 1000000000 * dval (dig R.toNat) = V
        rw [qbG]; omega
      rw [this]
    have hin:l178_2 (((a.length,a.length),(dig V.toNat,((a.length - 1 - k:Nat):Int),(0:Int),(999999999:Int),())),((s0,a,()),(s1,dig Y.natAbs,()),(z,()),List.replicate (a.length - k) 0++dQ a Y k,())) =
        some (.inl (((a.length,a.length),(dig V.toNat,((a.length - 1 - k:Nat):Int),V / Y,())),((s0,a,()),(s1,dig Y.natAbs,()),(z,()),List.replicate (a.length - k) 0++dQ a Y k,()))) :=
      qqP _ _ _ s0 s1 z a _ V Y hV0 hY hl (by omega) 999999999 0 999999999 rounds (by omega) (by omega) hb.1 (by omega) (by omega) (qam (by omega))
    have e1:f186 (1,dig Y.natAbs,()) = some (enc Y,()):=by rw [qnf hY,qlA Y (by omega)]
    have e2:=qdD (V / Y) (by omega)
    have e3:=qlE (x:=Y) hl hb.1 hb.2
    have e4:=qo5 V Y hV0 hY (by omega)
    rw [hidx]
    dsimp only
    simp only [s178_0,t178_0,Tr.val_test,Tr.val_fin,qaf,Int.toNat_natCast]
    rw [if_pos (by simp),if_pos (by simp; omega)]
    simp only [g199,hf,b178_2,hin,qaV,outB,g186,e1,g164,e2,g167,e3,g201,e4,Option.isSome_some,Option.getD_some,if_true,Int.toNat_natCast,Nat.zero_add,hset,hnext,hmod,hblen]
    rw [if_pos (by simp only [Bool.and_eq_true,qa3]; omega),if_pos (by simp; omega),if_pos (by rw [qa3]; omega)]
  · have e:(a.length:Int) - 1 - (a.length:Int) = -1:=by omega
    simp only [e,Nat.sub_self,List.replicate_zero,List.nil_append]
    simp [s178_0,t178_0,qaf]
theorem qhf {x Y:Int} (hY:0 < Y):x / Y = if (-x) % Y = 0 then -((-x) / Y) else -((-x) / Y) - 1:=by
  have h1:=Int.emod_add_mul_ediv (-x) Y
  have h2:=Int.emod_nonneg (-x) (show Y ≠ 0 by omega)
  have h3:=Int.emod_lt_of_pos (-x) hY
  split
  · rename_i h
    refine ((Int.ediv_emod_unique (r:=0) hY).2 ⟨?_, by omega, hY⟩).1
    rw [Int.mul_neg]; omega
  · refine ((Int.ediv_emod_unique (r:=Y - (-x) % Y) hY).2 ⟨?_, by omega, by omega⟩).1
    rw [Int.mul_sub,Int.mul_neg]; omega
theorem qg8 (x Y:Int) (hY:0 < Y) (hl:(dig Y.natAbs).length ≤ 10000) (h:(dig x.natAbs).length ≤ 10000):f178 (enc x,enc Y,()) = some (enc (x / Y),()):=by
  show f178 ((x.sign,dig x.natAbs,()),(Y.sign,dig Y.natAbs,()),()) = _
  have hL:=l178 x.sign Y.sign 0 (dig x.natAbs) Y (qbA _) hY hl h
  have hup:upA (dig x.natAbs) (dig x.natAbs).length = (x.natAbs:Int):=by
    rw [qlB _ _ (Nat.le_refl _),Nat.sub_self,List.drop_zero,qbG]
  rw [hup] at hL
  have hdq:=qrI (dig x.natAbs) hY (dig x.natAbs).length
  rw [hup] at hdq
  have hw:wrap64 (((dig x.natAbs).length:Int) - 1) = ((dig x.natAbs).length:Int) - 1:=qab (by omega) (by omega)
  have hql:=qmY (dig x.natAbs) Y (dig x.natAbs).length
  have hf:f186 (x.sign,dQ (dig x.natAbs) Y (dig x.natAbs).length,()) = some (mkN x.sign ((x.natAbs:Int) / Y),()):=by
    rw [qem _ _ (by omega) (qrj (qbA _) hY _),hdq]
  have h0:=Int.ediv_nonneg (show (0:Int) ≤ (x.natAbs:Int) by omega) (show 0 ≤ Y by omega)
  have hle:(x.natAbs:Int) / Y ≤ x.natAbs:=Int.ediv_le_self _ (by omega)
  simp only [f178,t178,Tr.val_test,Tr.val_fin,qau,qaf,hw,Int.toNat_natCast,b178_0,hL,qaV,outB,if_true,g186,hf,hql,Option.isSome_some,Option.getD_some]
  rcases qb0 x with ⟨hx,e⟩ | ⟨hx,e⟩ | ⟨hx,e⟩
  · have ex:(x.natAbs:Int) = -x:=by omega
    rw [if_neg (by rw [e]; simp),if_pos (by simp; omega),if_pos (by simp),if_pos (by rw [e]; simp)]
    have hm:mkN x.sign ((x.natAbs:Int) / Y) = enc (-((-x) / Y)):=qfC (by rw [ex] at h0 ⊢; omega) fun hz=>by
      rw [ex] at h0; rw [e,Int.sign_eq_neg_one_of_neg (by omega)]
    have hfl:=qhf (x:=x) hY
    have hr0:=Int.emod_nonneg (-x) (show Y ≠ 0 by omega)
    rw [hm,ex]
    by_cases hr:(-x) % Y = 0
    · rw [if_pos hr] at hfl
      rw [if_neg (by rw [hr]; simp [qaN]),hfl]
    · rw [if_neg hr] at hfl
      have hne:(dig ((-x) % Y).toNat).length ≠ 0:=fun t=>by
        have:=dig_nil.1 (List.eq_nil_of_length_eq_zero t); omega
      have e1:=qdD 1 (by decide)
      have hlq:(dig (-((-x) / Y)).natAbs).length ≤ 10000:=Nat.le_trans (qcJ (by rw [ex] at h0 hle; omega)) h
      have e2:f187 (((enc (-((-x) / Y))).1, (enc (-((-x) / Y))).2.1, ()), ((enc 1).1, (enc 1).2.1, ()), ()) = some (enc (-((-x) / Y) - 1), ()):=qky _ 1 (by omega) (by have:=qgV (x:=1) (by omega) (by omega); omega)
      rw [if_pos (by simp only [Bool.not_eq_true',decide_eq_false_iff_not]; omega)]
      simp only [g164,e1,g187,e2,Option.isSome_some,Option.getD_some,if_true]
      rw [hfl]
  · subst hx
    rw [if_pos (by simp),Int.zero_ediv]; simp [enc,qaN]
  · have ex:(x.natAbs:Int) = x:=by omega
    rw [if_neg (by rw [e]; simp),if_pos (by simp; omega),if_pos (by simp),if_neg (by rw [e]; simp)]
    rw [qfC (z:=x / Y) (by rw [ex] at h0 ⊢; omega) fun hz=>by
      rw [ex] at h0; rw [e,Int.sign_eq_one_of_pos (by omega)]]
theorem qpM:∀ n,pw n ≤ (((2 ^ (30 * n):Nat)):Int)
  | 0=>by simp [pw]
  | n + 1=>by
    have:=qpM n
    have e:(2:Nat) ^ (30 * (n + 1)) = 1073741824 * 2 ^ (30 * n):=by rw [Nat.mul_add,Nat.pow_add,Nat.mul_comm]
    rw [e,pw]
    omega
theorem qpk {b r:Nat} (h0:0 < r) (h:r < b):2 * (b % r) < b:=by
  have h1:=Nat.mod_lt b h0
  have h2:=Nat.div_add_mod b r
  have h3:1 ≤ b / r:=(Nat.one_le_div_iff h0).2 (Nat.le_of_lt h)
  have h4:r * 1 ≤ r * (b / r):=Nat.mul_le_mul_left r h3
  omega
theorem qje (a b:Nat) (z:Int) (hb:b ≠ 0) (h1:(dig a).length ≤ 10000) (h2:(dig b).length ≤ 10000) :
    s203_0 ((),(((a:Int).sign,dig a,()),((b:Int).sign,dig b,()),(z,()),())) = some (.again ((),(((b:Int).sign,dig b,()),(((a % b:Nat):Int).sign,dig (a % b),()),(z,()),()))):=by
  have e0:f202 (((b:Int).sign,dig b,()),()) = some ((b:Int).sign,()):=rfl
  have e1:f178 (((a:Int).sign,dig a,()),((b:Int).sign,dig b,()),()) = some (enc ((a:Int) / (b:Int)),()):=qg8 a b (by omega) h2 h1
  have hd:(dig ((a:Int) / (b:Int)).natAbs).length ≤ 10000:=Nat.le_trans (qcJ (by
    have:((a:Int) / (b:Int)).natAbs = a / b:=by rw [← Int.natCast_ediv]; rfl
    rw [this]; exact Nat.div_le_self _ _)) h1
  have e2:f167 (((enc ((a:Int) / (b:Int))).1, (enc ((a:Int) / (b:Int))).2.1, ()), ((b:Int).sign, dig b, ()), ()) = some (enc ((a:Int) / (b:Int) * (b:Int)), ()):=qet _ b (by simp only [Int.natAbs_natCast]; omega)
  have hm:=Int.emod_add_mul_ediv (a:Int) b
  have hle:0 ≤ (a:Int) / (b:Int) * (b:Int):=Int.mul_nonneg (Int.ediv_nonneg (by omega) (by omega)) (by omega)
  have hmn:=Int.emod_nonneg (a:Int) (show (b:Int) ≠ 0 by omega)
  have hcm:(a:Int) / (b:Int) * (b:Int) = (b:Int) * ((a:Int) / (b:Int)):=Int.mul_comm _ _
  have e3:f187 (((a:Int).sign, dig a, ()), ((enc ((a:Int) / (b:Int) * (b:Int))).1, (enc ((a:Int) / (b:Int) * (b:Int))).2.1, ()), ()) = some (enc ((a % b:Nat):Int), ()):=by
    have h:=qky a ((a:Int) / (b:Int) * (b:Int)) (by simp only [Int.natAbs_natCast]; omega) (Nat.le_trans (qcJ (n:=a) (by omega)) (by omega))
    rw [show (a:Int) - (a:Int) / (b:Int) * (b:Int) = ((a % b:Nat):Int) by rw [Int.natCast_emod]; omega] at h
    exact h
  have hs:(b:Int).sign = 1:=Int.sign_eq_one_of_pos (by omega)
  simp only [s203_0,t203_0,g202,e0,g178,e1,g167,e2,g187,e3,Option.isSome_some,Option.getD_some,Tr.val_test,Tr.val_fin,qau,if_true]
  rw [if_pos (by rw [hs]; simp)]
  rfl
theorem qlC (a:Nat) (z:Int):s203_0 ((),(((a:Int).sign,dig a,()),(((0:Nat):Int).sign,dig 0,()),(z,()),())) = some (.brk ((),(((a:Int).sign,dig a,()),(((0:Nat):Int).sign,dig 0,()),(z,()),()))):=by
  have e0:f202 ((((0:Nat):Int).sign,dig 0,()),()) = some (((0:Nat):Int).sign,()):=rfl
  simp only [s203_0,t203_0,g202,e0,Option.isSome_some,Option.getD_some,Tr.val_test,Tr.val_fin,qau,if_true]
  rw [if_neg (by simp)]
theorem qru (z:Int):∀ (k a b m:Nat),b < 2 ^ k → (dig a).length ≤ 10000 → (dig b).length ≤ 10000 → 2 * k < m →
    itr s203_0 m ((),(((a:Int).sign,dig a,()),((b:Int).sign,dig b,()),(z,()),())) =
      some (.inl ((),(((Nat.gcd a b:Nat):Int).sign,dig (Nat.gcd a b),()),(((0:Nat):Int).sign,dig 0,()),(z,()),()))
  | k, a, b, m, h, h1, h2, hm=>by
    obtain ⟨m,rfl⟩:∃ j,m = j + 1:=⟨m - 1,by omega⟩
    by_cases hb:b = 0
    · subst hb
      rw [itr,qlC,Nat.gcd_zero_right]
    · rw [itr,qje a b z hb h1 h2]
      dsimp only
      have hr:=Nat.mod_lt a (Nat.pos_of_ne_zero hb)
      have hrl:(dig (a % b)).length ≤ 10000:=Nat.le_trans (qcJ (Nat.le_of_lt hr)) h2
      have hg:Nat.gcd a b = Nat.gcd b (a % b):=by rw [Nat.gcd_comm,Nat.gcd_rec,Nat.gcd_comm]
      obtain ⟨m,rfl⟩:∃ j,m = j + 1:=⟨m - 1,by
        cases k with
        | zero=>simp at h; omega
        | succ k=>omega⟩
      by_cases hr0:a % b = 0
      · rw [hg,hr0,itr,qlC,Nat.gcd_zero_right]
      · rw [itr,qje b (a % b) z hr0 h2 hrl]
        dsimp only
        have hh:=qpk (Nat.pos_of_ne_zero hr0) hr
        have hg2:Nat.gcd b (a % b) = Nat.gcd (a % b) (b % (a % b)):=by rw [Nat.gcd_comm,Nat.gcd_rec,Nat.gcd_comm]
        cases k with
        | zero=>simp at h; omega
        | succ k =>
          rw [hg,hg2]
          have h3:=Nat.mod_lt b (Nat.pos_of_ne_zero hr0)
          exact qru z k (a % b) (b % (a % b)) m (by rw [Nat.pow_succ] at h; omega) hrl (Nat.le_trans (qcJ (by omega)) hrl) (by omega)
theorem qql (x y:Int) (h1:(dig x.natAbs).length ≤ 10000) (h2:(dig y.natAbs).length ≤ 10000):f203 (enc x,enc y,()) = some (enc (Nat.gcd x.natAbs y.natAbs:Nat),()):=by
  have e0:f212 ((x.sign,dig x.natAbs,()),()) = some (enc x.natAbs,()):=qnt x
  have e1:f212 ((y.sign,dig y.natAbs,()),()) = some (enc y.natAbs,()):=qnt y
  have hlt:y.natAbs < 2 ^ (30 * (dig y.natAbs).length):=by
    have q1:=qa9 y.natAbs
    have q2:=qpM (dig y.natAbs).length
    omega
  have hl:l203_0 ((), (((enc x.natAbs).1, (enc x.natAbs).2.1, ()), ((enc y.natAbs).1, (enc y.natAbs).2.1, ()), ((0:Int), ()), ())) =
      some (.inl ((),(((Nat.gcd x.natAbs y.natAbs:Nat):Int).sign,dig (Nat.gcd x.natAbs y.natAbs),()),(((0:Nat):Int).sign,dig 0,()),((0:Int),()),())) :=
    qru 0 _ x.natAbs y.natAbs rounds hlt h1 h2 (qam (by omega))
  show f203 ((x.sign,dig x.natAbs,()),(y.sign,dig y.natAbs,()),()) = _
  simp only [f203,t203,g212,e0,e1,b203_0,hl,Option.isSome_some,Option.getD_some,Tr.val_test,Tr.val_fin,qaV,outB,if_true]
  rfl
def encR (r:Rat):(Int×List Int×PUnit)×(Int×List Int×PUnit)×PUnit:=(enc r.num,enc (r.den:Int),())
def rsz (r:Rat) (n:Nat):Prop:=(dig r.num.natAbs).length ≤ n ∧ (dig r.den).length ≤ n
theorem qnj (m n:Nat):(dig (m * n)).length ≤ (dig m).length + (dig n).length:=qaP (by
  have h1:=qa9 m; have h2:=qa9 n
  rw [qnO,Int.natCast_mul]
  rcases Nat.eq_zero_or_pos n with h | h
  · subst h
    have:=qel (dig m).length; have:=qel (dig 0).length
    have:=Int.mul_pos (qel (dig m).length) (qel (dig 0).length)
    simpa using this
  · exact Int.lt_of_lt_of_le (Int.mul_lt_mul_of_pos_right h1 (by omega)) (Int.mul_le_mul_of_nonneg_left (Int.le_of_lt h2) (Int.le_of_lt (qel _))))
theorem qqD (x y:Int) {k:Nat} (h1:(dig x.natAbs).length ≤ k) (h2:(dig y.natAbs).length ≤ k):(dig (x + y).natAbs).length ≤ k + 1:=qaP (by
  have q1:=qa9 x.natAbs; have q2:=qa9 y.natAbs
  have q3:pw (dig x.natAbs).length ≤ pw k:=qjf h1
  have q4:pw (dig y.natAbs).length ≤ pw k:=qjf h2
  simp only [pw]; omega)
theorem qfZ (x y:Int):(dig (x * y).natAbs).length ≤ (dig x.natAbs).length + (dig y.natAbs).length:=by rw [Int.natAbs_mul]; exact qnj _ _
theorem qoE (x:Int) (y:Nat) (hy:y ≠ 0) (h1:(dig x.natAbs).length ≤ 10000) (h2:(dig y).length ≤ 10000):f183 (enc x,enc (y:Int),()) = some (encR (Rat.normalize x y hy),()):=by
  have hs:(y:Int).sign = 1:=Int.sign_eq_one_of_pos (by omega)
  have e0:f202 (((y:Int).sign,dig (y:Int).natAbs,()),()) = some ((y:Int).sign,()):=rfl
  have e1:f203 ((x.sign,dig x.natAbs,()),((y:Int).sign,dig (y:Int).natAbs,()),()) = some (enc (Nat.gcd x.natAbs y:Nat),()):=qql x y h1 h2
  have e2:=qdD 1 (by decide)
  have hg:0 < Nat.gcd x.natAbs y:=Nat.gcd_pos_of_pos_right _ (by omega)
  have hgl:(dig (Nat.gcd x.natAbs y)).length ≤ 10000:=Nat.le_trans (qcJ (Nat.gcd_le_right _ (by omega))) h2
  have hnum:(Rat.normalize x y hy).num = x / ((Nat.gcd x.natAbs y:Nat):Int):=by rw [Rat.normalize_eq]
  have hden:(Rat.normalize x y hy).den = y / Nat.gcd x.natAbs y:=by rw [Rat.normalize_eq]
  generalize hgg:Nat.gcd x.natAbs y = g at *
  have e3:f166 (((enc (g:Nat)).1, (enc (g:Nat)).2.1, ()), ((enc 1).1, (enc 1).2.1, ()), ()) = some (((g:Int) - 1).sign, ()):=qnb (g:Int) 1 (by simp only [Int.natAbs_natCast]; omega) (by have:=qgV (x:=1) (by omega) (by omega); omega)
  have e4:f178 ((x.sign, dig x.natAbs, ()), ((enc (g:Nat)).1, (enc (g:Nat)).2.1, ()), ()) = some (enc (x / (g:Int)), ()):=qg8 x g (by omega) hgl h1
  have e5:f178 (((y:Int).sign, dig (y:Int).natAbs, ()), ((enc (g:Nat)).1, (enc (g:Nat)).2.1, ()), ()) = some (enc ((y:Int) / (g:Int)), ()):=qg8 y g (by omega) hgl h2
  show f183 ((x.sign,dig x.natAbs,()),((y:Int).sign,dig (y:Int).natAbs,()),()) = _
  simp only [f183,t183,g202,e0,g203,e1,g164,e2,g166,e3,Option.isSome_some,Option.getD_some,Tr.val_test,Tr.val_fin,qaf,qau,if_true]
  rw [if_neg (by rw [hs]; simp)]
  by_cases h:g = 1
  · subst h
    rw [if_pos (by simp),encR,hnum,hden]
    simp [enc]
  · rw [if_neg (by rw [Int.sign_eq_one_of_pos (by omega)]; simp)]
    simp only [g178,e4,e5,Option.isSome_some,Option.getD_some,if_true]
    rw [encR,hnum,hden,Int.natCast_ediv]
theorem qn9 (x:Int) (h:x.natAbs ≤ 9223372036854775807):f106 (x,()) = some (encR (x:Rat),()):=by
  have e1:=qdD x h
  have e2:=qdD 1 (by decide)
  simp only [f106,t106,g164,e1,e2,Option.isSome_some,Option.getD_some,Tr.val_test,Tr.val_fin,if_true]
  rfl
theorem qqM (x:Int) (y:Nat) (hy:y ≠ 0) (h:x.natAbs ≤ 9223372036854775807) (h2:y ≤ 9223372036854775807):f163 (x,(y:Int),()) = some (encR (Rat.normalize x y hy),()):=by
  have e1:=qdD x h
  have e2:=qdD (y:Int) (by omega)
  have e3:f183 (((enc x).1, (enc x).2.1, ()), ((enc (y:Int)).1, (enc (y:Int)).2.1, ()), ()) = some (encR (Rat.normalize x y hy), ()):=qoE x y hy
    (Nat.le_trans (qaP (k:=3) (by simp only [pw]; omega)) (by omega)) (Nat.le_trans (qaP (k:=3) (by simp only [pw]; omega)) (by omega))
  simp only [f163,t163,g164,e1,e2,g183,e3,Option.isSome_some,Option.getD_some,Tr.val_test,Tr.val_fin,if_true]
theorem qqc (r s:Rat) (hr:rsz r 2000) (hs:rsz s 2000):f162 (encR r,encR s,()) = some (encR (r + s),()):=by
  obtain ⟨r1,r2⟩:=hr
  obtain ⟨s1,s2⟩:=hs
  have m1:=qfZ r.num (s.den:Int)
  have m2:=qfZ s.num (r.den:Int)
  have m3:=qnj r.den s.den
  simp only [Int.natAbs_natCast] at m1 m2
  have m4:=qqD (r.num * (s.den:Int)) (s.num * (r.den:Int)) (k:=4000) (by omega) (by omega)
  have e1:f167 ((r.num.sign,dig r.num.natAbs,()),((s.den:Int).sign,dig s.den,()),()) = some (enc (r.num * (s.den:Int)),()):=qet _ _ (by simp only [Int.natAbs_natCast]; omega)
  have e2:f167 ((s.num.sign,dig s.num.natAbs,()),((r.den:Int).sign,dig r.den,()),()) = some (enc (s.num * (r.den:Int)),()):=qet _ _ (by simp only [Int.natAbs_natCast]; omega)
  have e3:f184 (((enc (r.num * (s.den:Int))).1, (enc (r.num * (s.den:Int))).2.1, ()), ((enc (s.num * (r.den:Int))).1, (enc (s.num * (r.den:Int))).2.1, ()), ()) = some (enc (r.num * (s.den:Int) + s.num * (r.den:Int)), ()):=qmO _ _ (by omega) (by omega)
  have e4:f167 (((r.den:Int).sign,dig r.den,()),((s.den:Int).sign,dig s.den,()),()) = some (enc ((r.den * s.den:Nat):Int),()):=by
    rw [Int.natCast_mul]; exact qet (r.den:Int) (s.den:Int) (by simp only [Int.natAbs_natCast]; omega)
  have e5:f183 (((enc (r.num * (s.den:Int) + s.num * (r.den:Int))).1, (enc (r.num * (s.den:Int) + s.num * (r.den:Int))).2.1, ()), ((enc ((r.den * s.den:Nat):Int)).1, (enc ((r.den * s.den:Nat):Int)).2.1, ()), ()) = some (encR (r + s), ()):=by
    rw [Rat.add_def]; exact qoE _ _ _ (by omega) (by omega)
  show f162 (((r.num.sign,dig r.num.natAbs,()),((r.den:Int).sign,dig r.den,()),()),((s.num.sign,dig s.num.natAbs,()),((s.den:Int).sign,dig s.den,()),()),()) = _
  simp only [f162,t162,g167,e1,e2,g184,e3,e4,g183,e5,Option.isSome_some,Option.getD_some,Tr.val_test,Tr.val_fin,if_true]
theorem qqh (r s:Rat) (hr:rsz r 2000) (hs:rsz s 2000):f108 (encR r,encR s,()) = some ((r.num * (s.den:Int) - s.num * (r.den:Int)).sign,()):=by
  obtain ⟨r1,r2⟩:=hr
  obtain ⟨s1,s2⟩:=hs
  have m1:=qfZ r.num (s.den:Int)
  have m2:=qfZ s.num (r.den:Int)
  simp only [Int.natAbs_natCast] at m1 m2
  have e1:f167 ((r.num.sign,dig r.num.natAbs,()),((s.den:Int).sign,dig s.den,()),()) = some (enc (r.num * (s.den:Int)),()):=qet _ _ (by simp only [Int.natAbs_natCast]; omega)
  have e2:f167 ((s.num.sign,dig s.num.natAbs,()),((r.den:Int).sign,dig r.den,()),()) = some (enc (s.num * (r.den:Int)),()):=qet _ _ (by simp only [Int.natAbs_natCast]; omega)
  have e3:f166 (((enc (r.num * (s.den:Int))).1, (enc (r.num * (s.den:Int))).2.1, ()), ((enc (s.num * (r.den:Int))).1, (enc (s.num * (r.den:Int))).2.1, ()), ()) = some ((r.num * (s.den:Int) - s.num * (r.den:Int)).sign, ()):=qnb _ _ (by omega) (by omega)
  show f108 (((r.num.sign,dig r.num.natAbs,()),((r.den:Int).sign,dig r.den,()),()),((s.num.sign,dig s.num.natAbs,()),((s.den:Int).sign,dig s.den,()),()),()) = _
  simp only [f108,t108,g167,e1,e2,g166,e3,Option.isSome_some,Option.getD_some,Tr.val_test,Tr.val_fin,if_true]
def acl (l:List Int):Nat → Int
  | 0=>0
  | j + 1=>wrap64 (wrap64 (acl l j * 1000000000) + l.getD (l.length - 1 - j) 0)
theorem qrE:∀ (l:List Int),l.length ≤ 2 → Dg l → acl l l.length = dval l
  | [], _, _=>rfl
  | [d], _, hd=>by
    have h1:=hd.head
    have e:acl [d] [d].length = wrap64 (wrap64 (0 * 1000000000) + d):=rfl
    rw [e,qab (n:=0 * 1000000000) (by omega) (by omega),qab (by omega) (by omega)]
    simp only [dval]; omega
  | [d, e], _, hd=>by
    have h1:=hd.head
    have h2:=hd.tail.head
    have q:acl [d,e] [d,e].length = wrap64 (wrap64 (wrap64 (wrap64 (0 * 1000000000) + e) * 1000000000) + d):=rfl
    rw [q,qab (n:=0 * 1000000000) (by omega) (by omega),qab (n:=0 * 1000000000 + e) (by omega) (by omega),qab (n:=(0 * 1000000000 + e) * 1000000000) (by omega) (by omega),qab (by omega) (by omega)]
    simp only [dval]; omega
  | _ :: _ :: _ :: _, h, _=>by simp at h
theorem l103 (s:Int) (l:List Int) (hl:l.length ≤ 2) (hd:Dg l):l103_0 (((0:Int),(l.length:Int) - 1,()),(s,l,()),()) = some (.inl ((dval l,()),(s,l,()),())):=by
  have key:=qcQ (step:=s103_0) (fun j=>((acl l j,(l.length:Int) - 1 - (j:Int),()),(s,l,()),())) (n:=l.length) (m:=rounds) (b:=((acl l l.length,()),(s,l,()),())) ?_ ?_ (qam (by omega))
  · rw [qrE l hl hd] at key
    have e:(l.length:Int) - 1 - ((0:Nat):Int) = (l.length:Int) - 1:=by omega
    simp only [e] at key
    exact key
  · intro j hj
    have e1:Int.toNat ((l.length:Int) - 1 - (j:Int)) = l.length - 1 - j:=by omega
    have e2:wrap64 ((l.length:Int) - 1 - (j:Int) - 1) = (l.length:Int) - 1 - ((j + 1:Nat):Int):=by rw [qab (by omega) (by omega)]; omega
    simp only [s103_0,t103_0,Tr.val_test,Tr.val_fin,Tr.val_stop,qaf,e1,e2]
    rw [if_pos (by rw [decide_eq_true_eq]; omega),if_pos (by simp only [Bool.and_eq_true,decide_eq_true_eq]; omega)]
    rfl
  · simp only [s103_0,t103_0,Tr.val_test,Tr.val_fin,Tr.val_stop,qaf]
    rw [if_neg (by rw [decide_eq_true_eq]; omega)]
theorem qqV (x:Int) (h:(dig x.natAbs).length ≤ 2):f103 (enc x,()) = some (x,true,()):=by
  have hl:=l103 x.sign (dig x.natAbs) h (qbA _)
  have n1:decide (((dig x.natAbs).length:Int) ≤ 2) = true:=by rw [decide_eq_true_eq]; omega
  have w1:wrap64 (((dig x.natAbs).length:Int) - 1) = ((dig x.natAbs).length:Int) - 1:=qab (by omega) (by omega)
  have hb:=qa9 x.natAbs
  have hp:=qjf h
  have hp2:pw 2 = 1000000000000000000:=rfl
  have w2:wrap64 (x.sign * dval (dig x.natAbs)) = x:=by
    rw [qbG,Int.sign_mul_natAbs]
    exact qab (by omega) (by omega)
  show f103 ((x.sign,dig x.natAbs,()),()) = _
  simp only [f103,t103,Tr.val_test,Tr.val_fin,Tr.val_stop,qaf,n1,w1,hl,qaV,b103_0,outB,w2,Bool.not_true,Bool.false_eq_true,if_false,if_true]
theorem qq9 (a:Int) (b:Nat) (hb:b ≠ 0):low a (b:Int) = pr (Rat.normalize a b hb):=by
  unfold low pr
  rw [Rat.normalize_eq]
  have e:Int.gcd a (b:Int) = Nat.gcd a.natAbs b:=rfl
  rw [e]
  have h1:((Nat.gcd a.natAbs b:Nat):Int) ∣ a:=Int.ofNat_dvd_left.2 (Nat.gcd_dvd_left _ _)
  rw [Int.tdiv_eq_ediv_of_dvd h1,Int.tdiv_eq_ediv_of_dvd (Int.natCast_dvd_natCast.2 (Nat.gcd_dvd_right _ _)),Int.natCast_ediv]
theorem qpL:∀ (n:Nat) (a b:Int),b.natAbs ≤ n → 0 ≤ a → 0 ≤ b → 0 ≤ euc a b
  | 0, a, b, h, ha, _=>by
    have:b = 0:=by omega
    subst this; rw [qf2]; exact ha
  | n + 1, a, b, h, ha, hb=>by
    by_cases h0:b = 0
    · subst h0; rw [qf2]; exact ha
    · rw [qh8 a h0]
      have h1:0 ≤ a.tmod b:=Int.tmod_nonneg _ ha
      have h2:a.tmod b < b:=Int.tmod_lt_of_pos _ (by omega)
      exact qpL n b (a.tmod b) (by omega) hb h1
theorem qr6 (x y a b:Int) (hb:b.natAbs ≤ 9223372036854775807):l156_0 ((x,y,a,b,()),((0:Int),(0:Int),()),()) = some (.inl ((x,y,euc a b,()),((0:Int),(0:Int),()),())):=by
  refine qqe (fun a b=>((x,y,a,b,()),((0:Int),(0:Int),()),())) (fun a=>((x,y,a,()),((0:Int),(0:Int),()),())) ?_ ?_ rounds a b (qr2 (by omega))
  · intro a b hb
    simp [s156_0,t156_0,qau,hb]
  · intro a
    simp [s156_0,t156_0,qau]
theorem qqL (n:Int) (d:Nat) (hd:d ≠ 0) (h0:0 ≤ n) (h1:n ≤ 9223372036854775807) (h2:d ≤ 9223372036854775807):f156 (n,(d:Int),()) = some (pr (Rat.normalize n d hd),()):=by
  have e:euc (d:Int) n = (Int.gcd n (d:Int):Int):=by
    have a:=qqr (d:Int) n
    have b:=qpL n.natAbs (d:Int) n (Nat.le_refl _) (by omega) h0
    rw [Int.gcd_comm]
    have:Int.gcd (d:Int) n = Nat.gcd (d:Int).natAbs n.natAbs:=rfl
    omega
  have hl:=qr6 n (d:Int) (d:Int) n (by omega)
  have hp:0 < Int.gcd n (d:Int):=Int.gcd_pos_of_ne_zero_right _ (by omega)
  have hz:(((Int.gcd n (d:Int):Nat):Int) == 0) = false:=by simp; omega
  obtain ⟨w1,w2⟩:=qph n (d:Int) (by omega) (by omega)
  simp only [f156,t156,hl,e,b156_0,outB,qaV,Tr.val_test,Tr.val_fin,Tr.val_stop,hz,Bool.false_eq_true,if_false,if_true,w1,w2]
  rw [← qq9]
structure Cv (M A L:Int):Prop where
  m1:1 ≤ M
  m2:M ≤ 10000
  a1:1 ≤ A
  a2:A ≤ 10000
  l1:1 ≤ L
  l2:L ≤ 10000
theorem qpJ {a b:Int} {m n:Int} (ha:1 ≤ a) (ha2:a ≤ m) (hb:1 ≤ b) (hb2:b ≤ n):1 ≤ a * b ∧ a * b ≤ m * n:=by
  have h1:1 * 1 ≤ a * b:=Int.mul_le_mul ha hb (by omega) (by omega)
  have h2:a * b ≤ m * n:=Int.mul_le_mul ha2 hb2 (by omega) (by omega)
  omega
theorem Cv.n1 {M A L:Int} (v:Cv M A L):1 ≤ 4 * M * A ∧ 4 * M * A ≤ 400000000:=by
  have h:=qpJ (a:=4 * M) (b:=A) (m:=40000) (n:=10000) (by have:=v.m1; omega) (by have:=v.m2; omega) v.a1 v.a2
  omega
theorem Cv.d1 {M A L m:Int} (v:Cv M A L) (h1:1 ≤ m) (h2:m ≤ 10000):1 ≤ L * m ∧ L * m ≤ 100000000:=by
  have h:=qpJ (a:=L) (b:=m) (m:=10000) (n:=10000) v.l1 v.l2 h1 h2
  omega
theorem qbn {x:Int} (h:1 ≤ x):x.toNat ≠ 0:=by omega
def sq (M A L m:Int):Rat:=mkRat (4 * M * A) (L * m).toNat
theorem qkP {M A L m:Int} (h:1 ≤ L * m):sq M A L m = Rat.normalize (4 * M * A) (L * m).toNat (qbn h):=(Rat.normalize_eq_mkRat _).symm
structure Sq (N D:Int) (r:Rat):Prop where
  n1:1 ≤ r.num
  n2:r.num ≤ 400000000
  d2:r.den ≤ 100000000
  cross:r.num * D = N * (r.den:Int)
theorem qrW {M A L m:Int} (v:Cv M A L) (h1:1 ≤ m) (h2:m ≤ 10000):Sq (4 * M * A) (L * m) (sq M A L m):=by
  have n1:=v.n1
  have d1:=v.d1 h1 h2
  have hc:=qdJ (4 * M * A) (L * m).toNat (qbn d1.1)
  have hb:=qgZ (4 * M * A) (L * m).toNat (qbn d1.1) (4 * M * A).toNat (by
    have h3:1 * (4 * M * A).toNat ≤ (4 * M * A).toNat * (L * m).toNat:=by
      rw [Nat.mul_comm]; exact Nat.mul_le_mul_left _ (by omega)
    omega)
  rw [← qkP d1.1, show (((L * m).toNat:Nat):Int) = L * m by omega] at hc
  rw [← qkP d1.1] at hb
  have hdp:=(sq M A L m).den_pos
  have hpos:0 < (sq M A L m).num * (L * m):=by
    rw [hc]; exact Int.mul_pos (by omega) (by omega)
  have hn:0 < (sq M A L m).num:=Int.pos_of_mul_pos_left hpos (by omega)
  refine ⟨by omega,?_,by omega,hc⟩
  have hle:(sq M A L m).num ≤ 4 * M * A:=by
    have hg:sq M A L m = Rat.normalize (4 * M * A) (L * m).toNat (qbn d1.1):=qkP d1.1
    rw [hg,Rat.normalize_eq]
    show 4 * M * A / _ ≤ _
    exact Int.ediv_le_self _ (by omega)
  omega
theorem qrQ (lo hi a b c:Int):f93 (lo,hi,[a,b,c],()) = some (wi lo hi a && (wi lo hi b && wi lo hi c),()):=by
  rw [qoK lo hi _ (by simp)]
  simp only [first,List.length,List.getD_cons_zero,List.getD_cons_succ]
  by_cases h1:wi lo hi a = true
  · by_cases h2:wi lo hi b = true
    · by_cases h3:wi lo hi c = true
      · simp [h1,h2,h3]
      · simp [h1,h2,h3]
    · simp [h1,h2]
  · simp [h1]
def cE (M A L:Int):Int:=if (wi 1 10000 M && (wi 1 10000 A && wi 1 10000 L)) = true then 0 else 2
theorem qrV (M A L:Int):cE M A L = 0 ∨ cE M A L = 2:=by unfold cE; split <;> omega
theorem cv_of {M A L:Int} (h:cE M A L = 0):Cv M A L:=by
  unfold cE at h
  split at h
  · rename_i hw
    simp only [Bool.and_eq_true,wi_iff] at hw
    exact ⟨hw.1.1, hw.1.2, hw.2.1.1, hw.2.1.2, hw.2.2.1, hw.2.2.2⟩
  · omega
def mE (m:Int):Int:=if wi 1 10000 m = true then 0 else 2
theorem mE_iff {m:Int}:mE m = 0 ↔ 1 ≤ m ∧ m ≤ 10000:=by
  unfold mE
  rw [← wi_iff]
  split
  · rename_i h; simp [h]
  · rename_i h; simp [h]
theorem qrX (m:Int):mE m = 0 ∨ mE m = 2:=by unfold mE; split <;> omega
def rE (lo hi a b:Int):Int:=if (wi lo hi a && wi lo hi b) = true then (if b < a then 9 else 0) else 2
theorem qoi (lo hi a b:Int):f142 (lo,hi,(a,b,()),()) = some (rE lo hi a b,()):=by
  have e:=qot lo hi a b
  have e94:∀ x y:Int,f94 ([x,y],()) = some (qbK [x,y],()):=fun x y=>qht _ (by simp)
  simp only [f142,t142,g93,e,g95,qlq,g94,e94,qaf,Option.isSome_some,Option.getD_some,Tr.val_test,Tr.val_fin,if_true,rE,qbK]
  by_cases h:b < a
  · have q:(!decide (a ≤ b)) = true:=nT (by omega)
    simp only [q,h,if_true]
    cases (wi lo hi a && wi lo hi b) <;> rfl
  · have q:(!decide (a ≤ b)) = false:=nF (by omega)
    simp only [q,h,if_false,Bool.false_eq_true]
    cases (wi lo hi a && wi lo hi b) <;> rfl
theorem qr8 {lo hi a b:Int} (h:rE lo hi a b = 0):lo ≤ a ∧ a ≤ b ∧ b ≤ hi:=by
  unfold rE at h
  split at h
  · rename_i hw
    simp only [Bool.and_eq_true,wi_iff] at hw
    split at h <;> omega
  · omega
def sO (M A L m:Int):(Int×Int×Unit)×Int×Unit:=if cE M A L = 0 then (if mE m = 0 then (pr (sq M A L m),0,()) else ((0,0,()),2,())) else ((0,0,()),2,())
def lt (r:Rat) (n:Int):Bool:=decide (r.num < n * (r.den:Int))
def gt (r:Rat) (n:Int):Bool:=decide (n * (r.den:Int) < r.num)
theorem qnk {n:Int} {d:Nat} (h0:0 ≤ n) (h1:n ≤ 1000000000) (h2:d ≤ 100000000):0 ≤ n * (d:Int) ∧ n * (d:Int) ≤ 100000000000000000:=by
  have a:n * (d:Int) ≤ 1000000000 * (d:Int):=Int.mul_le_mul_of_nonneg_right h1 (by omega)
  have b:0 ≤ n * (d:Int):=Int.mul_nonneg h0 (by omega)
  omega
theorem f152_eq {N D:Int} {r:Rat} (q:Sq N D r) {n:Int} (h0:0 ≤ n) (h1:n ≤ 1000000000):f152 ((r.num,(r.den:Int),()),n,()) = some (lt r n,()):=by
  have hb:=qnk h0 h1 q.d2
  have w:wrap64 (n * (r.den:Int)) = n * (r.den:Int):=qab (by omega) (by omega)
  simp only [f152,t152,w,qaf,Tr.val_fin,lt]
  by_cases h:r.num < n * (r.den:Int)
  · rw [nT (by omega),dT h]
  · rw [nF (by omega),dF h]
theorem f153_eq {N D:Int} {r:Rat} (q:Sq N D r) {n:Int} (h0:0 ≤ n) (h1:n ≤ 1000000000):f153 ((r.num,(r.den:Int),()),n,()) = some (gt r n,()):=by
  have hb:=qnk h0 h1 q.d2
  have w:wrap64 (n * (r.den:Int)) = n * (r.den:Int):=qab (by omega) (by omega)
  simp only [f153,t153,w,qaf,Tr.val_fin,gt]
  by_cases h:n * (r.den:Int) < r.num
  · rw [nT (by omega),dT h]
  · rw [nF (by omega),dF h]
def ans (p1 p2 p3 p4:Bool):Int:=if p1 = true then 2 else if p2 = true then 2 else if p3 = true then 1 else if p4 = true then 1 else 0
def bE (M A L a b x y:Int):Int:=qbK [cE M A L,rE 1 10000 a b,rE 0 1000000000 x y]
end Go.Vm.Mo

namespace Go.Vm.Mo
open Go
set_option linter.unusedVariables false
set_option linter.unusedSimpArgs false
abbrev Pt:=Int×Int×Unit
def px (l:List Pt) (i:Nat):Int:=(l.getD i ((0:Int), (0:Int), ())).1
def py (l:List Pt) (i:Nat):Int:=(l.getD i ((0:Int), (0:Int), ())).2.1
structure Ln (l:List Pt):Prop where
  n1:2 ≤ l.length
  n2:l.length ≤ 8
  zero:px l 0 = 0
  asc:∀ i,i + 1 < l.length → px l i < px l (i + 1)
  up:∀ i,i + 1 < l.length → py l i ≤ py l (i + 1)
  x2:∀ i,i < l.length → px l i ≤ 1000
  y1:∀ i,i < l.length → 0 ≤ py l i
  y2:∀ i,i < l.length → py l i ≤ 1000
def qai (l:List Pt):Int:=px l (l.length - 1)
theorem Ln.mono {l:List Pt} (L:Ln l):∀ {i j:Nat},i ≤ j → j < l.length → px l i ≤ px l j
  | i, 0, h, _ => by have : i = 0 := by omega
                     subst this; exact Int.le_refl _
  | i, j + 1, h, hj=>by
    rcases Nat.eq_or_lt_of_le h with e | h
    · subst e; exact Int.le_refl _
    · have h1:=L.mono (i:=i) (j:=j) (by omega) (by omega)
      have h2:=L.asc j hj
      omega
theorem Ln.ymono {l:List Pt} (L:Ln l):∀ {i j:Nat},i ≤ j → j < l.length → py l i ≤ py l j
  | i, 0, h, _ => by have : i = 0 := by omega
                     subst this; exact Int.le_refl _
  | i, j + 1, h, hj=>by
    rcases Nat.eq_or_lt_of_le h with e | h
    · subst e; exact Int.le_refl _
    · have h1:=L.ymono (i:=i) (j:=j) (by omega) (by omega)
      have h2:=L.up j hj
      omega
theorem Ln.x1 {l:List Pt} (L:Ln l) {i:Nat} (h:i < l.length):0 ≤ px l i:=by
  have:=L.mono (i:=0) (Nat.zero_le i) h
  rw [L.zero] at this; exact this
def nxF (l:List Pt) (v:Int):Nat → Nat → Nat
  | 0, i=>i
  | n + 1, i=>if px l i < v then nxF l v n (i + 1) else i
def nx (l:List Pt) (v:Int):Nat:=nxF l v (l.length - 1) 1
theorem qpY (l:List Pt) (v:Int):∀ n i,i ≤ nxF l v n i
  | 0, i=>Nat.le_refl _
  | n + 1, i=>by
    simp only [nxF]
    split
    · have:=qpY l v n (i + 1); omega
    · exact Nat.le_refl _
theorem qjb (l:List Pt) (v:Int):∀ n i j,i ≤ j → j < nxF l v n i → px l j < v
  | 0, i, j, h1, h2=>by simp only [nxF] at h2; omega
  | n + 1, i, j, h1, h2=>by
    simp only [nxF] at h2
    split at h2
    · rename_i h
      rcases Nat.eq_or_lt_of_le h1 with e | h1
      · subst e; exact h
      · exact qjb l v n (i + 1) j h1 h2
    · omega
theorem qlz (l:List Pt) (v:Int):∀ n i k,i ≤ k → k < i + n → v ≤ px l k → nxF l v n i ≤ k ∧ v ≤ px l (nxF l v n i)
  | 0, i, k, h1, h2, _=>by omega
  | n + 1, i, k, h1, h2, h3=>by
    simp only [nxF]
    split
    · rename_i h
      have:i ≠ k:=fun e=>by subst e; omega
      exact qlz l v n (i + 1) k (by omega) (by omega) h3
    · exact ⟨h1,by omega⟩
theorem qfL {l:List Pt} (L:Ln l) {v:Int} (h:v ≤ qai l):1 ≤ nx l v ∧ nx l v < l.length ∧ v ≤ px l (nx l v) ∧ ∀ j,1 ≤ j → j < nx l v → px l j < v:=by
  have h1:=L.n1
  obtain ⟨a,b⟩:=qlz l v (l.length - 1) 1 (l.length - 1) (by omega) (by omega) h
  exact ⟨qpY l v _ 1,by unfold nx; omega,b,fun j h1 h2=>qjb l v _ 1 j h1 h2⟩
theorem qoH {l:List Pt} (L:Ln l) {v:Int} (h0:0 ≤ v) (h:v ≤ qai l):px l (nx l v - 1) ≤ v:=by
  obtain ⟨a,_,_,d⟩:=qfL L h
  rcases Nat.eq_or_lt_of_le a with e | e
  · rw [← e,Nat.sub_self,L.zero]; exact h0
  · have:=d (nx l v - 1) (by omega) (by omega); omega
def wd (l:List Pt) (v:Int):Int:=px l (nx l v) - px l (nx l v - 1)
def tp (l:List Pt) (v:Int):Int:=py l (nx l v - 1) * wd l v + (py l (nx l v) - py l (nx l v - 1)) * (v - px l (nx l v - 1))
theorem qfM {l:List Pt} (L:Ln l) {v:Int} (h:v ≤ qai l):1 ≤ wd l v ∧ wd l v ≤ 1000:=by
  obtain ⟨a,b,_,_⟩:=qfL L h
  have h1:=L.asc (nx l v - 1) (by omega)
  rw [show nx l v - 1 + 1 = nx l v by omega] at h1
  have h2:=L.x2 (nx l v) b
  have h3:=L.x1 (i:=nx l v - 1) (by omega)
  unfold wd
  omega
theorem qpu {l:List Pt} (L:Ln l) {v:Int} (h0:0 ≤ v) (h:v ≤ qai l):py l (nx l v - 1) * wd l v ≤ tp l v ∧ tp l v ≤ py l (nx l v) * wd l v:=by
  obtain ⟨a,b,c,_⟩:=qfL L h
  have hl:=qoH L h0 h
  have hw:=qfM L h
  have hu:=L.ymono (i:=nx l v - 1) (j:=nx l v) (by omega) b
  unfold tp
  have e1:0 ≤ (py l (nx l v) - py l (nx l v - 1)) * (v - px l (nx l v - 1)):=Int.mul_nonneg (by omega) (by omega)
  have e2:(py l (nx l v) - py l (nx l v - 1)) * (v - px l (nx l v - 1)) ≤ (py l (nx l v) - py l (nx l v - 1)) * wd l v:=Int.mul_le_mul_of_nonneg_left (by unfold wd; omega) (by omega)
  have e3:py l (nx l v) * wd l v = py l (nx l v - 1) * wd l v + (py l (nx l v) - py l (nx l v - 1)) * wd l v:=by grind
  omega
def hP (l:List Pt) (v:Int):Rat:=mkRat (tp l v) (wd l v).toNat
theorem qiD {l:List Pt} {v:Int} (h:1 ≤ wd l v):hP l v = Rat.normalize (tp l v) (wd l v).toNat (qbn h):=(Rat.normalize_eq_mkRat _).symm
def qm2 (l:List Pt) (v:Int) (m i:Nat):=itr s98_0 m ((l,v,(i:Int),()),((0:Int),(0:Int),()),())
theorem it98 (l:List Pt) (v:Int):∀ (n i m:Nat),n < m → i + n = l.length → (i + n) ≤ 1000 → nxF l v n i < l.length → qm2 l v m i = some (.inl ((l,v,(nxF l v n i:Int),()),((0:Int),(0:Int),()),()))
  | 0, i, m, hm, hl, hs, hx=>by simp only [nxF] at hx; omega
  | n + 1, i, 0, hm, hl, hs, hx=>by omega
  | n + 1, i, m + 1, hm, hl, hs, hx=>by
    have b1:(decide ((0:Int) ≤ (i:Int)) && decide ((i:Int) < (l.length:Int))) = true:=dA (by omega) (by omega)
    have w:wrap64 ((i:Int) + 1) = ((i + 1:Nat):Int):=qay (by omega)
    simp only [nxF] at hx ⊢
    simp only [qm2,itr,s98_0,t98_0,Tr.val_test,Tr.val_fin,b1,if_true,qaf,Int.toNat_natCast,w]
    by_cases h:px l i < v
    · rw [if_pos h] at hx ⊢
      have h':(!decide (v ≤ (l.getD i ((0:Int), (0:Int), ())).1)) = true:=nT (by unfold px at h; omega)
      rw [if_pos h']
      exact it98 l v n (i + 1) m (by omega) (by omega) (by omega) hx
    · rw [if_neg h] at hx ⊢
      have h':(!decide (v ≤ (l.getD i ((0:Int), (0:Int), ())).1)) = false:=nF (by unfold px at h; omega)
      rw [if_neg (by rw [h']; decide)]
theorem qrp {l:List Pt} (L:Ln l) {v:Int} (h:v ≤ qai l):l98_0 ((l,v,(1:Int),()),((0:Int),(0:Int),()),()) = some (.inl ((l,v,(nx l v:Int),()),((0:Int),(0:Int),()),())):=by
  have h1:=L.n1; have h2:=L.n2
  obtain ⟨_,b,_,_⟩:=qfL L h
  exact it98 l v (l.length - 1) 1 rounds (qam (by omega)) (by omega) (by omega) b
theorem qlG {l:List Pt} (L:Ln l) {v:Int} (h0:0 ≤ v) (h:v ≤ qai l):f98 (l,v,()) = some (pr (hP l v),()):=by
  have n1:=L.n1; have n2:=L.n2
  obtain ⟨a,b,c,_⟩:=qfL L h
  have hl:=qoH L h0 h
  have hw:=qfM L h
  have ht:=qpu L h0 h
  have y0:=L.y1 (nx l v - 1) (by omega)
  have y1:=L.y2 (nx l v - 1) (by omega)
  have y2:=L.y1 (nx l v) b
  have y3:=L.y2 (nx l v) b
  have yu:=L.ymono (i:=nx l v - 1) (j:=nx l v) (by omega) b
  have x0:=L.x1 (i:=nx l v - 1) (by omega)
  have x1:=L.x2 (nx l v) b
  have p1:0 ≤ py l (nx l v - 1) * wd l v:=Int.mul_nonneg y0 (by omega)
  have p2:py l (nx l v) * wd l v ≤ 1000 * 1000:=Int.mul_le_mul y3 hw.2 (by omega) (by omega)
  have e0:=qrp L h
  have w1:Go.IntKind.wrap Go.IntKind.i64 ((nx l v:Int) - 1) = ((nx l v - 1:Nat):Int):=by rw [qdw (by omega) (by omega)]; omega
  have b1:(decide ((0:Int) ≤ ((nx l v - 1:Nat):Int)) && decide (((nx l v - 1:Nat):Int) < (l.length:Int))) = true:=dA (by omega) (by omega)
  have b2:(decide ((0:Int) ≤ (nx l v:Int)) && decide ((nx l v:Int) < (l.length:Int))) = true:=dA (by omega) (by omega)
  have q1:wrap64 ((l.getD (nx l v) ((0:Int), (0:Int), ())).1 - (l.getD (nx l v - 1) ((0:Int), (0:Int), ())).1) = wd l v:=by rw [qab] <;> unfold wd px at * <;> omega
  have q2:wrap64 ((l.getD (nx l v - 1) ((0:Int), (0:Int), ())).2.1 * wd l v) = py l (nx l v - 1) * wd l v:=by
    show wrap64 (py l (nx l v - 1) * wd l v) = _
    exact qab (by omega) (by omega)
  have q3:wrap64 ((l.getD (nx l v) ((0:Int), (0:Int), ())).2.1 - (l.getD (nx l v - 1) ((0:Int), (0:Int), ())).2.1) = py l (nx l v) - py l (nx l v - 1):=qab (by unfold py at *; omega) (by unfold py at *; omega)
  have q4:wrap64 (v - (l.getD (nx l v - 1) ((0:Int), (0:Int), ())).1) = v - px l (nx l v - 1):=qab (by unfold px at *; omega) (by unfold px at *; omega)
  have q5:wrap64 ((py l (nx l v) - py l (nx l v - 1)) * (v - px l (nx l v - 1))) = (py l (nx l v) - py l (nx l v - 1)) * (v - px l (nx l v - 1)):=qab (by unfold tp at ht; omega) (by unfold tp at ht; omega)
  have q6:wrap64 (py l (nx l v - 1) * wd l v + (py l (nx l v) - py l (nx l v - 1)) * (v - px l (nx l v - 1))) = tp l v:=by
    show wrap64 (tp l v) = tp l v
    exact qab (by omega) (by omega)
  have e1:=qqL (tp l v) (wd l v).toNat (qbn hw.1) (by omega) (by omega) (by omega)
  rw [show (((wd l v).toNat:Nat):Int) = wd l v by omega, ← qiD hw.1] at e1
  simp only [f98,t98,e0,qaV,b98_0,outB,Tr.val_test,Tr.val_fin,Tr.val_stop,w1,b1,b2,Int.toNat_natCast,q1,q2,q3,q4,q5,q6,g156,e1,Option.isSome_some,Option.getD_some,if_true,pr]
theorem nx_mono {l:List Pt} (L:Ln l) {v w:Int} (hvw:v ≤ w) (h:w ≤ qai l):nx l v ≤ nx l w:=by
  obtain ⟨a,b,c,d⟩:=qfL L (v:=v) (by omega)
  obtain ⟨a',b',c',d'⟩:=qfL L h
  rcases Nat.lt_or_ge (nx l w) (nx l v) with k | k
  · have:=d _ a' k; omega
  · exact k
theorem qhY {l:List Pt} (L:Ln l) {v w:Int} (h0:0 ≤ v) (hvw:v ≤ w) (h:w ≤ qai l):tp l v * wd l w ≤ tp l w * wd l v:=by
  have hm:=nx_mono L hvw h
  have wv:=qfM L (v:=v) (by omega)
  have ww:=qfM L h
  rcases Nat.eq_or_lt_of_le hm with e | hlt
  · have e1:wd l w = wd l v:=by unfold wd; rw [← e]
    rw [e1]
    refine Int.mul_le_mul_of_nonneg_right ?_ (by omega)
    unfold tp
    rw [e1,← e]
    obtain ⟨a,b,_,_⟩:=qfL L (v:=v) (by omega)
    have yu:=L.ymono (i:=nx l v - 1) (j:=nx l v) (by omega) b
    have:=Int.mul_le_mul_of_nonneg_left (show v - px l (nx l v - 1) ≤ w - px l (nx l v - 1) by omega) (show 0 ≤ py l (nx l v) - py l (nx l v - 1) by omega)
    omega
  · have t1:=(qpu L h0 (by omega)).2
    have t2:=(qpu L (v:=w) (by omega) h).1
    obtain ⟨a',b',_,_⟩:=qfL L h
    have yy:=L.ymono (i:=nx l v) (j:=nx l w - 1) (by omega) (by omega)
    have s1:tp l v * wd l w ≤ py l (nx l v) * wd l v * wd l w:=Int.mul_le_mul_of_nonneg_right t1 (by omega)
    have s2:py l (nx l v) * (wd l v * wd l w) ≤ py l (nx l w - 1) * (wd l v * wd l w):=Int.mul_le_mul_of_nonneg_right yy (Int.mul_nonneg (by omega) (by omega))
    have s3:py l (nx l w - 1) * wd l w * wd l v ≤ tp l w * wd l v:=Int.mul_le_mul_of_nonneg_right t2 (by omega)
    have g1:py l (nx l v) * wd l v * wd l w = py l (nx l v) * (wd l v * wd l w):=by grind
    have g2:py l (nx l w - 1) * wd l w * wd l v = py l (nx l w - 1) * (wd l v * wd l w):=by grind
    omega
def atl (l:List Pt) (h v:Int):Bool:=decide (h * wd l v ≤ tp l v)
def abv (l:List Pt) (h v:Int):Bool:=decide (h * wd l v < tp l v)
theorem qp2 {l:List Pt} (L:Ln l) {h v w:Int} (h0:0 ≤ v) (hvw:v ≤ w) (hw:w ≤ qai l) (k:atl l h v = true):atl l h w = true:=by
  have k:h * wd l v ≤ tp l v:=of_decide_eq_true k
  have c:=qhY L h0 hvw hw
  have wv:=qfM L (v:=v) (by omega)
  have ww:=qfM L hw
  have s1:h * wd l v * wd l w ≤ tp l v * wd l w:=Int.mul_le_mul_of_nonneg_right k (by omega)
  have g:h * wd l v * wd l w = h * wd l w * wd l v:=by grind
  exact decide_eq_true (Int.le_of_mul_le_mul_right (a:=wd l v) (by omega) (by omega))
theorem qpO {l:List Pt} (L:Ln l) {h v w:Int} (h0:0 ≤ v) (hvw:v ≤ w) (hw:w ≤ qai l) (k:abv l h v = true):abv l h w = true:=by
  have k:h * wd l v < tp l v:=of_decide_eq_true k
  have c:=qhY L h0 hvw hw
  have wv:=qfM L (v:=v) (by omega)
  have ww:=qfM L hw
  have s1:h * wd l v * wd l w < tp l v * wd l w:=Int.mul_lt_mul_of_pos_right k (by omega)
  have g:h * wd l v * wd l w = h * wd l w * wd l v:=by grind
  exact decide_eq_true (Int.lt_of_mul_lt_mul_right (a:=wd l v) (by omega) (by omega))
theorem qcI {l:List Pt} (L:Ln l) {v:Int} (h0:0 ≤ v) (h:v ≤ qai l):(hP l v).den ≤ 1000 ∧ (hP l v).num * wd l v = tp l v * ((hP l v).den:Int) ∧ 0 ≤ (hP l v).num ∧ (hP l v).num ≤ 1000000:=by
  have hw:=qfM L h
  have ht:=qpu L h0 h
  obtain ⟨a,b,_,_⟩:=qfL L h
  have y0:=L.y1 (nx l v - 1) (by omega)
  have y3:=L.y2 (nx l v) b
  have y2:=L.y1 (nx l v) b
  have p1:0 ≤ py l (nx l v - 1) * wd l v:=Int.mul_nonneg y0 (by omega)
  have p2:py l (nx l v) * wd l v ≤ 1000 * wd l v:=Int.mul_le_mul_of_nonneg_right y3 (by omega)
  have hc:=qdJ (tp l v) (wd l v).toNat (qbn hw.1)
  have hb:=qgZ (tp l v) (wd l v).toNat (qbn hw.1) 1000 (by omega)
  rw [← qiD hw.1, show (((wd l v).toNat:Nat):Int) = wd l v by omega] at hc
  rw [← qiD hw.1] at hb
  have hd:=(hP l v).den_pos
  have hn:0 ≤ (hP l v).num:=by
    rcases Int.lt_or_le (hP l v).num 0 with k | k
    · have s1:(hP l v).num * wd l v < 0:=Int.mul_neg_of_neg_of_pos k (by omega)
      have s2:0 ≤ tp l v * ((hP l v).den:Int):=Int.mul_nonneg (by omega) (by omega)
      omega
    · exact k
  refine ⟨by omega,hc,hn,?_⟩
  have:=hb.1
  omega
theorem qox {l:List Pt} (L:Ln l) {v:Int} (h0:0 ≤ v) (h:v ≤ qai l) (n:Int):lt (hP l v) n = !atl l n v:=by
  obtain ⟨a,b,c,d⟩:=qcI L h0 h
  have hw:=qfM L h
  have hd:=(hP l v).den_pos
  unfold lt atl
  -- num < n den  iff  tp < n wd
  have key:(hP l v).num < n * ((hP l v).den:Int) ↔ tp l v < n * wd l v:=by
    constructor
    · intro k
      have s:(hP l v).num * wd l v < n * ((hP l v).den:Int) * wd l v:=Int.mul_lt_mul_of_pos_right k (by omega)
      have g:n * ((hP l v).den:Int) * wd l v = n * wd l v * ((hP l v).den:Int):=by grind
      exact Int.lt_of_mul_lt_mul_right (a:=((hP l v).den:Int)) (by omega) (by omega)
    · intro k
      have s:tp l v * ((hP l v).den:Int) < n * wd l v * ((hP l v).den:Int):=Int.mul_lt_mul_of_pos_right k (by omega)
      have g:n * ((hP l v).den:Int) * wd l v = n * wd l v * ((hP l v).den:Int):=by grind
      exact Int.lt_of_mul_lt_mul_right (a:=wd l v) (by omega) (by omega)
  by_cases k:tp l v < n * wd l v
  · rw [dT (key.2 k),dF (show ¬ n * wd l v ≤ tp l v by omega)]; rfl
  · rw [dF (fun e=>k (key.1 e)), dT (show n * wd l v ≤ tp l v by omega)]; rfl
theorem qpU {l:List Pt} (L:Ln l) {v:Int} (h0:0 ≤ v) (h:v ≤ qai l) (n:Int):gt (hP l v) n = abv l n v:=by
  obtain ⟨a,b,c,d⟩:=qcI L h0 h
  have hw:=qfM L h
  have hd:=(hP l v).den_pos
  unfold gt abv
  have key:n * ((hP l v).den:Int) < (hP l v).num ↔ n * wd l v < tp l v:=by
    constructor
    · intro k
      have s:n * ((hP l v).den:Int) * wd l v < (hP l v).num * wd l v:=Int.mul_lt_mul_of_pos_right k (by omega)
      have g:n * ((hP l v).den:Int) * wd l v = n * wd l v * ((hP l v).den:Int):=by grind
      exact Int.lt_of_mul_lt_mul_right (a:=((hP l v).den:Int)) (by omega) (by omega)
    · intro k
      have s:n * wd l v * ((hP l v).den:Int) < tp l v * ((hP l v).den:Int):=Int.mul_lt_mul_of_pos_right k (by omega)
      have g:n * ((hP l v).den:Int) * wd l v = n * wd l v * ((hP l v).den:Int):=by grind
      exact Int.lt_of_mul_lt_mul_right (a:=wd l v) (by omega) (by omega)
  by_cases k:n * wd l v < tp l v
  · rw [dT (key.2 k),dT k]
  · rw [dF (fun e=>k (key.1 e)), dF k]
theorem qpa (r:Rat) (n:Int) (h:(n * (r.den:Int)).natAbs ≤ 9000000000000000000):f152 ((r.num,(r.den:Int),()),n,()) = some (lt r n,()):=by
  have w:wrap64 (n * (r.den:Int)) = n * (r.den:Int):=qab (by omega) (by omega)
  simp only [f152,t152,w,qaf,Tr.val_fin,lt]
  by_cases h:r.num < n * (r.den:Int)
  · rw [nT (by omega),dT h]
  · rw [nF (by omega),dF h]
theorem qpn (r:Rat) (n:Int) (h:(n * (r.den:Int)).natAbs ≤ 9000000000000000000):f153 ((r.num,(r.den:Int),()),n,()) = some (gt r n,()):=by
  have w:wrap64 (n * (r.den:Int)) = n * (r.den:Int):=qab (by omega) (by omega)
  simp only [f153,t153,w,qaf,Tr.val_fin,gt]
  by_cases h:n * (r.den:Int) < r.num
  · rw [nT (by omega),dT h]
  · rw [nF (by omega),dF h]
theorem qpZ {a b:Int} (h1:0 ≤ a) (h2:0 ≤ b) (h3:a + b ≤ 1000000):Go.IntKind.wrap Go.IntKind.i64 (shrV Go.IntKind.u64 (Go.IntKind.wrap Go.IntKind.u64 (wrap64 (a + b))) (1:Int)) = (a + b) / 2:=by
  have w:wrap64 (a + b) = a + b:=qab (by omega) (by omega)
  have u:Go.IntKind.wrap Go.IntKind.u64 (a + b) = a + b:=by
    show (a + b) % (2 ^ 64:Int) = a + b
    exact Int.emod_eq_of_lt (by omega) (by omega)
  rw [w,u]
  have s:shrV Go.IntKind.u64 (a + b) 1 = (a + b) / 2:=by
    show (a + b).fdiv 2 = _
    exact Int.fdiv_eq_ediv_of_nonneg _ (by omega)
  rw [s]
  exact qdw (by omega) (by omega)
def lw (p:Int → Bool):Nat → Nat → Nat
  | 0, i=>i
  | n + 1, i=>if p (i:Int) = true then i else lw p n (i + 1)
theorem qgT {p:Int → Bool}:∀ (n i r:Nat),i ≤ r → r ≤ i + n → (∀ j,i ≤ j → j < r → p (j:Int) = false) → (r < i + n → p (r:Int) = true) → lw p n i = r
  | 0, i, r, h1, h2, _, _=>by simp only [lw]; omega
  | n + 1, i, r, h1, h2, h3, h4=>by
    simp only [lw]
    rcases Nat.eq_or_lt_of_le h1 with e | h
    · subst e
      rw [if_pos (h4 (by omega))]
    · rw [h3 i (Nat.le_refl _) h,if_neg (by decide)]
      exact qgT n (i + 1) r (by omega) (by omega) (fun j a b=>h3 j (by omega) b) (fun k=>h4 (by omega))
theorem qg9 {l:List Pt} (L:Ln l):f143 (l,()) = some (qai l,()):=by
  have h1:=L.n1; have h2:=L.n2
  have w:wrap64 ((l.length:Int) - 1) = ((l.length - 1:Nat):Int):=by rw [qab (by omega) (by omega)]; omega
  have b:(decide ((0:Int) ≤ ((l.length - 1:Nat):Int)) && decide (((l.length - 1:Nat):Int) < (l.length:Int))) = true:=dA (by omega) (by omega)
  simp only [f143,t143,w,b,if_true,Tr.val_test,Tr.val_fin,Int.toNat_natCast,qai,px]
theorem qcE {l:List Pt} (L:Ln l):1 ≤ qai l ∧ qai l ≤ 1000:=by
  have h1:=L.n1
  have a:=L.asc 0 (by omega)
  have b:=L.mono (i:=1) (j:=l.length - 1) (by omega) (by omega)
  have z:=L.zero
  refine ⟨?_,L.x2 _ (by omega)⟩
  unfold qai
  simp only [Nat.zero_add] at a
  omega
theorem qlZ {l:List Pt} (L:Ln l) {v h:Int} (h0:0 ≤ v) (hv:v ≤ qai l) (h1:0 ≤ h) (h2:h ≤ 1000000):(h * ((hP l v).den:Int)).natAbs ≤ 9000000000000000000:=by
  obtain ⟨a,_,_,_⟩:=qcI L h0 hv
  have p1:0 ≤ h * ((hP l v).den:Int):=Int.mul_nonneg h1 (by omega)
  have p2:h * ((hP l v).den:Int) ≤ 1000000 * 1000:=Int.mul_le_mul h2 (by omega) (by omega) (by omega)
  omega
theorem qqu {l:List Pt} (L:Ln l) {h:Int} (h1:0 ≤ h) (h2:h ≤ 1000000):∀ (n a b m:Nat),n < m → b ≤ a + n → a ≤ b → (b:Int) ≤ qai l + 1 → (∀ j:Nat,j < a → abv l h j = false) → ((b:Int) ≤ qai l → abv l h b = true) → ∃ z:Nat,itr s181_0 m (((a:Int),(b:Int),()),(),(l,()),(h,()),()) = some (.inl (((z:Int),()),(),(l,()),(h,()),())) ∧ z ≤ b ∧ (∀ j:Nat,j < z → abv l h j = false) ∧ ((z:Int) ≤ qai l → abv l h z = true)
  | n, a, b, 0, hm, _, _, _, _, _=>by omega
  | n, a, b, m + 1, hm, hn, hab, hb, p, q=>by
    have hx:=qcE L
    rcases Nat.eq_or_lt_of_le hab with e | hlt
    · subst e
      have t:(!decide ((a:Int) ≤ (a:Int))) = false:=nF (Int.le_refl _)
      refine ⟨a,?_,Nat.le_refl _,p,q⟩
      simp only [itr,s181_0,t181_0,qaf,t,Tr.val_test,Tr.val_fin,Bool.false_eq_true,if_false]
    · have t:(!decide ((b:Int) ≤ (a:Int))) = true:=nT (by omega)
      have em:=qpZ (a:=(a:Int)) (b:=(b:Int)) (by omega) (by omega) (by omega)
      rw [show ((a:Int) + (b:Int)) / 2 = (((a + b) / 2:Nat):Int) by omega] at em
      have k1:(a + b) / 2 < b:=by omega
      have k2:a ≤ (a + b) / 2:=by omega
      have v0:(0:Int) ≤ (((a + b) / 2:Nat):Int):=by omega
      have v1:(((a + b) / 2:Nat):Int) ≤ qai l:=by omega
      have e1:=qlG L v0 v1
      have e2:=qpn (hP l (((a + b) / 2:Nat):Int)) h (qlZ L v0 v1 h1 h2)
      rw [qpU L v0 v1] at e2
      have w:wrap64 ((((a + b) / 2:Nat):Int) + 1) = (((a + b) / 2 + 1:Nat):Int):=by rw [qab (by omega) (by omega)]; omega
      cases hv:abv l h (((a + b) / 2:Nat):Int) with
      | false =>
        rw [hv] at e2
        obtain ⟨z,g1,g2,g3,g4⟩:=qqu L h1 h2 (n - 1) ((a + b) / 2 + 1) b m (by omega) (by omega) (by omega) hb (fun j hj=>by
          rcases Nat.lt_or_ge j ((a + b) / 2) with k | k
          · rcases hc:abv l h (j:Int) with _ | _
            · rfl
            · have:=qpO L (v:=(j:Int)) (w:=(((a + b) / 2:Nat):Int)) (by omega) (by omega) v1 hc
              rw [hv] at this; cases this
          · have:j = (a + b) / 2:=by omega
            rw [this]; exact hv) q
        refine ⟨z,?_,g2,g3,g4⟩
        simp only [itr,s181_0,t181_0,qaf,t,em,g98,g153,e1,e2,pr,w,Tr.val_test,Tr.val_fin,Option.isSome_some,Option.getD_some,Bool.not_false,if_true]
        exact g1
      | true =>
        rw [hv] at e2
        obtain ⟨z,g1,g2,g3,g4⟩:=qqu L h1 h2 (n - 1) a ((a + b) / 2) m (by omega) (by omega) (by omega) (by omega) p (fun _=>hv)
        refine ⟨z,?_,by omega,g3,g4⟩
        simp only [itr,s181_0,t181_0,qaf,t,em,g98,g153,e1,e2,pr,Tr.val_test,Tr.val_fin,Option.isSome_some,Option.getD_some,Bool.not_true,Bool.false_eq_true,if_true,if_false]
        exact g1
theorem qnI {l:List Pt} (L:Ln l) {h:Int} (h1:0 ≤ h) (h2:h ≤ 1000000):∀ (n a b m:Nat),n < m → b ≤ a + n → a ≤ b → (b:Int) ≤ qai l + 1 → (∀ j:Nat,j < a → atl l h j = false) → ((b:Int) ≤ qai l → atl l h b = true) → ∃ z:Nat,itr s181_0_1 m (((a:Int),(b:Int),()),(),(l,()),(h,()),()) = some (.inl (((z:Int),()),(),(l,()),(h,()),())) ∧ z ≤ b ∧ (∀ j:Nat,j < z → atl l h j = false) ∧ ((z:Int) ≤ qai l → atl l h z = true)
  | n, a, b, 0, hm, _, _, _, _, _=>by omega
  | n, a, b, m + 1, hm, hn, hab, hb, p, q=>by
    have hx:=qcE L
    rcases Nat.eq_or_lt_of_le hab with e | hlt
    · subst e
      have t:(!decide ((a:Int) ≤ (a:Int))) = false:=nF (Int.le_refl _)
      refine ⟨a,?_,Nat.le_refl _,p,q⟩
      simp only [itr,s181_0_1,t181_0_1,qaf,t,Tr.val_test,Tr.val_fin,Bool.false_eq_true,if_false]
    · have t:(!decide ((b:Int) ≤ (a:Int))) = true:=nT (by omega)
      have em:=qpZ (a:=(a:Int)) (b:=(b:Int)) (by omega) (by omega) (by omega)
      rw [show ((a:Int) + (b:Int)) / 2 = (((a + b) / 2:Nat):Int) by omega] at em
      have k1:(a + b) / 2 < b:=by omega
      have k2:a ≤ (a + b) / 2:=by omega
      have v0:(0:Int) ≤ (((a + b) / 2:Nat):Int):=by omega
      have v1:(((a + b) / 2:Nat):Int) ≤ qai l:=by omega
      have e1:=qlG L v0 v1
      have e2:=qpa (hP l (((a + b) / 2:Nat):Int)) h (qlZ L v0 v1 h1 h2)
      rw [qox L v0 v1] at e2
      have w:wrap64 ((((a + b) / 2:Nat):Int) + 1) = (((a + b) / 2 + 1:Nat):Int):=by rw [qab (by omega) (by omega)]; omega
      cases hv:atl l h (((a + b) / 2:Nat):Int) with
      | false =>
        rw [hv] at e2
        obtain ⟨z,g1,g2,g3,g4⟩:=qnI L h1 h2 (n - 1) ((a + b) / 2 + 1) b m (by omega) (by omega) (by omega) hb (fun j hj=>by
          rcases Nat.lt_or_ge j ((a + b) / 2) with k | k
          · rcases hc:atl l h (j:Int) with _ | _
            · rfl
            · have:=qp2 L (v:=(j:Int)) (w:=(((a + b) / 2:Nat):Int)) (by omega) (by omega) v1 hc
              rw [hv] at this; cases this
          · have:j = (a + b) / 2:=by omega
            rw [this]; exact hv) q
        refine ⟨z,?_,g2,g3,g4⟩
        simp only [itr,s181_0_1,t181_0_1,qaf,t,em,g98,g152,e1,e2,pr,w,Tr.val_test,Tr.val_fin,Option.isSome_some,Option.getD_some,Bool.not_false,if_true]
        exact g1
      | true =>
        rw [hv] at e2
        obtain ⟨z,g1,g2,g3,g4⟩:=qnI L h1 h2 (n - 1) a ((a + b) / 2) m (by omega) (by omega) (by omega) (by omega) p (fun _=>hv)
        refine ⟨z,?_,by omega,g3,g4⟩
        simp only [itr,s181_0_1,t181_0_1,qaf,t,em,g98,g152,e1,e2,pr,Tr.val_test,Tr.val_fin,Option.isSome_some,Option.getD_some,Bool.not_true,Bool.false_eq_true,if_true,if_false]
        exact g1
def fst (p:Int → Bool) (x:Int):Int:=(lw p (x + 1).toNat 0:Nat)
theorem f159_eq {l:List Pt} (L:Ln l) {h:Int} (h1:0 ≤ h) (h2:h ≤ 1000000):f159 (l,h,()) = some (fst (abv l h) (qai l),()):=by
  have hx:=qcE L
  have w:wrap64 (qai l + 1) = (((qai l + 1).toNat:Nat):Int):=by rw [qab (by omega) (by omega)]; omega
  obtain ⟨z,g1,g2,g3,g4⟩:=qqu L h1 h2 1001 0 (qai l + 1).toNat rounds (qam (by omega)) (by omega) (Nat.zero_le _) (by omega) (fun j hj=>by omega) (fun k=>by omega)
  have e:l181_0 (((0:Int),(((qai l + 1).toNat:Nat):Int),()),(),(l,()),(h,()),()) = some (.inl (((z:Int),()),(),(l,()),(h,()),())):=g1
  have u:lw (abv l h) (qai l + 1).toNat 0 = z:=qgT _ _ _ (Nat.zero_le _) (by omega) (fun j _ k=>g3 j k) (fun k=>g4 (by omega))
  simp only [f159,t159,g143,qg9 L,w,e,qaV,b181_0,outB,Tr.val_test,Tr.val_fin,Option.isSome_some,Option.getD_some,if_true,fst,u]
theorem qqC {l:List Pt} (L:Ln l) {h:Int} (h1:0 ≤ h) (h2:h ≤ 1000000):f101 (l,h,()) = some (fst (atl l h) (qai l),()):=by
  have hx:=qcE L
  have w:wrap64 (qai l + 1) = (((qai l + 1).toNat:Nat):Int):=by rw [qab (by omega) (by omega)]; omega
  obtain ⟨z,g1,g2,g3,g4⟩:=qnI L h1 h2 1001 0 (qai l + 1).toNat rounds (qam (by omega)) (by omega) (Nat.zero_le _) (by omega) (fun j hj=>by omega) (fun k=>by omega)
  have e:l181_0_1 (((0:Int),(((qai l + 1).toNat:Nat):Int),()),(),(l,()),(h,()),()) = some (.inl (((z:Int),()),(),(l,()),(h,()),())):=g1
  have u:lw (atl l h) (qai l + 1).toNat 0 = z:=qgT _ _ _ (Nat.zero_le _) (by omega) (fun j _ k=>g3 j k) (fun k=>g4 (by omega))
  simp only [f101,t101,g143,qg9 L,w,e,qaV,b181_0_1,outB,Tr.val_test,Tr.val_fin,Option.isSome_some,Option.getD_some,if_true,fst,u]
end Go.Vm.Mo

namespace Go.Vm.Mo
open Go
set_option linter.unusedVariables false
set_option linter.unusedSimpArgs false
def lowF (x:Fl):Pt:=(x.1, x.2.1, ())
def higF (x:Fl):Pt:=(x.1, x.2.2.1, ())
def lowL (l:List Fl):List Pt:=l.map lowF
def higL (l:List Fl):List Pt:=l.map higF
theorem qkY {A:Type} (l:List A) (d:A) (i:Nat) (h:i < l.length):l.getD i d = l[i]:=by
  rw [List.getD_eq_getElem?_getD,List.getElem?_eq_getElem h]; rfl
theorem qlP {A B:Type} (f:A → B) (l:List A) (d:A) (i:Nat) (h:i < l.length):(l.take i).map f++[f (l.getD i d)] = (l.take (i + 1)).map f:=by
  have e:l.take (i + 1) = l.take i++[l.getD i d]:=by
    rw [List.take_add_one,List.getElem?_eq_getElem h,qkY l d i h]; rfl
  rw [e,List.map_append]; rfl
theorem l175 (l:List Fl) (h:l.length ≤ 1000):l175_0 (([],l,(l.length:Int),(0:Int),()),()) = some (.inl ((lowL l,()),())):=by
  have hb:s175_0 (((l.take l.length).map lowF,l,(l.length:Int),(l.length:Int),()),()) = some (.brk ((lowL l,()),())):=by
    have q1:(!decide ((l.length:Int) ≤ (l.length:Int))) = false:=nF (by omega)
    simp only [s175_0,t175_0,qaf,q1,Tr.val_test,Tr.val_fin,Bool.false_eq_true,if_false,List.take_length,lowL]
  refine qcQ (fun i=>(((l.take i).map lowF,l,(l.length:Int),(i:Int),()),())) (n:=l.length) ?_ hb (qam (by omega))
  intro i hi
  have q1:(!decide ((l.length:Int) ≤ (i:Int))) = true:=nT (by omega)
  have b1:(decide ((0:Int) ≤ (i:Int)) && decide ((i:Int) < (l.length:Int))) = true:=dA (by omega) (by omega)
  have hl:((l.take i).map lowF).length = i:=by rw [List.length_map,List.length_take]; omega
  have b2:(Nat.ble ((2 * (i + 1) + 192) * 16) 281474976710656 && Nat.ble (i + 1) 281474976710656) = true:=by simp only [Bool.and_eq_true,qa3]; omega
  have e:=qlP lowF l ((0:Int),(0:Int),(0:Int),()) i hi
  simp only [s175_0,t175_0,q1,b1,b2,hl,qaf,Tr.val_test,Tr.val_fin,if_true,Int.toNat_natCast,qay (show i ≤ 9223372036854775806 by omega),g176,f176,t176,Option.isSome_some,Option.getD_some]
  rw [← e]; rfl
theorem qr4 (l:List Fl) (h:l.length ≤ 1000):l175_0_1 (([],l,(l.length:Int),(0:Int),()),()) = some (.inl ((higL l,()),())):=by
  have hb:s175_0_1 (((l.take l.length).map higF,l,(l.length:Int),(l.length:Int),()),()) = some (.brk ((higL l,()),())):=by
    have q1:(!decide ((l.length:Int) ≤ (l.length:Int))) = false:=nF (by omega)
    simp only [s175_0_1,t175_0_1,qaf,q1,Tr.val_test,Tr.val_fin,Bool.false_eq_true,if_false,List.take_length,higL]
  refine qcQ (fun i=>(((l.take i).map higF,l,(l.length:Int),(i:Int),()),())) (n:=l.length) ?_ hb (qam (by omega))
  intro i hi
  have q1:(!decide ((l.length:Int) ≤ (i:Int))) = true:=nT (by omega)
  have b1:(decide ((0:Int) ≤ (i:Int)) && decide ((i:Int) < (l.length:Int))) = true:=dA (by omega) (by omega)
  have hl:((l.take i).map higF).length = i:=by rw [List.length_map,List.length_take]; omega
  have b2:(Nat.ble ((2 * (i + 1) + 192) * 16) 281474976710656 && Nat.ble (i + 1) 281474976710656) = true:=by simp only [Bool.and_eq_true,qa3]; omega
  have e:=qlP higF l ((0:Int),(0:Int),(0:Int),()) i hi
  simp only [s175_0_1,t175_0_1,q1,b1,b2,hl,qaf,Tr.val_test,Tr.val_fin,if_true,Int.toNat_natCast,qay (show i ≤ 9223372036854775806 by omega),g177,f177,t177,Option.isSome_some,Option.getD_some]
  rw [← e]; rfl
theorem qe9 (l:List Fl) (h:l.length ≤ 1000):f141 (l, ()) = some (if (vC l).2.1 = 0 then ((lowL l, higL l, ()), (0:Int), ()) else (([], [], ()), (vC l).2.1, ())):=by
  have e:=qpI l (by omega)
  have e1:=l175 l h
  have e2:=qr4 l h
  simp only [f141,t141,g71,e,e1,e2,qau,Option.isSome_some,Option.getD_some,Tr.val_test,Tr.val_fin,qaV,b175_0,b175_0_1,outB,if_true]
  by_cases z:(vC l).2.1 = 0
  · rw [nF z,if_neg (by decide),if_pos z]
  · rw [nT z,if_pos rfl,if_neg z]
structure Vk (l:List Fl):Prop where
  n1:2 ≤ l.length
  n2:l.length ≤ 8
  ok:∀ i,i < l.length → vE l i = 0
theorem qrU (n:Nat):nE n = 0 ∨ nE n = 10 ∨ nE n = 8:=by
  unfold nE
  split
  · exact Or.inr (Or.inl rfl)
  · split
    · exact Or.inr (Or.inr rfl)
    · exact Or.inl rfl
theorem qmo {l:List Fl} (h:(vC l).2.1 = 0):Vk l:=by
  unfold vC at h
  split at h
  · rename_i hn
    have hl:2 ≤ l.length ∧ l.length ≤ 8:=by
      unfold nE at hn
      split at hn
      · cases hn
      · split at hn
        · cases hn
        · omega
    refine ⟨hl.1, hl.2, ?_⟩
    cases hf:first (fun i=>!decide (vE l i = 0)) l.length 0 with
    | none =>
      intro i hi
      have:=qea hf i (Nat.zero_le _) (by omega)
      have:decide (vE l i = 0) = true:=by simpa using this
      exact of_decide_eq_true this
    | some k =>
      rw [hf] at h
      have:=(first_some hf).2.2.1
      have:decide (vE l k = 0) = false:=by simpa using this
      exact absurd h (of_decide_eq_false this)
  · rename_i hn
    exact absurd h hn
theorem qqn {l:List Fl} (h:(vC l).2.1 = 0):vC l = (0, 0, ()):=by
  have v:=qmo h
  unfold vC
  have hn:nE l.length = 0:=by have:=v.n1; have:=v.n2; unfold nE; rw [if_neg (by omega),if_neg (by omega)]
  rw [if_pos hn,qeE (fun j _ hj=>by rw [v.ok j (by omega)]; rfl)]
theorem Vk.at {l:List Fl} (V:Vk l) {i:Nat} (h:i < l.length):(0 ≤ vd l i ∧ vd l i ≤ 1000) ∧ (0 ≤ vlo l i ∧ vlo l i ≤ 50) ∧ (0 ≤ vhi l i ∧ vhi l i ≤ 50) ∧ vlo l i ≤ vhi l i ∧ wdn l i = true:=by
  have:=V.ok i h
  unfold vE at this
  split at this
  · rename_i h1
    split at this
    · rename_i h2
      simp only [Bool.and_eq_true,wi_iff,decide_eq_true_eq] at h1 h2
      exact ⟨h1.1, h1.2.1, h1.2.2, h2.1, h2.2⟩
    · cases this
  · cases this
theorem getD_map {A B:Type} (f:A → B) (l:List A) (d:A) (d':B) (i:Nat) (h:i < l.length):(l.map f).getD i d' = f (l.getD i d):=by
  rw [qkY (l.map f) d' i (by rw [List.length_map]; exact h),qkY l d i h,List.getElem_map]
theorem qhz {l:List Fl} {i:Nat} (h:i < l.length):px (lowL l) i = vd l i:=by
  unfold px lowL; rw [getD_map lowF l ((0:Int),(0:Int),(0:Int),()) _ i h]; rfl
theorem qjY {l:List Fl} {i:Nat} (h:i < l.length):py (lowL l) i = vlo l i:=by
  unfold py lowL; rw [getD_map lowF l ((0:Int),(0:Int),(0:Int),()) _ i h]; rfl
theorem qhS {l:List Fl} {i:Nat} (h:i < l.length):px (higL l) i = vd l i:=by
  unfold px higL; rw [getD_map higF l ((0:Int),(0:Int),(0:Int),()) _ i h]; rfl
theorem qjz {l:List Fl} {i:Nat} (h:i < l.length):py (higL l) i = vhi l i:=by
  unfold py higL; rw [getD_map higF l ((0:Int),(0:Int),(0:Int),()) _ i h]; rfl
theorem qln {l:List Fl} (h:wdn l 0 = true):vd l 0 = 0:=of_decide_eq_true h
theorem qfV {l:List Fl} {i:Nat} (h:wdn l (i + 1) = true):vd l i < vd l (i + 1) ∧ vlo l i ≤ vlo l (i + 1) ∧ vhi l i ≤ vhi l (i + 1):=by
  unfold wdn at h
  rw [if_neg (by omega)] at h
  simp only [Bool.and_eq_true,decide_eq_true_eq,Nat.add_sub_cancel] at h
  exact h
theorem Vk.low {l:List Fl} (V:Vk l):Ln (lowL l):=by
  have n1:=V.n1; have n2:=V.n2
  have e:(lowL l).length = l.length:=List.length_map _
  refine ⟨by omega,by omega,?_,?_,?_,?_,?_,?_⟩
  · rw [qhz (by omega)]; exact qln (V.at (i:=0) (by omega)).2.2.2.2
  · intro i hi; rw [e] at hi; rw [qhz (by omega), qhz hi]; exact (qfV (V.at hi).2.2.2.2).1
  · intro i hi; rw [e] at hi; rw [qjY (by omega), qjY hi]; exact (qfV (V.at hi).2.2.2.2).2.1
  · intro i hi; rw [e] at hi; rw [qhz hi]; exact (V.at hi).1.2
  · intro i hi; rw [e] at hi; rw [qjY hi]; exact (V.at hi).2.1.1
  · intro i hi; rw [e] at hi; rw [qjY hi]; have:=(V.at hi).2.1.2; omega
theorem Vk.hig {l:List Fl} (V:Vk l):Ln (higL l):=by
  have n1:=V.n1; have n2:=V.n2
  have e:(higL l).length = l.length:=List.length_map _
  refine ⟨by omega,by omega,?_,?_,?_,?_,?_,?_⟩
  · rw [qhS (by omega)]; exact qln (V.at (i:=0) (by omega)).2.2.2.2
  · intro i hi; rw [e] at hi; rw [qhS (by omega), qhS hi]; exact (qfV (V.at hi).2.2.2.2).1
  · intro i hi; rw [e] at hi; rw [qjz (by omega),qjz hi]; exact (qfV (V.at hi).2.2.2.2).2.2
  · intro i hi; rw [e] at hi; rw [qhS hi]; exact (V.at hi).1.2
  · intro i hi; rw [e] at hi; rw [qjz hi]; exact (V.at hi).2.2.1.1
  · intro i hi; rw [e] at hi; rw [qjz hi]; have:=(V.at hi).2.2.1.2; omega
theorem qcB {l:List Fl} (V:Vk l):qai (lowL l) = vd l (l.length - 1):=by
  have n1:=V.n1
  have e:(lowL l).length = l.length:=List.length_map _
  unfold qai; rw [e,qhz (by omega)]
theorem qfU {l:List Fl} (V:Vk l):qai (higL l) = vd l (l.length - 1):=by
  have n1:=V.n1
  have e:(higL l).length = l.length:=List.length_map _
  unfold qai; rw [e,qhS (by omega)]
end Go.Vm.Mo

namespace Go.Vm.Mo
open Go
set_option linter.unusedVariables false
set_option linter.unusedSimpArgs false
def dn (r:Rat):Int:=r.num / (r.den:Int)
def upp (r:Rat):Int:=-(-r.num / (r.den:Int))
theorem qr1 (r:Rat) (n:Int):n ≤ dn r ↔ n * (r.den:Int) ≤ r.num:=by
  have:=r.den_pos
  unfold dn
  exact Int.le_ediv_iff_mul_le (by omega)
theorem qoe (r:Rat) (n:Int):upp r ≤ n ↔ r.num ≤ n * (r.den:Int):=by
  have hd:=r.den_pos
  unfold upp
  have h:=Int.le_ediv_iff_mul_le (a:=-n) (b:=-r.num) (c:=(r.den:Int)) (by omega)
  have g:-n * (r.den:Int) = -(n * (r.den:Int)):=Int.neg_mul _ _
  rw [g] at h
  constructor
  · intro k
    have:=h.1 (by omega)
    omega
  · intro k
    have:=h.2 (by omega)
    omega
theorem qrf (r:Rat):(r.num + (r.den:Int) - 1) / (r.den:Int) = upp r:=by
  have hd:=r.den_pos
  apply Int.le_antisymm
  · have h1:=(qoe r (upp r)).1 (Int.le_refl _)
    have h2:(r.num + (r.den:Int) - 1) / (r.den:Int) < upp r + 1:=(Int.ediv_lt_iff_lt_mul (by omega)).2 (by rw [Int.add_mul,Int.one_mul]; omega)
    omega
  · rw [qoe]
    have h2:(r.num + (r.den:Int) - 1) / (r.den:Int) < (r.num + (r.den:Int) - 1) / (r.den:Int) + 1:=by omega
    have h3:=(Int.ediv_lt_iff_lt_mul (show (0:Int) < (r.den:Int) by omega)).1 h2
    rw [Int.add_mul,Int.one_mul] at h3
    omega
theorem qqb (r:Rat) (h0:0 ≤ r.num) (h1:r.num ≤ 1000000):f144 ((r.num,(r.den:Int),()),()) = some (dn r,()):=by
  have hd:=r.den_pos
  have z:((r.den:Int) == 0) = false:=beq_eq_false_iff_ne.2 (by omega)
  have a:0 ≤ r.num / (r.den:Int):=Int.ediv_nonneg h0 (by omega)
  have b:r.num / (r.den:Int) ≤ r.num:=Int.ediv_le_self _ h0
  have w:Go.IntKind.wrap Go.IntKind.i64 (r.num / (r.den:Int)) = dn r:=qdw (by omega) (by omega)
  simp only [f144,t144,z,Int.tdiv_eq_ediv_of_nonneg h0,w,Tr.val_test,Tr.val_fin,Bool.false_eq_true,if_false]
theorem qqo (r:Rat) (h0:0 ≤ r.num) (h1:r.num ≤ 1000000) (h2:r.den ≤ 1000):f145 ((r.num,(r.den:Int),()),()) = some (upp r,()):=by
  have hd:=r.den_pos
  have z:((r.den:Int) == 0) = false:=beq_eq_false_iff_ne.2 (by omega)
  have w1:wrap64 (wrap64 (r.num + (r.den:Int)) - 1) = r.num + (r.den:Int) - 1:=by
    rw [qab (n:=r.num + (r.den:Int)) (by omega) (by omega)]
    exact qab (by omega) (by omega)
  have a:0 ≤ (r.num + (r.den:Int) - 1) / (r.den:Int):=Int.ediv_nonneg (by omega) (by omega)
  have b:(r.num + (r.den:Int) - 1) / (r.den:Int) ≤ r.num + (r.den:Int) - 1:=Int.ediv_le_self _ (by omega)
  have w:Go.IntKind.wrap Go.IntKind.i64 ((r.num + (r.den:Int) - 1) / (r.den:Int)) = upp r:=by rw [qdw (by omega) (by omega),qrf]
  simp only [f145,t145,z,w1,Int.tdiv_eq_ediv_of_nonneg (show 0 ≤ r.num + (r.den:Int) - 1 by omega),w,Tr.val_test,Tr.val_fin,Bool.false_eq_true,if_false]
theorem qqU (r:Rat) (hr:rsz r 2000):f147 (encR r,()) = some (enc (dn r),()):=by
  obtain ⟨r1,r2⟩:=hr
  have hd:=r.den_pos
  have e:f178 ((r.num.sign,dig r.num.natAbs,()),((r.den:Int).sign,dig r.den,()),()) = some (enc (r.num / (r.den:Int)),()):=qg8 r.num (r.den:Int) (by omega) (by simp only [Int.natAbs_natCast]; omega) (by omega)
  show f147 (((r.num.sign,dig r.num.natAbs,()),((r.den:Int).sign,dig r.den,()),()),()) = _
  simp only [f147,t147,g178,e,Option.isSome_some,Option.getD_some,Tr.val_test,Tr.val_fin,if_true]
  rfl
theorem qqy (r:Rat) (hr:rsz r 2000):f149 (encR r,()) = some (enc (upp r),()):=by
  obtain ⟨r1,r2⟩:=hr
  have hd:=r.den_pos
  have e0:f179 ((r.num.sign,dig r.num.natAbs,()),()) = some (enc (-r.num),()):=qis r.num
  have e:f178 (((enc (-r.num)).1, (enc (-r.num)).2.1, ()), ((r.den:Int).sign, dig r.den, ()), ()) = some (enc (-r.num / (r.den:Int)), ()):=qg8 (-r.num) (r.den:Int) (by omega) (by simp only [Int.natAbs_natCast]; omega) (by rw [Int.natAbs_neg]; omega)
  have e2:f179 (((enc (-r.num / (r.den:Int))).1, (enc (-r.num / (r.den:Int))).2.1, ()), ()) = some (enc (upp r), ()):=qis _
  show f149 (((r.num.sign,dig r.num.natAbs,()),((r.den:Int).sign,dig r.den,()),()),()) = _
  simp only [f149,t149,g179,e0,g178,e,e2,Option.isSome_some,Option.getD_some,Tr.val_test,Tr.val_fin,if_true]
theorem qnC {l:List Pt} (L:Ln l) {v:Int} (h0:0 ≤ v) (h:v ≤ qai l):rsz (hP l v) 2000:=by
  obtain ⟨a,b,c,d⟩:=qcI L h0 h
  exact ⟨Nat.le_trans (qaP (k:=1) (by simp only [pw]; omega)) (by omega),Nat.le_trans (qaP (k:=1) (by simp only [pw]; omega)) (by omega)⟩
theorem qq5 {l:List Pt} (L:Ln l) {v:Int} (h0:0 ≤ v) (h:v ≤ qai l):f105 (px l (nx l v - 1),py l (nx l v - 1),px l (nx l v),py l (nx l v),v,()) = some (encR (hP l v),()):=by
  obtain ⟨a,b,c,_⟩:=qfL L h
  have hl:=qoH L h0 h
  have hw:=qfM L h
  have y0:=L.y1 (nx l v - 1) (by omega)
  have y1:=L.y2 (nx l v - 1) (by omega)
  have y2:=L.y1 (nx l v) b
  have y3:=L.y2 (nx l v) b
  have yu:=L.ymono (i:=nx l v - 1) (j:=nx l v) (by omega) b
  have x0:=L.x1 (i:=nx l v - 1) (by omega)
  have x1:=L.x2 (nx l v) b
  have p0:0 ≤ (py l (nx l v) - py l (nx l v - 1)) * (v - px l (nx l v - 1)):=Int.mul_nonneg (by omega) (by omega)
  have p1:(py l (nx l v) - py l (nx l v - 1)) * (v - px l (nx l v - 1)) ≤ 1000 * 1000:=Int.mul_le_mul (by omega) (by omega) (by omega) (by omega)
  have q3:wrap64 (py l (nx l v) - py l (nx l v - 1)) = py l (nx l v) - py l (nx l v - 1):=qab (by omega) (by omega)
  have q4:wrap64 (v - px l (nx l v - 1)) = v - px l (nx l v - 1):=qab (by omega) (by omega)
  have q5:wrap64 ((py l (nx l v) - py l (nx l v - 1)) * (v - px l (nx l v - 1))) = (py l (nx l v) - py l (nx l v - 1)) * (v - px l (nx l v - 1)):=qab (by omega) (by omega)
  have q1:wrap64 (px l (nx l v) - px l (nx l v - 1)) = (((wd l v).toNat:Nat):Int):=by rw [qab (by omega) (by omega)]; unfold wd at *; omega
  have e1:=qn9 (py l (nx l v - 1)) (by omega)
  have e2:=qqM ((py l (nx l v) - py l (nx l v - 1)) * (v - px l (nx l v - 1))) (wd l v).toNat (qbn hw.1) (by omega) (by omega)
  have hb:=qgZ ((py l (nx l v) - py l (nx l v - 1)) * (v - px l (nx l v - 1))) (wd l v).toNat (qbn hw.1) 1000000 (by omega)
  have s1:rsz ((py l (nx l v - 1):Int):Rat) 2000:=⟨Nat.le_trans (qaP (k:=1) (by simp only [pw,Rat.num_intCast]; omega)) (by omega),Nat.le_trans (qaP (k:=1) (by simp only [pw,Rat.den_intCast]; omega)) (by omega)⟩
  have s2:rsz (Rat.normalize ((py l (nx l v) - py l (nx l v - 1)) * (v - px l (nx l v - 1))) (wd l v).toNat (qbn hw.1)) 2000:=⟨Nat.le_trans (qaP (k:=2) (by simp only [pw]; omega)) (by omega), Nat.le_trans (qaP (k:=1) (by simp only [pw]; omega)) (by omega)⟩
  have key:((py l (nx l v - 1):Int):Rat) + Rat.normalize ((py l (nx l v) - py l (nx l v - 1)) * (v - px l (nx l v - 1))) (wd l v).toNat (qbn hw.1) = hP l v:=by
    have:((py l (nx l v - 1):Int):Rat) = Rat.normalize (py l (nx l v - 1)) 1 (by decide):=by
      rw [Rat.normalize_eq_mkRat]; exact (Rat.mkRat_one _).symm
    rw [this, Rat.normalize_add_normalize, qiD hw.1]
    congr 1
    · unfold tp
      have:(((wd l v).toNat:Nat):Int) = wd l v:=by omega
      rw [this]; omega
    · omega
  have e3:=qqc _ _ s1 s2
  rw [key] at e3
  simp only [f105,t105,q3,q4,q5,q1,g106,e1,g163,e2,Option.isSome_some,Option.getD_some,Tr.val_test,Tr.val_fin,if_true]
  have e4:∀ r s:Rat, f162 (((((encR r).1.1, (encR r).1.2.1, ()), ((encR r).2.1.1, (encR r).2.1.2.1, ()), ()), (((encR s).1.1, (encR s).1.2.1, ()), ((encR s).2.1.1, (encR s).2.1.2.1, ()), ()), ())) = f162 (encR r, encR s, ()):=fun _ _=>rfl
  simp only [g162,e4,e3,Option.isSome_some,Option.getD_some,if_true]
end Go.Vm.Mo

namespace Go.Vm.Mo
open Go
set_option linter.unusedVariables false
set_option linter.unusedSimpArgs false
def lnb (l:List Fl) (b:Bool):List Pt:=cond b (higL l) (lowL l)
def vy (l:List Fl) (b:Bool) (i:Nat):Int:=cond b (vhi l i) (vlo l i)
theorem qlt {l:List Fl} (b:Bool) {i:Nat} (h:i < l.length):px (lnb l b) i = vd l i:=by
  cases b
  · exact qhz h
  · exact qhS h
theorem qpR {l:List Fl} (b:Bool) {i:Nat} (h:i < l.length):py (lnb l b) i = vy l b i:=by
  cases b
  · exact qjY h
  · exact qjz h
theorem qp4 (l:List Fl) (b:Bool):(lnb l b).length = l.length:=by
  cases b
  · exact List.length_map _
  · exact List.length_map _
theorem Vk.ln {l:List Fl} (V:Vk l) (b:Bool):Ln (lnb l b):=by
  cases b
  · exact V.low
  · exact V.hig
theorem qpi {l:List Fl} (V:Vk l) (b:Bool):qai (lnb l b) = vd l (l.length - 1):=by
  cases b
  · exact qcB V
  · exact qfU V
theorem l148 {l:List Fl} (V:Vk l) (b:Bool) {v:Int} (h0:0 ≤ v) (h:v ≤ vd l (l.length - 1)) :
    l148_0 ((l, v, b, (1:Int), ()), ((0:Int), (0:Int), ()), ()) = some (.inr ((), ((encR (hP (lnb l b) v)).1.1, (encR (hP (lnb l b) v)).1.2.1, (encR (hP (lnb l b) v)).2.1.1, (encR (hP (lnb l b) v)).2.1.2.1, ()), ())):=by
  have n1:=V.n1; have n2:=V.n2
  have L:=V.ln b
  have hv:v ≤ qai (lnb l b):=by rw [qpi V]; exact h
  obtain ⟨a1,a2,a3,a4⟩:=qfL L hv
  rw [qp4] at a2
  have e105:=qq5 L h0 hv
  obtain ⟨k,hk⟩:∃ k,nx (lnb l b) v = k + 1:=⟨nx (lnb l b) v - 1,by omega⟩
  rw [hk,Nat.add_sub_cancel,qlt b (by omega),qlt b (by omega),qpR b (by omega),qpR b (by omega)] at e105
  rw [hk] at a2 a3
  rw [qlt b (by omega)] at a3
  refine qnQ (fun i=>((l,v,b,((i + 1:Nat):Int),()),((0:Int),(0:Int),()),())) (n:=k) ?_ ?_ (qam (by omega))
  · intro i hi
    have a5:=a4 (i + 1) (by omega) (by omega)
    rw [qlt b (by omega)] at a5
    have q1:(!decide ((l.length:Int) ≤ ((i + 1:Nat):Int))) = true:=nT (by omega)
    have b1:(decide ((0:Int) ≤ ((i + 1:Nat):Int)) && decide (((i + 1:Nat):Int) < (l.length:Int))) = true:=dA (by omega) (by omega)
    have q2:decide (v ≤ (l.getD (i + 1) ((0:Int), (0:Int), (0:Int), ())).1) = false:=dF (by unfold vd at a5; omega)
    simp only [s148_0,t148_0,qaf,q1,b1,q2,Int.toNat_natCast,qay (show i + 1 ≤ 9223372036854775806 by omega),Tr.val_test,Tr.val_fin,if_true,Bool.false_eq_true,if_false]
  · have q1:(!decide ((l.length:Int) ≤ ((k + 1:Nat):Int))) = true:=nT (by omega)
    have b1:(decide ((0:Int) ≤ ((k + 1:Nat):Int)) && decide (((k + 1:Nat):Int) < (l.length:Int))) = true:=dA (by omega) (by omega)
    have q2:decide (v ≤ (l.getD (k + 1) ((0:Int), (0:Int), (0:Int), ())).1) = true:=dT (by unfold vd at a3; omega)
    have w:wrap64 (((k + 1:Nat):Int) - 1) = (k:Int):=by rw [qab (by omega) (by omega)]; omega
    have b2:(decide ((0:Int) ≤ (k:Int)) && decide ((k:Int) < (l.length:Int))) = true:=dA (by omega) (by omega)
    cases b
    · simp only [vd,vy,vlo,cond_false] at e105
      simp only [s148_0,t148_0,qaf,q1,b1,q2,w,b2,Int.toNat_natCast,Tr.val_test,Tr.val_fin,if_true,Bool.false_eq_true,if_false,g105,e105,Option.isSome_some,Option.getD_some]
    · simp only [vd,vy,vhi,cond_true] at e105
      simp only [s148_0,t148_0,qaf,q1,b1,q2,w,b2,Int.toNat_natCast,Tr.val_test,Tr.val_fin,if_true,Bool.false_eq_true,if_false,g105,e105,Option.isSome_some,Option.getD_some]
theorem qk8 {l:List Fl} (V:Vk l) (b:Bool) {v:Int} (h0:0 ≤ v) (h:v ≤ vd l (l.length - 1)):f148 (l,v,b,()) = some (encR (hP (lnb l b) v),()):=by
  have e:=l148 V b h0 h
  simp only [f148,t148,e,qb5,r148_0,outR,Option.isSome_some,Tr.val_test,Tr.val_fin,if_true]
theorem qr0 {l:List Pt} (L:Ln l) {v:Int} (h0:0 ≤ v) (h:v ≤ qai l):0 ≤ dn (hP l v) ∧ dn (hP l v) ≤ 1000000:=by
  obtain ⟨a,b,c,d⟩:=qcI L h0 h
  exact ⟨Int.ediv_nonneg c (by omega),Int.le_trans (Int.ediv_le_self _ c) d⟩
theorem qrw {l:List Pt} (L:Ln l) {v:Int} (h0:0 ≤ v) (h:v ≤ qai l):0 ≤ upp (hP l v) ∧ upp (hP l v) ≤ 1001000:=by
  obtain ⟨a,b,c,d⟩:=qcI L h0 h
  have hd:=(hP l v).den_pos
  rw [← qrf]
  exact ⟨Int.ediv_nonneg (by omega) (by omega),Int.le_trans (Int.ediv_le_self _ (by omega)) (by omega)⟩
theorem qh0 {x:Int} (h0:0 ≤ x) (h1:x ≤ 100000000):f103 (enc x,()) = some (x,true,()) :=
  qqV x (Nat.le_trans (qaP (k:=1) (by simp only [pw]; omega)) (by omega))
theorem qrr {l:List Fl} (V:Vk l) {a b:Int} (a0:0 ≤ a) (a1:a ≤ vd l (l.length - 1)) (b0:0 ≤ b) (b1:b ≤ vd l (l.length - 1)):f77 (l,(a,b,()),()) = some ((dn (hP (lowL l) a),upp (hP (higL l) b),()),()):=by
  have ha:a ≤ qai (lowL l):=by rw [qcB V]; exact a1
  have hb:b ≤ qai (higL l):=by rw [qfU V]; exact b1
  have e1:f148 (l,a,false,()) = some (encR (hP (lowL l) a),()):=qk8 V false a0 a1
  have e2:f148 (l,b,true,()) = some (encR (hP (higL l) b),()):=qk8 V true b0 b1
  have e3:f147 ((((encR (hP (lowL l) a)).1.1, (encR (hP (lowL l) a)).1.2.1, ()), ((encR (hP (lowL l) a)).2.1.1, (encR (hP (lowL l) a)).2.1.2.1, ()), ()), ()) = some (enc (dn (hP (lowL l) a)), ()):=qqU _ (qnC V.low a0 ha)
  have e4:f149 ((((encR (hP (higL l) b)).1.1, (encR (hP (higL l) b)).1.2.1, ()), ((encR (hP (higL l) b)).2.1.1, (encR (hP (higL l) b)).2.1.2.1, ()), ()), ()) = some (enc (upp (hP (higL l) b)), ()):=qqy _ (qnC V.hig b0 hb)
  have d1:=qr0 V.low a0 ha
  have d2:=qrw V.hig b0 hb
  have e5:f103 (((enc (dn (hP (lowL l) a))).1, (enc (dn (hP (lowL l) a))).2.1, ()), ()) = some (dn (hP (lowL l) a), true, ()):=qh0 d1.1 (by omega)
  have e6:f103 (((enc (upp (hP (higL l) b))).1, (enc (upp (hP (higL l) b))).2.1, ()), ()) = some (upp (hP (higL l) b), true, ()):=qh0 d2.1 (by omega)
  simp only [f77,t77,g148,e1,e2,g147,e3,g149,e4,g103,e5,e6,Option.isSome_some,Option.getD_some,Tr.val_test,Tr.val_fin,if_true]
theorem qrC {l:List Fl} (V:Vk l) (a b:Int):f76 (l,(a,b,()),()) = some (rE 0 (vd l (l.length - 1)) a b,()):=by
  have n1:=V.n1; have n2:=V.n2
  have w:wrap64 ((l.length:Int) - 1) = ((l.length - 1:Nat):Int):=by rw [qab (by omega) (by omega)]; omega
  have b1:(decide ((0:Int) ≤ ((l.length - 1:Nat):Int)) && decide (((l.length - 1:Nat):Int) < (l.length:Int))) = true:=dA (by omega) (by omega)
  simp only [f76,t76,w,b1,Int.toNat_natCast,g20,qm7,qaf,Option.isSome_some,Option.getD_some,Tr.val_test,Tr.val_fin,if_true,rE,vd]
  by_cases k:b < a
  · rw [nT (show ¬ a ≤ b by omega)]
    rcases Bool.eq_false_or_eq_true (wi 0 (l.getD (l.length - 1) ((0:Int), (0:Int), (0:Int), ())).1 a) with hA | hA <;> rcases Bool.eq_false_or_eq_true (wi 0 (l.getD (l.length - 1) ((0:Int), (0:Int), (0:Int), ())).1 b) with hB | hB <;> simp only [hA, hB, k, if_true] <;> rfl
  · rw [nF (show a ≤ b by omega)]
    rcases Bool.eq_false_or_eq_true (wi 0 (l.getD (l.length - 1) ((0:Int), (0:Int), (0:Int), ())).1 a) with hA | hA <;> rcases Bool.eq_false_or_eq_true (wi 0 (l.getD (l.length - 1) ((0:Int), (0:Int), (0:Int), ())).1 b) with hB | hB <;> simp only [hA, hB, k, if_false] <;> rfl
theorem qqE {l:List Fl} (h:l.length ≤ 1000) (z:¬ (vC l).2.1 = 0) (a b:Int):f73 (l, (a, b, ()), ()) = some ((0, 0, ()), (vC l).2.1, ()):=by
  have e:=qe9 l h
  rw [if_neg z] at e
  simp only [f73,t73,g141,e,qau,nT z,Option.isSome_some,Option.getD_some,Tr.val_test,Tr.val_fin,if_true]
theorem qqx {l:List Fl} (h:l.length ≤ 1000) (z:(vC l).2.1 = 0) {a b:Int} (k:¬ rE 0 (vd l (l.length - 1)) a b = 0):f73 (l, (a, b, ()), ()) = some ((0, 0, ()), rE 0 (vd l (l.length - 1)) a b, ()):=by
  have V:=qmo z
  have e:=qe9 l h
  rw [if_pos z] at e
  have e1:=qg9 V.low
  rw [qcB V] at e1
  have e2:=qoi 0 (vd l (l.length - 1)) a b
  have z0:(!decide ((0:Int) = 0)) = false:=rfl
  simp only [f73,t73,g141,e,qau,z0,g143,e1,g142,e2,nT k,Option.isSome_some,Option.getD_some,Tr.val_test,Tr.val_fin,if_true,Bool.false_eq_true,if_false]
  rfl
theorem qlj {l:List Fl} (h:l.length ≤ 1000) (z:(vC l).2.1 = 0) {a b:Int} (a0:0 ≤ a) (ab:a ≤ b) (b1:b ≤ vd l (l.length - 1)):f73 (l, (a, b, ()), ()) = some ((dn (hP (lowL l) a), upp (hP (higL l) b), ()), 0, ()):=by
  have V:=qmo z
  have e:=qe9 l h
  rw [if_pos z] at e
  have e1:=qg9 V.low
  rw [qcB V] at e1
  have ha:a ≤ qai (lowL l):=by rw [qcB V]; omega
  have hb:b ≤ qai (higL l):=by rw [qfU V]; omega
  have k:rE 0 (vd l (l.length - 1)) a b = 0:=by
    unfold rE
    rw [if_pos (by simp only [Bool.and_eq_true,wi_iff]; omega),if_neg (by omega)]
  have e2:=qoi 0 (vd l (l.length - 1)) a b
  rw [k] at e2
  have z0:(!decide ((0:Int) = 0)) = false:=rfl
  have e3:=qlG V.low a0 ha
  have e4:=qlG V.hig (v:=b) (by omega) hb
  obtain ⟨p1,p2,p3,p4⟩:=qcI V.low a0 ha
  obtain ⟨s1,s2,s3,s4⟩:=qcI V.hig (v:=b) (by omega) hb
  have e5:=qqb (hP (lowL l) a) p3 p4
  have e6:=qqo (hP (higL l) b) s3 s4 s1
  simp only [f73,t73,g141,e,qau,z0,g143,e1,g142,e2,g98,e3,e4,pr,g144,e5,g145,e6,Option.isSome_some,Option.getD_some,Tr.val_test,Tr.val_fin,if_true,Bool.false_eq_true,if_false]
  rfl
end Go.Vm.Mo

namespace Go.Vm.Mo
open Go
set_option linter.unusedVariables false
set_option linter.unusedSimpArgs false
theorem qkD (x:Int):f146 (x,()) = some (if wi 0 50 x = true then (0:Int) else 2,()):=by
  have e:=qny 0 50 x
  simp only [f146,t146,g93,e,g95,qlq,Option.isSome_some,Option.getD_some,Tr.val_test,Tr.val_fin,if_true]
  rcases Bool.eq_false_or_eq_true (wi 0 50 x) with h | h <;> simp only [h] <;> rfl
theorem qrS (x y:Int):qbK [x,y] = if x = 0 then y else x:=by
  simp only [qbK]
  split
  · split
    · rename_i h; exact h.symm
    · rfl
  · rfl
theorem qqJ {l:List Fl} (h:l.length ≤ 1000) (z:¬ (vC l).2.1 = 0) (x:Int):f74 (l, x, ()) = some (0, (vC l).2.1, ()):=by
  have e:=qe9 l h
  rw [if_neg z] at e
  have e1:=qkD x
  have e94:∀ x y:Int,f94 ([x,y],()) = some (qbK [x,y],()):=fun x y=>qht _ (by simp)
  simp only [f74,t74,g141,e,g146,e1,g94,e94,qrS,if_neg z,qau,nT z,Option.isSome_some,Option.getD_some,Tr.val_test,Tr.val_fin,if_true]
theorem qqQ {l:List Fl} (h:l.length ≤ 1000) (z:(vC l).2.1 = 0) {x:Int} (k:wi 0 50 x = false):f74 (l, x, ()) = some (0, 2, ()):=by
  have e:=qe9 l h
  rw [if_pos z] at e
  have e1:=qkD x
  rw [k] at e1
  have e2:f94 ([(0:Int),2],()) = some ((2:Int),()):=by rw [qht _ (by simp)]; rfl
  have e3:f146 (x,()) = some ((2:Int),()):=e1
  have z2:(!decide ((2:Int) = 0)) = true:=rfl
  simp only [f74,t74,g141,e,g146,e3,g94,e2,qau,Option.isSome_some,Option.getD_some,Tr.val_test,Tr.val_fin,if_true]
  rfl
theorem qrO {l:List Fl} (h:l.length ≤ 1000) (z:(vC l).2.1 = 0) {x:Int} (k:wi 0 50 x = true):f74 (l, x, ()) = some (if fst (atl (lowL l) x) (qai (lowL l)) ≤ qai (lowL l) then (fst (atl (lowL l) x) (qai (lowL l)), 0, ()) else (0, 12, ())):=by
  have V:=qmo z
  have hk:=wi_iff.1 k
  have e:=qe9 l h
  rw [if_pos z] at e
  have e1:=qkD x
  rw [if_pos k] at e1
  have e2:f94 ([(0:Int),0],()) = some ((0:Int),()):=by rw [qht _ (by simp)]; rfl
  have e4:=qqC V.low (h:=x) (by omega) (by omega)
  have e5:=qg9 V.low
  have z0:(!eqF (0:Int) 0) = false:=rfl
  simp only [f74,t74,g141,e,g146,e1,g94,e2,z0,g101,e4,g143,e5,qaf,Option.isSome_some,Option.getD_some,Tr.val_test,Tr.val_fin,if_true,Bool.false_eq_true,if_false]
  by_cases q:fst (atl (lowL l) x) (qai (lowL l)) ≤ qai (lowL l)
  · rw [nF q,if_pos q,if_neg (by decide)]
  · rw [nT q,if_neg q,if_pos rfl]
theorem qld (p:Int → Bool) (q:Nat → Bool) (h:∀ i:Nat,q i = p (i:Int)):∀ n i:Nat,first q n i = if lw p n i < i + n then some (lw p n i) else none
  | 0, i=>(if_neg (show ¬ lw p 0 i < i + 0 from Nat.lt_irrefl i)).symm
  | n + 1, i=>by
    by_cases k:p (i:Int) = true
    · have e:lw p (n + 1) i = i:=if_pos k
      have e':first q (n + 1) i = some i:=by simp only [first,h i,if_pos k]
      rw [e,e',if_pos (by omega)]
    · have e:lw p (n + 1) i = lw p n (i + 1):=if_neg k
      have e':first q (n + 1) i = first q n (i + 1):=by simp only [first,h i,if_neg k]
      rw [e,e',qld p q h n (i + 1)]
      by_cases c:lw p n (i + 1) < i + 1 + n
      · rw [if_pos c,if_pos (by omega)]
      · rw [if_neg c,if_neg (by omega)]
theorem l78 {l:List Fl} (V:Vk l) {x:Int} (k:wi 0 50 x = true):l78_0 ((l,x,(0:Int),()),()) = match first (fun i=>atl (lowL l) x (i:Int)) (qai (lowL l) + 1).toNat 0 with
    | some i=>some (.inr (((i:Int), true, ()), ()))
    | none=>some (.inl ((), ())):=by
  have hk:=wi_iff.1 k
  have hx:=qcE V.low
  have n1:=V.n1; have n2:=V.n2
  have hl:=qcB V
  have w:wrap64 ((l.length:Int) - 1) = ((l.length - 1:Nat):Int):=by rw [qab (by omega) (by omega)]; omega
  have b1:(decide ((0:Int) ≤ ((l.length - 1:Nat):Int)) && decide (((l.length - 1:Nat):Int) < (l.length:Int))) = true:=dA (by omega) (by omega)
  have hl':(l.getD (l.length - 1) ((0:Int), (0:Int), (0:Int), ())).1 = qai (lowL l):=hl.symm
  refine qcg (fun i=>((l,x,(i:Int),()),())) (fun i=>atl (lowL l) x (i:Int)) (fun i=>(((i:Int),true,()),())) (n:=(qai (lowL l) + 1).toNat) ?_ ?_ (qam (by omega))
  · intro i hi
    have i1:(i:Int) ≤ qai (lowL l):=by omega
    have q1:decide ((i:Int) ≤ qai (lowL l)) = true:=dT i1
    have e1:f148 (l,(i:Int),false,()) = some (encR (hP (lowL l) (i:Int)),()):=qk8 V false (by omega) (by rw [← hl]; exact i1)
    have e2:=qn9 x (by omega)
    have sx:rsz ((x:Int):Rat) 2000:=⟨Nat.le_trans (qaP (k:=1) (by simp only [pw,Rat.num_intCast]; omega)) (by omega),Nat.le_trans (qaP (k:=1) (by simp only [pw,Rat.den_intCast]; omega)) (by omega)⟩
    have e3:=qqh (hP (lowL l) (i:Int)) ((x:Int):Rat) (qnC V.low (by omega) i1) sx
    rw [Rat.num_intCast,Rat.den_intCast] at e3
    have e4:∀ r s:Rat, f108 (((((encR r).1.1, (encR r).1.2.1, ()), ((encR r).2.1.1, (encR r).2.1.2.1, ()), ()), (((encR s).1.1, (encR s).1.2.1, ()), ((encR s).2.1.1, (encR s).2.1.2.1, ()), ()), ())) = f108 (encR r, encR s, ()):=fun _ _=>rfl
    have hlt:=qox V.low (v:=(i:Int)) (by omega) i1 x
    have e5:decide ((0:Int) ≤ ((hP (lowL l) (i:Int)).num * ((1:Nat):Int) - x * ((hP (lowL l) (i:Int)).den:Int)).sign) = atl (lowL l) x (i:Int):=by
      have hs:(0:Int) ≤ ((hP (lowL l) (i:Int)).num * ((1:Nat):Int) - x * ((hP (lowL l) (i:Int)).den:Int)).sign ↔ ¬ (hP (lowL l) (i:Int)).num < x * ((hP (lowL l) (i:Int)).den:Int):=by
        rw [Int.sign_nonneg_iff]; omega
      unfold lt at hlt
      by_cases c:(hP (lowL l) (i:Int)).num < x * ((hP (lowL l) (i:Int)).den:Int)
      · rw [dT c] at hlt
        rw [dF (fun q=>hs.1 q c)]
        cases hv:atl (lowL l) x (i:Int)
        · rfl
        · rw [hv] at hlt; cases hlt
      · rw [dF c] at hlt
        rw [dT (hs.2 c)]
        cases hv:atl (lowL l) x (i:Int)
        · rw [hv] at hlt; cases hlt
        · rfl
    simp only [s78_0,t78_0,w,b1,Int.toNat_natCast,hl',qaf,q1,g148,e1,g106,e2,g108,e4,e3,e5,qay (show i ≤ 9223372036854775806 by omega),Option.isSome_some,Option.getD_some,Tr.val_test,Tr.val_fin,if_true]
  · have q1:decide ((((qai (lowL l) + 1).toNat:Nat):Int) ≤ qai (lowL l)) = false:=dF (by omega)
    simp only [s78_0,t78_0,w,b1,Int.toNat_natCast,hl',qaf,q1,Tr.val_test,Tr.val_fin,if_true,Bool.false_eq_true,if_false]
theorem qrG {l:List Fl} (V:Vk l) {x:Int} (k:wi 0 50 x = true):f78 (l,x,()) = some (if fst (atl (lowL l) x) (qai (lowL l)) ≤ qai (lowL l) then (fst (atl (lowL l) x) (qai (lowL l)),true,()) else (0,false,())):=by
  have hx:=qcE V.low
  have e:=l78 V k
  rw [qld (atl (lowL l) x) _ (fun _=>rfl)] at e
  by_cases c:lw (atl (lowL l) x) (qai (lowL l) + 1).toNat 0 < 0 + (qai (lowL l) + 1).toNat
  · rw [if_pos c] at e
    rw [if_pos (by unfold fst; omega)]
    simp only [f78,t78,e,qb5,r78_0,outR,Option.isSome_some,Tr.val_test,Tr.val_fin,if_true,fst]
  · rw [if_neg c] at e
    rw [if_neg (by unfold fst; omega)]
    simp only [f78,t78,e,qb5,Option.isSome_some,Tr.val_test,Tr.val_fin,if_true,Bool.false_eq_true,if_false]
end Go.Vm.Mo

namespace Go.Vm.Mo
open Go
set_option linter.unusedVariables false
set_option linter.unusedSimpArgs false
theorem qod (p:Int → Bool):∀ n i:Nat,i ≤ lw p n i ∧ lw p n i ≤ i + n ∧ (∀ j:Nat,i ≤ j → j < lw p n i → p (j:Int) = false) ∧ (lw p n i < i + n → p ((lw p n i:Nat):Int) = true)
  | 0, i=>⟨Nat.le_refl _, Nat.le_refl _, fun j h1 h2=>absurd (Nat.lt_of_le_of_lt h1 h2) (Nat.lt_irrefl i), fun h=>absurd h (Nat.lt_irrefl i)⟩
  | n + 1, i=>by
    by_cases k:p (i:Int) = true
    · have e:lw p (n + 1) i = i:=if_pos k
      rw [e]
      exact ⟨Nat.le_refl _,by omega,fun j h1 h2=>by omega,fun _=>k⟩
    · have e:lw p (n + 1) i = lw p n (i + 1):=if_neg k
      obtain ⟨a,b,c,d⟩:=qod p n (i + 1)
      rw [e]
      refine ⟨by omega,by omega,fun j h1 h2=>?_,fun h=>d (by omega)⟩
      rcases Nat.eq_or_lt_of_le h1 with q | q
      · subst q
        cases hp:p (i:Int)
        · rfl
        · exact absurd hp k
      · exact c j q h2
theorem qeO {l:List Pt} (L:Ln l) {v:Int} (h0:0 ≤ v) (h:v ≤ qai l) (x:Int):x ≤ dn (hP l v) ↔ atl l x v = true:=by
  have e:=qox L h0 h x
  rw [qr1]
  unfold lt at e
  constructor
  · intro k
    rw [dF (by omega)] at e
    cases q:atl l x v
    · rw [q] at e; cases e
    · rfl
  · intro k
    rw [k] at e
    have:=of_decide_eq_false e
    omega
theorem qhy {l:List Pt} (L:Ln l) {v:Int} (h0:0 ≤ v) (h:v ≤ qai l) (x:Int):upp (hP l v) ≤ x ↔ abv l x v = false:=by
  have e:=qpU L h0 h x
  rw [qoe]
  unfold gt at e
  constructor
  · intro k
    rw [dF (by omega)] at e
    exact e.symm
  · intro k
    rw [k] at e
    have:=of_decide_eq_false e
    omega
theorem qq1 {l:List Pt} (L:Ln l) {v w:Int} (h0:0 ≤ v) (hvw:v ≤ w) (h:w ≤ qai l):dn (hP l v) ≤ dn (hP l w):=by
  rw [qeO L (by omega) h]
  exact qp2 L h0 hvw h ((qeO L h0 (by omega) _).1 (Int.le_refl _))
theorem qo3 {l:List Pt} (L:Ln l) {v w:Int} (h0:0 ≤ v) (hvw:v ≤ w) (h:w ≤ qai l):upp (hP l v) ≤ upp (hP l w):=by
  rw [qhy L h0 (by omega)]
  have k:=(qhy L (by omega) h (upp (hP l w))).1 (Int.le_refl _)
  cases q:abv l (upp (hP l w)) v
  · rfl
  · have:=qpO L h0 hvw h q
    rw [k] at this; cases this
theorem qpS {l:List Fl} (h:l.length ≤ 1000) (z:(vC l).2.1 = 0) (x:Int) :
    (f36 (x,()) = some ((2:Int),()) ∧ f74 (l,x,()) = some (0,2,())) ∨
    (f36 (x,()) = some ((0:Int),()) ∧ f78 (l,x,()) = some (0,false,()) ∧ f74 (l,x,()) = some (0,12,())) ∨
    (∃ n m:Int,f36 (x,()) = some ((0:Int),()) ∧ f78 (l,x,()) = some (0,true,()) ∧ f74 (l,x,()) = some (0,0,()) ∧ f73 (l,(0,0,()),()) = some ((n,m,()),0,()) ∧ x ≤ n) ∨
    (∃ d n m n' m':Int,f36 (x,()) = some ((0:Int),()) ∧ f78 (l,x,()) = some (d,true,()) ∧ f74 (l,x,()) = some (d,0,()) ∧ f73 (l,(d,d,()),()) = some ((n,m,()),0,()) ∧ x ≤ n ∧ d ≠ 0 ∧ wrap64 (d - 1) = d - 1 ∧ f73 (l,(d - 1,d - 1,()),()) = some ((n',m',()),0,()) ∧ ¬ x ≤ n'):=by
  have V:=qmo z
  have hx:=qcE V.low
  have hl:=qcB V
  have e36:=qp0 ((x,()):Tys.data as36)
  rcases Bool.eq_false_or_eq_true (wi 0 50 x) with k | k
  · right
    have e1:f36 (x,()) = some ((0:Int),()):=by
      rw [e36]; show some ((if wi 0 50 x = true then (0:Int) else 2),()) = _; rw [k]; rfl
    have e2:=qrG V k
    have e3:=qrO h z k
    obtain ⟨_,s2,s3,s4⟩:=qod (atl (lowL l) x) (qai (lowL l) + 1).toNat 0
    by_cases q:fst (atl (lowL l) x) (qai (lowL l)) ≤ qai (lowL l)
    · right
      rw [if_pos q] at e2 e3
      have hd:fst (atl (lowL l) x) (qai (lowL l)) = ((lw (atl (lowL l) x) (qai (lowL l) + 1).toNat 0:Nat):Int):=rfl
      generalize hg:lw (atl (lowL l) x) (qai (lowL l) + 1).toNat 0 = g at *
      rw [hd] at q e2 e3
      have t1:=s4 (by omega)
      have f1:=qlj h z (a:=(g:Int)) (b:=(g:Int)) (by omega) (Int.le_refl _) (by rw [← hl]; exact q)
      have le1:=(qeO V.low (v:=(g:Int)) (by omega) q x).2 t1
      rcases Nat.eq_zero_or_pos g with e | e
      · left
        subst e
        exact ⟨_,_,e1,e2,e3,f1,le1⟩
      · right
        have c1:((g - 1:Nat):Int) = (g:Int) - 1:=by omega
        have t2:=s3 (g - 1) (Nat.zero_le _) (by omega)
        rw [c1] at t2
        have f2:=qlj h z (a:=(g:Int) - 1) (b:=(g:Int) - 1) (by omega) (Int.le_refl _) (by rw [← hl]; omega)
        have le2:¬ x ≤ dn (hP (lowL l) ((g:Int) - 1)):=fun c=>by
          have:=(qeO V.low (v:=(g:Int) - 1) (by omega) (by omega) x).1 c
          rw [t2] at this; cases this
        exact ⟨_,_,_,_,_,e1,e2,e3,f1,le1,by omega,qab (by omega) (by omega),f2,le2⟩
    · left
      rw [if_neg q] at e2 e3
      exact ⟨e1,e2,e3⟩
  · left
    refine ⟨?_,qqQ h z k⟩
    rw [e36]; show some ((if wi 0 50 x = true then (0:Int) else 2),()) = _; rw [k]; rfl
theorem qqi (l:List Fl) (a b x:Int):f11 (l,(a,b,()),x,()) = some (true,()):=by
  by_cases hb:l.length ≤ 10
  · have h:l.length ≤ 1000:=by omega
    have q0:(!decide ((l.length:Int) ≤ 10)) = false:=nF (by omega)
    have e72:=qrM l h
    have e71:=qpI l (by omega)
    have e75:=qrz l (by omega)
    have z0:(!decide ((0:Int) = 0)) = false:=rfl
    have z2:(!decide ((2:Int) = 0)) = true:=rfl
    have y0:decide ((0:Int) = 0) = true:=rfl
    have y2:decide ((2:Int) = 2) = true:=rfl
    have y12:decide ((12:Int) = 12) = true:=rfl
    have b0:((0:Int) == 0) = true:=rfl
    have bx:∀ c:Int,(c == c) = true:=fun c=>beq_self_eq_true c
    by_cases z:(vC l).2.1 = 0
    · have V:=qmo z
      have vz:=qqn z
      have n1:=V.n1
      have hl:=qcB V
      have hx:=qcE V.low
      rw [vz] at e71 e75
      have e76:=qrC V a b
      by_cases k:rE 0 (vd l (l.length - 1)) a b = 0
      · obtain ⟨k1,k2,k3⟩:=qr8 k
        rw [k] at e76
        have e73:=qlj h z k1 k2 k3
        have e77:=qrr V k1 (by omega) (by omega:0 ≤ b) k3
        have w:wrap64 ((l.length:Int) - 1) = ((l.length - 1:Nat):Int):=by rw [qab (by omega) (by omega)]; omega
        have c1:(decide ((0:Int) ≤ ((l.length - 1:Nat):Int)) && decide (((l.length - 1:Nat):Int) < (l.length:Int))) = true:=dA (by omega) (by omega)
        have hl':(l.getD (l.length - 1) ((0:Int), (0:Int), (0:Int), ())).1 = vd l (l.length - 1):=rfl
        have w1:wrap64 (a - 1) = a - 1:=qab (by omega) (by omega)
        have w2:wrap64 (b + 1) = b + 1:=qab (by omega) (by omega)
        obtain ⟨a',ha'⟩:∃ a',(if (0:Int) < a - 1 then a - 1 else 0) = a':=⟨_,rfl⟩
        obtain ⟨b',hb'⟩:∃ b',(if b + 1 < vd l (l.length - 1) then b + 1 else vd l (l.length - 1)) = b':=⟨_,rfl⟩
        have pa:0 ≤ a' ∧ a' ≤ a:=by rw [← ha']; split <;> omega
        have pb:b ≤ b' ∧ b' ≤ vd l (l.length - 1):=by rw [← hb']; split <;> omega
        have e73':=qlj h z (a:=a') (b:=b') pa.1 (by omega) pb.2
        have m1:=qq1 V.low pa.1 pa.2 (by omega)
        have m2:=qo3 V.hig (v:=b) (w:=b') (by omega) pb.1 (by rw [qfU V]; exact pb.2)
        rcases qpS h z x with ⟨t1,t2⟩ | ⟨t1,t2,t3⟩ | ⟨n,m,t1,t2,t3,t4,t5⟩ | ⟨d,n,m,n',m',t1,t2,t3,t4,t5,t6,t7,t8,t9⟩
        · simp only [f11,t11,qaf,q0,Int.toNat_natCast,decide_true,g72,e72,g71,e71,g75,e75,g73,e73,g74,t2,qau,z0,z2,y0,y2,g76,e76,g77,e77,bx,Bool.and_self,w,c1,hl',w1,w2,ha',hb',e73',nF m1,nF m2,g36,t1,Option.isSome_some,Option.getD_some,Tr.val_test,Tr.val_fin,if_true,Bool.false_eq_true,if_false,Bool.not_true,Bool.not_false]
        · simp only [f11,t11,qaf,q0,Int.toNat_natCast,decide_true,g72,e72,g71,e71,g75,e75,g73,e73,g74,t3,qau,z0,y0,y12,g76,e76,g77,e77,bx,Bool.and_self,w,c1,hl',w1,w2,ha',hb',e73',nF m1,nF m2,g36,t1,g78,t2,Option.isSome_some,Option.getD_some,Tr.val_test,Tr.val_fin,if_true,Bool.false_eq_true,if_false,Bool.not_true,Bool.not_false]
        · simp only [f11,t11,qaf,q0,Int.toNat_natCast,decide_true,g72,e72,g71,e71,g75,e75,g73,e73,g74,t3,qau,z0,y0,g76,e76,g77,e77,bx,Bool.and_self,w,c1,hl',w1,w2,ha',hb',e73',nF m1,nF m2,g36,t1,g78,t2,t4,nF t5,Option.isSome_some,Option.getD_some,Tr.val_test,Tr.val_fin,if_true,Bool.false_eq_true,if_false,Bool.not_true,Bool.not_false]
        · simp only [f11,t11,qaf,q0,Int.toNat_natCast,decide_true,g72,e72,g71,e71,g75,e75,g73,e73,g74,t3,qau,z0,y0,g76,e76,g77,e77,bx,Bool.and_self,w,c1,hl',w1,w2,ha',hb',e73',nF m1,nF m2,g36,t1,g78,t2,t4,nF t5,nF (rfl:d = d),dF t6,t7,t8,nT t9,Option.isSome_some,Option.getD_some,Tr.val_test,Tr.val_fin,if_true,Bool.false_eq_true,if_false,Bool.not_true,Bool.not_false]
      · have e73:=qqx h z k
        have q1:(!decide (rE 0 (vd l (l.length - 1)) a b = 0)) = true:=nT k
        have q2:(!decide (rE 0 (vd l (l.length - 1)) a b = rE 0 (vd l (l.length - 1)) a b)) = false:=nF rfl
        rcases qpS h z x with ⟨t1,t2⟩ | ⟨t1,t2,t3⟩ | ⟨n,m,t1,t2,t3,t4,t5⟩ | ⟨d,n,m,n',m',t1,t2,t3,t4,t5,t6,t7,t8,t9⟩
        · simp only [f11,t11,qaf,q0,Int.toNat_natCast,decide_true,g72,e72,g71,e71,g75,e75,g73,e73,g74,t2,qau,z0,z2,y0,y2,g76,e76,q1,q2,bx,Bool.and_self,g36,t1,Option.isSome_some,Option.getD_some,Tr.val_test,Tr.val_fin,if_true,Bool.false_eq_true,if_false,Bool.not_true,Bool.not_false]
        · simp only [f11,t11,qaf,q0,Int.toNat_natCast,decide_true,g72,e72,g71,e71,g75,e75,g73,e73,g74,t3,qau,z0,y0,y12,g76,e76,q1,q2,bx,Bool.and_self,g36,t1,g78,t2,Option.isSome_some,Option.getD_some,Tr.val_test,Tr.val_fin,if_true,Bool.false_eq_true,if_false,Bool.not_true,Bool.not_false]
        · simp only [f11,t11,qaf,q0,Int.toNat_natCast,decide_true,g72,e72,g71,e71,g75,e75,g73,e73,g74,t3,qau,z0,y0,g76,e76,q1,q2,bx,Bool.and_self,g36,t1,g78,t2,t4,nF t5,Option.isSome_some,Option.getD_some,Tr.val_test,Tr.val_fin,if_true,Bool.false_eq_true,if_false,Bool.not_true,Bool.not_false]
        · simp only [f11,t11,qaf,q0,Int.toNat_natCast,decide_true,g72,e72,g71,e71,g75,e75,g73,e73,g74,t3,qau,z0,y0,g76,e76,q1,q2,bx,Bool.and_self,g36,t1,g78,t2,t4,nF t5,nF (rfl:d = d),dF t6,t7,t8,nT t9,Option.isSome_some,Option.getD_some,Tr.val_test,Tr.val_fin,if_true,Bool.false_eq_true,if_false,Bool.not_true,Bool.not_false]
    · have e73:=qqE h z a b
      have e74:=qqJ h z x
      have q1:(!decide ((vC l).2.1 = 0)) = true:=nT z
      have q2:(!decide ((vC l).2.1 = (vC l).2.1)) = false:=nF rfl
      have q3:(!decide ((vC l).1 = (vC l).1)) = false:=nF rfl
      have q4:decide ((vC l).2.1 = (vC l).2.1) = true:=dT rfl
      simp only [f11,t11,qaf,q0,Int.toNat_natCast,decide_true,g72,e72,g71,e71,g75,e75,g73,e73,g74,e74,qau,q1,q2,q3,q4,bx,y0,Bool.and_self,Option.isSome_some,Option.getD_some,Tr.val_test,Tr.val_fin,if_true,Bool.false_eq_true,if_false,Bool.not_true,Bool.not_false]
  · have q0:(!decide ((l.length:Int) ≤ 10)) = true:=nT (by omega)
    simp only [f11,t11,qaf,q0,Tr.val_test,Tr.val_fin,if_true]
theorem law11 (d:Tys.data as11) (hw:Tys.Wf as11 d):qmq Go.Proofs.Tryz.prog 11 as11 [.bool] d (true,()):=by
  have h:f11 d = some (true, ()):=qqi d.1 d.2.1.1 d.2.1.2.1 d.2.2.1
  have hp:p11.pre d = true:=by
    show Option.isSome (f11 d) = true
    rw [h]; rfl
  have hg:p11.fn d = (true,()):=by
    show (f11 d).getD _ = _
    rw [h]; rfl
  have:=ok11.runs d hp
  rw [hg] at this
  exact this
end Go.Vm.Mo
