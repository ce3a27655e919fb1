import Derived.Test.YtifpmnmpinjcgaaGreatRsFb
import Derived.Test.YtifpmnmpinjcgaaGreatA5
set_option linter.unusedVariables false
set_option linter.unusedSimpArgs false

namespace Go.Vm.Mo
open Go
set_option linter.unusedVariables false
set_option linter.unusedSimpArgs false
theorem dT{p:Prop}[Decidable p](h:p):decide p=true:=decide_eq_true h
theorem dF{p:Prop}[Decidable p](h:¬p):decide p=false:=decide_eq_false h
theorem nT{p:Prop}[Decidable p](h:¬p):(!decide p)=true:=by rw[decide_eq_false h];rfl
theorem nF{p:Prop}[Decidable p](h:p):(!decide p)=false:=by rw[decide_eq_true h];rfl
theorem dA{p q:Prop}[Decidable p][Decidable q](h:p)(k:q):(decide p&&decide q)=true:=by rw[decide_eq_true h,decide_eq_true k];rfl
theorem qjo(bad:Nat→Bool):∀(n i:Nat),first bad n (i+1)=(first (fun k=>bad (k+1)) n i).map (·+1)
 |0,_=>rfl
 |n+1,i=>by
  simp only[first]
  split
  ·rfl
  ·exact qjo bad n (i+1)
def qeu:List Int→Int
 |[]=>0
 |a::l=>if a=0 then qeu l else a
theorem qhT:∀l:List Int,(match first (fun i=>!decide (l.getD i 0=0)) l.length 0 with
  |some k=>l.getD k 0
  |none=>0)=qeu l
 |[]=>rfl
 |a::l=>by
  simp only[List.length,first,qeu]
  by_cases ha:a=0
  ·subst ha
   have e:=qhT l
   have hf:first (fun i=>!decide (((0:Int)::l).getD i 0=0)) l.length (0+1)=(first (fun i=>!decide (l.getD i 0=0)) l.length 0).map (·+1):=by
    rw[qjo];rfl
   simp only[hf,List.getD_cons_zero,decide_true,Bool.not_true,Bool.false_eq_true,if_false,if_true]
   rw[←e]
   cases first (fun i=>!decide (l.getD i 0=0)) l.length 0 with
   |none=>rfl
   |some k=>rfl
  ·simp[ha]
theorem l42(l:List Int)(h:l.length≤1000000000):l42_0 ((l,(l.length:Int),(0:Int),()),())=match first (fun i=>!decide (l.getD i 0=0)) l.length 0 with
  |some k=>some (.inr ((l.getD k 0,()),()))
  |none=>some (.inl ((),())):=by
 refine qfq (fun i=>((l,(l.length:Int),(i:Int),()),())) (fun i=>!decide (l.getD i 0=0)) (fun k=>((l.getD k 0,()),())) (n:=l.length) ?_ ?_ (qa3 (by omega))
 ·intro i hi
  simp only[s42_0,t42_0,Tr.val_test,qap,qa6]
  rw[if_pos (by simp;omega),if_pos (by simp;omega)]
  simp only[Int.toNat_natCast,qbb (show i≤9223372036854775806 by omega)]
  rfl
 ·simp[s42_0,t42_0,qap]
theorem qpB(l:List Int)(h:l.length≤1000000000):f42 (l,())=some (qeu l,()):=by
 simp only[f42,t42,Tr.val_test,r42_0,l42 l h,←qhT l]
 cases first (fun i=>!decide (l.getD i 0=0)) l.length 0 with
 |none=>rfl
 |some k=>rfl
theorem qpx(d:Tys.data as38):f38 d=some (if d.1=true then d.2.1 else(0:Int),()):=by
 simp only[f38,t38,Tr.val_test]
 split<;>rfl
def wi(lo hi x:Int):Bool:=decide (lo≤x)&&decide (x≤hi)
theorem wi_iff{lo hi x:Int}:wi lo hi x=true↔lo≤x∧x≤hi:=by simp[wi]
theorem qra(d:Tys.data as16):f16 d=some (wi d.2.1 d.2.2.1 d.1,()):=by
 simp only[f16,t16,Tr.val_test,Tr.val_fin,qap,decide_eq_true_eq,wi]
 split<;>simp[*]
theorem l43(lo hi:Int)(l:List Int)(h:l.length≤1000000000):l43_0 ((lo,hi,l,(l.length:Int),(0:Int),()),())=match first (fun i=>!wi lo hi (l.getD i 0)) l.length 0 with
  |some _=>some (.inr ((false,()),()))
  |none=>some (.inl ((),())):=by
 refine qfq (fun i=>((lo,hi,l,(l.length:Int),(i:Int),()),())) (fun i=>!wi lo hi (l.getD i 0)) (fun _=>((false,()),())) (n:=l.length) ?_ ?_ (qa3 (by omega))
 ·intro i hi'
  simp only[s43_0,t43_0,Tr.val_test,Tr.val_fin,qap,Int.toNat_natCast,qbb (show i≤9223372036854775806 by omega)]
  rw[if_pos (by simp;omega),if_pos (by simp;omega)]
  by_cases a0:lo≤l.getD i 0
  ·by_cases a1:l.getD i 0≤hi
   ·simp only[wi,a0,a1,decide_true,Bool.and_self,Bool.not_true,if_true,if_false,Bool.false_eq_true]
   ·simp only[wi,a0,a1,decide_true,decide_false,Bool.and_false,Bool.not_false,Bool.not_true,if_true,if_false,Bool.false_eq_true]
  ·simp only[wi,a0,decide_false,Bool.false_and,Bool.not_false,if_true,if_false,Bool.false_eq_true]
 ·simp[s43_0,t43_0,qap]
theorem qn1(lo hi:Int)(l:List Int)(h:l.length≤1000000000):f43 (lo,hi,l,())=some ((first (fun i=>!wi lo hi (l.getD i 0)) l.length 0).isNone,()):=by
 have hl:=l43 lo hi l h
 cases hf:first (fun i=>!wi lo hi (l.getD i 0)) l.length 0 with
 |none=>
  rw[hf]at hl
  simp only[f43,t43,Tr.val_test,Tr.val_fin,hl,qee,Option.isSome_some,Option.isNone_none,if_true,Bool.false_eq_true,if_false]
 |some k=>
  rw[hf]at hl
  simp only[f43,t43,Tr.val_test,Tr.val_fin,hl,qee,r43_0,outR,Option.isSome_some,Option.isNone_some,if_true]
theorem f43_one(lo hi a:Int):f43 (lo,hi,[a],())=some (wi lo hi a,()):=by
 rw[qn1 lo hi _ (by simp)]
 simp only[first,List.length,List.getD_cons_zero]
 by_cases h1:wi lo hi a=true
 ·simp[h1]
 ·simp[h1]
theorem f43_two(lo hi a b:Int):f43 (lo,hi,[a,b],())=some (wi lo hi a&&wi lo hi b,()):=by
 rw[qn1 lo hi _ (by simp)]
 simp only[first,List.length,List.getD_cons_zero,List.getD_cons_succ]
 by_cases h1:wi lo hi a=true
 ·by_cases h2:wi lo hi b=true
  ·simp[h1,h2]
  ·simp[h1,h2]
 ·simp[h1]
theorem qrA(l:List Int)(h:l.length≤1000000):l34_0 ((l,l,(0:Int),()),())=some (.inl ((),())):=by
 refine qey (fun i=>((l,l,(i:Int),()),())) (n:=l.length) ?_ ?_ (qa3 (by omega))
 ·intro i hi
  simp only[s34_0,t34_0,Tr.val_test,Tr.val_fin,Tr.val_stop,qap,qa6,Int.toNat_natCast,qbb (show i≤9223372036854775806 by omega)]
  rw[if_pos (by simp;omega),if_pos (by simp;omega),if_pos (by simp;omega)]
  simp
 ·simp[s34_0,t34_0,qap]
theorem qo0(l:List Int)(h:l.length≤1000000):f34 (l,l,())=some (true,()):=by
 simp only[f34,t34,Tr.val_test,Tr.val_fin,Tr.val_stop,qrA l h,qee,qa6,decide_true,Bool.not_true,Bool.false_eq_true,if_false,Option.isSome_some,if_true]
theorem qrH(l:List Int)(h:l.length≤1000):f8 (l,())=some (l,()):=by
 simp only[f8,t8,Tr.val_test,Tr.val_fin,Tr.val_stop,List.nil_append,Nat.zero_add]
 rw[if_pos (by simp only[Bool.and_eq_true,qcD];omega),if_pos (by rw[qi5])]
theorem wn64{x:Int}(h1:-9223372036854775807≤x)(h2:x≤9223372036854775807):IntKind.wrap .i64 (0-x)=-x:=by
 rw[←qc6,qbf (by omega) (by omega)]
 omega
def gL(l:List Int):Nat:=l.foldl (fun g x=>Nat.gcd g x.natAbs) 0
theorem qpA:∀(l:List Int)(g:Nat),l.foldl (fun g x=>Nat.gcd g x.natAbs) g ∣ g∧∀x∈l,l.foldl (fun g x=>Nat.gcd g x.natAbs) g ∣ x.natAbs
 |[],g=>⟨Nat.dvd_refl _,fun x h=>by cases h⟩
 |y::l,g=>by
  obtain⟨h1,h2⟩:=qpA l (Nat.gcd g y.natAbs)
  refine⟨Nat.dvd_trans h1 (Nat.gcd_dvd_left _ _),fun x hx=>?_⟩
  rcases List.mem_cons.1 hx with rfl|hx
  ·exact Nat.dvd_trans h1 (Nat.gcd_dvd_right _ _)
  ·exact h2 x hx
theorem qos{l:List Int}{x:Int}(h:x∈l):gL l ∣ x.natAbs:=(qpA l 0).2 x h
theorem qpK{d:Nat}:∀(l:List Int)(g:Nat),d ∣ g→(∀x∈l,d ∣ x.natAbs)→d ∣ l.foldl (fun g x=>Nat.gcd g x.natAbs) g
 |[],g,h,_=>h
 |y::l,g,h,k=>qpK l _ (Nat.dvd_gcd h (k y (List.mem_cons_self ..))) fun x hx=>k x (List.mem_cons_of_mem _ hx)
theorem qqK{d:Nat}{l:List Int}(h:∀x∈l,d ∣ x.natAbs):d ∣ gL l:=qpK l 0 (Nat.dvd_zero _) h
theorem qnO(x:Int)(l:List Int):gL (x::l)=l.foldl (fun g x=>Nat.gcd g x.natAbs) x.natAbs:=by
 unfold gL
 rw[List.foldl_cons,Nat.gcd_zero_left]
theorem qjv{x:Int}{l:List Int}(h:x≠0):0<gL (x::l):=by
 rcases Nat.eq_zero_or_pos (gL (x::l))with e|e
 ·have:=qos (l:=x::l) (List.mem_cons_self ..)
  rw[e]at this
  have:=Nat.eq_zero_of_zero_dvd this
  omega
 ·exact e
def sd(l:List Int):Int:=if l.getD 0 0<0 then -(gL l:Int)else(gL l:Int)
def rd(l:List Int):List Int:=l.map fun x=>x.tdiv (sd l)
theorem qpN(l:List Int):(sd l).natAbs=gL l:=by unfold sd;split<;>omega
theorem qhy(l:List Int):(rd l).length=l.length:=List.length_map _
theorem qrp{l:List Int}{x:Int}(h:x∈l):sd l ∣ x:=by
 have:=qos h
 rw[←qpN]at this
 exact Int.natAbs_dvd_natAbs.1 this
theorem qpH{l:List Int}{x:Int}(h:x∈l):x.tdiv (sd l)*sd l=x:=Int.tdiv_mul_cancel (qrp h)
theorem qc0{l:List Int}(x:Int):(x.tdiv (sd l)).natAbs≤x.natAbs:=by
 rw[Int.natAbs_tdiv];exact Nat.div_le_self _ _
theorem qfw{x:Int}{l:List Int}(h:x≠0):0<x.tdiv (sd (x::l)):=by
 have hm:=qpH (l:=x::l) (List.mem_cons_self ..)
 have hp:=qjv (l:=l) h
 have hs:(sd (x::l)<0∧x<0)∨(0<sd (x::l)∧0<x):=by
  by_cases k:x<0
  ·left
   have:sd (x::l)=-(gL (x::l):Int):=if_pos k
   omega
  ·right
   have:sd (x::l)=(gL (x::l):Int):=if_neg k
   omega
 generalize x.tdiv (sd (x::l))=q at *
 rcases Int.lt_or_le 0 q with k|k
 ·exact k
 ·exfalso
  rcases hs with⟨s1,s2⟩|⟨s1,s2⟩
  ·have:=Int.mul_nonneg_of_nonpos_of_nonpos k (Int.le_of_lt s1)
   omega
  ·have:=Int.mul_nonpos_of_nonpos_of_nonneg k (Int.le_of_lt s1)
   omega
def nv(r:List Int)(j:Nat):Int:=r.getD 0 0*r.getD j 0-r.getD (r.length-1) 0*r.getD (r.length-1-j) 0
def nxt(r:List Int):List Int:=(List.range (r.length-1)).map (nv r)
def lst(r:List Int):Bool:=decide (r.getD 0 0≤((r.getD (r.length-1) 0).natAbs:Int))
def tbl:Nat→List Int→List (List Int)
 |0,r=>[r]
 |n+1,r=>if lst r=true then[r]else r::tbl n (rd (nxt r))
theorem qqO{n:Nat}(h:n≤9223372036854775808):n<rounds:=by unfold rounds;omega
theorem qcy{n:Int}(h1:-9223372036854775808≤n)(h2:n≤9223372036854775807):IntKind.wrap .i64 n=n:=by rw[←qc6,qbf h1 h2]
theorem qfx(x:Int)(h:x.natAbs≤9223372036854775807):f15 (x,())=some ((x.natAbs:Int),()):=by
 simp only[f15,t15,Tr.val_fin]
 rw[qcy (by omega) (by omega)]
 have e:(if x<0-x then 0-x else x)=(x.natAbs:Int):=by split<;>omega
 rw[e]
theorem qcP{A:Type}(l:List A)(d:A)(i:Nat)(h:i<l.length):l.getD i d=l[i]:=by
 rw[List.getD_eq_getElem?_getD,List.getElem?_eq_getElem h];rfl
theorem qlN{A B:Type}(f:A→B)(l:List A)(d:A)(i:Nat)(h:i<l.length):(l.take i).map f++[f (l.getD i d)]=(l.take (i+1)).map f:=by
 have e:l.take (i+1)=l.take i++[l.getD i d]:=by
  rw[List.take_add_one,List.getElem?_eq_getElem h,qcP l d i h];rfl
 rw[e,List.map_append];rfl
theorem qjA{A B:Type}(f:B→A→B)(b:B)(l:List A)(d:A)(i:Nat)(h:i<l.length):(l.take (i+1)).foldl f b=f ((l.take i).foldl f b) (l.getD i d):=by
 have e:l.take (i+1)=l.take i++[l.getD i d]:=by
  rw[List.take_add_one,List.getElem?_eq_getElem h,qcP l d i h];rfl
 rw[e,List.foldl_append];rfl
def Bd(n:Nat)(l:List Int):Prop:=∀x∈l,x.natAbs≤n
theorem Bd.at{n:Nat}{l:List Int}(h:Bd n l){i:Nat}(hi:i<l.length):(l.getD i 0).natAbs≤n:=by
 rw[qcP l 0 i hi];exact h _ (List.getElem_mem hi)
theorem qpq:∀(l:List Int)(a:Int),(l.foldl euc a).natAbs=l.foldl (fun g x=>Nat.gcd g x.natAbs) a.natAbs
 |[],a=>rfl
 |x::l,a=>by rw[List.foldl_cons,List.foldl_cons,qpq l (euc a x),qnQ]
theorem l63q(a b:Int)(l:List Int)(n i:Int)(hb:b.natAbs≤9223372036854775808):l63_2 ((a,b,l,n,i,()),())=some (.inl ((euc a b,l,n,i,()),())):=by
 refine qou (fun a b=>((a,b,l,n,i,()),())) (fun a=>((a,l,n,i,()),())) ?_ ?_ rounds a b (qqO hb)
 ·intro a b hb
  have q:(b==(0:Int))=false:=beq_eq_false_iff_ne.2 hb
  simp only[s63_2,t63_2,qa6,nT hb,q,Tr.val_test,Tr.val_fin,if_true,Bool.false_eq_true,if_false]
 ·intro a
  have q:(!decide ((0:Int)=0))=false:=rfl
  simp only[s63_2,t63_2,qa6,decide_true,Bool.not_true,Tr.val_test,Tr.val_fin,Bool.false_eq_true,if_false]
theorem l63(a:Int)(l:List Int)(h:l.length≤1000)(hb:Bd 9000000000000000000 l):l63_0 ((a,l,(l.length:Int),(0:Int),()),())=some (.inl ((l.foldl euc a,()),())):=by
 have hk:s63_0 (((l.take l.length).foldl euc a,l,(l.length:Int),(l.length:Int),()),())=some (.brk ((l.foldl euc a,()),())):=by
  have q1:(!decide ((l.length:Int)≤(l.length:Int)))=false:=nF (by omega)
  simp only[s63_0,t63_0,qap,q1,Tr.val_test,Tr.val_fin,Bool.false_eq_true,if_false,List.take_length]
 refine qey (fun i=>(((l.take i).foldl euc a,l,(l.length:Int),(i:Int),()),())) (n:=l.length) ?_ hk (qa3 (by omega))
 intro i hi
 have q1:(!decide ((l.length:Int)≤(i:Int)))=true:=nT (by omega)
 have b1:(decide ((0:Int)≤(i:Int))&&decide ((i:Int)<(l.length:Int)))=true:=dA (by omega) (by omega)
 have e:=l63q ((l.take i).foldl euc a) (l.getD i 0) l (l.length:Int) (i:Int) (by have:=hb.at hi;omega)
 have e2:=qjA euc a l 0 i hi
 simp only[s63_0,t63_0,q1,b1,qap,Tr.val_test,Tr.val_fin,if_true,Int.toNat_natCast,e,qbv,b63_2,outB,qbb (show i≤9223372036854775806 by omega)]
 rw[←e2]
theorem qqv{x:Int}{l:List Int}(h:x≠0):gL (x::l)≤x.natAbs:=Nat.le_of_dvd (by omega) (qos (List.mem_cons_self ..))
theorem qrd(a:Int)(l:List Int)(h:l.length≤1000)(h0:a≠0)(ha:a.natAbs≤9000000000000000000)(hb:Bd 9000000000000000000 l):f63 (a,l,())=some ((gL (a::l):Int),()):=by
 have e:=l63 a l h hb
 have e1:=qpq l a
 rw[←qnO]at e1
 have e2:=qqv (l:=l) h0
 simp only[f63,t63,e,qbv,b63_0,outB,Tr.val_test,Tr.val_fin,if_true]
 rw[qcy (by omega) (by omega)]
 have e3:(if l.foldl euc a<0-l.foldl euc a then 0-l.foldl euc a else l.foldl euc a)=(gL (a::l):Int):=by split<;>omega
 rw[e3]
def td(d x:Int):Int:=x.tdiv d
theorem l54(d:Int)(l:List Int)(h:l.length≤1000)(h0:d≠0)(hb:Bd 9000000000000000000 l):l54_0 ((d,[],l,(l.length:Int),(0:Int),()),())=some (.inl ((l.map (td d),()),())):=by
 have hk:s54_0 ((d,(l.take l.length).map (td d),l,(l.length:Int),(l.length:Int),()),())=some (.brk ((l.map (td d),()),())):=by
  have q1:(!decide ((l.length:Int)≤(l.length:Int)))=false:=nF (by omega)
  simp only[s54_0,t54_0,qap,q1,Tr.val_test,Tr.val_fin,Bool.false_eq_true,if_false,List.take_length]
 refine qey (fun i=>((d,(l.take i).map (td d),l,(l.length:Int),(i:Int),()),())) (n:=l.length) ?_ hk (qa3 (by omega))
 intro i hi
 have q1:(!decide ((l.length:Int)≤(i:Int)))=true:=nT (by omega)
 have b1:(decide ((0:Int)≤(i:Int))&&decide ((i:Int)<(l.length:Int)))=true:=dA (by omega) (by omega)
 have hl:((l.take i).map (td d)).length=i:=by rw[List.length_map,List.length_take];omega
 have b2:(Nat.ble ((2*(i+1)+192)*8) 281474976710656&&Nat.ble (i+1) 281474976710656)=true:=by simp only[Bool.and_eq_true,qcD];omega
 have z:(d==(0:Int))=false:=beq_eq_false_iff_ne.2 h0
 have e:=qlN (td d) l 0 i hi
 have ab:((l.getD i 0).tdiv d).natAbs≤(l.getD i 0).natAbs:=by rw[Int.natAbs_tdiv];exact Nat.div_le_self _ _
 have bd:=hb.at hi
 have w:Go.IntKind.wrap Go.IntKind.i64 ((l.getD i 0).tdiv d)=(l.getD i 0).tdiv d:=qcy (by omega) (by omega)
 simp only[s54_0,t54_0,q1,b1,b2,hl,z,w,qap,Tr.val_test,Tr.val_fin,if_true,Bool.false_eq_true,if_false,Int.toNat_natCast,qbb (show i≤9223372036854775806 by omega)]
 rw[←e];rfl
theorem qpF(a:Int)(l:List Int)(h:l.length≤999)(h0:a≠0)(hb:Bd 9000000000000000000 (a::l)):f54 (a::l,())=some (rd (a::l),()):=by
 have ha:=hb a (List.mem_cons_self ..)
 have hl:Bd 9000000000000000000 l:=fun x hx=>hb x (List.mem_cons_of_mem _ hx)
 have e:=qrd a l (by omega) h0 ha hl
 have g0:=qjv (l:=l) h0
 have g1:=qqv (l:=l) h0
 have len:(a::l).length=l.length+1:=rfl
 have q1:(true&&decide ((0:Int)<((a::l).length:Int)))=true:=by rw[dT (show(0:Int)<((a::l).length:Int)by omega)];rfl
 have q2:(true&&decide ((1:Int)≤((a::l).length:Int)))=true:=by rw[dT (show(1:Int)≤((a::l).length:Int)by omega)];rfl
 have hd:(a::l).getD 0 0=a:=rfl
 have hr:(a::l).drop 1=l:=rfl
 simp only[f54,t54,q1,q2,hd,hr,g63,e,qap,Option.isSome_some,Option.getD_some,Tr.val_test,Tr.val_fin,if_true]
 by_cases k:a<0
 ·have w:Go.IntKind.wrap Go.IntKind.i64 (0-(gL (a::l):Int))=-(gL (a::l):Int):=by rw[qcy (by omega) (by omega)];omega
  have e1:=l54 (-(gL (a::l):Int)) (a::l) (by omega) (by omega) hb
  have s:sd (a::l)=-(gL (a::l):Int):=if_pos k
  rw[nT (show ¬0≤a by omega)]
  simp only[w,e1,qbv,b54_0,outB,if_true,rd,s];rfl
 ·have e1:=l54 (gL (a::l):Int) (a::l) (by omega) (by omega) hb
  have s:sd (a::l)=(gL (a::l):Int):=if_neg k
  rw[nF (show 0≤a by omega)]
  simp only[e1,qbv,b54_0,outB,if_true,Bool.false_eq_true,if_false,rd,s];rfl
theorem qqS(l:List Int)(h1:1≤l.length)(h:l.length≤1000)(hb:Bd 9000000000000000000 l):f55 (l,())=some (lst l,()):=by
 have w:wrap64 ((l.length:Int)-1)=((l.length-1:Nat):Int):=by rw[qbf (by omega) (by omega)];omega
 have q:(decide ((0:Int)≤((l.length-1:Nat):Int))&&decide (((l.length-1:Nat):Int)<(l.length:Int)))=true:=dA (by omega) (by omega)
 have q1:(true&&decide ((0:Int)<(l.length:Int)))=true:=by rw[dT (show(0:Int)<(l.length:Int)by omega)];rfl
 have bd:=hb.at (i:=l.length-1) (by omega)
 have w2:Go.IntKind.wrap Go.IntKind.i64 (0-l.getD (l.length-1) 0)=0-l.getD (l.length-1) 0:=qcy (by omega) (by omega)
 have e3:(if l.getD (l.length-1) 0<0-l.getD (l.length-1) 0 then 0-l.getD (l.length-1) 0 else l.getD (l.length-1) 0)=((l.getD (l.length-1) 0).natAbs:Int):=by split<;>omega
 simp only[f55,t55,w,q,q1,Int.toNat_natCast,w2,e3,qap,Tr.val_test,Tr.val_fin,if_true,lst]
end Go.Vm.Mo

namespace Go.Vm.Mo
open Go
set_option linter.unusedVariables false
set_option linter.unusedSimpArgs false
theorem qp5(a b:Int):f56 ([a,b],())=(Tr.test (Option.isSome (f54 ([wrap64 (wrap64 (a*a)-wrap64 (b*b))],()))) (Tr.fin ((g54 ([wrap64 (wrap64 (a*a)-wrap64 (b*b))],())).1,())) Tr.stop:Tr (Tys.data rs56)).val:=by kernel_rfl
theorem qnV(a b c:Int):f56 ([a,b,c],())=(Tr.test (Option.isSome (f54 ([wrap64 (wrap64 (a*a)-wrap64 (c*c)),wrap64 (wrap64 (a*b)-wrap64 (c*b))],()))) (Tr.fin ((g54 ([wrap64 (wrap64 (a*a)-wrap64 (c*c)),wrap64 (wrap64 (a*b)-wrap64 (c*b))],())).1,())) Tr.stop:Tr (Tys.data rs56)).val:=by kernel_rfl
theorem qpg(a b c d:Int):f56 ([a,b,c,d],())=(Tr.test (Option.isSome (f54 ([wrap64 (wrap64 (a*a)-wrap64 (d*d)),wrap64 (wrap64 (a*b)-wrap64 (d*c)),wrap64 (wrap64 (a*c)-wrap64 (d*b))],()))) (Tr.fin ((g54 ([wrap64 (wrap64 (a*a)-wrap64 (d*d)),wrap64 (wrap64 (a*b)-wrap64 (d*c)),wrap64 (wrap64 (a*c)-wrap64 (d*b))],())).1,())) Tr.stop:Tr (Tys.data rs56)).val:=by kernel_rfl
theorem qro(a b c:Int)(T:List (List Int)):l12_2 (([a,b,c],T,(2:Int),[],(0:Int),()),())=some (.inl ((T,[wrap64 (wrap64 (a*a)-wrap64 (c*c)),wrap64 (wrap64 (a*b)-wrap64 (c*b))],()),())):=by kernel_rfl
theorem qrx(a b c d:Int)(T:List (List Int)):l12_2 (([a,b,c,d],T,(3:Int),[],(0:Int),()),())=some (.inl ((T,[wrap64 (wrap64 (a*a)-wrap64 (d*d)),wrap64 (wrap64 (a*b)-wrap64 (d*c)),wrap64 (wrap64 (a*c)-wrap64 (d*b))],()),())):=by kernel_rfl
end Go.Vm.Mo

namespace Go.Vm.Mo
open Go
set_option linter.unusedVariables false
set_option linter.unusedSimpArgs false
theorem qrn(B:Nat):∀(l:List Int)(g:Nat),g≤B→Bd B l→l.foldl (fun g x=>Nat.gcd g x.natAbs) g≤B
 |[],g,h,_=>h
 |x::l,g,h,k=>by
  rw[List.foldl_cons]
  refine qrn B l _ ?_ (fun y hy=>k y (List.mem_cons_of_mem _ hy))
  have hx:=k x (List.mem_cons_self ..)
  rcases Nat.eq_zero_or_pos g with e|e
  ·subst e;rw[Nat.gcd_zero_left];exact hx
  ·exact Nat.le_trans (Nat.le_of_dvd e (Nat.gcd_dvd_left _ _)) h
theorem l57q(a b:Int)(hb:b.natAbs≤9223372036854775808):l57_0 ((a,b,()),())=some (.inl ((euc a b,()),())):=by
 refine qou (fun a b=>((a,b,()),())) (fun a=>((a,()),())) ?_ ?_ rounds a b (qqO hb)
 ·intro a b hb
  have q:(b==(0:Int))=false:=beq_eq_false_iff_ne.2 hb
  simp only[s57_0,t57_0,qa6,nT hb,q,Tr.val_test,Tr.val_fin,if_true,Bool.false_eq_true,if_false]
 ·intro a
  simp only[s57_0,t57_0,qa6,decide_true,Bool.not_true,Tr.val_test,Tr.val_fin,Bool.false_eq_true,if_false]
theorem qqQ(a b:Int)(ha:a.natAbs≤9000000000000000000)(hb:b.natAbs≤9000000000000000000):f57 (a,b,())=some ((Nat.gcd a.natAbs b.natAbs:Int),()):=by
 have e:=l57q a b (by omega)
 have e1:=qnQ a b
 have g1:Nat.gcd a.natAbs b.natAbs≤9000000000000000000:=by
  rcases Nat.eq_zero_or_pos b.natAbs with q|q
  ·rw[q,Nat.gcd_zero_right];exact ha
  ·exact Nat.le_trans (Nat.le_of_dvd q (Nat.gcd_dvd_right _ _)) hb
 have e2:=qfx (euc a b) (by omega)
 rw[e1]at e2
 simp only[f57,t57,e,qbv,b57_0,outB,g15,e2,Option.isSome_some,Option.getD_some,Tr.val_test,Tr.val_fin,if_true]
def gT(l:List Int)(i:Nat):Int:=((l.take i).foldl (fun g x=>Nat.gcd g x.natAbs) 0:Nat)
theorem qp4(l:List Int)(i:Nat)(h:i<l.length):gT l (i+1)=(Nat.gcd (gT l i).natAbs (l.getD i 0).natAbs:Nat):=by
 unfold gT
 rw[qjA _ _ l 0 i h,Int.natAbs_natCast]
theorem qrD{l:List Int}(hb:Bd 9000000000000000000 l)(i:Nat):(gT l i).natAbs≤9000000000000000000:=by
 unfold gT
 rw[Int.natAbs_natCast]
 exact qrn _ _ _ (Nat.zero_le _) fun x hx=>hb x (List.mem_of_mem_take hx)
theorem l35(l:List Int)(h:l.length≤1000)(hb:Bd 9000000000000000000 l):l35_0 ((l,(0:Int),(0:Int),()),())=some (.inl ((l,(gL l:Int),()),())):=by
 have hk:s35_0 ((l,gT l l.length,(l.length:Int),()),())=some (.brk ((l,(gL l:Int),()),())):=by
  have q1:(!decide ((l.length:Int)≤(l.length:Int)))=false:=nF (by omega)
  have e:gT l l.length=(gL l:Int):=by unfold gT gL;rw[List.take_length]
  simp only[s35_0,t35_0,qap,q1,e,Tr.val_test,Tr.val_fin,Bool.false_eq_true,if_false]
 refine qey (fun i=>((l,gT l i,(i:Int),()),())) (n:=l.length) ?_ hk (qa3 (by omega))
 intro i hi
 have q1:(!decide ((l.length:Int)≤(i:Int)))=true:=nT (by omega)
 have b1:(decide ((0:Int)≤(i:Int))&&decide ((i:Int)<(l.length:Int)))=true:=dA (by omega) (by omega)
 have e:=qqQ (gT l i) (l.getD i 0) (qrD hb i) (hb.at hi)
 have e2:=qp4 l i hi
 simp only[s35_0,t35_0,q1,b1,qap,Tr.val_test,Tr.val_fin,if_true,Int.toNat_natCast,g57,e,Option.isSome_some,Option.getD_some,qbb (show i≤9223372036854775806 by omega)]
 rw[←e2]
theorem l352(d:Int)(l:List Int)(h:l.length≤1000)(h0:d≠0)(hb:Bd 9000000000000000000 l):l35_2 ((l,d,[],(0:Int),()),())=some (.inl ((l.map (td d),()),())):=by
 have hk:s35_2 ((l,d,(l.take l.length).map (td d),(l.length:Int),()),())=some (.brk ((l.map (td d),()),())):=by
  have q1:(!decide ((l.length:Int)≤(l.length:Int)))=false:=nF (by omega)
  simp only[s35_2,t35_2,qap,q1,Tr.val_test,Tr.val_fin,Bool.false_eq_true,if_false,List.take_length]
 refine qey (fun i=>((l,d,(l.take i).map (td d),(i:Int),()),())) (n:=l.length) ?_ hk (qa3 (by omega))
 intro i hi
 have q1:(!decide ((l.length:Int)≤(i:Int)))=true:=nT (by omega)
 have b1:(decide ((0:Int)≤(i:Int))&&decide ((i:Int)<(l.length:Int)))=true:=dA (by omega) (by omega)
 have hl:((l.take i).map (td d)).length=i:=by rw[List.length_map,List.length_take];omega
 have b2:(Nat.ble ((2*(i+1)+192)*8) 281474976710656&&Nat.ble (i+1) 281474976710656)=true:=by simp only[Bool.and_eq_true,qcD];omega
 have z:(d==(0:Int))=false:=beq_eq_false_iff_ne.2 h0
 have e:=qlN (td d) l 0 i hi
 have ab:((l.getD i 0).tdiv d).natAbs≤(l.getD i 0).natAbs:=by rw[Int.natAbs_tdiv];exact Nat.div_le_self _ _
 have bd:=hb.at hi
 have w:Go.IntKind.wrap Go.IntKind.i64 ((l.getD i 0).tdiv d)=(l.getD i 0).tdiv d:=qcy (by omega) (by omega)
 simp only[s35_2,t35_2,q1,b1,b2,hl,z,w,qap,Tr.val_test,Tr.val_fin,if_true,Bool.false_eq_true,if_false,Int.toNat_natCast,qbb (show i≤9223372036854775806 by omega)]
 rw[←e];rfl
theorem qpJ(a:Int)(l:List Int)(h:l.length≤999)(h0:a≠0)(hb:Bd 9000000000000000000 (a::l)):f35 (a::l,())=some (rd (a::l),()):=by
 have ha:=hb a (List.mem_cons_self ..)
 have e:=l35 (a::l) (by show l.length+1≤1000;omega) hb
 have g0:=qjv (l:=l) h0
 have g1:=qqv (l:=l) h0
 have len:(a::l).length=l.length+1:=rfl
 have q1:(true&&decide ((0:Int)<((a::l).length:Int)))=true:=by rw[dT (show(0:Int)<((a::l).length:Int)by omega)];rfl
 have hd:(a::l).getD 0 0=a:=rfl
 simp only[f35,t35,e,qbv,b35_0,outB,q1,hd,qap,Option.isSome_some,Option.getD_some,Tr.val_test,Tr.val_fin,if_true]
 by_cases k:a<0
 ·have w:Go.IntKind.wrap Go.IntKind.i64 (0-(gL (a::l):Int))=-(gL (a::l):Int):=by rw[qcy (by omega) (by omega)];omega
  have e1:=l352 (-(gL (a::l):Int)) (a::l) (by omega) (by omega) hb
  have s:sd (a::l)=-(gL (a::l):Int):=if_pos k
  rw[nT (show ¬0≤a by omega)]
  simp only[w,e1,qbv,b35_2,outB,if_true,rd,s];rfl
 ·have e1:=l352 (gL (a::l):Int) (a::l) (by omega) (by omega) hb
  have s:sd (a::l)=(gL (a::l):Int):=if_neg k
  rw[nF (show 0≤a by omega)]
  simp only[e1,qbv,b35_2,outB,if_true,Bool.false_eq_true,if_false,rd,s];rfl
def Rw:List Int→Prop
 |[a]=>0<a∧a.natAbs≤9000000000000000000
 |[a,b]=>0<a∧a.natAbs≤4000000∧b.natAbs≤4000000
 |[a,b,c]=>0<a∧a.natAbs≤2000000∧b.natAbs≤2000000∧c.natAbs≤2000000
 |[a,b,c,d]=>0<a∧a.natAbs≤1000∧b.natAbs≤1000∧c.natAbs≤1000∧d.natAbs≤1000
 |_=>False
theorem qb0{a b:Int}{m n:Nat}(h:a.natAbs≤m)(k:b.natAbs≤n):(a*b).natAbs≤m*n:=by
 rw[Int.natAbs_mul];exact Nat.mul_le_mul h k
theorem wsub{a b:Int}{m:Nat}(h:a.natAbs≤m)(k:b.natAbs≤m)(hm:m≤2000000000000000000):wrap64 (wrap64 a-wrap64 b)=a-b:=by
 rw[qbf (n:=a) (by omega) (by omega),qbf (n:=b) (by omega) (by omega)]
 exact qbf (by omega) (by omega)
theorem qiD{a c:Int}(h:(c.natAbs:Int)<a):0<a*a-c*c:=by
 have e:a*a-c*c=(a-c)*(a+c):=by grind
 rw[e]
 exact Int.mul_pos (by omega) (by omega)
theorem qgJ{a:Int}{n:Nat}(h:a.natAbs≤n):Bd n [a]:=fun x hx=>by
 rw[List.mem_singleton]at hx;subst hx;exact h
theorem qdk{a:Int}{n:Nat}{l:List Int}(h:a.natAbs≤n)(k:Bd n l):Bd n (a::l):=fun x hx=>by
 rcases List.mem_cons.1 hx with rfl|hx
 ·exact h
 ·exact k x hx
theorem qrr{x:Int}(h:0<x):rd [x]=[1]:=by
 have g:gL [x]=x.natAbs:=by rw[qnO];rfl
 have s:sd [x]=x:=by
  have:sd [x]=(gL [x]:Int):=if_neg (show ¬([x]:List Int).getD 0 0<0 from fun q=>by have q:x<0:=q;omega)
  omega
 show[x.tdiv (sd [x])]=[1]
 rw[s,Int.tdiv_self (by omega)]
theorem qkO{l:List Int}{x:Int}(h:x∈l):(x.tdiv (sd l)).natAbs*gL l=x.natAbs:=by
 have:=qpH h
 have e:=congrArg Int.natAbs this
 rw[Int.natAbs_mul,qpN]at e
 exact e
theorem qoU{a b c:Int}(h:(c.natAbs:Int)<a):((a*a-c*c).tdiv (sd [a*a-c*c,a*b-c*b])).natAbs≤(a+c).natAbs∧((a*b-c*b).tdiv (sd [a*a-c*c,a*b-c*b])).natAbs≤b.natAbs:=by
 have e1:a*a-c*c=(a-c)*(a+c):=by grind
 have e2:a*b-c*b=(a-c)*b:=by grind
 have hp:0<(a-c).natAbs:=by omega
 have hd:(a-c).natAbs ∣ gL [a*a-c*c,a*b-c*b]:=qqK fun x hx=>by
  simp only[List.mem_cons,List.not_mem_nil,or_false]at hx
  rcases hx with rfl|rfl
  ·rw[e1,Int.natAbs_mul];exact Nat.dvd_mul_right _ _
  ·rw[e2,Int.natAbs_mul];exact Nat.dvd_mul_right _ _
 have s1:=qkO (l:=[a*a-c*c,a*b-c*b]) (x:=a*a-c*c) (by simp)
 have s2:=qkO (l:=[a*a-c*c,a*b-c*b]) (x:=a*b-c*b) (by simp)
 have g0:=qjv (l:=[a*b-c*b]) (show a*a-c*c≠0 by have:=qiD h;omega)
 have hge:=Nat.le_of_dvd g0 hd
 generalize gL [a*a-c*c,a*b-c*b]=g at *
 generalize(a*a-c*c).tdiv (sd [a*a-c*c,a*b-c*b])=x at *
 generalize(a*b-c*b).tdiv (sd [a*a-c*c,a*b-c*b])=y at *
 rw[e1,Int.natAbs_mul]at s1
 rw[e2,Int.natAbs_mul]at s2
 constructor
 ·have:=Nat.mul_le_mul_left x.natAbs hge
  refine Nat.le_of_mul_le_mul_left (?_:(a-c).natAbs*x.natAbs≤(a-c).natAbs*(a+c).natAbs) hp
  rw[Nat.mul_comm (a-c).natAbs x.natAbs];omega
 ·have:=Nat.mul_le_mul_left y.natAbs hge
  refine Nat.le_of_mul_le_mul_left (?_:(a-c).natAbs*y.natAbs≤(a-c).natAbs*b.natAbs) hp
  rw[Nat.mul_comm (a-c).natAbs y.natAbs];omega
end Go.Vm.Mo

namespace Go.Vm.Mo
open Go
set_option linter.unusedVariables false
set_option linter.unusedSimpArgs false
theorem rd1(x:Int):rd [x]=[x.tdiv (sd [x])]:=rfl
theorem rd2(x y:Int):rd [x,y]=[x.tdiv (sd [x,y]),y.tdiv (sd [x,y])]:=rfl
theorem rd3(x y z:Int):rd [x,y,z]=[x.tdiv (sd [x,y,z]),y.tdiv (sd [x,y,z]),z.tdiv (sd [x,y,z])]:=rfl
theorem rd4(x y z u:Int):rd [x,y,z,u]=[x.tdiv (sd [x,y,z,u]),y.tdiv (sd [x,y,z,u]),z.tdiv (sd [x,y,z,u]),u.tdiv (sd [x,y,z,u])]:=rfl
theorem qqh(a b:Int):lst [a,b]=decide (a≤(b.natAbs:Int)):=rfl
theorem qnL(a b c:Int):lst [a,b,c]=decide (a≤(c.natAbs:Int)):=rfl
theorem qpi(a b c d:Int):lst [a,b,c,d]=decide (a≤(d.natAbs:Int)):=rfl
theorem qk2(a b:Int):nxt [a,b]=[a*a-b*b]:=rfl
theorem qeS(a b c:Int):nxt [a,b,c]=[a*a-c*c,a*b-c*b]:=rfl
theorem qgg(a b c d:Int):nxt [a,b,c,d]=[a*a-d*d,a*b-d*c,a*c-d*b]:=rfl
structure Stp(r:List Int):Prop where
 pos:∃x l,nxt r=x::l∧0<x∧l.length≤999∧Bd 9000000000000000000 (x::l)
 row:Rw (rd (nxt r))
 len:(rd (nxt r)).length+1=r.length
theorem qiA{a b:Int}(h:Rw [a,b])(hl:lst [a,b]=false):Stp [a,b]∧rd (nxt [a,b])=[1]∧wrap64 (wrap64 (a*a)-wrap64 (b*b))=a*a-b*b:=by
 obtain⟨h0,h1,h2⟩:=h
 rw[qqh]at hl
 have hl:¬a≤(b.natAbs:Int):=of_decide_eq_false hl
 have p:=qiD (a:=a) (c:=b) (by omega)
 have m1:=qb0 h1 h1
 have m2:=qb0 h2 h2
 have e:rd (nxt [a,b])=[1]:=by rw[qk2];exact qrr p
 refine⟨⟨⟨_,[],qk2 a b,p,by decide,qgJ (by omega)⟩,?_,by rw[e];rfl⟩,e,wsub m1 m2 (by omega)⟩
 rw[e];exact⟨by decide,by decide⟩
theorem qfl{a b c:Int}(h:Rw [a,b,c])(hl:lst [a,b,c]=false):Stp [a,b,c]∧wrap64 (wrap64 (a*a)-wrap64 (c*c))=a*a-c*c∧wrap64 (wrap64 (a*b)-wrap64 (c*b))=a*b-c*b:=by
 obtain⟨h0,h1,h2,h3⟩:=h
 rw[qnL]at hl
 have hl:¬a≤(c.natAbs:Int):=of_decide_eq_false hl
 have p:=qiD (a:=a) (c:=c) (by omega)
 have m1:=qb0 h1 h1
 have m2:=qb0 h3 h3
 have m3:=qb0 h1 h2
 have m4:=qb0 h3 h2
 have r3:=qoU (a:=a) (b:=b) (c:=c) (by omega)
 have hh:=qfw (x:=a*a-c*c) (l:=[a*b-c*b]) (by omega)
 refine⟨⟨⟨_,[_],qeS a b c,p,by show 1≤999;omega,qdk (by omega) (qgJ (by omega))⟩,?_,rfl⟩,wsub m1 m2 (by omega),wsub m3 m4 (by omega)⟩
 rw[qeS,rd2]
 exact⟨hh,by omega,by omega⟩
theorem qgI{a b c d:Int}(h:Rw [a,b,c,d])(hl:lst [a,b,c,d]=false):Stp [a,b,c,d]∧wrap64 (wrap64 (a*a)-wrap64 (d*d))=a*a-d*d∧wrap64 (wrap64 (a*b)-wrap64 (d*c))=a*b-d*c∧wrap64 (wrap64 (a*c)-wrap64 (d*b))=a*c-d*b:=by
 obtain⟨h0,h1,h2,h3,h4⟩:=h
 rw[qpi]at hl
 have hl:¬a≤(d.natAbs:Int):=of_decide_eq_false hl
 have p:=qiD (a:=a) (c:=d) (by omega)
 have m1:=qb0 h1 h1
 have m2:=qb0 h4 h4
 have m3:=qb0 h1 h2
 have m4:=qb0 h4 h3
 have m5:=qb0 h1 h3
 have m6:=qb0 h4 h2
 have hh:=qfw (x:=a*a-d*d) (l:=[a*b-d*c,a*c-d*b]) (by omega)
 have q1:=qc0 (l:=[a*a-d*d,a*b-d*c,a*c-d*b]) (a*a-d*d)
 have q2:=qc0 (l:=[a*a-d*d,a*b-d*c,a*c-d*b]) (a*b-d*c)
 have q3:=qc0 (l:=[a*a-d*d,a*b-d*c,a*c-d*b]) (a*c-d*b)
 refine⟨⟨⟨_,[_,_],qgg a b c d,p,by show 2≤999;omega,qdk (by omega) (qdk (by omega) (qgJ (by omega)))⟩,?_,rfl⟩,wsub m1 m2 (by omega),wsub m3 m4 (by omega),wsub m5 m6 (by omega)⟩
 rw[qgg,rd3]
 exact⟨hh,by omega,by omega,by omega⟩
theorem Rw.cases{r:List Int}(h:Rw r):(∃a,r=[a])∨(∃a b,r=[a,b])∨(∃a b c,r=[a,b,c])∨(∃a b c d,r=[a,b,c,d]):=by
 match r,h with
 |[a],_=>exact Or.inl ⟨a,rfl⟩
 |[a,b],_=>exact Or.inr (Or.inl ⟨a,b,rfl⟩)
 |[a,b,c],_=>exact Or.inr (Or.inr (Or.inl ⟨a,b,c,rfl⟩))
 |[a,b,c,d],_=>exact Or.inr (Or.inr (Or.inr ⟨a,b,c,d,rfl⟩))
theorem Rw.len{r:List Int}(h:Rw r):1≤r.length∧r.length≤4:=by
 rcases h.cases with⟨a,rfl⟩|⟨a,b,rfl⟩|⟨a,b,c,rfl⟩|⟨a,b,c,d,rfl⟩<;>simp
theorem Rw.bd{r:List Int}(h:Rw r):Bd 9000000000000000000 r:=by
 rcases h.cases with⟨a,rfl⟩|⟨a,b,rfl⟩|⟨a,b,c,rfl⟩|⟨a,b,c,d,rfl⟩
 ·exact qgJ h.2
 ·obtain⟨_,h1,h2⟩:=h;exact qdk (by omega) (qgJ (by omega))
 ·obtain⟨_,h1,h2,h3⟩:=h;exact qdk (by omega) (qdk (by omega) (qgJ (by omega)))
 ·obtain⟨_,h1,h2,h3,h4⟩:=h;exact qdk (by omega) (qdk (by omega) (qdk (by omega) (qgJ (by omega))))
theorem qdX{r:List Int}(h:Rw r)(k:r.length≤1):lst r=true:=by
 rcases h.cases with⟨a,rfl⟩|⟨a,b,rfl⟩|⟨a,b,c,rfl⟩|⟨a,b,c,d,rfl⟩
 ·obtain⟨h0,_⟩:=h
  show decide (a≤(a.natAbs:Int))=true
  exact decide_eq_true (by omega)
 ·exact absurd k (by simp)
 ·exact absurd k (by simp)
 ·exact absurd k (by simp)
theorem qp1{r:List Int}(h:Rw r)(hl:lst r=false):Stp r:=by
 rcases h.cases with⟨a,rfl⟩|⟨a,b,rfl⟩|⟨a,b,c,rfl⟩|⟨a,b,c,d,rfl⟩
 ·rw[qdX h (by simp)]at hl;cases hl
 ·exact(qiA h hl).1
 ·exact(qfl h hl).1
 ·exact(qgI h hl).1
theorem qqM{r:List Int}(h:Rw r)(hl:lst r=false):f56 (r,())=some (rd (nxt r),()):=by
 have fin:∀x l,0<x→l.length≤999→Bd 9000000000000000000 (x::l)→(Tr.test (Option.isSome (f54 (x::l,()))) (Tr.fin ((g54 (x::l,())).1,())) Tr.stop:Tr (Tys.data rs56)).val=some (rd (x::l),()):=by
  intro x l h1 h2 h3
  have e:=qpF x l h2 (by omega) h3
  simp only[g54,e,Option.isSome_some,Option.getD_some,Tr.val_test,Tr.val_fin,if_true]
 rcases h.cases with⟨a,rfl⟩|⟨a,b,rfl⟩|⟨a,b,c,rfl⟩|⟨a,b,c,d,rfl⟩
 ·rw[qdX h (by simp)]at hl;cases hl
 ·obtain⟨s,_,w⟩:=qiA h hl
  obtain⟨x,l,e,p,q,b⟩:=s.pos
  rw[qp5,w,←qk2,e];exact fin x l p q b
 ·obtain⟨s,w1,w2⟩:=qfl h hl
  obtain⟨x,l,e,p,q,b⟩:=s.pos
  rw[qnV,w1,w2,←qeS,e];exact fin x l p q b
 ·obtain⟨s,w1,w2,w3⟩:=qgI h hl
  obtain⟨x,l,e,p,q,b⟩:=s.pos
  rw[qpg,w1,w2,w3,←qgg,e];exact fin x l p q b
theorem qpu{n:Nat}(h:n≤1000):(Nat.ble ((2*(n+1)+192)*24) 281474976710656&&Nat.ble (n+1) 281474976710656)=true:=by simp only[Bool.and_eq_true,qcD];omega
theorem it32:∀(k:Nat)(r:List Int)(T:List (List Int))(m:Nat),Rw r→r.length≤k+1→T.length+k≤1000→k<m→itr s32_0 m ((r,T,()),())=some (.inl ((T++(tbl k r).tail,()),()))
 |k,r,T,0,_,_,_,hm=>by omega
 |k,r,T,m+1,h,hk,ht,hm=>by
  have e:=qqS r h.len.1 (by have:=h.len;omega) h.bd
  cases hl:lst r with
  |true=>
   rw[hl]at e
   have et:(tbl k r).tail=[]:=by
    cases k with
    |zero=>rfl
    |succ k=>simp only[tbl,hl,if_true];rfl
   simp only[itr,s32_0,t32_0,g55,e,Option.isSome_some,Option.getD_some,Bool.not_true,Tr.val_test,Tr.val_fin,if_true,Bool.false_eq_true,if_false,et,List.append_nil]
  |false=>
   rw[hl]at e
   cases k with
   |zero=>rw[qdX h (by omega)]at hl;cases hl
   |succ k=>
    have s:=qp1 h hl
    have e1:=qqM h hl
    have ih:=it32 k (rd (nxt r)) (T++[rd (nxt r)]) m s.row (by have:=s.len;omega) (by rw[List.length_append];show T.length+1+k≤1000;omega) (by omega)
    have et:(tbl (k+1) r).tail=tbl k (rd (nxt r)):=by simp only[tbl,hl,Bool.false_eq_true,if_false];rfl
    have eh:tbl k (rd (nxt r))=rd (nxt r)::(tbl k (rd (nxt r))).tail:=by
     cases k with
     |zero=>rfl
     |succ k=>simp only[tbl];split<;>rfl
    simp only[itr,s32_0,t32_0,g55,e,g56,e1,qpu (show T.length≤1000 by omega),Option.isSome_some,Option.getD_some,Bool.not_false,Tr.val_test,Tr.val_fin,if_true]
    rw[ih,et,List.append_assoc]
    congr 5
    exact eh.symm
def Py(p:List Int):Prop:=(1≤p.length∧p.length≤4)∧Bd 1000 p∧p.getD 0 0≠0
theorem Py.cons{p:List Int}(h:Py p):∃a l,p=a::l∧a≠0∧l.length≤3∧Bd 1000 (a::l):=by
 match p,h with
 |a::l,h=>exact⟨a,l,rfl,h.2.2,by have:=h.1.2;have e:(a::l).length=l.length+1:=rfl;omega,h.2.1⟩
 |[],h=>exact absurd h.1.1 (by decide)
theorem Py.rw{p:List Int}(h:Py p):Rw (rd p):=by
 obtain⟨hl,hb,h0⟩:=h
 match p,hl,hb,h0 with
 |[a],_,hb,h0=>
  have q1:=qc0 (l:=[a]) a
  have b1:=hb a (by simp)
  rw[rd1];exact⟨qfw h0,by omega⟩
 |[a,b],_,hb,h0=>
  have q1:=qc0 (l:=[a,b]) a
  have q2:=qc0 (l:=[a,b]) b
  have b1:=hb a (by simp)
  have b2:=hb b (by simp)
  rw[rd2];exact⟨qfw h0,by omega,by omega⟩
 |[a,b,c],_,hb,h0=>
  have q1:=qc0 (l:=[a,b,c]) a
  have q2:=qc0 (l:=[a,b,c]) b
  have q3:=qc0 (l:=[a,b,c]) c
  have b1:=hb a (by simp)
  have b2:=hb b (by simp)
  have b3:=hb c (by simp)
  rw[rd3];exact⟨qfw h0,by omega,by omega,by omega⟩
 |[a,b,c,d],_,hb,h0=>
  have q1:=qc0 (l:=[a,b,c,d]) a
  have q2:=qc0 (l:=[a,b,c,d]) b
  have q3:=qc0 (l:=[a,b,c,d]) c
  have q4:=qc0 (l:=[a,b,c,d]) d
  have b1:=hb a (by simp)
  have b2:=hb b (by simp)
  have b3:=hb c (by simp)
  have b4:=hb d (by simp)
  rw[rd4];exact⟨qfw h0,by omega,by omega,by omega,by omega⟩
 |a::b::c::d::e::l,hl,_,_=>exact absurd hl.2 (by show ¬l.length+5≤4;omega)
 |[],hl,_,_=>exact absurd hl.1 (by decide)
def tb(p:List Int):List (List Int):=tbl 3 (rd p)
theorem qiM(k:Nat)(r:List Int):tbl k r=r::(tbl k r).tail:=by
 cases k with
 |zero=>rfl
 |succ k=>simp only[tbl];split<;>rfl
theorem qqW{p:List Int}(h:Py p):f54 (p,())=some (rd p,()):=by
 obtain⟨a,l,rfl,h0,h1,h2⟩:=h.cons
 exact qpF a l (by omega) h0 fun x hx=>by have:=h2 x hx;omega
theorem qq5{p:List Int}(h:Py p):f35 (p,())=some (rd p,()):=by
 obtain⟨a,l,rfl,h0,h1,h2⟩:=h.cons
 exact qpJ a l (by omega) h0 fun x hx=>by have:=h2 x hx;omega
theorem qpz{p:List Int}(h:Py p):f32 (p,())=some (tb p,()):=by
 have e:=qqW h
 have e1:l32_0 ((rd p,[rd p],()),())=some (.inl (([rd p]++(tbl 3 (rd p)).tail,()),())):=it32 3 (rd p) [rd p] rounds h.rw (by have:=h.rw.len;omega) (by show 1+3≤1000;omega) (qa3 (by omega))
 have e2:[rd p]++(tbl 3 (rd p)).tail=tb p:=(qiM 3 (rd p)).symm
 rw[e2]at e1
 simp only[f32,t32,g54,e,e1,qbv,b32_0,outB,Option.isSome_some,Option.getD_some,Tr.val_test,Tr.val_fin,if_true]
end Go.Vm.Mo

namespace Go.Vm.Mo
open Go
set_option linter.unusedVariables false
set_option linter.unusedSimpArgs false
theorem qqz(a:Int)(T:List (List Int)):s12_0 (([a],T,()),())=some (.brk ((T,()),())):=by kernel_rfl
theorem qnK(a b:Int)(T:List (List Int)):s12_0 (([a,b],T,()),())=(Tr.test (Option.isSome (f15 (b,()))) (Tr.test (!leF a (g15 (b,())).1) (Tr.test (Nat.ble ((2*(List.length T+1)+192)*24) 281474976710656&&Nat.ble (List.length T+1) 281474976710656) (Tr.fin (.ret ((T++[[1]],()),()))) Tr.stop) (Tr.fin (.brk ((T,()),())))) Tr.stop:Tr (Out sh12_0.data shb12_0.data shr12_0.data)).val:=by kernel_rfl
theorem qju(a b c:Int)(T:List (List Int)):s12_0 (([a,b,c],T,()),())=(Tr.test (Option.isSome (f15 (c,()))) (Tr.test (!leF a (g15 (c,())).1) (Tr.test (Option.isSome (f35 ([wrap64 (wrap64 (a*a)-wrap64 (c*c)),wrap64 (wrap64 (a*b)-wrap64 (c*b))],()))) (Tr.test (Nat.ble ((2*(List.length T+1)+192)*24) 281474976710656&&Nat.ble (List.length T+1) 281474976710656) (Tr.fin (.again (((g35 ([wrap64 (wrap64 (a*a)-wrap64 (c*c)),wrap64 (wrap64 (a*b)-wrap64 (c*b))],())).1,T++[(g35 ([wrap64 (wrap64 (a*a)-wrap64 (c*c)),wrap64 (wrap64 (a*b)-wrap64 (c*b))],())).1],()),()))) Tr.stop) Tr.stop) (Tr.fin (.brk ((T,()),())))) Tr.stop:Tr (Out sh12_0.data shb12_0.data shr12_0.data)).val:=by kernel_rfl
theorem qlp(a b c d:Int)(T:List (List Int)):s12_0 (([a,b,c,d],T,()),())=(Tr.test (Option.isSome (f15 (d,()))) (Tr.test (!leF a (g15 (d,())).1) (Tr.test (Option.isSome (f35 ([wrap64 (wrap64 (a*a)-wrap64 (d*d)),wrap64 (wrap64 (a*b)-wrap64 (d*c)),wrap64 (wrap64 (a*c)-wrap64 (d*b))],()))) (Tr.test (Nat.ble ((2*(List.length T+1)+192)*24) 281474976710656&&Nat.ble (List.length T+1) 281474976710656) (Tr.fin (.again (((g35 ([wrap64 (wrap64 (a*a)-wrap64 (d*d)),wrap64 (wrap64 (a*b)-wrap64 (d*c)),wrap64 (wrap64 (a*c)-wrap64 (d*b))],())).1,T++[(g35 ([wrap64 (wrap64 (a*a)-wrap64 (d*d)),wrap64 (wrap64 (a*b)-wrap64 (d*c)),wrap64 (wrap64 (a*c)-wrap64 (d*b))],())).1],()),()))) Tr.stop) Tr.stop) (Tr.fin (.brk ((T,()),())))) Tr.stop:Tr (Out sh12_0.data shb12_0.data shr12_0.data)).val:=by kernel_rfl
theorem qq0{r:List Int}(h:Rw r){T:List (List Int)}(ht:T.length≤1000):
  (lst r=true∧s12_0 ((r,T,()),())=some (.brk ((T,()),()))) ∨
  (lst r=false∧s12_0 ((r,T,()),())=some (.again ((rd (nxt r),T++[rd (nxt r)],()),()))) ∨
  (lst r=false∧r.length=2∧rd (nxt r)=[1]∧s12_0 ((r,T,()),())=some (.ret ((T++[[1]],()),()))):=by
 have hb:=h.bd
 have lb:=qpu ht
 have fin:∀x l,0<x→l.length≤999→Bd 9000000000000000000 (x::l)→f35 (x::l,())=some (rd (x::l),()):=fun x l h1 h2 h3=>qpJ x l h2 (by omega) h3
 rcases h.cases with⟨a,rfl⟩|⟨a,b,rfl⟩|⟨a,b,c,rfl⟩|⟨a,b,c,d,rfl⟩
 ·exact Or.inl ⟨qdX h (by simp),qqz a T⟩
 ·have e:=qfx b (by have:=hb b (by simp);omega)
  cases hl:lst [a,b]with
  |true=>
   have k:a≤(b.natAbs:Int):=of_decide_eq_true hl
   refine Or.inl ⟨rfl,?_⟩
   rw[qnK]
   simp only[g15,e,qap,nF k,Option.isSome_some,Option.getD_some,Tr.val_test,Tr.val_fin,if_true,Bool.false_eq_true,if_false]
  |false=>
   have k:¬a≤(b.natAbs:Int):=of_decide_eq_false hl
   obtain⟨_,e1,_⟩:=qiA h hl
   refine Or.inr (Or.inr ⟨rfl,rfl,e1,?_⟩)
   rw[qnK]
   simp only[g15,e,qap,nT k,lb,Option.isSome_some,Option.getD_some,Tr.val_test,Tr.val_fin,if_true]
 ·have e:=qfx c (by have:=hb c (by simp);omega)
  cases hl:lst [a,b,c]with
  |true=>
   have k:a≤(c.natAbs:Int):=of_decide_eq_true hl
   refine Or.inl ⟨rfl,?_⟩
   rw[qju]
   simp only[g15,e,qap,nF k,Option.isSome_some,Option.getD_some,Tr.val_test,Tr.val_fin,if_true,Bool.false_eq_true,if_false]
  |false=>
   have k:¬a≤(c.natAbs:Int):=of_decide_eq_false hl
   obtain⟨s,w1,w2⟩:=qfl h hl
   obtain⟨x,l,en,p,q,bb⟩:=s.pos
   refine Or.inr (Or.inl ⟨rfl,?_⟩)
   rw[qju,w1,w2,←qeS,en]
   have e1:=fin x l p q bb
   simp only[g15,e,qap,nT k,g35,e1,lb,Option.isSome_some,Option.getD_some,Tr.val_test,Tr.val_fin,if_true]
 ·have e:=qfx d (by have:=hb d (by simp);omega)
  cases hl:lst [a,b,c,d]with
  |true=>
   have k:a≤(d.natAbs:Int):=of_decide_eq_true hl
   refine Or.inl ⟨rfl,?_⟩
   rw[qlp]
   simp only[g15,e,qap,nF k,Option.isSome_some,Option.getD_some,Tr.val_test,Tr.val_fin,if_true,Bool.false_eq_true,if_false]
  |false=>
   have k:¬a≤(d.natAbs:Int):=of_decide_eq_false hl
   obtain⟨s,w1,w2,w3⟩:=qgI h hl
   obtain⟨x,l,en,p,q,bb⟩:=s.pos
   refine Or.inr (Or.inl ⟨rfl,?_⟩)
   rw[qlp,w1,w2,w3,←qgg,en]
   have e1:=fin x l p q bb
   simp only[g15,e,qap,nT k,g35,e1,lb,Option.isSome_some,Option.getD_some,Tr.val_test,Tr.val_fin,if_true]
theorem it12:∀(k:Nat)(r:List Int)(T:List (List Int))(m:Nat),Rw r→r.length≤k+1→T.length+k≤1000→k<m →
  itr s12_0 m ((r,T,()),())=some (.inl ((T++(tbl k r).tail,()),()))∨itr s12_0 m ((r,T,()),())=some (.inr ((T++(tbl k r).tail,()),()))
 |k,r,T,0,_,_,_,hm=>by omega
 |k,r,T,m+1,h,hk,ht,hm=>by
  rcases qq0 h (T:=T) (by omega)with⟨hl,e⟩|⟨hl,e⟩|⟨hl,h2,e1,e⟩
  ·have et:(tbl k r).tail=[]:=by
    cases k with
    |zero=>rfl
    |succ k=>simp only[tbl,hl,if_true];rfl
   left
   simp only[itr,e,et,List.append_nil]
  ·cases k with
   |zero=>rw[qdX h (by omega)]at hl;cases hl
   |succ k=>
    have s:=qp1 h hl
    have ih:=it12 k (rd (nxt r)) (T++[rd (nxt r)]) m s.row (by have:=s.len;omega) (by rw[List.length_append];show T.length+1+k≤1000;omega) (by omega)
    have et:(tbl (k+1) r).tail=tbl k (rd (nxt r)):=by simp only[tbl,hl,Bool.false_eq_true,if_false];rfl
    have ea:T++(tbl (k+1) r).tail=T++[rd (nxt r)]++(tbl k (rd (nxt r))).tail:=by
     rw[et,List.append_assoc];congr 1;exact qiM k _
    simp only[itr,e]
    rw[ea];exact ih
  ·cases k with
   |zero=>omega
   |succ k=>
    have s:=qp1 h hl
    have et:(tbl (k+1) r).tail=tbl k (rd (nxt r)):=by simp only[tbl,hl,Bool.false_eq_true,if_false];rfl
    have e2:tbl k (rd (nxt r))=[[1]]:=by
     rw[e1]
     cases k with
     |zero=>rfl
     |succ k=>simp only[tbl];rfl
    right
    simp only[itr,e,et,e2]
theorem qpL{p:List Int}(h:Py p):f12 (p,())=some (tb p,()):=by
 have e:=qq5 h
 have e1:l12_0 ((rd p,[rd p],()),())=some (.inl (([rd p]++(tbl 3 (rd p)).tail,()),()))∨l12_0 ((rd p,[rd p],()),())=some (.inr (([rd p]++(tbl 3 (rd p)).tail,()),())):=it12 3 (rd p) [rd p] rounds h.rw (by have:=h.rw.len;omega) (by show 1+3≤1000;omega) (qa3 (by omega))
 have e2:[rd p]++(tbl 3 (rd p)).tail=tb p:=(qiM 3 (rd p)).symm
 rw[e2]at e1
 rcases e1 with e1|e1
 ·simp only[f12,t12,g35,e,e1,qee,b12_0,outB,Option.isSome_some,Option.getD_some,Tr.val_test,Tr.val_fin,if_true,Bool.false_eq_true,if_false]
 ·simp only[f12,t12,g35,e,e1,qee,r12_0,outR,Option.isSome_some,Option.getD_some,Tr.val_test,Tr.val_fin,if_true]
end Go.Vm.Mo

namespace Go.Vm.Mo
open Go
set_option linter.unusedVariables false
set_option linter.unusedSimpArgs false
def badP(p:List Int):Option Nat:=first (fun i=>!wi (-1000) 1000 (p.getD i 0)) p.length 0
def pE(p:List Int):Int:=if p.length=0 then 10 else if 4<p.length then 8 else if(badP p).isSome=true then 2 else if p.getD 0 0=0 then 11 else 0
theorem qqY(n:Nat):f52 ((n:Int),())=some (if n=0 then(10:Int)else if 4<n then 8 else 0,()):=by
 have e94:∀x y:Int,f42 ([x,y],())=some (qeu [x,y],()):=fun x y=>qpB _ (by simp)
 simp only[f52,t52,g38,qpx,g42,e94,qap,qa6,Option.isSome_some,Option.getD_some,Tr.val_test,Tr.val_fin,if_true,qeu]
 by_cases h1:n=0
 ·rw[dT (show(n:Int)=0 by omega),if_pos h1];rfl
 ·rw[dF (show ¬(n:Int)=0 by omega),if_neg h1]
  by_cases h2:4<n
  ·rw[nT (show ¬(n:Int)≤4 by omega),if_pos h2];rfl
  ·rw[nF (show(n:Int)≤4 by omega),if_neg h2];rfl
theorem qrg(p:List Int)(h:p.length≤1000000):f53 (1000,p,())=some ((badP p).isSome,()):=by
 have w:Go.IntKind.wrap Go.IntKind.i64 (0-1000)=-1000:=rfl
 have e:=qn1 (-1000) 1000 p (by omega)
 simp only[f53,t53,w,g43,e,Option.isSome_some,Option.getD_some,Tr.val_test,Tr.val_fin,if_true]
 show some ((!(badP p).isNone),())=some ((badP p).isSome,())
 cases badP p<;>rfl
theorem qlA(p:List Int)(h:p.length≤1000000):f31 (p,())=some (pE p,()):=by
 have e1:=qqY p.length
 have e2:=qrg p h
 have e3:∀x y z:Int,f42 ([x,y,z],())=some (qeu [x,y,z],()):=fun x y z=>qpB _ (by simp)
 simp only[f31,t31,g52,e1,g53,e2,g38,qpx,g42,e3,qap,qa6,Option.isSome_some,Option.getD_some,Tr.val_test,Tr.val_fin,if_true,pE]
 by_cases h1:p.length=0
 ·rw[nF (show(p.length:Int)≤0 by omega)]
  simp only[if_pos h1]
  cases badP p<;>rfl
 ·rw[nT (show ¬(p.length:Int)≤0 by omega),dT (show(0:Int)<(p.length:Int)by omega)]
  simp only[if_neg h1]
  by_cases h2:4<p.length
  ·simp only[if_pos h2]
   cases badP p<;>rfl
  ·simp only[if_neg h2]
   by_cases h3:p.getD 0 0=0
   ·simp only[dT h3,if_pos h3]
    cases badP p<;>rfl
   ·simp only[dF h3,if_neg h3]
    cases badP p<;>rfl
theorem l10(p:List Int)(h:p.length≤1000000):l10_0 ((p,(0:Int),()),())=match badP p with
  |some _=>some (.inr (((2:Int),()),()))
  |none=>some (.inl ((p,()),())):=by
 refine qfq (fun i=>((p,(i:Int),()),())) (fun i=>!wi (-1000) 1000 (p.getD i 0)) (fun _=>(((2:Int),()),())) (n:=p.length) ?_ ?_ (qa3 (by omega))
 ·intro i hi
  have q1:(!decide ((p.length:Int)≤(i:Int)))=true:=nT (by omega)
  have b1:(decide ((0:Int)≤(i:Int))&&decide ((i:Int)<(p.length:Int)))=true:=dA (by omega) (by omega)
  have e:f16 (p.getD i 0,-1000,1000,())=some (wi (-1000) 1000 (p.getD i 0),()):=qra _
  simp only[s10_0,t10_0,q1,b1,qap,g16,e,Int.toNat_natCast,qbb (show i≤9223372036854775806 by omega),Option.isSome_some,Option.getD_some,Tr.val_test,Tr.val_fin,if_true]
 ·have q1:(!decide ((p.length:Int)≤(p.length:Int)))=false:=nF (by omega)
  simp only[s10_0,t10_0,qap,q1,Tr.val_test,Tr.val_fin,Bool.false_eq_true,if_false]
theorem qqI(p:List Int)(h:p.length≤1000000):f10 (p,())=some (pE p,()):=by
 have e:=l10 p h
 simp only[f10,t10,qap,qa6,Tr.val_test,Tr.val_fin,pE]
 by_cases h1:p.length=0
 ·rw[dT (show(p.length:Int)=0 by omega),if_pos rfl,if_pos h1]
 ·rw[dF (show ¬(p.length:Int)=0 by omega),if_neg h1,if_neg (by decide)]
  by_cases h2:4<p.length
  ·rw[nT (show ¬(p.length:Int)≤4 by omega),if_pos h2,if_pos rfl]
  ·rw[nF (show(p.length:Int)≤4 by omega),if_neg h2,if_neg (by decide)]
   have q:(true&&decide ((0:Int)<(p.length:Int)))=true:=by rw[dT (show(0:Int)<(p.length:Int)by omega)];rfl
   cases hb:badP p with
   |none=>
    rw[hb]at e
    simp only[e,qee,b10_0,outB,q,Option.isSome_some,Option.isSome_none,if_true,Bool.false_eq_true,if_false]
    by_cases h3:p.getD 0 0=0
    ·rw[dT h3,if_pos rfl,if_pos h3]
    ·rw[dF h3,if_neg (by decide),if_neg h3]
   |some k=>
    rw[hb]at e
    simp only[e,qee,r10_0,outR,Option.isSome_some,if_true]
theorem qp9{p:List Int}(h:pE p=0):Py p:=by
 unfold pE at h
 split at h
 ·cases h
 ·split at h
  ·cases h
  ·split at h
   ·cases h
   ·split at h
    ·cases h
    ·rename_i h1 h2 h3 h4
     refine⟨⟨by omega,by omega⟩,fun x hx=>?_,h4⟩
     obtain⟨i,hi,rfl⟩:=List.mem_iff_getElem.1 hx
     cases hb:badP p with
     |some k=>rw[hb]at h3;exact absurd rfl h3
     |none=>
      have:=qfj hb i (Nat.zero_le _) (by omega)
      have:wi (-1000) 1000 (p.getD i 0)=true:=by simpa using this
      have:=wi_iff.1 this
      rw[qcP p 0 i hi]at this
      omega
def stb(p:List Int):Bool:=decide ((((tb p).getD ((tb p).length-1) []).length:Int)=1)
theorem qgM:∀(k:Nat)(r:List Int),1≤(tbl k r).length∧(tbl k r).length≤k+1
 |0,r=>⟨Nat.le_refl _,Nat.le_refl _⟩
 |k+1,r=>by
  simp only[tbl]
  split
  ·exact⟨Nat.le_refl _,by show 1≤k+1+1;omega⟩
  ·have:=qgM k (rd (nxt r))
   simp only[List.length_cons]
   omega
theorem qrm{p:List Int}(h:Py p):f33 (p,())=some (stb p,()):=by
 have e:=qpz h
 have hl:=qgM 3 (rd p)
 have hl':1≤(tb p).length∧(tb p).length≤4:=hl
 have w:wrap64 (((tb p).length:Int)-1)=(((tb p).length-1:Nat):Int):=by rw[qbf (by omega) (by omega)];omega
 have q:(decide ((0:Int)≤(((tb p).length-1:Nat):Int))&&decide ((((tb p).length-1:Nat):Int)<((tb p).length:Int)))=true:=dA (by omega) (by omega)
 simp only[f33,t33,g32,e,w,q,Int.toNat_natCast,qa6,Option.isSome_some,Option.getD_some,Tr.val_test,Tr.val_fin,if_true,stb]
theorem qq7{p:List Int}(h:Py p):f13 (p,())=some (stb p,()):=by
 have e:=qpL h
 have hl':1≤(tb p).length∧(tb p).length≤4:=qgM 3 (rd p)
 have w:wrap64 (((tb p).length:Int)-1)=(((tb p).length-1:Nat):Int):=by rw[qbf (by omega) (by omega)];omega
 have q:(decide ((0:Int)≤(((tb p).length-1:Nat):Int))&&decide ((((tb p).length-1:Nat):Int)<((tb p).length:Int)))=true:=dA (by omega) (by omega)
 simp only[f13,t13,g12,e,w,q,Int.toNat_natCast,qa6,Option.isSome_some,Option.getD_some,Tr.val_test,Tr.val_fin,if_true,stb]
theorem qrh{p:List Int}(h:p.length≤1000000)(z:¬pE p=0):f7 (p,())=some ([],pE p,()):=by
 have e:=qlA p h
 simp only[f7,t7,g31,e,qa6,nT z,Option.isSome_some,Option.getD_some,Tr.val_test,Tr.val_fin,if_true]
theorem qrF{p:List Int}(h:p.length≤1000000)(z:pE p=0):f7 (p,())=some (tb p,0,()):=by
 have e:=qlA p h
 rw[z]at e
 have e1:=qpz (qp9 z)
 simp only[f7,t7,g31,e,qa6,decide_true,Bool.not_true,g32,e1,Option.isSome_some,Option.getD_some,Tr.val_test,Tr.val_fin,if_true,Bool.false_eq_true,if_false]
theorem qrt{p:List Int}(h:p.length≤1000000)(z:¬pE p=0):f9 (p,())=some (false,pE p,()):=by
 have e:=qlA p h
 simp only[f9,t9,g31,e,qa6,nT z,Option.isSome_some,Option.getD_some,Tr.val_test,Tr.val_fin,if_true]
theorem qqm{p:List Int}(h:p.length≤1000000)(z:pE p=0):f9 (p,())=some (stb p,0,()):=by
 have e:=qlA p h
 rw[z]at e
 have e1:=qrm (qp9 z)
 simp only[f9,t9,g31,e,qa6,decide_true,Bool.not_true,g33,e1,Option.isSome_some,Option.getD_some,Tr.val_test,Tr.val_fin,if_true,Bool.false_eq_true,if_false]
end Go.Vm.Mo

namespace Go.Vm.Mo
open Go
set_option linter.unusedVariables false
set_option linter.unusedSimpArgs false
theorem qoD(l:List (List Int))(h:l.length≤1000)(hl:∀r∈l,r.length≤1000000):l11_0 ((l,l,(0:Int),()),())=some (.inl ((),())):=by
 refine qey (fun i=>((l,l,(i:Int),()),())) (n:=l.length) ?_ ?_ (qa3 (by omega))
 ·intro i hi
  have q1:(!decide ((l.length:Int)≤(i:Int)))=true:=nT (by omega)
  have b1:(decide ((0:Int)≤(i:Int))&&decide ((i:Int)<(l.length:Int)))=true:=dA (by omega) (by omega)
  have hm:l.getD i []∈l:=by rw[qcP l [] i hi];exact List.getElem_mem hi
  have e:=qo0 (l.getD i []) (hl _ hm)
  simp only[s11_0,t11_0,q1,b1,qap,g34,e,Bool.not_true,Int.toNat_natCast,qbb (show i≤9223372036854775806 by omega),Option.isSome_some,Option.getD_some,Tr.val_test,Tr.val_fin,if_true,Bool.false_eq_true,if_false]
 ·have q1:(!decide ((l.length:Int)≤(l.length:Int)))=false:=nF (by omega)
  simp only[s11_0,t11_0,qap,q1,Tr.val_test,Tr.val_fin,Bool.false_eq_true,if_false]
theorem qpd(l:List (List Int))(h:l.length≤1000)(hl:∀r∈l,r.length≤1000000):f11 (l,l,())=some (true,()):=by
 have e:=qoD l h hl
 simp only[f11,t11,qa6,decide_true,Bool.not_true,e,qee,Option.isSome_some,Tr.val_test,Tr.val_fin,if_true,Bool.false_eq_true,if_false]
theorem qnc(r:List Int):(nxt r).length=r.length-1:=by unfold nxt;rw[List.length_map,List.length_range]
theorem qlr:∀(k:Nat)(r:List Int),∀q∈tbl k r,q.length≤r.length
 |0,r,q,h=>by
  have:q=r:=List.mem_singleton.1 h
  rw[this];exact Nat.le_refl _
 |k+1,r,q,h=>by
  simp only[tbl]at h
  split at h
  ·have:q=r:=List.mem_singleton.1 h
   rw[this];exact Nat.le_refl _
  ·rcases List.mem_cons.1 h with rfl|h
   ·exact Nat.le_refl _
   ·have:=qlr k (rd (nxt r)) q h
    rw[qhy,qnc]at this
    omega
def al:List Int→List Int
 |[]=>[]
 |[a]=>[a]
 |a::b::l=>a::-b::al l
theorem qlo:∀l:List Int,(al l).length=l.length
 |[]=>rfl
 |[a]=>rfl
 |a::b::l=>by simp only[al,List.length_cons,qlo l]
theorem qqT:∀(l:List Int)(g:Nat),(al l).foldl (fun g x=>Nat.gcd g x.natAbs) g=l.foldl (fun g x=>Nat.gcd g x.natAbs) g
 |[],g=>rfl
 |[a],g=>rfl
 |a::b::l,g=>by simp only[al,List.foldl_cons,Int.natAbs_neg,qqT l]
theorem qrI(l:List Int):gL (al l)=gL l:=qqT l 0
theorem qom(l:List Int):(al l).getD 0 0=l.getD 0 0:=by
 match l with
 |[]=>rfl
 |[a]=>rfl
 |a::b::l=>rfl
theorem qrL(l:List Int):sd (al l)=sd l:=by unfold sd;rw[qom,qrI]
theorem qpD(f:Int→Int)(hf:∀x,f (-x)=-f x):∀l:List Int,(al l).map f=al (l.map f)
 |[]=>rfl
 |[a]=>rfl
 |a::b::l=>by simp only[al,List.map_cons,hf,qpD f hf l]
theorem qq9(l:List Int):rd (al l)=al (rd l):=by
 unfold rd
 rw[qrL]
 exact qpD _ (fun x=>Int.neg_tdiv ..) l
theorem qq3{r:List Int}(h:r.length≤4):nxt (al r)=al (nxt r):=by
 match r,h with
 |[],_=>rfl
 |[a],_=>rfl
 |[a,b],_=>
  show[a*a - -b*-b]=[a*a-b*b]
  rw[Int.neg_mul_neg]
 |[a,b,c],_=>
  show[a*a-c*c,a*-b-c*-b]=[a*a-c*c,-(a*b-c*b)]
  congr 2;grind
 |[a,b,c,d],_=>
  show[a*a - -d*-d,a*-b - -d*c,a*c - -d*-b]=[a*a-d*d,-(a*b-d*c),a*c-d*b]
  congr 1
  ·grind
  ·congr 1
   ·grind
   ·congr 1;grind
 |a::b::c::d::e::l,h=>exact absurd h (by simp only[List.length_cons];omega)
theorem qqJ{r:List Int}(h:r.length≤4):lst (al r)=lst r:=by
 match r,h with
 |[],_=>rfl
 |[a],_=>rfl
 |[a,b],_=>show decide (a≤((-b).natAbs:Int))=decide (a≤(b.natAbs:Int));rw[Int.natAbs_neg]
 |[a,b,c],_=>rfl
 |[a,b,c,d],_=>show decide (a≤((-d).natAbs:Int))=decide (a≤(d.natAbs:Int));rw[Int.natAbs_neg]
 |a::b::c::d::e::l,h=>exact absurd h (by simp only[List.length_cons];omega)
theorem qpv:∀(k:Nat)(r:List Int),r.length≤4→tbl k (al r)=(tbl k r).map al
 |0,r,_=>rfl
 |k+1,r,h=>by
  simp only[tbl,qqJ h]
  split
  ·rfl
  ·rw[qq3 h,qq9,qpv k _ (by rw[qhy,qnc];omega)];rfl
theorem qmS{l:List (List Int)}{i:Nat}(h:i<l.length):((l.map al).getD i []).length=(l.getD i []).length:=by
 rw[qcP (l.map al) [] i (by rw[List.length_map];exact h),qcP l [] i h,List.getElem_map,qlo]
theorem qrj{p:List Int}(h:p.length≤4):stb (al p)=stb p:=by
 have e:tb (al p)=(tb p).map al:=by unfold tb;rw[qq9];exact qpv 3 _ (by rw[qhy];exact h)
 have hl:1≤(tb p).length∧(tb p).length≤4:=qgM 3 (rd p)
 unfold stb
 rw[e,List.length_map,qmS (by omega)]
def ng(l:List Int):List Int:=l.map fun x=>-x
theorem qrb:∀(l:List Int)(g:Nat),(ng l).foldl (fun g x=>Nat.gcd g x.natAbs) g=l.foldl (fun g x=>Nat.gcd g x.natAbs) g
 |[],g=>rfl
 |a::l,g=>by
  show(ng l).foldl _ (Nat.gcd g (-a).natAbs)=_
  rw[Int.natAbs_neg];exact qrb l _
theorem qrG{a:Int}{l:List Int}(h:a≠0):rd (ng (a::l))=rd (a::l):=by
 have g:gL (ng (a::l))=gL (a::l):=qrb _ 0
 have s:sd (ng (a::l))=-sd (a::l):=by
  unfold sd
  rw[g]
  show(if -a<0 then _ else _)=-(if a<0 then _ else _)
  by_cases k:a<0
  ·rw[if_neg (by omega),if_pos k];omega
  ·rw[if_pos (by omega),if_neg k]
 unfold rd
 rw[s]
 unfold ng
 rw[List.map_map]
 refine List.map_congr_left fun x _=>?_
 show(-x).tdiv (-sd (a::l))=x.tdiv (sd (a::l))
 rw[Int.neg_tdiv,Int.tdiv_neg,Int.neg_neg]
theorem qqV{p:List Int}(h:p.getD 0 0≠0):stb (ng p)=stb p:=by
 match p,h with
 |a::l,h=>unfold stb tb;rw[qrG (show a≠0 from h)]
 |[],h=>exact absurd rfl h
theorem qrz{p:List Int}(h:Py p):Py (al p):=by
 obtain⟨hl,hb,h0⟩:=h
 refine⟨by rw[qlo];exact hl,?_,by rw[qom];exact h0⟩
 have:∀l:List Int,Bd 1000 l→Bd 1000 (al l):=by
  intro l
  induction l using al.induct with
  |case1=>exact fun k=>k
  |case2 a=>exact fun k=>k
  |case3 a b l ih=>
   intro k x hx
   simp only[al,List.mem_cons]at hx
   rcases hx with rfl|rfl|hx
   ·exact k _ (by simp)
   ·rw[Int.natAbs_neg];exact k b (by simp)
   ·exact ih (fun y hy=>k y (by simp[hy])) x hx
 exact this p hb
theorem qrE{p:List Int}(h:Py p):Py (ng p):=by
 obtain⟨hl,hb,h0⟩:=h
 refine⟨by unfold ng;rw[List.length_map];exact hl,fun x hx=>?_,?_⟩
 ·unfold ng at hx
  obtain⟨y,hy,rfl⟩:=List.mem_map.1 hx
  rw[Int.natAbs_neg];exact hb y hy
 ·match p,h0 with
  |a::l,h0=>show -a≠0;have:a≠0:=h0;omega
  |[],h0=>exact absurd rfl h0
theorem qm3{p:List Int}(h:Py p):pE p=0:=by
 obtain⟨hl,hb,h0⟩:=h
 unfold pE
 have:badP p=none:=qe2 (fun i _ hi=>by
  have:=hb.at (i:=i) (by omega)
  have:wi (-1000) 1000 (p.getD i 0)=true:=wi_iff.2 (by omega)
  rw[this];rfl)
 rw[if_neg (by omega),if_neg (by omega),this,if_neg (by decide),if_neg h0]
theorem qpj{p:List Int}(h:Py p)(k:p.length≠1)(s:stb p=true):(p.getD (p.length-1) 0).natAbs<(p.getD 0 0).natAbs:=by
 have hr:=h.rw
 have hl:=h.1
 have hlst:lst (rd p)=false:=by
  cases q:lst (rd p)with
  |false=>rfl
  |true=>
   have e:tb p=[rd p]:=by unfold tb;simp only[tbl,q,if_true]
   unfold stb at s
   rw[e]at s
   have s:(((rd p).length:Int))=1:=of_decide_eq_true s
   rw[qhy]at s
   omega
 have e:∀i,i<p.length→((rd p).getD i 0).natAbs*gL p=(p.getD i 0).natAbs:=by
  intro i hi
  have hm:p.getD i 0∈p:=by rw[qcP p 0 i hi];exact List.getElem_mem hi
  have e1:(rd p).getD i 0=(p.getD i 0).tdiv (sd p):=by
   unfold rd
   rw[qcP _ 0 i (by rw[List.length_map];exact hi),qcP p 0 i hi,List.getElem_map]
  rw[e1];exact qkO hm
 have h1:=e 0 (by omega)
 have h2:=e (p.length-1) (by omega)
 have hlt:¬(rd p).getD 0 0≤(((rd p).getD ((rd p).length-1) 0).natAbs:Int):=of_decide_eq_false hlst
 rw[qhy]at hlt
 have g0:0<gL p:=by
  obtain⟨a,l,rfl,ha,_,_⟩:=h.cons
  exact qjv ha
 rw[←h1,←h2]
 exact Nat.mul_lt_mul_of_pos_right (by omega) g0
end Go.Vm.Mo

namespace Go.Vm.Mo
open Go
set_option linter.unusedVariables false
set_option linter.unusedSimpArgs false
theorem qq8(a:Int)(s:Bool):l3_0 (([a],s,[],[],(0:Int),()),())=some (.inl (([a],s,[a],[Go.IntKind.wrap Go.IntKind.i64 (0-a)],()),())):=by kernel_rfl
theorem qqF(a b:Int)(s:Bool):l3_0 (([a,b],s,[],[],(0:Int),()),())=some (.inl (([a,b],s,[a,Go.IntKind.wrap Go.IntKind.i64 (0-b)],[Go.IntKind.wrap Go.IntKind.i64 (0-a),Go.IntKind.wrap Go.IntKind.i64 (0-b)],()),())):=by kernel_rfl
theorem qo1(a b c:Int)(s:Bool):l3_0 (([a,b,c],s,[],[],(0:Int),()),())=some (.inl (([a,b,c],s,[a,Go.IntKind.wrap Go.IntKind.i64 (0-b),c],[Go.IntKind.wrap Go.IntKind.i64 (0-a),Go.IntKind.wrap Go.IntKind.i64 (0-b),Go.IntKind.wrap Go.IntKind.i64 (0-c)],()),())):=by kernel_rfl
theorem qqc(a b c d:Int)(s:Bool):l3_0 (([a,b,c,d],s,[],[],(0:Int),()),())=some (.inl (([a,b,c,d],s,[a,Go.IntKind.wrap Go.IntKind.i64 (0-b),c,Go.IntKind.wrap Go.IntKind.i64 (0-d)],[Go.IntKind.wrap Go.IntKind.i64 (0-a),Go.IntKind.wrap Go.IntKind.i64 (0-b),Go.IntKind.wrap Go.IntKind.i64 (0-c),Go.IntKind.wrap Go.IntKind.i64 (0-d)],()),())):=by kernel_rfl
theorem wneg{x:Int}(h:x.natAbs≤1000):Go.IntKind.wrap Go.IntKind.i64 (0-x)=-x:=by rw[qcy (by omega) (by omega)];omega
theorem qrC{p:List Int}(h:Py p)(s:Bool):l3_0 ((p,s,[],[],(0:Int),()),())=some (.inl ((p,s,al p,ng p,()),())):=by
 obtain⟨hl,hb,_⟩:=h
 match p,hl,hb with
 |[a],_,hb=>rw[qq8,wneg (hb a (by simp))];rfl
 |[a,b],_,hb=>rw[qqF,wneg (hb a (by simp)),wneg (hb b (by simp))];rfl
 |[a,b,c],_,hb=>rw[qo1,wneg (hb a (by simp)),wneg (hb b (by simp)),wneg (hb c (by simp))];rfl
 |[a,b,c,d],_,hb=>rw[qqc,wneg (hb a (by simp)),wneg (hb b (by simp)),wneg (hb c (by simp)),wneg (hb d (by simp))];rfl
 |[],hl,_=>exact absurd hl.1 (by decide)
 |a::b::c::d::e::l,hl,_=>exact absurd hl.2 (by simp only[List.length_cons];omega)
theorem qre(p:List Int):f3 (p,())=some (true,()):=by
 by_cases h6:p.length≤6
 ·have q0:(!decide ((p.length:Int)≤6))=false:=nF (by omega)
  have e8:=qrH p (by omega)
  have e10:=qqI p (by omega)
  by_cases z:pE p=0
  ·have h:=qp9 z
   have hl:=h.1
   rw[z]at e10
   have e7:=qrF (p:=p) (by omega) z
   have e9:=qqm (p:=p) (by omega) z
   have e12:=qpL h
   have hl':1≤(tb p).length∧(tb p).length≤4:=qgM 3 (rd p)
   have e11:=qpd (tb p) (by omega) (fun r hr=>by have:=qlr 3 (rd p) r hr;rw[qhy]at this;omega)
   have e13:=qq7 h
   have e3:=qrC h (stb p)
   have ea:=qqm (p:=al p) (by rw[qlo];omega) (qm3 (qrz h))
   have en:=qqm (p:=ng p) (by unfold ng;rw[List.length_map];omega) (qm3 (qrE h))
   rw[qrj hl.2]at ea
   rw[qqV h.2.2]at en
   have bx:∀c:Bool,(c==c)=true:=fun c=>beq_self_eq_true c
   have bn:∀c:Bool,((!c)==c)=false:=fun c=>by cases c<;>rfl
   by_cases hs:stb p=true
   ·by_cases k:p.length=1
    ·have k1:decide ((p.length:Int)=1)=true:=dT (by omega)
     rw[hs]at e9 e13 e3 ea en
     simp only[f3,t3,qap,qa6,q0,g8,e8,g7,e7,g9,e9,g10,e10,g12,e12,g11,e11,g13,e13,e3,qbv,b3_0,outB,ea,en,bx,bn,k1,decide_true,Bool.not_true,Bool.not_false,Option.isSome_some,Option.getD_some,Tr.val_test,Tr.val_fin,if_true,Bool.false_eq_true,if_false]
    ·have k1:decide ((p.length:Int)=1)=false:=dF (by omega)
     have lt:=qpj h k hs
     have hb:=h.2.1
     have b0:=hb.at (i:=0) (by omega)
     have bl:=hb.at (i:=p.length-1) (by omega)
     have w:wrap64 ((p.length:Int)-1)=((p.length-1:Nat):Int):=by rw[qbf (by omega) (by omega)];omega
     have q1:(decide ((0:Int)≤((p.length-1:Nat):Int))&&decide (((p.length-1:Nat):Int)<(p.length:Int)))=true:=dA (by omega) (by omega)
     have q2:(true&&decide ((0:Int)<(p.length:Int)))=true:=by rw[dT (show(0:Int)<(p.length:Int)by omega)];rfl
     have s0:=qfx (p.getD 0 0) (by omega)
     have sl:=qfx (p.getD (p.length-1) 0) (by omega)
     have q3:(!decide (((p.getD 0 0).natAbs:Int)≤((p.getD (p.length-1) 0).natAbs:Int)))=true:=nT (by omega)
     rw[hs]at e9 e13 e3 ea en
     simp only[f3,t3,qap,qa6,q0,g8,e8,g7,e7,g9,e9,g10,e10,g12,e12,g11,e11,g13,e13,e3,qbv,b3_0,outB,ea,en,bx,bn,k1,w,q1,q2,g15,s0,sl,q3,Int.toNat_natCast,decide_true,Bool.not_true,Bool.not_false,Option.isSome_some,Option.getD_some,Tr.val_test,Tr.val_fin,if_true,Bool.false_eq_true,if_false]
   ·have hs:stb p=false:=by cases q:stb p with
     |false=>rfl
     |true=>exact absurd q hs
    rw[hs]at e9 e13 e3 ea en
    simp only[f3,t3,qap,qa6,q0,g8,e8,g7,e7,g9,e9,g10,e10,g12,e12,g11,e11,g13,e13,e3,qbv,b3_0,outB,ea,en,bx,bn,decide_true,Bool.not_true,Bool.not_false,Option.isSome_some,Option.getD_some,Tr.val_test,Tr.val_fin,if_true,Bool.false_eq_true,if_false]
  ·have e7:=qrh (p:=p) (by omega) z
   have e9:=qrt (p:=p) (by omega) z
   have y1:(!decide (pE p=0))=true:=nT z
   have y2:decide (pE p=pE p)=true:=dT rfl
   have zl:decide ((([]:List (List Int)).length:Int)=0)=true:=rfl
   simp only[f3,t3,qap,qa6,q0,g8,e8,g7,e7,g9,e9,g10,e10,y1,y2,zl,decide_true,Bool.not_false,Option.isSome_some,Option.getD_some,Tr.val_test,Tr.val_fin,if_true,Bool.false_eq_true,if_false]
 ·have q0:(!decide ((p.length:Int)≤6))=true:=nT (by omega)
  simp only[f3,t3,qap,q0,Tr.val_test,Tr.val_fin,if_true]
theorem law3(d:Tys.data as3)(hw:Tys.Wf as3 d):qmo Go.Proofs.Tryz.prog 3 as3 [.bool] d (true,()):=by
 have h:f3 d=some (true,()):=qre d.1
 have hp:p3.pre d=true:=by
  show Option.isSome (f3 d)=true
  rw[h];rfl
 have hg:p3.fn d=(true,()):=by
  show(f3 d).getD _=_
  rw[h];rfl
 have:=ok3.runs d hp
 rw[hg]at this
 exact this
end Go.Vm.Mo
