/- A machine over virtual values that stands for the model's: part 5. -/
import Derived.Test.YtifpmnmpinjcgaaGreatA4
import Derived.DataReads
import Derived.Carry
import Derived.ChangeSame
import Derived.RowKit
import Derived.OpenShut
set_option linter.unusedVariables false
set_option linter.unusedSimpArgs false

namespace Go.Vm
open Go
abbrev Tys.data:List Ty→Type
 |[]=>Unit
 |t::ts=>t.data×Tys.data ts
def Tys.vals:(ts:List Ty)→Tys.data ts→List V
 |[],_=>[]
 |t::ts,d=>valV t d.1::Tys.vals ts d.2
def Tys.flat:List Ty→Bool
 |[]=>true
 |t::ts=>match t.flat with
  |true=>Tys.flat ts
  |false=>false
def DVals(f:Frozen):(ts:List Ty)→Tys.data ts→List Value→Prop
 |[],_,xs=>xs=[]
 |t::ts,d,xs=>∃x r,xs=x::r∧DVal f t d.1 x∧DVals f ts d.2 r
def resV:(ts:List Ty)→Tys.data ts→V
 |[t],d=>valV t d.1
 |ts,d=>.tuple (Tys.vals ts d)
def DRes(f:Frozen):(ts:List Ty)→Tys.data ts→Value→Prop
 |[t],d,x=>DVal f t d.1 x
 |ts,d,x=>∃vs,x=.tuple vs∧DVals f ts d vs.toList
theorem DVals.vals{φ:Map}:∀{ts:List Ty}{d:Tys.data ts}{xs:List Value},DVals φ.fz ts d xs→VRels φ (Tys.vals ts d) xs
 |[],_,_,h=>by cases h;exact .nil
 |t::ts,d,xs,⟨x,r,h1,h2,h3⟩=>by subst h1;exact .cons h2.val h3.vals
theorem DVals.mono{f g:Frozen}(hf:f.le g):∀{ts:List Ty}{d:Tys.data ts}{xs:List Value},DVals f ts d xs→DVals g ts d xs
 |[],_,_,h=>h
 |_::_,_,_,⟨x,r,h1,h2,h3⟩=>⟨x,r,h1,h2.mono hf,h3.mono hf⟩
theorem DRes.val{φ:Map}{ts:List Ty}{d:Tys.data ts}{x:Value}(h:DRes φ.fz ts d x):VRel φ (resV ts d) x:=by
 match ts,d,h with
 |[],d,⟨vs,h1,h2⟩=>subst h1;exact .tuple _ _ h2.vals
 |[t],d,h=>exact DVal.val h
 |t::u::ts,d,⟨vs,h1,h2⟩=>subst h1;exact .tuple _ _ h2.vals
theorem DRel.flat{f g:Frozen}:∀{t:Ty}{d:t.data}{cs:List Value},t.flat=true→DRel f t d cs→DRel g t d cs
 |.int _,_,_,_,h=>h
 |.bool,_,_,_,h=>h
 |.str,_,_,_,h=>h
 |.unit,_,_,_,h=>h
 |.pair a b,_,_,e,⟨x,y,h1,h2,h3⟩=>by
  simp only[Ty.flat]at e
  split at e
  ·rename_i ha;exact⟨x,y,h1,h2.flat ha,h3.flat e⟩
  ·cases e
 |.slice t,_,_,e,_=>by cases e
theorem DVal.flat{f g:Frozen}{t:Ty}{d:t.data}{x:Value}(e:t.flat=true)(h:DVal f t d x):DVal g t d x:=by
 unfold DVal at h ⊢
 split at h
 ·obtain⟨cs,h1,h2⟩:=h;exact⟨cs,h1,h2.flat e⟩
 ·exact h.flat e
theorem Tys.flat_cons{t:Ty}{ts:List Ty}(h:Tys.flat (t::ts)=true):t.flat=true∧Tys.flat ts=true:=by
 simp only[Tys.flat]at h
 split at h
 ·rename_i ht;exact⟨ht,h⟩
 ·cases h
theorem DVals.flat{f g:Frozen}:∀{ts:List Ty}{d:Tys.data ts}{xs:List Value},Tys.flat ts=true→DVals f ts d xs→DVals g ts d xs
 |[],_,_,_,h=>h
 |_::_,_,_,e,⟨x,r,h1,h2,h3⟩=>⟨x,r,h1,h2.flat (Tys.flat_cons e).1,h3.flat (Tys.flat_cons e).2⟩
theorem DRes.flat{f g:Frozen}{ts:List Ty}{d:Tys.data ts}{x:Value}(e:Tys.flat ts=true)(h:DRes f ts d x):DRes g ts d x:=by
 match ts,d,h with
 |[],d,⟨vs,h1,h2⟩=>exact⟨vs,h1,h2.flat e⟩
 |[t],d,h=>exact DVal.flat (Tys.flat_cons e).1 h
 |t::u::ts,d,⟨vs,h1,h2⟩=>exact⟨vs,h1,h2.flat e⟩
def qpt(f:Frozen)(w:World)(rs:List Ty)(r:Tys.data rs):Ending→World→Prop:=fun e w'=>
 ∃x f',e=.returned x∧DRes f' rs r x∧f.le f'∧FzOk f' w'∧(∀k c,f' k=some c→k<w.heap.size→f k=some c)∧w.heap.size≤w'.heap.size∧(∀k,k<w.heap.size→w'.heap[k]?=w.heap[k]?) ∧
  w'.os=w.os∧w'.tape=w.tape∧w'.output=w.output
def qmE(P:Program)(f:FuncId)(us rs:List Ty)(d:Tys.data us)(r:Tys.data rs):Prop:=
 ∀(z:Frozen)(args':Array Value)(w:World)(F:Fence)(n:Nat),Wide F→FzOk z w→DVals z us d args'.toList→CallsIn F n P f args' w (qpt z w rs r)
structure PureC where
 us:List Ty
 rs:List Ty
 pre:Tys.data us→Bool
 fn:Tys.data us→Tys.data rs
 quiet:Bool:=false
structure PureOk(P:Program)(f:FuncId)(c:PureC):Prop where
 enter:∀(args':Array Value)(w:World),(callFunc f args').run P w=.ok (.enter f args') w
 runs:∀d,c.pre d=true→qmE P f c.us c.rs d (c.fn d)
def qmu(t:Ty)(h:H)(v:V):Option (t.data×List Nat×H):=
 match t.isAgg with
 |true=>match v with
  |.agg cs=>match qcb t h cs with
   |some (d,[],ns,h)=>some (d,ns,h)
   |_=>none
  |_=>none
 |false=>match qcb t h [v]with
  |some (d,[],ns,h)=>some (d,ns,h)
  |_=>none
def qeQ:(ts:List Ty)→H→List V→Option (Tys.data ts×List Nat×H)
 |[],h,vs=>match vs with
  |[]=>some ((),[],h)
  |_=>none
 |t::ts,h,vs=>match vs with
  |v::vs=>match qmu t h v with
   |some (d,ns,h)=>match qeQ ts h vs with
    |some (r,ms,h)=>some ((d,r),ns++ms,h)
    |none=>none
   |none=>none
  |[]=>none
def qgK(ts:List Ty)(h:H)(v:V):Option (Tys.data ts×List Nat×H):=
 match v with
 |.tuple vs=>qeQ ts h vs
 |_=>none
def qfn:(ts:List Ty)→H→V→Option (Tys.data ts×List Nat×H)
 |[t],h,v=>match qmu t h v with
  |some (d,ns,h)=>some ((d,()),ns,h)
  |none=>none
 |ts,h,v=>qgK ts h v
section
variable {φ:Map} {w:World}
theorem qfg{t:Ty}{h h':H}{v:V}{d:t.data}{ns:List Nat}(e:qmu t h v=some (d,ns,h'))(hh:h'.Holds):h.Holds∧h.Same h':=by
 unfold qmu at e
 split at e
 ·split at e
  ·split at e
   ·rename_i he;cases e;exact(qaG (φ:=qb8 fun _=>none) (w:=default) t).same _ _ _ _ _ _ he hh
   ·cases e
  ·cases e
 ·split at e
  ·rename_i he;cases e;exact(qaG (φ:=qb8 fun _=>none) (w:=default) t).same _ _ _ _ _ _ he hh
  ·cases e
theorem qjS{t:Ty}{h h':H}{v:V}{d:t.data}{ns:List Nat}{x:Value}(e:qmu t h v=some (d,ns,h'))(hh:h'.Holds)(hv:VRel φ v x)(hr:HRel φ h w):BoxNames φ h ns∧DVal (qb6 φ w ns) t d x:=by
 unfold qmu at e
 unfold DVal
 cases hag:t.isAgg with
 |true=>
  rw[hag]at e
  dsimp only at e ⊢
  split at e
  ·split at e
   ·rename_i he
    cases e
    cases hv with
    |agg _ rs hv=>
     obtain⟨b,x,y,h1,h2,h3⟩:=(qaG t).rel _ _ _ _ _ _ _ he hh hv hr
     cases h2
     rw[List.append_nil]at h1
     exact⟨b,rs,rfl,by rw[h1];exact h3⟩
   ·cases e
  ·cases e
 |false=>
  rw[hag]at e
  dsimp only at e ⊢
  split at e
  ·rename_i he
   cases e
   obtain⟨b,x,y,h1,h2,h3⟩:=(qaG t).rel _ _ _ _ _ _ _ he hh (.cons hv .nil) hr
   cases h2
   rw[List.append_nil]at h1
   exact⟨b,by rw[h1];exact h3⟩
  ·cases e
theorem qcu:∀{ts:List Ty}{h h':H}{vs:List V}{d:Tys.data ts}{ns:List Nat},qeQ ts h vs=some (d,ns,h')→h'.Holds→h.Holds∧h.Same h'
 |[],h,h',vs,d,ns,e,hh=>by
  simp only[qeQ]at e
  split at e
  ·cases e;exact⟨hh,H.Same.refl _⟩
  ·cases e
 |t::ts,h,h',vs,d,ns,e,hh=>by
  simp only[qeQ]at e
  split at e
  ·split at e
   ·rename_i h1
    split at e
    ·rename_i h2
     cases e
     obtain⟨g1,g2⟩:=qcu h2 hh
     obtain⟨g3,g4⟩:=qfg h1 g1
     exact⟨g3,g4.trans g2⟩
    ·cases e
   ·cases e
  ·cases e
theorem qd7:∀{ts:List Ty}{h h':H}{vs:List V}{d:Tys.data ts}{ns:List Nat}{xs:List Value},qeQ ts h vs=some (d,ns,h')→h'.Holds→VRels φ vs xs→HRel φ h w→BoxNames φ h ns∧DVals (qb6 φ w ns) ts d xs
 |[],h,h',vs,d,ns,xs,e,hh,hv,hr=>by
  simp only[qeQ]at e
  split at e
  ·cases e;cases hv;exact⟨BoxNames.nil,rfl⟩
  ·cases e
 |t::ts,h,h',vs,d,ns,xs,e,hh,hv,hr=>by
  simp only[qeQ]at e
  split at e
  ·split at e
   ·rename_i h1
    split at e
    ·rename_i h2
     cases e
     cases hv with
     |cons hv hvs=>
      obtain⟨g1,g2⟩:=qcu h2 hh
      obtain⟨g3,g4⟩:=qfg h1 g1
      obtain⟨b1,d1⟩:=qjS h1 g1 hv hr
      obtain⟨b2,d2⟩:=qd7 h2 hh hvs (hr.same g4)
      exact⟨b1.append (b2.same g4),_,_,rfl,d1.mono (qbV fun b hb=>List.mem_append_left _ hb),d2.mono (qbV fun b hb=>List.mem_append_right _ hb)⟩
    ·cases e
   ·cases e
  ·cases e
theorem qfD{ts:List Ty}{h h':H}{v:V}{d:Tys.data ts}{ns:List Nat}(e:qgK ts h v=some (d,ns,h'))(hh:h'.Holds):h.Holds∧h.Same h':=by
 unfold qgK at e
 split at e
 ·exact qcu e hh
 ·cases e
theorem qgC{ts:List Ty}{h h':H}{v:V}{d:Tys.data ts}{ns:List Nat}{x:Value}(e:qgK ts h v=some (d,ns,h'))(hh:h'.Holds)(hv:VRel φ v x)(hr:HRel φ h w):
  BoxNames φ h ns∧∃vs,x=.tuple vs∧DVals (qb6 φ w ns) ts d vs.toList:=by
 unfold qgK at e
 split at e
 ·cases hv with
  |tuple _ rs hv=>
   obtain⟨b,q⟩:=qd7 e hh hv hr
   exact⟨b,rs,rfl,q⟩
 ·cases e
theorem qfO{ts:List Ty}{h h':H}{v:V}{d:Tys.data ts}{ns:List Nat}(e:qfn ts h v=some (d,ns,h'))(hh:h'.Holds):h.Holds∧h.Same h':=by
 match ts,d,e with
 |[],d,e=>exact qfD e hh
 |[t],d,e=>
  simp only[qfn]at e
  split at e
  ·rename_i h1
   cases e
   exact qfg h1 hh
  ·cases e
 |t::u::ts,d,e=>exact qfD e hh
theorem qgs{ts:List Ty}{h h':H}{v:V}{d:Tys.data ts}{ns:List Nat}{x:Value}(e:qfn ts h v=some (d,ns,h'))(hh:h'.Holds)(hv:VRel φ v x)(hr:HRel φ h w):
  BoxNames φ h ns∧DRes (qb6 φ w ns) ts d x:=by
 match ts,d,e with
 |[],d,e=>exact qgC e hh hv hr
 |[t],d,e=>
  simp only[qfn]at e
  split at e
  ·rename_i h1
   cases e
   exact qjS h1 hh hv hr
  ·cases e
 |t::u::ts,d,e=>exact qgC e hh hv hr
end
def qjb(orc:Orc)(P:Program)(n:Nat)(f:FuncId)(us rs:List Ty)(d:Tys.data us)(ask:Option (List Bool)):Option (Tys.data rs×List (Bool×Bool)):=
 match(qdH orc P n).call f (Tys.vals us d) (bare ask)with
 |some (v,h1)=>match qfn rs h1 v with
  |some (r,_,h2)=>some (r,h2.said)
  |none=>none
 |none=>none
abbrev runPure(orc:Orc)(P:Program)(n:Nat)(f:FuncId)(us rs:List Ty)(d:Tys.data us)(ans:List Bool):Option (Tys.data rs×List (Bool×Bool)):=qjb orc P n f us rs d (some ans)
theorem qgR{P:Program}{orc:Orc}(b:Base P orc){n:Nat}{f:FuncId}{us rs:List Ty}{d:Tys.data us}{ask:Option (List Bool)}{r:Tys.data rs}{said:List (Bool×Bool)}(e:qjb orc P n f us rs d ask=some (r,said))(ha:All said):qmE P f us rs d r:=by
 unfold qjb at e
 split at e
 ·rename_i v h1 hc
  split at e
  ·rename_i r' ns h2 hv
   cases e
   have hh2:h2.Holds:=All.holds ha
   intro z args' w F n' hF hz hargs
   have hr0:HRel (qb8 z) (bare ask) w:=qoT _ w hz
   have hh1:h1.Holds:=(qfO hv hh2).1
   obtain⟨_,d2⟩:=Does.of_q b hc hh1
   refine CallsIn.mono (d2 (qb8 z) args' w F n' hF (DVals.vals (φ:=qb8 z) hargs) hr0) ?_
   rintro e' w' ⟨φ1,x,rfl,hx,hg⟩
   obtain⟨hb,hD⟩:=qgs hv hh2 hx hg.rel
   refine⟨x,qb6 φ1 w' ns,rfl,hD,Frozen.le_trans hg.le.fz qdl,qd5 hg.rel ns,?_,hg.size,qmG hg,hg.os,hg.tape,hg.output⟩
   intro k c hk hlt
   have nofz:∀c,φ1.fz k=some c→z k=some c:=by
    intro c hc
    rcases hg.ffresh k c hc hlt with h3|⟨b,k',_,h4,_⟩|⟨b,q,_,_,h4,_⟩
    ·exact h3
    ·cases h4
    ·cases h4
   rcases qco hk with h3|⟨⟨b,q,h3,h4,h5⟩,_⟩
   ·exact nofz c h3
   ·exfalso
    rcases hg.fresh b q h4 with h6|⟨_,h6⟩
    ·cases h6
    ·rcases h6 with h6|⟨c',k',_,h7,_⟩
     ·omega
     ·cases h7
  ·cases e
 ·cases e
def qk2(orc:Orc)(P:Program)(n:Nat)(f:FuncId)(us rs:List Ty)(d:Tys.data us)(ask:Option (List Bool)):Option (Tys.data rs×List (Bool×Bool)):=
 match(qdH orc P n).call f (Tys.vals us d) (qms ask)with
 |some (v,h1)=>match qfn rs h1 v with
  |some (r,_,h2)=>some (r,h2.said)
  |none=>none
 |none=>none
abbrev runPureB(orc:Orc)(P:Program)(n:Nat)(f:FuncId)(us rs:List Ty)(d:Tys.data us)(ans:List Bool):Option (Tys.data rs×List (Bool×Bool)):=qk2 orc P n f us rs d (some ans)
theorem qjm{P:Program}{orc:Orc}(b:Base P orc){n:Nat}{f:FuncId}{us rs:List Ty}{d:Tys.data us}{ask:Option (List Bool)}{r:Tys.data rs}{said:List (Bool×Bool)}(e:qk2 orc P n f us rs d ask=some (r,said))(ha:All said):qmE P f us rs d r:=by
 unfold qk2 at e
 split at e
 ·rename_i v h1 hc
  split at e
  ·rename_i r' ns h2 hv
   cases e
   have hh2:h2.Holds:=All.holds ha
   intro z args' w F n' hF hz hargs
   have hr0:HRel (qb8 z) (qms ask) w:=qnv _ w hz
   have hh1:h1.Holds:=(qfO hv hh2).1
   obtain⟨_,d2⟩:=Does.of_q b hc hh1
   refine CallsIn.mono (d2 (qb8 z) args' w F n' hF (DVals.vals (φ:=qb8 z) hargs) hr0) ?_
   rintro e' w' ⟨φ1,x,rfl,hx,hg⟩
   obtain⟨hb,hD⟩:=qgs hv hh2 hx hg.rel
   refine⟨x,qb6 φ1 w' ns,rfl,hD,Frozen.le_trans hg.le.fz qdl,qd5 hg.rel ns,?_,hg.size,qkF hg,hg.os,hg.tape,hg.output⟩
   intro k c hk hlt
   have nofz:∀c,φ1.fz k=some c→z k=some c:=by
    intro c hc
    rcases hg.ffresh k c hc hlt with h3|⟨b,k',_,h4,_⟩|⟨b,q,_,_,h4,_⟩
    ·exact h3
    ·cases h4
    ·cases h4
   rcases qco hk with h3|⟨⟨b,q,h3,h4,h5⟩,_⟩
   ·exact nofz c h3
   ·exfalso
    rcases hg.fresh b q h4 with h6|⟨_,h6⟩
    ·cases h6
    ·rcases h6 with h6|⟨c',k',_,h7,_⟩
     ·omega
     ·cases h7
  ·cases e
 ·cases e
def qkU(c:PureC)(args:List V)(h:H):Option (V×H):=
 match qeQ c.us h args with
  |none=>none
  |some (d,ns,h)=>match h.test (c.pre d)with
   |some (true,h)=>match Tys.flat c.rs with
    |true=>some (resV c.rs (c.fn d),h)
    |false=>match ns.all fun b=>Nat.ble h.ro b with
     |true=>some (resV c.rs (c.fn d),qaw ns h)
     |false=>none
   |_=>none
def ownV:Nat→V→List Nat→List Nat
 |0,_,acc=>acc
 |n+1,v,acc=>match v with
  |.sl (some a) _ _=>a.b::acc
  |.agg cs=>cs.foldr (ownV n) acc
  |_=>acc
def qrp(c:PureC)(args:List V)(h:H):Bool:=
 match c.quiet,Nat.ble h.next h.ro with
 |true,false=>false
 |_,_=>match Tys.flat c.rs with
  |true=>true
  |false=>args.all fun v=>(ownV 6 v []).all fun b=>Nat.ble h.ro b
def qkM(tbl:FuncId→Option PureC):COrc:=fun f args h=>
 match tbl f with
 |none=>none
 |some c=>match qrp c args h with
  |true=>qkU c args h
  |false=>none
theorem PureOk.quiet{P:Program}{f:FuncId}{c:PureC}(h:PureOk P f c):PureOk P f { c with quiet:=true }:=⟨h.enter,h.runs⟩
theorem qme{P:Program}{tbl:FuncId→Option PureC}(ht:∀f c,tbl f=some c→PureOk P f c):COrcOk P (qkM tbl):=by
 intro f args h v h' e hh
 unfold qkM at e
 split at e
 ·cases e
 ·rename_i c hc
  obtain⟨hen,hruns⟩:=ht f c hc
  replace e:qkU c args h=some (v,h'):=by
   split at e
   ·exact e
   ·cases e
  unfold qkU at e
  split at e
  ·cases e
  ·rename_i d ns h1 hv
   split at e
   ·rename_i h2 hp
    split at e
    ·rename_i hfl
     cases e
     obtain⟨p1,p2,p3⟩:=H.test_holds hp hh
     obtain⟨q1,q2⟩:=qcu hv p1
     have s2:h.Same h':=q2.trans p3
     refine⟨q1,hen,fun φ args' w F n hF ha hr=>?_⟩
     obtain⟨b1,d1⟩:=qd7 hv p1 ha hr
     refine CallsIn.mono (hruns d p2 (qb6 φ w ns) args' w F n hF (qd5 hr ns) d1) ?_
     rintro e' w' ⟨x,f',rfl,r1,r2,r3,r4,r5,r6,r7,r8,r9⟩
     refine⟨φ,x,rfl,DRes.val (r1.flat hfl),(Goes.grown hr r5 r6 r7 r8 r9).trans (Goes.of_same (hr.grown r5 r6) s2 rfl rfl rfl rfl)⟩
    ·split at e
     ·rename_i hro
      cases e
      have hh2:h2.Holds:=fun p hp=>hh p (by rw[(killAll_spec (ns:=ns) (h:=h2)).2.2.1];exact hp)
      obtain⟨p1,p2,p3⟩:=H.test_holds hp hh2
      obtain⟨q1,q2⟩:=qcu hv p1
      have s2:h.Same h2:=q2.trans p3
      refine⟨q1,hen,fun φ args' w F n hF ha hr=>?_⟩
      obtain⟨b1,d1⟩:=qd7 hv p1 ha hr
      refine CallsIn.mono (hruns d p2 (qb6 φ w ns) args' w F n hF (qd5 hr ns) d1) ?_
      rintro e' w' ⟨x,f',rfl,r1,r2,r3,r4,r5,r6,r7,r8,r9⟩
      have hr2:=hr.same s2
      have hro':∀b∈ns,h2.ro≤b:=fun b hb=>Nat.le_of_ble_eq_true (List.all_eq_true.1 hro b hb)
      have b2:BoxNames φ h2 ns:=fun b hb=>by
       obtain⟨e,r,q,g1,g2⟩:=b1 b hb
       exact⟨e,r,q,by simp only[H.get]at g1 ⊢;rw[s2.2.2];exact g1,g2⟩
      have g:=Goes.freeze hr2 b2 hro' r2 r3 r4 r5 r6 r7 r8 r9
      exact⟨{ φ with fz:=f' },x,rfl,DRes.val (φ:={ φ with fz:=f' }) r1,(Goes.of_same hr s2 rfl rfl rfl rfl).trans g⟩
     ·cases e
   ·cases e
end Go.Vm

namespace Go.Vm
open Go
def qfr(h:H)(u:Ty)(v:V):Option (List u.data×List Nat):=
 match v with
 |.sl (some _) len (some c)=>match Nat.beq len c with
  |true=>qdi h u v
  |false=>none
 |_=>none
def settle:List Nat→List Pt→List V→H→List V×H
 |t::r,p::ps,ts,h=>match p with
  |.acc u=>match qfr h u (getT ts t)with
   |some (d,ns)=>settle r ps (ts.set t (.vs u d .tight)) (qaw ns h)
   |none=>settle r ps ts h
  |.ty u=>match u with
   |.slice u=>match qdi h u (getT ts t)with
    |some (d,ns)=>settle r ps (ts.set t (.vs u d .no)) (qaw ns h)
    |none=>settle r ps ts h
   |_=>settle r ps ts h
  |_=>settle r ps ts h
 |_,_,ts,h=>(ts,h)
theorem qbz:∀(sl:List Nat)(ps:List Pt)(ts:List V)(h:H),(settle sl ps ts h).1.length=ts.length
 |[],_,_,_=>rfl
 |_::_,[],_,_=>rfl
 |t::r,p::ps,ts,h=>by
  simp only[settle]
  split
  ·split
   ·rw[qbz];simp
   ·exact qbz _ _ _ _
  ·split
   ·split
    ·rw[qbz];simp
    ·exact qbz _ _ _ _
   ·exact qbz _ _ _ _
  ·exact qbz _ _ _ _
theorem VRels.put{φ:Map}{ts:List V}{rs:Array Value}{t:Nat}{v:V}(h:VRels φ ts rs.toList)(hv:VRel φ v (rs.getD t undef)):VRels φ (ts.set t v) rs.toList:=by
 refine VRels.of_get (by simp[h.length]) fun i u r hu hr=>?_
 rw[List.getElem?_set]at hu
 split at hu
 ·rename_i hti
  subst hti
  split at hu
  ·cases hu
   have:rs.getD t undef=r:=by
    have:rs[t]?=some r:=by simpa using hr
    simp[Array.getD_eq_getD_getElem?,this]
   rw[←this];exact hv
  ·cases hu
 ·obtain⟨x,hx,hv⟩:=h.get _ _ hu
  rw[hr]at hx
  cases hx
  exact hv
theorem qfT{h:H}{u:Ty}{v:V}{p:List u.data×List Nat}{φ:Map}{a:Option Addr}{n cap:Nat}(hs:qfr h u v=some p)(hv:VRel φ v (.slice a n cap)):qdi h u v=some p∧cap=n:=by
 unfold qfr at hs
 split at hs
 ·rename_i va len c
  split at hs
  ·rename_i hb
   refine⟨hs,?_⟩
   cases hv with
   |sl _ k _ cap' _ hk hl hc hz=>
    have h1:=hc c rfl
    have h2:=Nat.eq_of_beq_eq_true hb
    omega
  ·cases hs
 ·cases hs
theorem qbM{w:World}{rs:Array Value}:∀(sl:List Nat)(ps:List Pt)(ts:List V)(h:H)(φ:Map),VRels φ ts rs.toList→HRel φ h w →
  ∃φ',VRels φ' (settle sl ps ts h).1 rs.toList∧Goes φ h w φ' (settle sl ps ts h).2 w
 |[],_,_,_,φ,hts,hr=>⟨φ,hts,Goes.refl hr⟩
 |_::_,[],_,_,φ,hts,hr=>⟨φ,hts,Goes.refl hr⟩
 |t::r,p::ps,ts,h,φ,hts,hr=>by
  simp only[settle]
  split
  ·rename_i u
   split
   ·rename_i d ns hs
    have hv:=qbD hts t
    have hs':qdi h u (getT ts t)=some (d,ns):=by
     unfold qfr at hs
     split at hs
     ·split at hs
      ·exact hs
      ·cases hs
     ·cases hs
    obtain⟨f',g,a,n,cap,hx,h3,h4⟩:=qc2 hs' hv hr
    rw[hx]at hv
    have hfull:=(qfT hs hv).2
    have hd':VRel { φ with fz:=f' } (.vs u d .tight) (rs.getD t undef):=by
     rw[hx]
     exact .vs _ _ _ _ _ _ h3 h4 hfull
    obtain⟨φ2,q1,q2⟩:=qbM r ps _ _ _ (VRels.put (hts.mono g.le) hd') g.rel
    exact⟨φ2,q1,g.trans q2⟩
   ·exact qbM r ps ts h φ hts hr
  ·split
   ·rename_i u
    split
    ·rename_i d ns hs
     have hv:=qbD hts t
     obtain⟨f',g,a,n,cap,hx,h3,h4⟩:=qc2 hs hv hr
     have hd':VRel { φ with fz:=f' } (.vs u d .no) (rs.getD t undef):=by
      rw[hx]
      exact .vs _ _ _ _ _ _ h3 h4 trivial
     obtain⟨φ2,q1,q2⟩:=qbM r ps _ _ _ (VRels.put (hts.mono g.le) hd') g.rel
     exact⟨φ2,q1,g.trans q2⟩
    ·exact qbM r ps ts h φ hts hr
   ·exact qbM r ps ts h φ hts hr
  ·exact qbM r ps ts h φ hts hr
theorem Runs.settled{P:Program}{rd:Rd}{c:Code}{st:S}{x:X}{ts:List V}{dfs:List Nat}{h:H}(k:Runs P rd c st x { ts:=ts,dfs:=dfs,h:=h })(sl:List Nat)(ps:List Pt):
  Runs P rd c st x { ts:=(settle sl ps ts h).1,dfs:=dfs,h:=(settle sl ps ts h).2 }:=by
 intro φ a w F n hF hrd hts hm hr
 refine wpIn_mono (k φ a w F n hF hrd hts hm hr) ?_
 rintro e a' w' ⟨he,φ1,r1,r2,g⟩
 obtain⟨φ2,q1,q2⟩:=qbM sl ps ts h φ1 r1 g.rel
 exact⟨he,φ2,q1,r2.goes g.rel q2,g.trans q2⟩
def qbP:List Nat→List Pt→List V→H→List V×H
 |t::r,p::ps,ts,h=>match p with
  |.acc u=>match qfr h u (getT ts t)with
   |some (d,ns)=>qbP r ps (ts.set t (.vs u d .tight)) (qaw ns h)
   |none=>qbP r ps ts h
  |.ty u=>match u with
   |.slice u=>match qd1 h u (getT ts t)with
    |some (d,ns,h2)=>qbP r ps (ts.set t (.vs u d .no)) (qaw ns h2)
    |none=>qbP r ps ts h
   |_=>qbP r ps ts h
  |_=>qbP r ps ts h
 |_,_,ts,h=>(ts,h)
theorem qdq{ns:List Nat}{h:H}(hh:(qaw ns h).Holds):h.Holds:=fun p hp=>hh p (by rw[qa9];exact hp)
theorem qiB{h h2:H}{u:Ty}{v:V}{d:List u.data}{ns:List Nat}(hs:qd1 h u v=some (d,ns,h2))(hh:h2.Holds):h.Holds:=(qfl hs).holds hh
theorem qaJ:∀(sl:List Nat)(ps:List Pt)(ts:List V)(h:H),(qbP sl ps ts h).2.Holds→h.Holds
 |[],_,_,_,hh=>hh
 |_::_,[],_,_,hh=>hh
 |t::r,p::ps,ts,h,hh=>by
  simp only[qbP]at hh
  split at hh
  ·split at hh
   ·exact qdq (qaJ r ps _ _ hh)
   ·exact qaJ r ps _ _ hh
  ·split at hh
   ·split at hh
    ·rename_i hs
     exact qiB hs (qdq (qaJ r ps _ _ hh))
    ·exact qaJ r ps _ _ hh
   ·exact qaJ r ps _ _ hh
  ·exact qaJ r ps _ _ hh
theorem qbq{w:World}{rs:Array Value}:∀(sl:List Nat)(ps:List Pt)(ts:List V)(h:H)(φ:Map),(qbP sl ps ts h).2.Holds→VRels φ ts rs.toList→HRel φ h w →
  ∃φ',VRels φ' (qbP sl ps ts h).1 rs.toList∧Goes φ h w φ' (qbP sl ps ts h).2 w
 |[],_,_,_,φ,_,hts,hr=>⟨φ,hts,Goes.refl hr⟩
 |_::_,[],_,_,φ,_,hts,hr=>⟨φ,hts,Goes.refl hr⟩
 |t::r,p::ps,ts,h,φ,hh,hts,hr=>by
  simp only[qbP]at hh ⊢
  split at hh
  ·rename_i u
   split at hh
   ·rename_i d ns hs
    have hv:=qbD hts t
    have hs':qdi h u (getT ts t)=some (d,ns):=by
     unfold qfr at hs
     split at hs
     ·split at hs
      ·exact hs
      ·cases hs
     ·cases hs
    obtain⟨f',g,a,n,cap,hx,h3,h4⟩:=qc2 hs' hv hr
    rw[hx]at hv
    have hfull:=(qfT hs hv).2
    have hd':VRel { φ with fz:=f' } (.vs u d .tight) (rs.getD t undef):=by
     rw[hx]
     exact .vs _ _ _ _ _ _ h3 h4 hfull
    obtain⟨φ2,q1,q2⟩:=qbq r ps _ _ _ hh (VRels.put (hts.mono g.le) hd') g.rel
    exact⟨φ2,q1,g.trans q2⟩
   ·rename_i hs
    exact qbq r ps ts h φ hh hts hr
  ·split at hh
   ·rename_i u
    split at hh
    ·rename_i d ns h2 hs
     have hv:=qbD hts t
     obtain⟨_,f',g,a,n,cap,hx,h3,h4⟩:=qeG hs (qdq (qaJ r ps _ _ hh)) hv hr
     have hd':VRel { φ with fz:=f' } (.vs u d .no) (rs.getD t undef):=by
      rw[hx]
      exact .vs _ _ _ _ _ _ h3 h4 trivial
     obtain⟨φ2,q1,q2⟩:=qbq r ps _ _ _ hh (VRels.put (hts.mono g.le) hd') g.rel
     exact⟨φ2,q1,g.trans q2⟩
    ·rename_i hs
     exact qbq r ps ts h φ hh hts hr
   ·exact qbq r ps ts h φ hh hts hr
  ·exact qbq r ps ts h φ hh hts hr
def qqa(sh:Sh)(st:S):S:=
 match st with
 |{ ts,dfs,h }=>match qbP sh.slots sh.pats ts h with
  |(ts,h)=>{ ts:=ts,dfs:=dfs,h:=h }
def qf8:List LoopC→S→Option (X×S)
 |[],_=>none
 |c::r,st=>match qiZ c (qqa c.sh st)with
  |some o=>some o
  |none=>qf8 r st
def qk4(tbl:Nat→Nat→List LoopC):LOrc:=fun f id st=>match qhd (tbl f id) st with
 |some o=>some o
 |none=>qf8 (tbl f id) st
theorem qma{P:Program}{tbl:Nat→Nat→List LoopC}(ht:∀f id,∀c∈tbl f id,qay P f id c):LOrcOk P (qk4 tbl):=by
 intro f id code st x st' hb hin e hh
 unfold qk4 at e
 split at e
 ·rename_i o ho
  cases e
  exact qng ht f id code st x st' hb hin ho hh
 ·have key:∀l:List LoopC,(∀c∈l,qay P f id c)→qf8 l st=some (x,st')→st.h.Holds ∧
    ∀(φ:Map)(a:Act)(w:World)(F:Fence)(n:Nat),Wide F→RoundRel φ .none F.round→VRels φ st.ts a.tmps.toList→MarksRel φ w st.dfs a.defers→HRel φ st.h w→code.wpIn F n P (Post φ st.h w x st') a w:=by
   intro l
   induction l with
   |nil=>intro _ e;cases e
   |cons c r ih=>
    intro hl e
    simp only[qf8]at e
    split at e
    ·rename_i o ho
     cases e
     obtain⟨k1,k2⟩:=qhP (hl c (List.mem_cons_self ..)) hb hin ho hh
     obtain⟨ts,dfs,h⟩:=st
     refine⟨qaJ c.sh.slots c.sh.pats ts h k1,fun φ a w F n hF hrd hts hm hr=>?_⟩
     obtain⟨φ1,q1,q2⟩:=qbq c.sh.slots c.sh.pats ts h φ k1 hts hr
     refine wpIn_mono (k2 φ1 a w F n hF (RoundRel.mono q2.le hrd) q1 (hm.goes hr q2) q2.rel) ?_
     intro e' a' w' p
     exact p.from q2
    ·exact ih (fun c hc=>hl c (List.mem_cons_of_mem _ hc)) e
  exact key _ (ht f id) e
end Go.Vm

namespace Go.Vm
open Go
def qaX(id:Nat):Code→List Code
 |.seq a b=>qaX id a++qaX id b
 |.cond _ a b=>qaX id a++qaX id b
 |.block j b=>match Nat.beq j id with
  |true=>b::qaX id b
  |false=>qaX id b
 |.loop b=>qaX id b
 |_=>[]
theorem qij{id:Nat}:∀{c b:Code},b∈qaX id c→Part (.block id b) c:=by
 intro c
 induction c with
 |seq x y ihx ihy=>
  intro b h
  rcases List.mem_append.1 h with h|h
  ·exact .seqL (ihx h)
  ·exact .seqR (ihy h)
 |cond o x y ihx ihy=>
  intro b h
  rcases List.mem_append.1 h with h|h
  ·exact .thn (ihx h)
  ·exact .els (ihy h)
 |block j x ih=>
  intro b h
  simp only[qaX]at h
  split at h
  ·rename_i hj
   have:=Nat.eq_of_beq_eq_true hj
   subst this
   rcases List.mem_cons.1 h with rfl|h
   ·exact .refl _
   ·exact .block (ih h)
  ·exact .block (ih h)
 |loop x ih=>intro b h;exact .loop (ih h)
 |_=>intro b h;cases h
theorem qiM{id:Nat}{c b:Code}(h:Part (.block id b) c):b∈qaX id c:=by
 generalize hx:Code.block id b=x at h
 induction h with
 |refl=>subst hx;simp only[qaX,Nat.beq_refl];exact List.mem_cons_self ..
 |seqL _ ih=>subst hx;exact List.mem_append_left _ ih
 |seqR _ ih=>subst hx;exact List.mem_append_right _ ih
 |thn _ ih=>subst hx;exact List.mem_append_left _ ih
 |els _ ih=>subst hx;exact List.mem_append_right _ ih
 |block _ ih=>
  subst hx
  simp only[qaX]
  split
  ·exact List.mem_cons_of_mem _ ih
  ·exact ih
 |loop _ ih=>subst hx;exact ih
def loopBody(P:Program)(f id:Nat):Code:=
 match qaX id (qfY P f)with
 |[.loop b]=>b
 |_=>.skip
def qe0(P:Program)(f id:Nat):Bool:=
 match qaX id (qfY P f)with
 |[.loop _]=>true
 |_=>false
theorem qjz{P:Program}{f id:Nat}(h:qe0 P f id=true):qaX id (qfY P f)=[.loop (loopBody P f id)]:=by
 unfold qe0 at h
 unfold loopBody
 split at h
 ·rename_i b e;rw[e]
 ·cases h
theorem qnF{P:Program}{f id:Nat}(h:qe0 P f id=true):InB P (.top f) (loopBody P f id):=by
 have h1:=qjz h
 have hp:Part (.block id (.loop (loopBody P f id))) (qfY P f):=qij (by rw[h1];exact List.mem_cons_self ..)
 generalize loopBody P f id=lb at hp
 unfold qfY at hp
 split at hp
 ·rename_i fn hf
  split at hp
  ·rename_i b hb
   exact⟨fn,b,hf,hb,((Part.refl _).loop.block).trans hp⟩
  ·cases hp
 ·cases hp
theorem qqi{P:Program}{f id:Nat}(h:qe0 P f id=true){code:Code}(hb:qgt id code)(hin:InB P (.top f) code):code=.block id (.loop (loopBody P f id)):=by
 obtain⟨fn,b,hf,hfb,hp⟩:=hin
 have hbody:qfY P f=b:=by simp only[qfY,hf,hfb]
 cases code with
 |block j x=>
  have hj:j=id:=hb
  subst hj
  have hm:=qiM hp
  rw[←hbody,qjz h]at hm
  rw[List.mem_singleton.1 hm]
 |_=>exact hb.elim
def qaW(P:Program)(f k:Nat):Bool:=qev (rfOf P f k).1 (rfOf P f k).2.1 (rfOf P f k).2.2 (rfOf P f k).1 (rfOf P f k).2.1 (rfOf P f k).2.2
def qqB(P:Program)(f k:Nat):Bool:=qfB (rfOf P f k).1 (rfOf P f k).2.1 (rfOf P f k).2.2
theorem qfe{P:Program}{f k:Nat}(h:qqB P f k=true):qaW P f k=true:=qju h
def Pts.dflt:(ps:List Pt)→Pts.data ps
 |[]=>()
 |.ty t::r=>(t.dflt,Pts.dflt r)
 |.acc _::r=>([],Pts.dflt r)
 |.aco _::r=>([],Pts.dflt r)
 |.sli _ _::r=>((0,0),Pts.dflt r)
 |.slu _ _::r=>(0,Pts.dflt r)
 |.ptr _ _ _::r=>Pts.dflt r
 |.fn _ _::r=>Pts.dflt r
 |.nil::r=>Pts.dflt r
 |.yld _::r=>Pts.dflt r
 |.mth _ t::r=>(t.dflt,Pts.dflt r)
 |.map _::r=>Pts.dflt r
def BShs.dflt:(bs:List BSh)→BShs.data bs
 |[]=>()
 |.row ps::r=>(Pts.dflt ps,BShs.dflt r)
 |.arr _::r=>([],BShs.dflt r)
 |.lp _ ps::r=>(Pts.dflt ps,BShs.dflt r)
 |.dfr::r=>BShs.dflt r
 |.map _ _::r=>([],BShs.dflt r)
 |.mapd _ _::r=>(([],0),BShs.dflt r)
 |.mit _::r=>((0,[]),BShs.dflt r)
 |.mitx::r=>BShs.dflt r
def Sh.dflt(s:Sh):s.data:=(Pts.dflt s.pats,BShs.dflt s.boxes)
def Tys.dflt:(ts:List Ty)→Tys.data ts
 |[]=>()
 |t::ts=>(t.dflt,Tys.dflt ts)
inductive Tr(R:Type) where
 |fin (r:R)
 |stop
 |test (b:Bool) (yes no:Tr R)
def Tr.val{R:Type}:Tr R→Option R
 |.fin r=>some r
 |.stop=>none
 |.test b y n=>match b with
  |true=>y.val
  |false=>n.val
def TrOk{R:Type}(Q:R→Prop):Tr R→Prop
 |.fin r=>Q r
 |.stop=>True
 |.test b y n=>(b=true→TrOk Q y)∧(b=false→TrOk Q n)
theorem TrOk.val{R:Type}{Q:R→Prop}:∀{t:Tr R}{r:R},TrOk Q t→t.val=some r→Q r
 |.fin r,_,h,e=>by cases e;exact h
 |.stop,_,_,e=>by cases e
 |.test b y n,r,h,e=>by
  cases b with
  |true=>exact TrOk.val (h.1 rfl) e
  |false=>exact TrOk.val (h.2 rfl) e
theorem TrOk.ofTest{R:Type}{Q:R→Prop}{b:Bool}{y n:Tr R}(h1:b=true→TrOk Q y)(h2:b=false→TrOk Q n):TrOk Q (.test b y n):=⟨h1,h2⟩
theorem TrOk.ofFin{R:Type}{Q:R→Prop}{r:R}(h:Q r):TrOk Q (.fin r):=h
theorem TrOk.ofStop{R:Type}{Q:R→Prop}:TrOk Q .stop:=trivial
theorem All.cons{b d:Bool}{r:List (Bool×Bool)}(h:b=d)(t:All r):All ((b,d)::r):=⟨h,t⟩
theorem All.nil:All []:=trivial
def qlI(P:Program)(f:Nat):Bool:=
 match P.funcs[f]? with
 |some fn=>fn.body.isSome
 |none=>false
def pcOf(us rs:List Ty)(F:Tys.data us→Option (Tys.data rs))(g:Tys.data us→Tys.data rs):PureC where
 us:=us
 rs:=rs
 pre d:=(F d).isSome
 fn:=g
def qrI(us rs:List Ty)(F:Tys.data us→Option (Tys.data rs)):PureC where
 us:=us
 rs:=rs
 pre d:=(F d).isSome
 fn d:=(F d).getD (Tys.dflt rs)
def PureRuns(P:Program)(orc:Orc)(f:Nat)(us rs:List Ty)(d:Tys.data us)(r:Tys.data rs):Prop:=
 ∃n ans said,(runPure orc P n f us rs d ans=some (r,said)∨runPureB orc P n f us rs d ans=some (r,said))∧All said
section
variable {P:Program} {orc:Orc}
theorem PureRuns.of{n f:Nat}{us rs:List Ty}{d:Tys.data us}{r:Tys.data rs}{ans:List Bool}{said:List (Bool×Bool)}(e:runPure orc P n f us rs d ans=some (r,said))(h:All said):PureRuns P orc f us rs d r:=⟨n,ans,said,.inl e,h⟩
theorem qln(hp:Plain P){f:Nat}(hf:qlI P f=true)(args:Array Value)(w:World):(callFunc f args).run P w=.ok (.enter f args) w:=by
 unfold qlI at hf
 split at hf
 ·rename_i fn h
  cases hb:fn.body with
  |none=>rw[hb]at hf;cases hf
  |some c=>exact qdT hp h hb args w
 ·cases hf
theorem qaf(b:Base P orc){f:Nat}{us rs:List Ty}{T:Tys.data us→Tr (Tys.data rs)}(hf:qlI P f=true)(h:∀d,TrOk (PureRuns P orc f us rs d) (T d)):PureOk P f (qrI us rs fun d=>(T d).val) where
 enter:=qln b.plain hf
 runs:=fun d hd=>by
  have hd:((T d).val).isSome=true:=hd
  show qmE P f us rs d (((T d).val).getD (Tys.dflt rs))
  cases e:(T d).val with
  |none=>rw[e]at hd;cases hd
  |some r=>
   obtain⟨n,ans,said,h1,h2⟩:=(h d).val e
   rcases h1 with h1|h1
   ·exact qgR b h1 h2
   ·exact qjm b h1 h2
theorem qim(b:Base P orc){n f:Nat}{rs:List Ty}{r:Tys.data rs}{said:List (Bool×Bool)}(hf:qlI P f=true)(e:qjb orc P n f [] rs () none=some (r,said))(h:All said):PureOk P f (pcOf [] rs (fun _=>some r) fun _=>r) where
 enter:=qln b.plain hf
 runs:=fun d _=>by
  have:d=():=rfl
  subst this
  exact qgR b e h
def Sh.stQ(s:Sh)(d:s.data)(ask:Option (List Bool)):SQ:={ ts:=.of (s.ts d),dfs:=[],h:=s.h d ask }
def outOf(sh shB shR:Sh)(id:Nat)(x:X)(st:SQ):Option (Out sh.data shB.data shR.data):=
 match st with
 |{ ts,dfs,h }=>match ts.list with
  |ts=>match Nat.beq ts.length sh.n with
   |false=>none
   |true=>match x with
    |.normal=>match settle sh.slots sh.pats ts h with
     |(ts,h)=>match qg6 sh.nb dfs h with
      |false=>none
      |true=>match sh.look ts h with
       |some (d,_)=>some (.again d)
       |none=>none
    |.exit j=>match Nat.beq j id with
     |true=>match qg6 sh.nb dfs h with
      |false=>none
      |true=>match shB.look ts h with
       |some (d,_)=>some (.brk d)
       |none=>none
     |false=>none
    |.ret=>match settle shR.slots shR.pats ts h with
     |(ts,h)=>match qg6 sh.nb dfs h with
      |false=>none
      |true=>match shR.look ts h with
       |some (d,_)=>some (.ret d)
       |none=>none
def qkT:List Bool→List (Bool×Bool)→List (Bool×Bool)
 |[],l=>l
 |c::r,l=>(c,true)::qkT r l
theorem qgY:∀{l:List Bool}{said:List (Bool×Bool)},All (qkT l said)→All said∧∀c∈l,c=true
 |[],_,e=>⟨e,fun c hc=>by cases hc⟩
 |c::r,said,e=>by
  obtain⟨e1,e2⟩:=e
  obtain⟨k1,k2⟩:=qgY e2
  refine⟨k1,fun d hd=>?_⟩
  rcases List.mem_cons.1 hd with rfl|hd
  ·exact e1
  ·exact k2 d hd
def qf7(h:H)(bs:List Nat)(sh:List BSh)(said:List (Bool×Bool)):List (Bool×Bool):=qkT (qb7 h bs sh 0) said
theorem qcH{h:H}{bs:List Nat}{sh:List BSh}{said:List (Bool×Bool)}(e:All (qf7 h bs sh said)):All said∧qcZ h bs sh 0=true:=by
 obtain⟨k1,k2⟩:=qgY e
 exact⟨k1,qbX _ _ _ _ k2⟩
def qk8(sh shB shR:Sh)(x:X)(st:SQ)(said:List (Bool×Bool)):List (Bool×Bool):=
 match x with
 |.normal=>qf7 (settle sh.slots sh.pats st.ts.list st.h).2 (sh.mvN (settle sh.slots sh.pats st.ts.list st.h).1 (settle sh.slots sh.pats st.ts.list st.h).2) sh.boxes said
 |.exit _=>qf7 st.h (shB.mvN st.ts.list st.h) shB.boxes said
 |.ret=>qf7 (settle shR.slots shR.pats st.ts.list st.h).2 (shR.mvN (settle shR.slots shR.pats st.ts.list st.h).1 (settle shR.slots shR.pats st.ts.list st.h).2) shR.boxes said
theorem qku{sh shB shR:Sh}{x:X}{st:SQ}{said:List (Bool×Bool)}(e:All (qk8 sh shB shR x st said)):All said:=by
 cases x<;>exact(qcH e).1
def qap(orc:Orc)(P:Program)(n f id:Nat)(sh shB shR:Sh)(d:sh.data)(ans:List Bool):Option (Out sh.data shB.data shR.data×List (Bool×Bool)):=
 match(qdH orc P n).exec (.top f) (loopBody P f id) (sh.stQ d (some ans))with
 |some (x,st)=>match outOf sh shB shR id x st with
  |some o=>some (o,qk8 sh shB shR x st st.h.said)
  |none=>none
 |none=>none
def BodyRuns(P:Program)(orc:Orc)(f id:Nat)(sh shB shR:Sh)(d:sh.data)(o:Out sh.data shB.data shR.data):Prop:=
 ∃n ans said,qap orc P n f id sh shB shR d ans=some (o,said)∧All said
theorem BodyRuns.of{n f id:Nat}{sh shB shR:Sh}{d:sh.data}{o:Out sh.data shB.data shR.data}{ans:List Bool}{said:List (Bool×Bool)}(e:qap orc P n f id sh shB shR d ans=some (o,said))(h:All said):BodyRuns P orc f id sh shB shR d o:=⟨n,ans,said,e,h⟩
theorem Runs.same{rd:Rd}{c:Code}{ts:List V}{h h2:H}{x:X}{st':S}(k:Runs P rd c { ts:=ts,dfs:=[],h:=h } x st')(s:h.Same h2):Runs P rd c { ts:=ts,dfs:=[],h:=h2 } x st':=by
 intro φ a w F n hF hrd hts hm hr
 have s':h2.Same h:=⟨s.1.symm,s.2.1.symm,s.2.2.symm⟩
 exact wpIn_mono (k φ a w F n hF hrd hts hm (hr.same s')) fun e a' w' p=>p.from (Goes.of_same hr s' rfl rfl rfl rfl)
theorem qoJ(b:Base P orc){f id:Nat}{sh shB shR:Sh}(hl:qe0 P f id=true){d:sh.data}{o:Out sh.data shB.data shR.data}(k:BodyRuns P orc f id sh shB shR d o):
  qlF P f id (loopBody P f id) sh shB shR d o:=by
 obtain⟨n,ans,said,h1,h2⟩:=k
 unfold qap at h1
 split at h1
 ·rename_i x st hx
  split at h1
  ·rename_i o' ho
   cases h1
   have hr:=Runs.of_q b (qnF hl) hx (All.holds (qku h2))
   have hst:(sh.stQ d (some ans)).real={ ts:=sh.ts d,dfs:=[],h:=sh.h d (some ans) }:=by simp only[Sh.stQ,SQ.real,Slots.of_list]
   rw[hst]at hr
   have hr2:Runs P (.top f) (loopBody P f id) (sh.st d none) x st.real:=Runs.same hr (show(sh.h d (some ans)).Same (sh.h d none)from⟨rfl,rfl,rfl⟩)
   obtain⟨ts,dfs,h⟩:=st
   unfold outOf at ho
   ·dsimp only at ho
    split at ho
    ·cases ho
    ·rename_i hlen
     have hlen:=Nat.eq_of_beq_eq_true hlen
     cases x with
     |normal=>
      refine⟨{ ts:=(settle sh.slots sh.pats ts.list h).1,dfs:=dfs,h:=(settle sh.slots sh.pats ts.list h).2 },?_⟩
      dsimp only at ho
      split at ho
      ·cases ho
      rename_i hdo
      split at ho
      ·rename_i d' tips hv
       cases ho
       exact⟨by rw[qbz];exact hlen,hdo,hr2.settled _ _,Sh.look_looks hv (qcH h2).2⟩
      ·cases ho
     |exit j=>
      refine⟨{ ts:=ts.list,dfs:=dfs,h:=h },?_⟩
      dsimp only at ho
      split at ho
      ·rename_i hj
       have:=Nat.eq_of_beq_eq_true hj
       subst this
       split at ho
       ·cases ho
       rename_i hdo
       split at ho
       ·rename_i d' tips hv
        cases ho
        exact⟨hlen,hdo,hr2,Sh.look_looks hv (qcH h2).2⟩
       ·cases ho
      ·cases ho
     |ret=>
      refine⟨{ ts:=(settle shR.slots shR.pats ts.list h).1,dfs:=dfs,h:=(settle shR.slots shR.pats ts.list h).2 },?_⟩
      dsimp only at ho
      split at ho
      ·cases ho
      rename_i hdo
      split at ho
      ·rename_i d' tips hv
       cases ho
       exact⟨by rw[qbz];exact hlen,hdo,hr2.settled _ _,Sh.look_looks hv (qcH h2).2⟩
      ·cases ho
  ·cases h1
 ·cases h1
def rounds:Nat:=1000000000000000000000000
def outB{B C:Type}(b:B):Option (B ⊕ C)→B
 |some (.inl b)=>b
 |_=>b
def outR{B C:Type}(c:C):Option (B ⊕ C)→C
 |some (.inr c)=>c
 |_=>c
def qbg{B C:Type}:Option (B ⊕ C)→Bool
 |some (.inr _)=>true
 |_=>false
def qa5{B C:Type}:Option (B ⊕ C)→Bool
 |some (.inl _)=>true
 |_=>false
def lcOf(sh shB shR:Sh)(L:sh.data→Option (shB.data ⊕ shR.data))(fb:sh.data→shB.data)(fr:sh.data→shR.data):LoopC where
 sh:=sh
 pre d:=(L d).isSome
 br d:=qbg (L d)
 out b d:=match b with
  |false=>some (.normal,shB.st (fb d) none)
  |true=>some (.ret,shR.st (fr d) none)
def lcB(sh shB shR:Sh)(L:sh.data→Option (shB.data ⊕ shR.data))(fb:sh.data→shB.data):LoopC where
 sh:=sh
 pre d:=qa5 (L d)
 br _:=true
 out b d:=match b with
  |true=>some (.normal,shB.st (fb d) none)
  |false=>none
def qpx(sh shB shR:Sh):Bool:=Nat.beq shB.nb sh.nb&&(Nat.beq shR.nb sh.nb&&(Nat.beq shB.n sh.n&&(Nat.beq shR.n sh.n&&(Nat.beq shB.mv sh.mv&&Nat.beq shR.mv sh.mv))))
theorem qj4(b:Base P orc){f id:Nat}{sh shB shR:Sh}(hl:qe0 P f id=true)(hs:qpx sh shB shR=true){T:sh.data→Tr (Out sh.data shB.data shR.data)}(h:∀d,TrOk (BodyRuns P orc f id sh shB shR d) (T d))
  {code:Code} (hb:qgt id code) (hin:InB P (.top f) code) {d:sh.data} {r:shB.data ⊕ shR.data} (e:itr (fun d=>(T d).val) rounds d=some r):
  qp6 P (.top f) code sh d (endOf (shB.st · none) (shR.st · none) r).1 (endOf (shB.st · none) (shR.st · none) r).2:=by
 simp only[qpx,Bool.and_eq_true]at hs
 obtain⟨s1,s2,s3,s4,s5,s6⟩:=hs
 have body:qm9 P f id (loopBody P f id) sh shB shR (fun d=>(T d).val):=fun d o ho=>qoJ b hl ((h d).val ho)
 rw[qqi hl hb hin]
 exact qnm body (Nat.eq_of_beq_eq_true s1) (Nat.eq_of_beq_eq_true s2) (Nat.eq_of_beq_eq_true s5) (Nat.eq_of_beq_eq_true s6) (Nat.eq_of_beq_eq_true s3) (Nat.eq_of_beq_eq_true s4) e
theorem qbE(b:Base P orc){f id:Nat}{sh shB shR:Sh}(hl:qe0 P f id=true)(hs:qpx sh shB shR=true){T:sh.data→Tr (Out sh.data shB.data shR.data)}(h:∀d,TrOk (BodyRuns P orc f id sh shB shR d) (T d))
  {L:sh.data→Option (shB.data ⊕ shR.data)} (hL:∀d,L d=itr (fun d=>(T d).val) rounds d):
  qay P f id (lcOf sh shB shR L (fun d=>outB shB.dflt (L d)) (fun d=>outR shR.dflt (L d))):=by
 intro code hb hin d x st1 hp ho hd
 have hp:(L d).isSome=true:=hp
 have ho:(match qbg (L d)with
  |false=>some (X.normal,shB.st (outB shB.dflt (L d)) none)
  |true=>some (X.ret,shR.st (outR shR.dflt (L d)) none))=some (x,st1):=ho
 cases e:L d with
 |none=>rw[e]at hp;cases hp
 |some r=>
  have key:=qj4 b hl hs h hb hin ((hL d).symm.trans e)
  rw[e]at ho
  cases r with
  |inl b=>cases ho;exact key
  |inr c=>cases ho;exact key
theorem qaB(b:Base P orc){f id:Nat}{sh shB shR:Sh}(hl:qe0 P f id=true)(hs:qpx sh shB shR=true){T:sh.data→Tr (Out sh.data shB.data shR.data)}(h:∀d,TrOk (BodyRuns P orc f id sh shB shR d) (T d))
  {L:sh.data→Option (shB.data ⊕ shR.data)} (hL:∀d,L d=itr (fun d=>(T d).val) rounds d):
  qay P f id (lcB sh shB shR L (fun d=>outB shB.dflt (L d))):=by
 intro code hb hin d x st1 hp ho hd
 have hp:qa5 (L d)=true:=hp
 have ho:some (X.normal,shB.st (outB shB.dflt (L d)) none)=some (x,st1):=ho
 cases e:L d with
 |none=>rw[e]at hp;cases hp
 |some r=>
  have key:=qj4 b hl hs h hb hin ((hL d).symm.trans e)
  rw[e]at ho hp
  cases r with
  |inl b=>cases ho;exact key
  |inr c=>cases hp
end
structure Known where
 funcs:List (Nat×PureC)
 loops:List (Nat×Nat×LoopC)
def qoN:List (Nat×PureC)→Nat→Option PureC
 |[],_=>none
 |(f,c)::r,g=>match Nat.beq f g with
  |true=>some c
  |false=>qoN r g
def qmM:List (Nat×Nat×LoopC)→Nat→Nat→List LoopC
 |[],_,_=>[]
 |(f,i,c)::r,g,j=>match Nat.beq f g with
  |true=>match Nat.beq i j with
   |true=>c::qmM r g j
   |false=>qmM r g j
  |false=>qmM r g j
def Known.orc(k:Known):Orc:={ call:=qkM (qoN k.funcs),loop:=qk4 (qmM k.loops) }
structure KnownOk(P:Program)(k:Known):Prop where
 plain:Plain P
 mixed:P.follows .mixedOrders=true
 funcs:∀p∈k.funcs,PureOk P p.1 p.2
 loops:∀p∈k.loops,qay P p.1 p.2.1 p.2.2
theorem qi1:∀{l:List (Nat×PureC)}{g:Nat}{c:PureC},qoN l g=some c→(g,c)∈l
 |[],_,_,e=>by cases e
 |(f,c)::r,g,d,e=>by
  simp only[qoN]at e
  split at e
  ·rename_i h;have:=Nat.eq_of_beq_eq_true h;subst this;cases e;exact List.mem_cons_self ..
  ·exact List.mem_cons_of_mem _ (qi1 e)
theorem qe6:∀{l:List (Nat×Nat×LoopC)}{g j:Nat}{c:LoopC},c∈qmM l g j→(g,j,c)∈l
 |[],_,_,_,e=>by cases e
 |(f,i,c)::r,g,j,d,e=>by
  simp only[qmM]at e
  split at e
  ·rename_i h1
   split at e
   ·rename_i h2
    have:=Nat.eq_of_beq_eq_true h1;subst this
    have:=Nat.eq_of_beq_eq_true h2;subst this
    rcases List.mem_cons.1 e with rfl|e
    ·exact List.mem_cons_self ..
    ·exact List.mem_cons_of_mem _ (qe6 e)
   ·exact List.mem_cons_of_mem _ (qe6 e)
  ·exact List.mem_cons_of_mem _ (qe6 e)
theorem KnownOk.base{P:Program}{k:Known}(h:KnownOk P k):Base P k.orc where
 plain:=h.plain
 mixed:=h.mixed
 orc:=⟨qme fun _ _ e=>h.funcs _ (qi1 e),qma fun _ _ _ e=>h.loops _ (qe6 e)⟩
def Known.func(k:Known)(f:Nat)(c:PureC):Known:={ funcs:=(f,c)::k.funcs,loops:=k.loops }
def Known.loop(k:Known)(f id:Nat)(c:LoopC):Known:={ funcs:=k.funcs,loops:=(f,id,c)::k.loops }
theorem KnownOk.func{P:Program}{k:Known}(h:KnownOk P k){f:Nat}{c:PureC}(hc:PureOk P f c):KnownOk P (k.func f c) where
 plain:=h.plain
 mixed:=h.mixed
 funcs:=fun p hp=>by
  rcases List.mem_cons.1 hp with rfl|hp
  ·exact hc
  ·exact h.funcs p hp
 loops:=h.loops
theorem KnownOk.loop{P:Program}{k:Known}(h:KnownOk P k){f id:Nat}{c:LoopC}(hc:qay P f id c):KnownOk P (k.loop f id c) where
 plain:=h.plain
 mixed:=h.mixed
 funcs:=h.funcs
 loops:=fun p hp=>by
  rcases List.mem_cons.1 hp with rfl|hp
  ·exact hc
  ·exact h.loops p hp
end Go.Vm

namespace Go.Vm
open Go
def qnY(L:Lev)(P:Program)(pk:Option Nat)(ops:Array Oper)(ts:List V)(h:H):Option S:=
 match ops[0]? with
 |some o=>match o.op,o.guard with
  |.next x false,none=>match qrn pk (eval ts x) h with
   |some (v,h2)=>qdC L P ops (List.range' 1 (ops.size-1)) { ts:=putT ts o.dst v,dfs:=[],h:=h2 }
   |none=>none
  |_,_=>none
 |none=>none
def qk9(orc:Orc)(P:Program)(n f:Nat)(pk:Option Nat)(body:Code)(ts:List V)(h:H):Option (X×SQ):=
 match body with
 |.seq (.region _ ops false) rest=>match qnY (qj9 (qeB P) orc P n) P pk ops ts h with
  |some st=>match st with
   |{ ts,dfs,h }=>(qdH orc P n).exec (.top f) rest { ts:=.of ts,dfs:=dfs,h:=h }
  |none=>none
 |_=>none
def qn4(orc:Orc)(P:Program)(n f id:Nat)(sh shB shR:Sh)(pk:Option Nat)(d:sh.data)(ans:List Bool):Option (Out sh.data shB.data shR.data×List (Bool×Bool)):=
 match qk9 orc P n f pk (loopBody P f id) (sh.ts d) (sh.h d (some ans))with
 |some (x,st)=>match outOf sh shB shR id x st with
  |some o=>some (o,qk8 sh shB shR x st st.h.said)
  |none=>none
 |none=>none
def PickRuns(P:Program)(orc:Orc)(f id:Nat)(sh shB shR:Sh)(pk:Option Nat)(d:sh.data)(o:Out sh.data shB.data shR.data):Prop:=
 ∃n ans said,qn4 orc P n f id sh shB shR pk d ans=some (o,said)∧All said
theorem PickRuns.of{P:Program}{orc:Orc}{n f id:Nat}{sh shB shR:Sh}{pk:Option Nat}{d:sh.data}{o:Out sh.data shB.data shR.data}{ans:List Bool}{said:List (Bool×Bool)}(e:qn4 orc P n f id sh shB shR pk d ans=some (o,said))(h:All said):PickRuns P orc f id sh shB shR pk d o:=⟨n,ans,said,e,h⟩
def PickCode(P:Program)(f:Nat)(pk:Option Nat)(body:Code)(ts:List V)(h:H)(x:X)(st':S):Prop:=
 ∃rid ops rest o y g v h2 st1 L,h.Same g∧body=.seq (.region rid ops false) rest∧ops[0]?=some o∧o.op=.next y false∧o.guard=none∧qrn pk (eval ts y) g=some (v,h2) ∧
  LevOk P L∧qdC L P ops (List.range' 1 (ops.size-1)) { ts:=putT ts o.dst v,dfs:=[],h:=h2 }=some st1∧st1.h.Holds∧Runs P (.top f) rest st1 x st'
section
variable {P:Program} {orc:Orc}
theorem PickCode.of_q(b:Base P orc){n f id:Nat}(hl:qe0 P f id=true){pk:Option Nat}{ts:List V}{h g:H}{x:X}{st:SQ}(s:h.Same g)(e:qk9 orc P n f pk (loopBody P f id) ts g=some (x,st))(ha:st.h.Holds):
  PickCode P f pk (loopBody P f id) ts h x st.real:=by
 have hin:=qnF hl
 generalize loopBody P f id=body at e hin
 unfold qk9 at e
 split at e
 ·rename_i rid ops rest
  split at e
  ·rename_i st1 hst
   obtain⟨ts1,dfs1,h1⟩:=st1
   dsimp only at e
   have hr:=Runs.of_q b (InB.sub hin (.seqR (.refl _))) e ha
   have hreal:({ ts:=.of ts1,dfs:=dfs1,h:=h1 }:SQ).real={ ts:=ts1,dfs:=dfs1,h:=h1 }:=by simp only[SQ.real,Slots.of_list]
   rw[hreal]at hr
   have hh1:h1.Holds:=by
    have e2:=(qd4 orc P n).some e
    rw[hreal]at e2
    exact((b.lev n).exec _ _ _ _ _ (InB.sub hin (.seqR (.refl _))) e2 ha).1
   unfold qnY at hst
   split at hst
   ·rename_i o h0
    split at hst
    ·rename_i y hop hg
     split at hst
     ·rename_i v h2 hv
      exact⟨rid,ops,rest,o,y,g,v,h2,_,_,s,rfl,h0,hop,hg,hv,b.lev n,hst,hh1,hr⟩
     ·cases hst
    ·cases hst
   ·cases hst
  ·cases e
 ·cases e
def EndsN{A B C:Type}(step:Option Nat→A→Option (Out A B C))(left:A→List Nat):Nat→A→B ⊕ C→Prop
 |0,_,_=>False
 |m+1,d,r=>∀pk,qpX (left d) pk→match step pk d with
  |some (.again d')=>EndsN step left m d' r
  |some (.brk b)=>r=.inl b
  |some (.ret c)=>r=.inr c
  |none=>False
variable {f id:Nat} {body:Code} {sh shB shR:Sh} {step:Option Nat→sh.data→Option (Out sh.data shB.data shR.data)} {left:sh.data→List Nat}
end
end Go.Vm

namespace Go.Vm
open Go
def chkN{A B C:Type}(step:Option Nat→A→Option (Out A B C))(left:A→List Nat)(eq:B ⊕ C→Bool):Nat→A→Bool
 |0,_=>false
 |m+1,d=>match left d with
  |[]=>match step none d with
   |some (.again d')=>chkN step left eq m d'
   |some (.brk b)=>eq (.inl b)
   |some (.ret c)=>eq (.inr c)
   |none=>false
  |l=>l.all fun i=>match step (some i) d with
   |some (.again d')=>chkN step left eq m d'
   |some (.brk b)=>eq (.inl b)
   |some (.ret c)=>eq (.inr c)
   |none=>false
theorem EndsN.more{A B C:Type}{step:Option Nat→A→Option (Out A B C)}{left:A→List Nat}{r:B ⊕ C}:∀{m n:Nat}{d:A},EndsN step left m d r→m≤n→EndsN step left n d r
 |0,_,_,h,_=>h.elim
 |m+1,0,_,_,hl=>absurd hl (by omega)
 |m+1,n+1,d,h,hl=>by
  intro pk hp
  have:=h pk hp
  revert this
  cases step pk d with
  |none=>exact id
  |some o=>cases o with
   |again d'=>exact fun k=>EndsN.more k (by omega)
   |brk b=>exact id
   |ret c=>exact id
theorem qjk{A B C:Type}{step:Option Nat→A→Option (Out A B C)}{left:A→List Nat}{eq:B ⊕ C→Bool}{r:B ⊕ C}(he:∀x,eq x=true→r=x):∀{m:Nat}{d:A},chkN step left eq m d=true→EndsN step left m d r
 |0,_,h=>by cases h
 |m+1,d,h=>by
  intro pk hp
  simp only[chkN]at h
  have go:∀pk,(match step pk d with
   |some (.again d')=>chkN step left eq m d'
   |some (.brk b)=>eq (.inl b)
   |some (.ret c)=>eq (.inr c)
   |none=>false)=true→match step pk d with
    |some (.again d')=>EndsN step left m d' r
    |some (.brk b)=>r=.inl b
    |some (.ret c)=>r=.inr c
    |none=>False:=by
   intro pk
   cases step pk d with
   |none=>intro h;cases h
   |some o=>cases o with
    |again d'=>exact fun h=>qjk he h
    |brk b=>exact fun h=>he _ h
    |ret c=>exact fun h=>he _ h
  split at h
  ·rename_i hl
   cases pk with
   |none=>exact go none h
   |some i=>
    have hp:i∈left d:=hp
    rw[hl]at hp;cases hp
  ·rename_i hne
   cases pk with
   |none=>
    have hp:left d=[]:=hp
    exact absurd hp hne
   |some i=>
    have hp:i∈left d:=hp
    exact go (some i) (List.all_eq_true.1 h i hp)
def qrF:List Nat→Option Nat
 |[]=>none
 |i::_=>some i
def qrB{A B C:Type}(step:Option Nat→A→Option (Out A B C))(left:A→List Nat)(eq:B ⊕ C→B ⊕ C→Bool)(m:Nat)(d:A):Option (B ⊕ C):=
 match itr (fun d=>step (qrF (left d)) d) m d with
 |some r=>match chkN step left (eq r) m d with
  |true=>some r
  |false=>none
 |none=>none
theorem qqN{A B C:Type}{step:Option Nat→A→Option (Out A B C)}{left:A→List Nat}{eq:B ⊕ C→B ⊕ C→Bool}(he:∀x y,eq x y=true→x=y){m:Nat}(hm:m≤rounds){d:A}{r:B ⊕ C}(h:qrB step left eq m d=some r):EndsN step left rounds d r:=by
 unfold qrB at h
 split at h
 ·rename_i r' h1
  split at h
  ·rename_i h2
   cases h
   exact(qjk (he r) h2).more hm
  ·cases h
 ·cases h
def qpi{A B C:Type}(step:Option Nat→A→Option (Out A B C))(left:A→List Nat)(d:A):List (Option (Out A B C)):=
 match left d with
 |[]=>[step none d]
 |l=>l.map fun i=>step (some i) d
theorem qoF{A B C:Type}{step:Option Nat→A→Option (Out A B C)}{left:A→List Nat}{d:A}{pk:Option Nat}(hp:qpX (left d) pk):step pk d∈qpi step left d:=by
 unfold qpi
 cases pk with
 |none=>
  have hp:left d=[]:=hp
  rw[hp]
  exact List.mem_singleton.2 rfl
 |some i=>
  have hp:i∈left d:=hp
  split
  ·rename_i hl;rw[hl]at hp;cases hp
  ·exact List.mem_map.2 ⟨i,hp,rfl⟩
def qrQ{A B C:Type}(eq:B ⊕ C→Bool):Option (Out A B C)→Bool
 |some (.again _)=>true
 |some (.brk b)=>eq (.inl b)
 |some (.ret c)=>eq (.inr c)
 |none=>false
def insL{A B C:Type}(cn:A→A)(same:A→A→Bool)(acc:List A):Option (Out A B C)→List A
 |some (.again d)=>match acc.any (same (cn d))with
  |true=>acc
  |false=>cn d::acc
 |_=>acc
def qlL{A B C:Type}(step:Option Nat→A→Option (Out A B C))(left:A→List Nat)(cn:A→A)(same:A→A→Bool)(eq:B ⊕ C→Bool):Nat→List A→Bool
 |0,_=>false
 |m+1,ds=>match ds.flatMap (qpi step left)with
  |os=>match os.all (qrQ eq)with
   |true=>match os.foldl (insL cn same) []with
    |[]=>true
    |nx=>qlL step left cn same eq m nx
   |false=>false
theorem qnw{A B C:Type}{cn:A→A}{same:A→A→Bool}{acc:List A}{x:A}(h:x∈acc)(o:Option (Out A B C)):x∈insL cn same acc o:=by
 unfold insL
 split
 ·split
  ·exact h
  ·exact List.mem_cons_of_mem _ h
 ·exact h
theorem qhx{A B C:Type}{cn:A→A}{same:A→A→Bool}{x:A}:∀(os:List (Option (Out A B C)))(acc:List A),x∈acc→x∈os.foldl (insL cn same) acc
 |[],_,h=>h
 |o::os,acc,h=>qhx os _ (qnw h o)
theorem qjM{A B C:Type}{cn:A→A}{same:A→A→Bool}(hs:∀a b,same a b=true→a=b){d:A}:∀(os:List (Option (Out A B C)))(acc:List A),some (.again d)∈os→cn d∈os.foldl (insL cn same) acc
 |o::os,acc,h=>by
  rcases List.mem_cons.1 h with rfl|h
  ·refine qhx os _ ?_
   unfold insL
   dsimp only
   split
   ·rename_i ha
    obtain⟨b,h1,h2⟩:=List.any_eq_true.1 ha
    rw[hs _ _ h2];exact h1
   ·exact List.mem_cons_self ..
  ·exact qjM hs os _ h
theorem qhg{A B C:Type}{step:Option Nat→A→Option (Out A B C)}{left:A→List Nat}{cn:A→A}{same:A→A→Bool}{eq:B ⊕ C→Bool}{r:B ⊕ C}(he:∀x,eq x=true→r=x)(hs:∀a b,same a b=true→a=b)(hc:∀m d,EndsN step left m (cn d) r→EndsN step left m d r):
  ∀{m:Nat}{ds:List A},qlL step left cn same eq m ds=true→∀d∈ds,EndsN step left m d r
 |0,_,h,_,_=>by cases h
 |m+1,ds,h,d,hd=>by
  intro pk hp
  simp only[qlL]at h
  have hmem:step pk d∈ds.flatMap (qpi step left):=List.mem_flatMap.2 ⟨d,hd,qoF hp⟩
  split at h
  ·rename_i hall
   have ho:=List.all_eq_true.1 hall _ hmem
   cases hst:step pk d with
   |none=>rw[hst]at ho;cases ho
   |some o=>cases o with
    |brk b=>rw[hst]at ho;exact he _ ho
    |ret c=>rw[hst]at ho;exact he _ ho
    |again d'=>
     rw[hst]at hmem
     have hin:=qjM (cn:=cn) hs _ [] hmem
     split at h
     ·rename_i hnil;rw[hnil]at hin;cases hin
     ·exact hc _ _ (qhg he hs hc h _ hin)
  ·cases h
def qrj{A B C:Type}(step:Option Nat→A→Option (Out A B C))(left:A→List Nat)(cn:A→A)(same:A→A→Bool)(eq:B ⊕ C→B ⊕ C→Bool)(m:Nat)(d:A):Option (B ⊕ C):=
 match itr (fun d=>step (qrF (left d)) d) m d with
 |some r=>match qlL step left cn same (eq r) m [d]with
  |true=>some r
  |false=>none
 |none=>none
theorem qqO{A B C:Type}{step:Option Nat→A→Option (Out A B C)}{left:A→List Nat}{cn:A→A}{same:A→A→Bool}{eq:B ⊕ C→B ⊕ C→Bool}(he:∀x y,eq x y=true→x=y)(hs:∀a b,same a b=true→a=b)(hc:∀m d r,EndsN step left m (cn d) r→EndsN step left m d r){m:Nat}(hm:m≤rounds){d:A}{r:B ⊕ C}(h:qrj step left cn same eq m d=some r):EndsN step left rounds d r:=by
 unfold qrj at h
 split at h
 ·rename_i r' h1
  split at h
  ·rename_i h2
   cases h
   exact(qhg (he r) hs (fun m d=>hc m d r) h2 d (List.mem_singleton.2 rfl)).more hm
  ·cases h
 ·cases h
def qi4(i:Nat):List Nat→List Nat
 |[]=>[i]
 |j::l=>match Nat.ble i j with
  |true=>i::j::l
  |false=>j::qi4 i l
def qkt:List Nat→List Nat
 |[]=>[]
 |i::l=>qi4 i (qkt l)
theorem qhE(i k:Nat):∀l:List Nat,k∈qi4 i l↔k=i∨k∈l
 |[]=>by simp[qi4]
 |j::l=>by
  simp only[qi4]
  split
  ·simp
  ·simp only[List.mem_cons,qhE i k l]
   exact⟨fun h=>by rcases h with h|h|h<;>simp[h],fun h=>by rcases h with h|h|h<;>simp[h]⟩
theorem qkr(k:Nat):∀l:List Nat,k∈qkt l↔k∈l
 |[]=>Iff.rfl
 |i::l=>by simp only[qkt,qhE,qkr k l,List.mem_cons]
def Tr.map{R S:Type}(f:R→S):Tr R→Tr S
 |.fin r=>.fin (f r)
 |.stop=>.stop
 |.test b y n=>.test b (y.map f) (n.map f)
theorem Tr.map_val{R S:Type}(f:R→S):∀t:Tr R,(t.map f).val=t.val.map f
 |.fin r=>rfl
 |.stop=>rfl
 |.test b y n=>by
  simp only[Tr.map]
  have h1:=Tr.map_val f y
  have h2:=Tr.map_val f n
  cases b with
  |true=>exact h1
  |false=>exact h2
end Go.Vm

namespace Go.Vm
open Go
def Tr.go{R:Type}:Tr R→List Bool→List (Bool×Bool)→Option (R×List (Bool×Bool))
 |.fin r,_,C=>some (r,C)
 |.stop,_,_=>none
 |.test _ _ _,[],_=>none
 |.test b y n,a::s,C=>match a with
  |true=>y.go s ((b,true)::C)
  |false=>n.go s ((b,false)::C)
def qp8(C:List (Bool×Bool))(k:Nat):Bool×Bool:=
 match k with
 |0=>(false,false)
 |1=>(true,true)
 |k+2=>let p:=C.getD (k/2) (true,true);if k%2=0 then p else(!p.1,!p.2)
def sayOf(C:List (Bool×Bool)):List Nat→List (Bool×Bool)
 |[]=>[]
 |k::r=>qp8 C k::sayOf C r
theorem qo6{C:List (Bool×Bool)}(h:∀p∈C,p.1=p.2)(k:Nat):(qp8 C k).1=(qp8 C k).2:=by
 have g:∀i,(C.getD i (true,true)).1=(C.getD i (true,true)).2:=by
  intro i
  by_cases hi:i<C.length
  ·have:C.getD i (true,true)=C[i]:=by simp[List.getD,hi]
   rw[this]
   exact h _ (List.getElem_mem hi)
  ·have:C.getD i (true,true)=(true,true):=by simp[List.getD,hi]
   rw[this]
 match k with
 |0=>rfl
 |1=>rfl
 |k+2=>
  have:=g (k/2)
  show(if k%2=0 then C.getD (k/2) (true,true)else(!(C.getD (k/2) (true,true)).1,!(C.getD (k/2) (true,true)).2)).1=(if k%2=0 then C.getD (k/2) (true,true)else(!(C.getD (k/2) (true,true)).1,!(C.getD (k/2) (true,true)).2)).2
  split
  ·exact this
  ·show(!_)=(!_)
   rw[this]
theorem qlx{C:List (Bool×Bool)}(h:∀p∈C,p.1=p.2):∀l,All (sayOf C l)
 |[]=>trivial
 |k::r=>⟨qo6 h k,qlx h r⟩
def Tr.walk{R:Type}(t:Tr R)(s:List Bool)(p:List Nat):Option (R×List (Bool×Bool)):=
 match t.go s []with
 |some (r,C)=>some (r,sayOf C.reverse p)
 |none=>none
def ansAt(s:List Bool)(k:Nat):Bool:=
 match k with
 |0=>false
 |1=>true
 |k+2=>let p:=s.getD (k/2) true;match k%2 with
  |0=>p
  |_=>!p
def qrA(s:List Bool):List Nat→List Bool→List Bool
 |[],acc=>acc
 |k::r,acc=>qrA s r (ansAt s k::acc)
def Walks{R:Type}(run:List Bool→Option (R×List (Bool×Bool)))(t:Tr R):List (List Bool×List Nat)→Prop
 |[]=>True
 |(s,p)::r=>run (qrA s p [])=t.walk s p∧Walks run t r
theorem Walks.at{R:Type}{run:List Bool→Option (R×List (Bool×Bool))}{t:Tr R}:∀{ls:List (List Bool×List Nat)},Walks run t ls→∀l∈ls,∃ans,run ans=t.walk l.1 l.2
 |(s,p)::r,h,l,hl=>by
  rcases List.mem_cons.1 hl with rfl|hl
  ·exact⟨_,h.1⟩
  ·exact Walks.at h.2 l hl
def Tr.fits{R:Type}:Tr R→List (List Bool×List Nat)→List Bool→Bool
 |.fin _,L,s=>L.any fun l=>l.1==s.reverse
 |.stop,_,_=>true
 |.test _ y n,L,s=>y.fits L (true::s)&&n.fits L (false::s)
theorem Walks.aux{R:Type}{Q:R→Prop}{run:List Bool→Option (R×List (Bool×Bool))}(hQ:∀ans r said,run ans=some (r,said)→All said→Q r){t:Tr R}{ls:List (List Bool×List Nat)}(e:Walks run t ls):
  ∀(u:Tr R)(s:List Bool)(C:List (Bool×Bool)),(∀s',t.go (s.reverse++s') []=u.go s' C)→All C→u.fits ls s=true→TrOk Q u
 |.fin r,s,C,h,hC,hf=>by
  obtain⟨l,hl,hs⟩:=List.any_eq_true.1 hf
  have hs:=eq_of_beq hs
  obtain⟨ans,ha⟩:=e.at l hl
  have hg:t.go l.1 []=some (r,C):=by
   have:=h []
   rw[List.append_nil]at this
   rw[hs,this];rfl
  rw[Tr.walk,hg]at ha
  exact hQ _ _ _ ha (qlx (fun p hp=>hC.holds p (List.mem_reverse.1 hp)) _)
 |.stop,_,_,_,_,_=>trivial
 |.test b y n,s,C,h,hC,hf=>by
  have hf:(y.fits ls (true::s)&&n.fits ls (false::s))=true:=hf
  rw[Bool.and_eq_true]at hf
  refine⟨fun hb=>Walks.aux hQ e y (true::s) ((b,true)::C) (fun s'=>?_) ⟨hb,hC⟩ hf.1,fun hb=>Walks.aux hQ e n (false::s) ((b,false)::C) (fun s'=>?_) ⟨hb,hC⟩ hf.2⟩
  ·rw[List.reverse_cons,List.append_assoc];exact h (true::s')
  ·rw[List.reverse_cons,List.append_assoc];exact h (false::s')
theorem Walks.ok{R:Type}{Q:R→Prop}{run:List Bool→Option (R×List (Bool×Bool))}(hQ:∀ans r said,run ans=some (r,said)→All said→Q r){t:Tr R}{ls:List (List Bool×List Nat)}(e:Walks run t ls)(hf:t.fits ls []=true):TrOk Q t:=
 Walks.aux hQ e t [] [] (fun _=>rfl) trivial hf
theorem Walks.append{R:Type}{run:List Bool→Option (R×List (Bool×Bool))}{t:Tr R}:∀{a b:List (List Bool×List Nat)},Walks run t a→Walks run t b→Walks run t (a++b)
 |[],_,_,k=>k
 |(_,_)::_,_,h,k=>⟨h.1,Walks.append h.2 k⟩
def bl:Nat→Nat→List Bool
 |0,_=>[]
 |k+1,n=>Nat.beq (n%2) 1::bl k (n/2)
def pk:Nat→Nat→Nat→List Nat→List Nat
 |0,_,_,T=>T
 |k+1,x,n,T=>match n%32 with
  |0=>0::pk k x (n/32) T
  |1=>1::pk k x (n/32) T
  |d=>2*(x+d-16)::pk k (x+d-16) (n/32) T
theorem wP{P:Program}{orc:Orc}{n f:Nat}{us rs:List Ty}{d:Tys.data us}{t:Tr (Tys.data rs)}{ls:List (List Bool×List Nat)}(e:Walks (runPure orc P n f us rs d) t ls)(h:t.fits ls []=true):TrOk (PureRuns P orc f us rs d) t:=Walks.ok (fun _ _ _=>PureRuns.of) e h
theorem wB{P:Program}{orc:Orc}{n f id:Nat}{sh shB shR:Sh}{d:sh.data}{t:Tr (Out sh.data shB.data shR.data)}{ls:List (List Bool×List Nat)}(e:Walks (qap orc P n f id sh shB shR d) t ls)(h:t.fits ls []=true):TrOk (BodyRuns P orc f id sh shB shR d) t:=Walks.ok (fun _ _ _=>BodyRuns.of) e h
end Go.Vm

namespace Go.Vm
open Go
def qcD(P:Program)(rec:TypeId→Option Ty):List Field→Nat→Nat→Option Ty
 |[],o,m=>match Nat.beq o m with
  |true=>some .unit
  |false=>none
 |f::fs,o,m=>match rec f.type with
  |none=>none
  |some a=>match Nat.beq f.offset o&&Nat.beq (P.cellsOf f.type) a.cells with
   |false=>none
   |true=>match qcD P rec fs (o+a.cells) m with
    |some b=>some (.pair a b)
    |none=>none
def qfK(P:Program):Nat→TypeId→Option Ty
 |0,_=>none
 |n+1,t=>match P.underlying t with
  |some .bool=>some .bool
  |some (.int k)=>some (.int k)
  |some .string=>some .str
  |some (.slice e)=>match qfK P n e with
   |none=>none
   |some u=>match Nat.beq (P.cellsOf e) u.cells&&Nat.ble 1 u.cells with
    |true=>some (.slice u)
    |false=>none
  |some (.struct fs)=>qcD P (qfK P n) fs.toList 0 (P.cellsOf t)
  |some (.array m e)=>match qfK P n e with
   |none=>none
   |some u=>match Nat.beq (P.cellsOf e) u.cells&&Nat.beq (P.cellsOf t) (m*u.cells)with
    |true=>some ((List.replicate m u).foldr .pair .unit)
    |false=>none
  |_=>none
def Ty.Wf:(t:Ty)→t.data→Prop
 |.int k,n=>(k.min:Int)≤(show Int from n)∧(show Int from n)≤(k.max:Int)
 |.bool,_=>True
 |.str,s=>ByteArray.size s≤maxLen
 |.unit,_=>True
 |.pair a b,d=>a.Wf d.1∧b.Wf d.2
 |.slice t,l=>List.length l≤maxLen∧∀x∈(show List t.data from l),t.Wf x
def qdF(w:World):Frozen:=fun k=>match w.heap[k]? with
 |some (.cells c _ _)=>some c
 |_=>none
theorem qpC(w:World):FzOk (qdF w) w:=by
 intro k c h
 unfold qdF at h
 split at h
 ·rename_i c' t z hw
  cases h
  exact⟨_,_,_,hw,Begins.refl _⟩
 ·cases h
theorem qnQ{α:Type}{p:Nat→α→Prop}:∀n,(∀i,i<n→∃x,p i x)→∃l:List α,l.length=n∧∀(i:Nat)(x:α),l[i]?=some x→p i x
 |0,_=>⟨[],rfl,fun i x h=>by simp at h⟩
 |n+1,h=>by
  obtain⟨l,h1,h2⟩:=qnQ n fun i hi=>h i (by omega)
  obtain⟨x,hx⟩:=h n (by omega)
  refine⟨l++[x],by simp[h1],fun i y hy=>?_⟩
  rcases Nat.lt_or_ge i l.length with hi|hi
  ·rw[List.getElem?_append_left hi]at hy
   exact h2 i y hy
  ·rw[List.getElem?_append_right hi]at hy
   have:i-l.length=0:=by
    rcases Nat.eq_zero_or_pos (i-l.length)with h0|h0
    ·exact h0
    ·rw[List.getElem?_eq_none (by simp;omega)]at hy;cases hy
   rw[this]at hy
   cases hy
   have:i=n:=by omega
   subst this
   exact hx
theorem qgg{α β:Type}{f:α→Option β}:∀{l:List α}{r:List β},l.mapM f=some r→r.length=l.length∧∀(i:Nat)(x:α),l[i]?=some x→f x=r[i]?
 |[],r,h=>by
  simp at h
  subst h
  exact⟨rfl,fun i x hx=>by simp at hx⟩
 |a::l,r,h=>by
  rw[List.mapM_cons]at h
  cases e:f a with
  |none=>rw[e]at h;cases h
  |some y=>
   rw[e]at h
   cases e2:l.mapM f with
   |none=>rw[e2]at h;cases h
   |some r'=>
    rw[e2]at h
    cases h
    obtain⟨k1,k2⟩:=qgg e2
    refine⟨by simp[k1],fun i x hx=>?_⟩
    cases i with
    |zero=>simp at hx;subst hx;simpa using e
    |succ i=>simp at hx;simpa using k2 i x hx
theorem qnh{w:World}{base:Nat}{a:Addr}{n:Nat}{cs:List Value}(h:w.cells? base a n=some cs):cs.length=n∧∀i,i<n→w.cell? (a.add i)=cs[i]?:=by
 unfold World.cells? at h
 split at h
 ·obtain⟨h1,h2⟩:=qgg h
  exact⟨by simpa using h1,fun i hi=>h2 i i (by simp[hi])⟩
 ·cases h
theorem qj6{w:World}{a:Addr}{v:Value}(h:w.cell? a=some v):∃c t z,w.heap[a.block]?=some (.cells c t z)∧a.spot=none∧c[a.off]?=some v:=by
 unfold World.cell? at h
 split at h
 ·rename_i c t z hw
  split at h
  ·cases h
  ·rename_i hs
   refine⟨c,t,z,hw,?_,h⟩
   cases hs':a.spot with
   |none=>rfl
   |some x=>rw[hs']at hs;simp at hs
 ·cases h
theorem Addr.add_add(a:Addr)(m n:Nat):(a.add m).add n=a.add (m+n):=by
 unfold Addr.add
 by_cases h1:m=0<;>by_cases h2:n=0<;>simp[h1,h2,Nat.add_assoc]
theorem Addr.add_off(a:Addr)(n:Nat)(h:a.spot=none):a.add n=⟨a.block,a.off+n,none⟩:=by
 obtain⟨b,o,s⟩:=a
 simp only at h
 subst h
 unfold Addr.add
 split
 ·rename_i h;subst h;rfl
 ·rfl
section
variable {H:Type} {enc:TypeId×Value→H} {P:Program} {w:World} {base:Nat} {sp:Nat→Bool} {held:Bool}
theorem qha{rec:TypeId→Option Ty}{rd:TypeId→List Value→Option (DataW H×List MemPlace)}(ih:∀{t:TypeId}{u:Ty}{cs:List Value}{x},rec t=some u→rd t cs=some x→∃dd:u.data,DRel (qdF w) u dd cs∧u.Wf dd):
  ∀{fs:List Field}{o m:Nat}{u:Ty}{cs:List Value}{xs},qcD P rec fs o m=some u→cs.length=m→fs.mapM (fun f=>rd f.type ((cs.drop f.offset).take (P.cellsOf f.type)))=some xs→∃dd:u.data,DRel (qdF w) u dd (cs.drop o)∧u.Wf dd
 |[],o,m,u,cs,xs,hu,hl,h=>by
  simp only[qcD]at hu
  split at hu
  ·rename_i he
   cases hu
   have:=Nat.eq_of_beq_eq_true he
   refine⟨(),?_,trivial⟩
   show cs.drop o=[]
   exact List.drop_of_length_le (by omega)
  ·cases hu
 |f::fs,o,m,u,cs,xs,hu,hl,h=>by
  simp only[qcD]at hu
  split at hu
  ·cases hu
  ·rename_i a ha
   split at hu
   ·cases hu
   ·rename_i hc
    simp only[Bool.and_eq_true]at hc
    have c1:=Nat.eq_of_beq_eq_true hc.1
    have c2:=Nat.eq_of_beq_eq_true hc.2
    split at hu
    ·rename_i b hb
     cases hu
     rw[List.mapM_cons]at h
     cases e:rd f.type ((cs.drop f.offset).take (P.cellsOf f.type))with
     |none=>rw[e]at h;cases h
     |some y=>
      rw[e]at h
      cases e2:fs.mapM (fun f=>rd f.type ((cs.drop f.offset).take (P.cellsOf f.type)))with
      |none=>rw[e2]at h;cases h
      |some r=>
       obtain⟨d1,k1,k2⟩:=ih ha e
       obtain⟨d2,k3,k4⟩:=qha ih hb hl e2
       refine⟨(d1,d2),⟨_,_,?_,k1,k3⟩,k2,k4⟩
       rw[c1,c2,←List.drop_drop]
       exact(List.take_append_drop _ _).symm
    ·cases hu
theorem qhD{u:Ty}{rd:List Value→Option (DataW H×List MemPlace)}(ih:∀{cs:List Value}{x},rd cs=some x→∃dd:u.data,DRel (qdF w) u dd cs∧u.Wf dd){c:Nat}(hc:c=u.cells){cs:List Value}:
  ∀(m o:Nat),cs.length=o+m*u.cells→(∀i,i<m→∃x,rd ((cs.drop (o+i*c)).take c)=some x)→∃dd:((List.replicate m u).foldr Ty.pair .unit).data,DRel (qdF w) _ dd (cs.drop o)∧Ty.Wf _ dd
 |0,o,hl,_=>by
  refine⟨(),?_,trivial⟩
  show cs.drop o=[]
  exact List.drop_of_length_le (by omega)
 |m+1,o,hl,h=>by
  obtain⟨x,hx⟩:=h 0 (by omega)
  obtain⟨d1,k1,k2⟩:=ih hx
  have hm:(m+1)*u.cells=m*u.cells+u.cells:=Nat.succ_mul _ _
  obtain⟨d2,k3,k4⟩:=qhD ih hc (cs:=cs) m (o+u.cells) (by omega) fun i hi=>by
   obtain⟨y,hy⟩:=h (i+1) (by omega)
   refine⟨y,?_⟩
   rw[←hy]
   congr 2
   rw[hc,Nat.succ_mul];congr 1;omega
  refine⟨(d1,d2),⟨_,_,?_,k1,k3⟩,k2,k4⟩
  rw[Nat.zero_mul,Nat.add_zero,hc,←List.drop_drop]
  exact(List.take_append_drop _ _).symm
theorem qeW:∀{n fuel:Nat}{t:TypeId}{u:Ty}{cs:List Value}{x:DataW H×List MemPlace},qfK P n t=some u→DataW.trod enc P w base sp held fuel t cs=some x→∃dd:u.data,DRel (qdF w) u dd cs∧u.Wf dd
 |0,_,_,_,_,_,hu,_=>by cases hu
 |n+1,0,_,_,_,_,_,h=>by cases h
 |n+1,fuel+1,t,u,cs,x,hu,h=>by
  unfold qfK at hu
  unfold DataW.trod at h
  cases hP:P.underlying t with
  |none=>rw[hP]at hu;cases hu
  |some td=>
   rw[hP]at hu h
   cases td with
   |bool=>
    cases hu
    split at h<;>first|(rename_i hq;simp only[Option.some.injEq,reduceCtorEq]at hq;done)|skip
    ·rename_i b _
     exact⟨b,rfl,trivial⟩
    ·cases h
   |int k=>
    cases hu
    split at h<;>first|(rename_i hq;simp only[Option.some.injEq,reduceCtorEq]at hq;done)|skip
    ·rename_i k0 k' i hq
     cases hq
     split at h
     ·rename_i hk
      obtain⟨rfl,hw⟩:=hk
      simp only[Lit.wf,Bool.and_eq_true,decide_eq_true_eq]at hw
      exact⟨i,rfl,hw⟩
     ·cases h
    ·cases h
   |string=>
    cases hu
    split at h<;>first|(rename_i hq;simp only[Option.some.injEq,reduceCtorEq]at hq;done)|skip
    ·rename_i s _
     split at h
     ·rename_i hk
      exact⟨s,rfl,hk⟩
     ·cases h
    ·cases h
   |slice e=>
    dsimp only at hu
    split at hu
    ·cases hu
    ·rename_i u hue
     split at hu
     ·rename_i hc
      cases hu
      simp only[Bool.and_eq_true]at hc
      have c1:=Nat.eq_of_beq_eq_true hc.1
      have c2:=Nat.le_of_ble_eq_true hc.2
      split at h<;>first|(rename_i hq;simp only[Option.some.injEq,reduceCtorEq]at hq;done)|skip
      ·exact⟨[],⟨none,0,0,rfl,Nat.le_refl _,rfl,.inl rfl⟩,Nat.zero_le _,fun x hx=>by cases hx⟩
      ·rename_i e' a len cap hq
       cases hq
       split at h
       ·rename_i hlen
        dsimp only at h
        cases he:(List.range len).mapM fun i=>(w.cells? base (a.add (i*P.cellsOf e)) (P.cellsOf e)).bind (DataW.trod enc P w base sp held fuel e)with
        |none=>rw[he]at h;cases h
        |some els=>
         obtain⟨g1,g2⟩:=qgg he
         have hel:∀i,i<len→∃(d:u.data),u.Wf d∧∃cs:List Value,DRel (qdF w) u d cs∧cs.length=u.cells∧∀j,j<u.cells→w.cell? (a.add (i*u.cells+j))=cs[j]?:=by
          intro i hi
          have hg:=g2 i i (by simp[hi])
          have hlt:i<els.length:=by rw[g1];simpa using hi
          rw[List.getElem?_eq_getElem hlt]at hg
          cases hcs:w.cells? base (a.add (i*P.cellsOf e)) (P.cellsOf e)with
          |none=>rw[hcs]at hg;cases hg
          |some cs=>
           rw[hcs]at hg
           obtain⟨d,k1,k2⟩:=qeW hue hg
           obtain⟨q1,q2⟩:=qnh hcs
           rw[c1]at q1 q2
           exact⟨d,k2,cs,k1,q1,fun j hj=>by rw[←q2 j hj,Addr.add_add]⟩
         obtain⟨l,l1,l2⟩:=qnQ len hel
         refine⟨l,⟨some a,len,cap,rfl,hlen.2.1,l1.symm,?_⟩,?_,?_⟩
         ·rcases Nat.eq_zero_or_pos len with h0|h0
          ·exact .inl (List.eq_nil_of_length_eq_zero (by omega))
          ·right
           have hd0:l[0]?=some (l[0]'(by omega)):=by simp
           obtain⟨_,cs0,_,s1,s2⟩:=l2 _ _ hd0
           have hv0:cs0[0]?=some (cs0[0]'(by omega)):=by simp
           have hc0:=s2 0 (by omega)
           rw[hv0]at hc0
           have ha0:a.add (0*u.cells+0)=a:=by simp[Addr.add]
           rw[ha0]at hc0
           obtain⟨c,tt,z,hw,hs,_⟩:=qj6 hc0
           have hfz:qdF w a.block=some c:=by simp only[qdF,hw]
           have hlies:LiesIn (DRel (qdF w) u) u.cells l c a.off:=by
            intro i d hi
            obtain⟨_,cs,r1,r2,r3⟩:=l2 i d hi
            refine⟨cs,r1,r2,fun j v hj=>?_⟩
            have hj':j<u.cells:=by rw[←r2];exact(List.getElem?_eq_some_iff.1 hj).1
            have hc:=r3 j hj'
            rw[hj,Addr.add_off a _ hs]at hc
            obtain⟨c',t',z',hw',_,hcv⟩:=qj6 hc
            rw[hw]at hw';cases hw'
            have hcv:c[a.off+(i*u.cells+j)]?=some v:=hcv
            rw[←hcv,Nat.add_assoc]
           refine⟨a.block,a.off,c,?_,hfz,?_,hlies⟩
           ·obtain⟨b,o,s⟩:=a;simp only at hs;rw[hs]
           ·have hl1:l[len-1]?=some (l[len-1]'(by omega)):=by simp
            obtain⟨cs,_,k2,k3⟩:=hlies _ _ hl1
            have hx:cs[u.cells-1]?=some (cs[u.cells-1]'(by omega)):=by simp
            have:=(Array.getElem?_eq_some_iff.1 (k3 _ _ hx)).1
            have hm:l.length*u.cells=(len-1)*u.cells+u.cells:=by
             have:l.length=(len-1)+1:=by omega
             rw[this,Nat.succ_mul]
            omega
         ·exact Nat.le_trans (Nat.le_of_eq l1) (Nat.le_trans hlen.2.1 hlen.2.2)
         ·intro x hx
          obtain⟨i,hi⟩:=List.mem_iff_getElem?.1 hx
          exact(l2 i x hi).1
       ·cases h
      ·cases h
     ·cases hu
   |struct fs=>
    dsimp only at hu
    have h':(if cs.length=P.cellsOf t then(fs.toList.mapM fun f=>DataW.trod enc P w base sp held fuel f.type ((cs.drop f.offset).take (P.cellsOf f.type))).map fun xs=>(DataW.agg (xs.map (·.1)),xs.flatMap (·.2))else none)=some x:=by
     simpa only using h
    split at h'
    ·rename_i hl
     cases e:fs.toList.mapM fun f=>DataW.trod enc P w base sp held fuel f.type ((cs.drop f.offset).take (P.cellsOf f.type))with
     |none=>rw[e]at h';cases h'
     |some xs=>
      have:=qha (w:=w) (rd:=fun t cs=>DataW.trod enc P w base sp held fuel t cs) (fun ha hb=>qeW ha hb) hu hl e
      simpa using this
    ·cases h'
   |array m e=>
    dsimp only at hu
    split at hu
    ·cases hu
    ·rename_i u hue
     split at hu
     ·rename_i hc
      cases hu
      simp only[Bool.and_eq_true]at hc
      have c1:=Nat.eq_of_beq_eq_true hc.1
      have c2:=Nat.eq_of_beq_eq_true hc.2
      have h':(if cs.length=P.cellsOf t then((List.range m).mapM fun i=>DataW.trod enc P w base sp held fuel e ((cs.drop (i*P.cellsOf e)).take (P.cellsOf e))).map fun xs=>(DataW.agg (xs.map (·.1)),xs.flatMap (·.2))else none)=some x:=by
       simpa only using h
      split at h'
      ·rename_i hl
       cases he:(List.range m).mapM fun i=>DataW.trod enc P w base sp held fuel e ((cs.drop (i*P.cellsOf e)).take (P.cellsOf e))with
       |none=>rw[he]at h';cases h'
       |some xs=>
        obtain⟨g1,g2⟩:=qgg he
        have:=qhD (w:=w) (u:=u) (rd:=fun cs=>DataW.trod enc P w base sp held fuel e cs) (fun hb=>qeW hue hb) c1 (cs:=cs) m 0 (by omega) fun i hi=>by
         have hg:=g2 i i (by simp[hi])
         have hlt:i<xs.length:=by rw[g1];simpa using hi
         rw[List.getElem?_eq_getElem hlt]at hg
         exact⟨_,by rw[Nat.zero_add];exact hg⟩
        simpa using this
      ·cases h'
     ·cases hu
   |_=>cases hu
end
end Go.Vm

namespace Go.Vm
open Go Go.RowKit Go.WideShapes Go.ChangeShapes
def qiC(P:Program):List TypeId→Option (List Ty)
 |[]=>some []
 |t::ts=>match qfK P 8 t,qiC P ts with
  |some a,some r=>some (a::r)
  |_,_=>none
def Tys.Wf:(ts:List Ty)→Tys.data ts→Prop
 |[],_=>True
 |t::ts,d=>t.Wf d.1∧Tys.Wf ts d.2
theorem qjl{P:Program}{rec:TypeId→Option Ty}{fs:List Field}{o m:Nat}{u:Ty}(h:qcD P rec fs o m=some u):u.isAgg=true:=by
 cases fs with
 |nil=>
  simp only[qcD]at h
  split at h
  ·cases h;rfl
  ·cases h
 |cons f fs=>
  simp only[qcD]at h
  split at h
  ·cases h
  ·split at h
   ·cases h
   ·split at h
    ·cases h;rfl
    ·cases h
section
variable {H:Type} {enc:TypeId×Value→H} {P:Program} {w:World} {base:Nat} {sp:Nat→Bool} {held:Bool}
theorem qps{n:Nat}{t:TypeId}{u:Ty}{v:Value}{d:DataW H}{ps:List MemPlace}{r:Reach}{b0:Nat}(hu:qfK P n t=some u)(h:DataW.Trod enc P w base sp held t v d ps)(hok:Value.okWide P w r b0 t v):
  ∃dd:u.data,DVal (qdF w) u dd v∧u.Wf dd:=by
 obtain⟨fuel,h⟩:=h
 obtain⟨dd,h1,h2⟩:=qeW hu h
 refine⟨dd,?_,h2⟩
 cases n with
 |zero=>cases hu
 |succ n=>
  unfold qfK at hu
  unfold Value.okWide at hok
  cases hP:P.underlying t with
  |none=>rw[hP]at hu;cases hu
  |some td=>
   rw[hP]at hu hok
   have one:∀{u:Ty}{dd:u.data},u.isAgg=false→v.cells.toList=[v]→DRel (qdF w) u dd v.cells.toList→DVal (qdF w) u dd v:=by
    intro u dd hg hv hd
    unfold DVal
    rw[hg]
    dsimp only
    rw[hv]at hd
    exact hd
   have agg:∀{u:Ty}{dd:u.data}{cs:Array Value},u.isAgg=true→v=.agg cs→DRel (qdF w) u dd v.cells.toList→DVal (qdF w) u dd v:=by
    intro u dd cs hg hv hd
    unfold DVal
    rw[hg]
    subst hv
    exact⟨cs,rfl,hd⟩
   cases td with
   |bool=>
    cases hu
    refine one rfl ?_ h1
    cases v<;>first|rfl|(exfalso;simp[Cell.okWide,Cell.ok,hP]at hok;done)
   |int k=>
    cases hu
    refine one rfl ?_ h1
    cases v<;>first|rfl|(exfalso;simp[Cell.okWide,Cell.ok,hP]at hok;done)
   |string=>
    cases hu
    refine one rfl ?_ h1
    cases v<;>first|rfl|(exfalso;simp[Cell.okWide,Cell.ok,hP]at hok;done)
   |slice e=>
    dsimp only at hu
    split at hu
    ·cases hu
    ·split at hu
     ·cases hu
      refine one rfl ?_ h1
      cases v<;>first|rfl|(exfalso;simp[Cell.okWide,Cell.ok,hP]at hok;done)
     ·cases hu
   |struct fs=>
    obtain⟨cs,hv,_⟩:=hok
    exact agg (qjl hu) hv h1
   |array m e=>
    obtain⟨cs,hv,_⟩:=hok
    dsimp only at hu
    split at hu
    ·cases hu
    ·split at hu
     ·cases hu
      refine agg ?_ hv h1
      cases m<;>rfl
     ·cases hu
   |_=>cases hu
theorem qkh{r:Reach}{b0:Nat}:∀{ts:List TypeId}{us:List Ty}{vs:List Value}{ds:List (DataW H)}{ps:List MemPlace},qiC P ts=some us→DataW.TrodAll enc P w base sp held ts vs ds ps→(∀(j:Nat) t v,ts[j]?=some t→vs[j]?=some v→Value.okWide P w r b0 t v) →
  ds.length=ts.length∧∃d:Tys.data us,DVals (qdF w) us d vs∧Tys.Wf us d
 |[],us,vs,ds,ps,hl,h,_=>by
  obtain⟨rfl,rfl,rfl⟩:=trodAll_nil h
  cases hl
  exact⟨rfl,(),rfl,trivial⟩
 |t::ts,us,vs,ds,ps,hl,h,hok=>by
  obtain⟨v,vs',d,ds',p,q,rfl,rfl,rfl,h1,h2⟩:=trodAll_cons h
  unfold qiC at hl
  split at hl
  ·rename_i a r' ha hr
   cases hl
   obtain⟨d1,k1,k2⟩:=qps ha h1 (hok 0 t v rfl rfl)
   obtain⟨k3,d2,k4,k5⟩:=qkh hr h2 fun j t v ht hv=>hok (j+1) t v ht hv
   exact⟨by simp[k3],(d1,d2),⟨v,vs',rfl,k1,k4⟩,k2,k5⟩
  ·cases hl
theorem stays{W W':World}(hl:laidOutB P=true)(hb:Below W.heap.size W W'):∀{ts:List TypeId}{vs:List Value}{ds:List (DataW H)}{ps:List MemPlace},ts.all (fun t=>P.readableRec t&&decide (t<P.types.size))=true→DataW.TrodAll enc P W 0 (fun _=>true) true ts vs ds ps→(∀x∈ps,x.block<W.heap.size) →
  DataW.TrodAll enc P W' 0 (fun b=>decide (b<W.heap.size)) true ts vs ds ps
 |[],vs,ds,ps,_,h,_=>by
  obtain⟨rfl,rfl,rfl⟩:=trodAll_nil h
  exact trodAll_mk0
 |t::ts,vs,ds,ps,hr,h,hlt=>by
  obtain⟨v,vs',d,ds',p,q,rfl,rfl,rfl,h1,h2⟩:=trodAll_cons h
  simp only[List.all_cons,Bool.and_eq_true,decide_eq_true_eq]at hr
  exact⟨p,q,Below.trod hl hr.1.1 hr.1.2 h1 hb (fun x hx=>hlt x (by simp[hx])),stays hl hb (by simpa using hr.2) h2 (fun x hx=>hlt x (by simp[hx])),rfl⟩
end
structure IsLaw(s:ChangeSpec)(n:Nat):Prop where
 vars:s.vars=[]
 res:∀(H:Type)(ds:List (DataW H)),ds.length=n→(s.fn H ds).results=[.lit (.bool true)]∧(s.fn H ds).args=ds∧(s.fn H ds).vars=[]
theorem law_contract{P:Program}{f:FuncId}{fn:Func}{us:List Ty}{s:ChangeSpec}{bt:TypeId}{H:Type}{enc:TypeId×Value→H}{W:World}{base:Nat}{args:Array Value}{ds gs:List (DataW H)}{before:List MemPlace}
  (hs:IsLaw s fn.params.toList.length) (hl:laidOutB P=true) (hts:qiC P fn.params.toList=some us) (hrd:fn.params.toList.all (fun t=>P.readableRec t&&decide (t<P.types.size))=true) (hrt:fn.resultTypes=#[bt]) (hbt:P.underlying bt=some .bool)
  (k:∀d,Tys.Wf us d→qmE P f us [.bool] d (true,()))
  (hval:∀(j:Nat) t v,fn.params[j]?=some t→args[j]?=some v→Value.okWide P W .any base t v) (hW:DataW.Whole enc P fn.params.toList s.vars false W args.toList ds gs before):
  Calls P f args W fun e W'=>∃v,e=.returned v∧s.post enc P fn false true false false W args v W':=by
 have hW':=hW
 obtain⟨p,q,hA,hV,rfl,hfz,hnd⟩:=hW
 rw[hs.vars]at hV
 obtain⟨rfl,rfl⟩:=trodVars_none hV
 obtain⟨hlen,d,hd,hwf⟩:=qkh hts hA fun j t v ht hv=>hval j t v (by simpa using ht) (by simpa using hv)
 have hF:Wide { fn:=fun _=>True }:=⟨fun _=>trivial,rfl⟩
 have hc:=k d hwf (qdF W) args W { fn:=fun _=>True } 0 hF (qpC W) hd
 refine(CallsIn.calls hc (fun _ d hd=>by cases hd)).mono fun e W' hp=>?_
 obtain⟨x,f',rfl,hx,_,_,_,hsz,hheap,hos,htape,hout⟩:=hp
 have hx:[x]=[Value.bool true]:=hx
 cases hx
 have hb:Below W.heap.size W W':=⟨hos,htape,hout,hsz,hheap⟩
 have hlt:∀x∈p++[],x.block<W.heap.size:=fun x hx=>hW'.lt x hx
 obtain⟨r1,r2,r3⟩:=hs.res H (ds++[]) (by simpa using hlen)
 refine⟨_,rfl,ds,[],p++[],[],p,[],hW',?_,?_,?_,?_,fun h=>by cases h⟩
 ·rw[r1,hrt]
  exact⟨[],[],shut_bool hbt _,trodAll_mk0,rfl⟩
 ·rw[r2,List.append_nil]
  exact stays hl hb hrd hA fun x hx=>hlt x (by simpa using hx)
 ·rw[r3,hs.vars]
  rfl
 ·exact World.keptBut_mono (fun x hx=>⟨hx,.inr (.inl (by simpa using hx))⟩) (hb.frame (·∈p++[]))
end Go.Vm

namespace Go.Vm
open Go
@[simp] theorem Tr.val_fin{R:Type}(r:R):(Tr.fin r).val=some r:=rfl
@[simp] theorem Tr.val_stop{R:Type}:(Tr.stop:Tr R).val=none:=rfl
@[simp] theorem Tr.val_test{R:Type}(b:Bool)(y n:Tr R):(Tr.test b y n).val=if b=true then y.val else n.val:=by
 cases b<;>rfl
theorem qpZ{A B C:Type}{step:A→Option (Out A B C)}(st:Nat→A):∀(n m:Nat),(∀i,i<n→step (st i)=some (.again (st (i+1))))→itr step (n+m) (st 0)=itr step m (st n):=by
 intro n
 induction n generalizing st with
 |zero=>intro m _;rw[Nat.zero_add]
 |succ n ih=>
  intro m h
  have h0:=h 0 (by omega)
  rw[show n+1+m=(n+m)+1 by omega,itr,h0]
  exact ih (fun i=>st (i+1)) m fun i hi=>h (i+1) (by omega)
theorem qgU{A B C:Type}{step:A→Option (Out A B C)}(st:Nat→A){n m:Nat}{b:B}(h:∀i,i<n→step (st i)=some (.again (st (i+1))))(hb:step (st n)=some (.brk b))(hm:n<m):itr step m (st 0)=some (.inl b):=by
 obtain⟨k,rfl⟩:∃k,m=n+(k+1):=⟨m-n-1,by omega⟩
 rw[qpZ st n (k+1) h,itr,hb]
theorem qp3{A B C:Type}{step:A→Option (Out A B C)}(st:Nat→A){n m:Nat}{c:C}(h:∀i,i<n→step (st i)=some (.again (st (i+1))))(hb:step (st n)=some (.ret c))(hm:n<m):itr step m (st 0)=some (.inr c):=by
 obtain⟨k,rfl⟩:∃k,m=n+(k+1):=⟨m-n-1,by omega⟩
 rw[qpZ st n (k+1) h,itr,hb]
def first(bad:Nat→Bool):Nat→Nat→Option Nat
 |0,_=>none
 |n+1,i=>if bad i=true then some i else first bad n (i+1)
theorem qbc{bad:Nat→Bool}:∀{n i:Nat},first bad n i=none→∀j,i≤j→j<i+n→bad j=false
 |0,i,_,j,h1,h2=>by omega
 |n+1,i,h,j,h1,h2=>by
  simp only[first]at h
  split at h
  ·cases h
  ·rename_i hb
   rcases Nat.eq_or_lt_of_le h1 with rfl|h1
   ·simpa using hb
   ·exact qbc h j h1 (by omega)
theorem first_some{bad:Nat→Bool}:∀{n i k:Nat},first bad n i=some k→i≤k∧k<i+n∧bad k=true∧∀j,i≤j→j<k→bad j=false
 |0,i,k,h=>by cases h
 |n+1,i,k,h=>by
  simp only[first]at h
  split at h
  ·rename_i hb
   cases h
   exact⟨Nat.le_refl _,by omega,hb,fun j h1 h2=>by omega⟩
  ·rename_i hb
   obtain⟨h1,h2,h3,h4⟩:=first_some h
   refine⟨by omega,by omega,h3,fun j k1 k2=>?_⟩
   rcases Nat.eq_or_lt_of_le k1 with rfl|k1
   ·simpa using hb
   ·exact h4 j k1 k2
theorem qce{bad:Nat→Bool}:∀{n i:Nat},(∀j,i≤j→j<i+n→bad j=false)→first bad n i=none
 |0,_,_=>rfl
 |n+1,i,h=>by
  have:=h i (Nat.le_refl _) (by omega)
  simp only[first,this,Bool.false_eq_true,if_false]
  exact qce fun j h1 h2=>h j (by omega) (by omega)
theorem qbw{A B C:Type}{step:A→Option (Out A B C)}(st:Nat→A)(bad:Nat→Bool)(r:Nat→C){n m:Nat}{b:B}(h:∀i,i<n→step (st i)=if bad i=true then some (.ret (r i))else some (.again (st (i+1))))(hb:step (st n)=some (.brk b))(hm:n<m):
  itr step m (st 0)=match first bad n 0 with
   |some k=>some (.inr (r k))
   |none=>some (.inl b):=by
 cases e:first bad n 0 with
 |none=>
  have hn:=qbc e
  exact qgU st (fun i hi=>by rw[h i hi,hn i (by omega) (by omega)];rfl) hb hm
 |some k=>
  obtain⟨h1,h2,h3,h4⟩:=first_some e
  refine qp3 (n:=k) st (fun i hi=>by rw[h i (by omega),h4 i (by omega) hi];rfl) ?_ (by omega)
  rw[h k (by omega),h3];rfl
theorem qaI{n:Nat}(h:n≤9223372036854775807):n<rounds:=by unfold rounds;omega
theorem qkq(n:Int):wrap64 n=n.bmod 18446744073709551616:=by
 rw[qde]
 have h1:(2:Int)^64=18446744073709551616:=by decide
 have h2:(2:Int)^(64-1)=9223372036854775808:=by decide
 simp only[IntKind.wrap,IntKind.bits,IntKind.signed,h1,h2,Bool.true_and,decide_eq_true_eq,Int.bmod]
 omega
theorem qaF{n:Int}(h1:-9223372036854775808≤n)(h2:n≤9223372036854775807):wrap64 n=n:=by
 rw[qkq,Int.bmod];omega
theorem qby{n:Nat}(h:n≤9223372036854775806):wrap64 ((n:Int)+1)=((n+1:Nat):Int):=by
 rw[qaF]<;>omega
theorem qcM{a b:Nat}:(Nat.ble a b=true)↔a≤b:=⟨Nat.le_of_ble_eq_true,Nat.ble_eq_true_of_le⟩
theorem qj1{a b:Nat}:(Nat.beq a b=true)↔a=b:=⟨Nat.eq_of_beq_eq_true,fun h=>by subst h;exact Nat.beq_refl a⟩
end Go.Vm

namespace Go.Vm
open Go
def euc(a b:Int):Int:=if _h:b=0 then a else euc b (a.tmod b)
termination_by b.natAbs
decreasing_by
 rw[Int.natAbs_tmod]
 exact Nat.mod_lt _ (by omega)
theorem ql4(a:Int):euc a 0=a:=by rw[euc];simp
theorem qli(a:Int){b:Int}(h:b≠0):euc a b=euc b (a.tmod b):=by rw[euc];simp[h]
theorem qoi(a b:Int):(euc a b).natAbs=Nat.gcd a.natAbs b.natAbs:=by
 induction h:b.natAbs using Nat.strongRecOn generalizing a b with
 |ind n ih=>
  by_cases hb:b=0
  ·subst hb;rw[ql4,←h];simp
  ·have hlt:(a.tmod b).natAbs<n:=by rw[Int.natAbs_tmod,←h];exact Nat.mod_lt _ (by omega)
   rw[qli a hb,ih _ hlt b _ rfl,Int.natAbs_tmod,h,Nat.gcd_comm,←Nat.gcd_rec,Nat.gcd_comm]
theorem qn3{A B C:Type}{step:A→Option (Out A B C)}(st:Int→Int→A)(r:Int→B)
  (hs:∀a b,b≠0→step (st a b)=some (.again (st b (a.tmod b)))) (hb:∀a,step (st a 0)=some (.brk (r a))):
  ∀(m:Nat)(a b:Int),b.natAbs<m→itr step m (st a b)=some (.inl (r (euc a b))):=by
 intro m
 induction m with
 |zero=>intro a b h;omega
 |succ m ih=>
  intro a b h
  by_cases h0:b=0
  ·subst h0;rw[itr,hb,ql4]
  ·rw[itr,hs a b h0,qli a h0]
   refine ih _ _ ?_
   rw[Int.natAbs_tmod]
   have:=Nat.mod_lt a.natAbs (show b.natAbs>0 by omega)
   omega
end Go.Vm

namespace Go.Vm
open Go
def dval:List Int→Int
 |[]=>0
 |d::r=>d+1000000000*dval r
def Dg(l:List Int):Prop:=∀d∈l,0≤d∧d<1000000000
theorem Dg.nil:Dg []:=fun d h=>by cases h
theorem Dg.tail{d:Int}{l:List Int}(h:Dg (d::l)):Dg l:=fun x hx=>h x (List.mem_cons_of_mem _ hx)
theorem Dg.head{d:Int}{l:List Int}(h:Dg (d::l)):0≤d∧d<1000000000:=h d (List.mem_cons_self ..)
theorem Dg.append{l r:List Int}(h:Dg l)(k:Dg r):Dg (l++r):=fun d hd=>(List.mem_append.1 hd).elim (h d) (k d)
theorem Dg.push{l:List Int}(h:Dg l){d:Int}(h0:0≤d)(h1:d<1000000000):Dg (l++[d]):=h.append fun x hx=>by
 rw[List.mem_singleton]at hx;subst hx;exact⟨h0,h1⟩
theorem Dg.take{l:List Int}(h:Dg l)(n:Nat):Dg (l.take n):=fun d hd=>h d (List.mem_of_mem_take hd)
theorem Dg.getD{l:List Int}(h:Dg l)(i:Nat):0≤l.getD i 0∧l.getD i 0<1000000000:=by
 by_cases hi:i<l.length
 ·rw[show l.getD i 0=l[i]by simp[List.getD,hi]]
  exact h _ (List.getElem_mem hi)
 ·rw[show l.getD i 0=0 by simp[List.getD,List.getElem?_eq_none (Nat.le_of_not_lt hi)]]
  omega
theorem Dg.set{l:List Int}(h:Dg l){i:Nat}{d:Int}(h0:0≤d)(h1:d<1000000000):Dg (l.set i d):=fun x hx=>by
 rcases List.mem_or_eq_of_mem_set hx with hx|rfl
 ·exact h x hx
 ·exact⟨h0,h1⟩
def dig(n:Nat):List Int:=
 if _h:n=0 then[]else((n%1000000000:Nat):Int)::dig (n/1000000000)
termination_by n
decreasing_by omega
def Can(l:List Int):Prop:=∀m,l.length=m+1→l.getD m 0≠0
theorem Can.tail{d:Int}{l:List Int}(h:Can (d::l)):Can l:=fun m hm=>by
 have:=h (m+1) (by simp[hm])
 simpa[List.getD]using this
theorem Can.pos:∀{l:List Int},Dg l→Can l→l≠[]→0<dval l
 |[],_,_,h=>absurd rfl h
 |[d],hd,hc,_=>by
  have:=hc 0 rfl
  have h1:=hd.head
  simp[List.getD]at this
  simp only[dval];omega
 |d::e::r,hd,hc,_=>by
  have:=Can.pos hd.tail hc.tail (by simp)
  have h1:=hd.head
  rw[dval];omega
def enc(z:Int):Int×List Int×PUnit:=(z.sign,dig z.natAbs,())
end Go.Vm
