/- A machine over virtual values that stands for the model's: part 3. -/
import Derived.Test.YtifpmnmpinjcgaaGreatA2
import Derived.OrdersIn
set_option linter.unusedVariables false
set_option linter.unusedSimpArgs false

namespace Go.Vm
open Go
theorem qfz{n:Nat}{φ ψ:Map}(ih:∀(v:V)(x:Value),qcg n v=true→VRel φ v x→VRel ψ v x):∀(vs:List V)(xs:List Value),vs.all (qcg n)=true→VRels φ vs xs→VRels ψ vs xs
 |[],[],_,_=>.nil
 |v::vs,x::xs,h,.cons a b=>by
  rw[List.all_cons,Bool.and_eq_true]at h
  exact .cons (ih v x h.1 a) (qfz ih vs xs h.2 b)
theorem qdI{φ ψ:Map}:∀(n:Nat)(v:V)(x:Value),qcg n v=true→VRel φ v x→VRel ψ v x
 |0,_,_,h,_=>by simp[qcg]at h
 |n+1,v,x,h,r=>by
  cases r with
  |bot=>exact .bot _
  |int=>exact .int _ _
  |bool=>exact .bool _
  |str=>exact .str _
  |flt=>exact .flt _ _
  |cpx=>exact .cpx _ _ _
  |ptrNil=>exact .ptrNil
  |ptr=>simp[qcg]at h
  |slNil cap hc=>exact .slNil cap hc
  |sl=>simp[qcg]at h
  |func=>simp[qcg]at h
  |yield=>simp[qcg]at h
  |nilFunc=>exact .nilFunc
  |nilIface=>exact .nilIface
  |agg vs rs hr=>exact .agg _ _ (qfz (qdI n) vs _ (by simpa[qcg]using h) hr)
  |tuple vs rs hr=>exact .tuple _ _ (qfz (qdI n) vs _ (by simpa[qcg]using h) hr)
  |iface t v r hr=>exact .iface _ _ _ (qdI n v _ (by simpa[qcg]using h) hr)
  |vs=>simp[qcg]at h
  |fp=>simp[qcg]at h
  |mapNil=>exact .mapNil
  |map=>simp[qcg]at h
structure Bare(lend:Option (Nat×Ob))(φ:Map)(h:H):Prop where
 ob:∀d x,h.get d=some x→∃k v l,x=.map k v l
 nm:∀d q,φ d=some q→∃p,lend=some p∧p.1=d
 old:∀p,lend=some p→∃q,φ p.1=some q
theorem qj7{φ ψ:Map}{v:V}{x:Value}(h:VRel φ v x):VRel ψ (qgj v) x:=by
 unfold qgj
 split
 ·rename_i hf;exact qdI 8 v x hf h
 ·exact .bot _
theorem qh3{φ ψ:Map}{w:World}(hb:ψ.base=φ.base)(hk:∀b k,ψ b=some k→φ b=some k∨∃cs t z,w.heap[k.1]?=some (.cells cs t z)):∀{xs:List Deferred},MarksGo φ w [] xs→MarksGo ψ w [] xs
 |[],h=>h
 |x::xs,h=>by
  rcases h with⟨d,ds',k,h1,_⟩|⟨k,h1,h2,⟨h3,h3'⟩,h4,h5⟩
  ·cases h1
  ·refine .inr ⟨k,h1,by rw[hb];exact h2,⟨h3,fun b k' e hkk=>?_⟩,h4,qh3 hb hk h5⟩
   rcases hk b k' e with e'|⟨cs,t,z,e'⟩
   ·exact h3' b k' e' hkk
   ·rw[hkk,h3]at e';cases e'
theorem qmX{lend:Option (Nat×Ob)}{φ0:Map}{h0:H}{w0:World}(hr0:HRel φ0 h0 w0)(bare:Bare lend φ0 h0){t:Nat}{st st':S}(e:qoL lend h0.next t st=some st')(hh:st'.h.Holds):
  st.h.Holds∧∀(φ:Map)(a:Act)(w:World),VRels φ st.ts a.tmps.toList→MarksRel φ w st.dfs a.defers→Goes φ0 h0 w0 φ st.h w →
   ∃φ',VRels φ' st'.ts a.tmps.toList∧MarksRel φ' w st'.dfs a.defers∧Goes φ0 h0 w0 φ' st'.h w:=by
 obtain⟨ts,dfs,h⟩:=st
 unfold qoL at e
 dsimp only at e
 split at e
 ·rename_i k l b hv
  split at e
  ·rename_i hle hg
   have hle:=Nat.le_of_ble_eq_true hle
   split at e
   ·rename_i h1 ht
    have hst:st'.h.said=h1.said∧st'.h.next=h1.next+1∧st'.h.ro=h1.ro∧st'.h.objs=(h1.next,.box 1 (.ty (.int k) l))::qil lend h1∧st'.dfs=[]∧st'.ts=(ts.map qgj).set t (.sl (some ⟨h1.next,1,0,0⟩) l.length none):=by
     obtain⟨n1,r1,o1,a1,s1⟩:=h1
     cases e
     exact⟨rfl,rfl,rfl,rfl,rfl,rfl⟩
    obtain⟨q1,q2,q3,q4,q5,q6⟩:=hst
    have hh1:h1.Holds:=fun p hp=>hh p (by rw[q1];exact hp)
    obtain⟨hh0,hb,hn1,hro1,hobj1⟩:=H.test_holds ht hh1
    have hlen:=Nat.le_of_ble_eq_true hb
    refine⟨hh0,fun φ a w hts hm g=>?_⟩
    have hr:=g.rel
    have notip:∀d,h0.get d=some .tip→False:=fun d hd=>by
     obtain⟨k,v,l,e⟩:=bare.ob d _ hd;cases e
    obtain⟨x,hx,hxv⟩:∃x,a.tmps.toList[t]?=some x∧VRel φ (.vs (.int k) l (.own b)) x:=by
     have hlt:t<ts.length:=by
      rcases Nat.lt_or_ge t ts.length with h|h
      ·exact h
      ·rw[qaQ,List.getElem?_eq_none h]at hv;cases hv
     have he:ts[t]?=some (.vs (.int k) l (.own b)):=by
      rw[List.getElem?_eq_getElem hlt]
      rw[qaQ,List.getElem?_eq_getElem hlt]at hv
      simpa using hv
     obtain⟨x,h1,h2⟩:=hts.get _ _ he
     exact⟨x,h1,h2⟩
    cases hxv with
    |vs _ _ _ sa n cap hn hs htp=>
    obtain⟨m,hm1,hm2⟩:=htp
    have hnl:n=l.length:=hs.1
    cases m with
    |none=>have:=hm2.1;omega
    |some q=>
    obtain⟨blk,en,sz⟩:=q
    obtain⟨off,ha,hen,hsz,hoff⟩:=hm2
    subst hoff
    subst ha
    have hgb:h.get b=some .tip:=hg
    obtain⟨m',hm1',hm2'⟩:=hr.tip b hgb
    rw[hm1]at hm1';cases hm1'
    obtain⟨⟨c,hc,hcs⟩,cs,tt,hhere,hcsz⟩:=hm2' blk en sz rfl
    have hblk:w0.heap.size≤blk:=by
     rcases g.tfresh b _ hm1 with e1|⟨_,e1⟩
     ·have:=hr0.tdom b _ e1;omega
     ·rcases e1 (blk,en,sz) rfl with e2|⟨d,e',d1,d2,_⟩
      ·exact e2
      ·exact(notip d d2).elim
    have hbc:Begins c cs:=by
     obtain⟨cs2,t2,z2,g1,g2⟩:=hr.fz blk c hc
     rw[hhere]at g1;cases g1
     exact g2
    have hrow:∀(i:Nat)(d:Int),l[i]?=some d→cs[i]?=some (.int k d):=by
     intro i d hi
     rcases hs.2 with h5|⟨b2,off2,c3,h5,h6,h7,h8⟩
     ·rw[h5]at hi;simp at hi
     ·cases h5
      rw[hc]at h6;cases h6
      obtain⟨xs,hx1,hx2,hx3⟩:=h8 i d hi
      have hx1:xs=[.int k d]:=hx1
      subst hx1
      have:=hx3 0 _ rfl
      have h9:c[i]?=some (.int k d):=by
       rw[←this];congr 1;show i=0+i*1+0;omega
      exact hbc _ _ h9
    have hnx:h0.next≤h1.next:=by rw[hn1];exact g.next
    have hfree:∀q,φ0 h1.next=some q→False:=fun q hq=>by have:=(hr0.dom _ _ hq).1;omega
    let ψ:Map:=φ0.add h1.next (blk,sz,0)
    have hadd:∀c q,ψ c=some q→(c=h1.next∧q=(blk,sz,0))∨(c≠h1.next∧φ0 c=some q):=by
     intro c q e
     have e:(if c=h1.next then some (blk,sz,0)else φ0 c)=some q:=e
     split at e
     ·rename_i hb;cases e;exact .inl ⟨hb,rfl⟩
     ·rename_i hb;exact .inr ⟨hb,e⟩
    have hnew:ψ h1.next=some (blk,sz,0):=if_pos rfl
    have hold:φ0.le ψ:=⟨fun d q hq=>by
     show(if d=h1.next then some (blk,sz,0)else φ0 d)=some q
     split
     ·rename_i hd;subst hd;exact(hfree q hq).elim
     ·exact hq,Frozen.le_refl _,fun _ _ e=>e,rfl⟩
    have hget:∀d x,st'.h.get d=some x→(d=h1.next∧x=.box 1 (.ty (.int k) l))∨(d≠h1.next∧h.get d=some x∧∃k v l,x=.map k v l):=by
     intro d x hd
     have hd':=qaS hd
     rw[q4]at hd'
     rcases qc8 hd' with⟨e1,e2⟩|⟨e1,e2⟩
     ·exact .inl ⟨e1.symm,e2⟩
     ·refine .inr ⟨fun e=>e1 e.symm,?_⟩
      unfold qil at e2
      split at e2
      ·rename_i p
       split at e2
       ·rename_i k' v' l' hp
        rcases qc8 e2 with⟨e3,e4⟩|⟨_,e4⟩
        ·subst e3 e4
         have:h.get p.1=some (.map k' v' l'):=by rw[←hp];simp only[H.get,hobj1]
         exact⟨this,_,_,_,rfl⟩
        ·cases e4
       ·cases e2
      ·cases e2
    have hkept:∀d x,h.get d=some x→x≠.tip→(∃k v l,x=.map k v l)→∀q,φ0 d=some q→∃o,w.heap[q.1]?=some o∧ObRel ψ (Nat.ble h.ro d) q.2 x o:=by
     rintro d x hd hx ⟨k',v',l',rfl⟩ q hq
     obtain⟨q',o,r1,r2,r3⟩:=hr.obj d _ hd hx
     have:q'=q:=by have:=g.le _ _ hq;rw[r1]at this;cases this;rfl
     subst this
     refine⟨o,r2,?_⟩
     cases o<;>simp only[ObRel]at r3 ⊢
     exact r3
    have hmapn:∀d x,st'.h.get d=some x→d≠h1.next→∀q,ψ d=some q→φ0 d=some q:=by
     intro d x hd hne q hq
     rcases hadd d q hq with⟨e,_⟩|⟨_,e⟩
     ·exact absurd e hne
     ·exact e
    refine⟨ψ,?_,?_,?_⟩
    ·rw[q6]
     have hlen2:=hts.length
     refine VRels.of_get (by simp[hlen2]) fun i u r hu hr'=>?_
     rw[List.getElem?_set]at hu
     split at hu
     ·rename_i hti
      subst hti
      split at hu
      ·cases hu
       rw[hx]at hr';cases hr'
       have hv:VRel ψ (.sl (some ⟨h1.next,1,0,0⟩) l.length none) (.slice (some ((⟨h1.next,1,0,0⟩:VA).real (blk,sz,0))) l.length cap):=
        .sl ⟨h1.next,1,0,0⟩ (blk,sz,0) l.length cap none hnew (by omega) (fun c e=>by cases e) (fun _=>⟨rfl,by
         show(0+cap)*1≤sz
         have:0+cap*1≤sz:=hsz
         omega⟩)
       rw[hnl]
       exact hv
      ·cases hu
     ·rw[List.getElem?_map]at hu
      cases hti:ts[i]? with
      |none=>rw[hti]at hu;cases hu
      |some v0=>
       rw[hti]at hu
       cases hu
       obtain⟨x0,hx0,hv0⟩:=hts.get _ _ hti
       rw[hr']at hx0;cases hx0
       exact qj7 hv0
    ·rw[q5]
     obtain⟨b1,ys,b2,b3⟩:=hm
     have hbase:ψ.base=φ.base:=g.le.base.symm
     refine⟨by rw[hbase];exact b1,ys,by rw[hbase];exact b2,qh3 hbase (fun d q hq=>?_) b3⟩
     rcases hadd d q hq with⟨_,rfl⟩|⟨_,hq⟩
     ·exact .inr ⟨cs,tt,(0,0),hhere⟩
     ·exact .inl (g.le _ _ hq)
    ·have hro':st'.h.ro=h0.ro:=by rw[q3,hro1];exact g.ro
     have hro2:h.ro=h0.ro:=g.ro
     refine{
      le:=hold
      next:=by rw[q2];omega
      ro:=hro'
      fresh:=fun d q hq=>by
       rcases hadd d q hq with⟨rfl,rfl⟩|⟨_,hq⟩
       ·exact .inr ⟨hnx,.inl hblk⟩
       ·exact .inl hq
      size:=g.size
      frame:=g.frame
      tfresh:=fun _ _ e=>.inl e
      tlive:=fun d m _ hd=>by
       rcases hget d _ hd with⟨_,e⟩|⟨_,_,k',v',l',e⟩<;>cases e
      ffresh:=fun _ _ e _=>.inl e
      os:=g.os,tape:=g.tape,output:=g.output
      rel:={
       obj:=fun d x hd hx=>by
        rcases hget d x hd with⟨rfl,rfl⟩|⟨hne,hd0,hmap⟩
        ·refine⟨(blk,sz,0),_,hnew,hhere,?_⟩
         refine⟨fun i row hi=>?_,hcsz,fun _=>⟨rfl,rfl⟩⟩
         have hi:l[i]?.map (cellsV (.int k))=some row:=hi
         cases hli:l[i]? with
         |none=>rw[hli]at hi;cases hi
         |some d=>
          rw[hli]at hi
          cases hi
          refine⟨rfl,fun o v ho=>?_⟩
          cases o with
          |zero=>
           cases ho
           refine⟨.int k d,?_,.int _ _⟩
           rw[qci,←hrow i d hli]
           congr 1;show 0+(i*1+0)=i;omega
          |succ o=>cases ho
        ·
         have hd2:=qaS hd
         rw[q4]at hd2
         have:∃p,lend=some p∧p.1=d:=by
          rcases qc8 hd2 with⟨e1,_⟩|⟨_,e2⟩
          ·exact absurd e1.symm hne
          ·unfold qil at e2
           split at e2
           ·rename_i p
            split at e2
            ·rcases qc8 e2 with⟨e3,_⟩|⟨_,e4⟩
             ·exact⟨p,rfl,e3⟩
             ·cases e4
            ·cases e2
           ·cases e2
         obtain⟨q',o',r1,_,_⟩:=hr.obj d x hd0 hx
         have hφ0:φ0 d=some q':=by
          obtain⟨p,hp,rfl⟩:=this
          obtain⟨q0,hq0⟩:=bare.old p hp
          have:=g.le _ _ hq0
          rw[r1]at this;cases this
          exact hq0
         obtain⟨o,r2,r3⟩:=hkept d x hd0 hx hmap q' hφ0
         exact⟨q',o,hold _ _ hφ0,r2,by rw[hro',←hro2];exact r3⟩
       inj:=fun d d' x x' q q' hd hd' hdr hne hq hq'=>by
        rcases hadd d q hq with⟨rfl,rfl⟩|⟨h5,hq⟩
        ·rcases hadd d' q' hq' with⟨rfl,_⟩|⟨_,hq'⟩
         ·exact absurd rfl hne
         ·have:=(hr0.dom d' q' hq').2
          show blk≠q'.1
          omega
        ·rcases hadd d' q' hq' with⟨rfl,rfl⟩|⟨h6,hq'⟩
         ·have:=(hr0.dom d q hq).2
          show q.1≠blk
          omega
         ·obtain⟨p,hp,rfl⟩:=bare.nm d q hq
          obtain⟨p',hp',rfl⟩:=bare.nm d' q' hq'
          rw[hp]at hp';cases hp'
          exact absurd rfl hne
       dom:=fun d q hq=>by
        rw[q2]
        rcases hadd d q hq with⟨rfl,rfl⟩|⟨_,hq⟩
        ·exact⟨Nat.lt_succ_self _,(Array.getElem?_eq_some_iff.1 hhere).1⟩
        ·have:=hr0.dom d q hq
         have:=g.size
         exact⟨by omega,by omega⟩
       rle:=by rw[hro',q2];have:=hr0.rle;omega
       fz:=fun k c hc=>by
        obtain⟨c',e1,e2⟩:=g.le.fz k c hc
        obtain⟨cs',t',z',e3,e4⟩:=hr.fz k c' e1
        exact⟨cs',t',z',e3,e2.trans e4⟩
       own:=fun d x q hd hq=>by
        rcases hadd d q hq with⟨rfl,rfl⟩|⟨hne,hq⟩
        ·cases hf:φ0.fz blk with
         |none=>exact hf
         |some c'=>have:=hr0.fdom hf;omega
        ·rcases hget d x hd with⟨e,_⟩|⟨_,hd0,_⟩
         ·exact absurd e hne
         ·have:=hr.own d x q hd0 (g.le _ _ hq)
          cases hf:φ0.fz q.1 with
          |none=>exact hf
          |some c'=>
           obtain⟨c2,e1,_⟩:=g.le.fz _ _ hf
           rw[this]at e1;cases e1
       tip:=fun d hd=>by
        rcases hget d _ hd with⟨_,e⟩|⟨_,_,k',v',l',e⟩<;>cases e
       tinj:=fun d d' m m' hd=>by
        rcases hget d _ hd with⟨_,e⟩|⟨_,_,k',v',l',e⟩<;>cases e
       tdom:=fun d m e=>by
        rw[q2]
        have:=hr0.tdom d m e;omega } }
   ·rename_i h1 ht
    cases e
    obtain⟨hh0,_,hn1,hro1,hobj1⟩:=H.test_holds ht hh
    exact⟨hh0,fun φ a w hts hm g=>⟨φ,hts,hm,g.trans (Goes.of_same g.rel ⟨hn1,hro1,hobj1⟩ rfl rfl rfl rfl)⟩⟩
   ·cases e
  ·cases e
   exact⟨hh,fun φ a w hts hm g=>⟨φ,hts,hm,g⟩⟩
 ·cases e
  exact⟨hh,fun φ a w hts hm g=>⟨φ,hts,hm,g⟩⟩
theorem qmK{P:Program}{lend:Option (Nat×Ob)}{φ0:Map}{h0:H}{w0:World}(hr0:HRel φ0 h0 w0)(bare:Bare lend φ0 h0){c:Code}{st st':S}(e:qgP P lend h0.next c st=some st')(hh:st'.h.Holds):
  st.h.Holds∧∀(φ:Map)(a:Act)(w:World),VRels φ st.ts a.tmps.toList→MarksRel φ w st.dfs a.defers→Goes φ0 h0 w0 φ st.h w →
   ∃φ',VRels φ' st'.ts a.tmps.toList∧MarksRel φ' w st'.dfs a.defers∧Goes φ0 h0 w0 φ' st'.h w:=by
 unfold qgP at e
 have same:some st=some st'→st.h.Holds∧∀(φ:Map)(a:Act)(w:World),VRels φ st.ts a.tmps.toList→MarksRel φ w st.dfs a.defers→Goes φ0 h0 w0 φ st.h w →
   ∃φ',VRels φ' st'.ts a.tmps.toList∧MarksRel φ' w st'.dfs a.defers∧Goes φ0 h0 w0 φ' st'.h w:=by
  intro e;cases e
  exact⟨hh,fun φ a w hts hm g=>⟨φ,hts,hm,g⟩⟩
 split at e
 ·split at e
  ·split at e
   ·exact qmX hr0 bare e hh
   ·exact same e
  ·exact same e
 ·exact same e
theorem qkP{P:Program}{lend:Option (Nat×Ob)}{lim:Nat}{c:Code}{st st':S}(e:qgP P lend lim c st=some st')(hh:st'.h.Holds):st.h.Holds:=by
 have same:some st=some st'→st.h.Holds:=fun e=>by cases e;exact hh
 unfold qgP at e
 split at e
 ·split at e
  ·split at e
   ·rename_i t _
    obtain⟨ts,dfs,h⟩:=st
    unfold qoL at e
    dsimp only at e
    split at e
    ·split at e
     ·split at e
      ·rename_i h1 ht
       have q1:st'.h.said=h1.said:=by
        obtain⟨n1,r1,o1,a1,s1⟩:=h1
        cases e;rfl
       exact(H.test_holds ht (fun p hp=>hh p (by rw[q1];exact hp))).1
      ·rename_i h1 ht
       cases e
       exact(H.test_holds ht hh).1
      ·cases e
     ·cases e;exact hh
    ·cases e;exact hh
   ·exact same e
  ·exact same e
 ·exact same e
theorem qio{v v':V}{h h':H}(e:qgX v h=some (v',h'))(hh:h'.Holds):h.Holds∧∀(φ:Map)(w:World)(x:Value),VRel φ v x→HRel φ h w→∃φ',VRel φ' v' x∧Goes φ h w φ' h' w:=by
 unfold qgX at e
 split at e
 ·rename_i a n
  split at e
  ·rename_i e0 u l hg
   split at e
   ·rename_i d ns h3 hs
    cases e
    have hh3:h3.Holds:=fun p hp=>hh p (by rw[qa9];exact hp)
    refine⟨(qfl hs).holds hh3,fun φ w x hv hr=>?_⟩
    obtain⟨_,f',g,sa,m,cap,rfl,hm,hsl⟩:=qeG hs hh3 hv hr
    exact⟨_,.vs u d .no sa m cap hm hsl trivial,g⟩
   ·cases e
  ·cases e
   exact⟨hh,fun φ w x hv hr=>⟨φ,hv,Goes.refl hr⟩⟩
 ·cases e
  exact⟨hh,fun φ w x hv hr=>⟨φ,hv,Goes.refl hr⟩⟩
theorem qec{φ:Map}{h:H}{lend:Option (Nat×Ob)}:∀{args:List V}{r:Option Nat}{r':Option Nat}{xs:List Value},qkb args r=some r'→(∀b,r'=some b→qbK lend b=true)→VRels φ args xs→VRels (φ.lend lend) args xs∧(∀b,r=some b→r'=some b)
 |[],r,r',xs,e,hl,hv=>by
  cases e;cases hv
  exact⟨.nil,fun _ h=>h⟩
 |v::vs,r,r',x::xs,e,hl,.cons a b=>by
  unfold qkb at e
  split at e
  ·rename_i hf
   obtain⟨h1,h2⟩:=qec (h:=h) e hl b
   exact⟨.cons (qdI 8 v x hf a) h1,h2⟩
  ·split at e
   ·rename_i b0 _
    obtain⟨h1,h2⟩:=qec (h:=h) e hl b
    refine⟨.cons ?_ h1,fun _ h=>by cases h⟩
    cases a with
    |map _ k hk=>
     refine .map b0 k ?_
     show(if qbK lend b0=true then φ b0 else none)=some k
     rw[if_pos (hl b0 (h2 b0 rfl))];exact hk
   ·cases e
theorem qkk{φ:Map}{h:H}{args:List V}{lend:Option (Nat×Ob)}{xs:List Value}(e:qe5 h args=some lend)(hv:VRels φ args xs):qjt lend h∧VRels (φ.lend lend) args xs:=by
 unfold qe5 at e
 split at e
 ·cases e
 ·rename_i hm
  cases e
  exact⟨fun p hp=>(by cases hp),(qec (h:=h) hm (fun b hb=>by cases hb) hv).1⟩
 ·rename_i b hm
  split at e
  ·rename_i k v l hro hg
   cases e
   refine⟨fun p hp=>by cases hp;exact⟨hg,Nat.le_of_ble_eq_true hro,k,v,l,rfl⟩,(qec (h:=h) hm (fun b' hb=>by cases hb;simp[qbK]) hv).1⟩
  ·cases e
theorem qnz{φ:Map}{h:H}{w:World}{lend:Option (Nat×Ob)}(hr:HRel φ h w)(ok:qjt lend h)(m:List Deferred×Nat):Bare lend ((φ.lend lend).re m) (qek lend h) where
 ob:=fun d x hd=>by
  obtain⟨p,hp,rfl,rfl⟩:=qcF hd
  exact(ok p hp).2.2
 nm:=fun d q hq=>(Map.lend_some hq).2
 old:=fun p hp=>by
  obtain⟨h1,_,k,v,l,h2⟩:=ok p hp
  obtain⟨q,_,h3,_⟩:=hr.obj p.1 p.2 h1 (by rw[h2];simp)
  exact⟨q,by show φ.lend lend p.1=some q;rw[hp,Map.lend_at];exact h3⟩
end Go.Vm

namespace Go.Vm
open Go
section
variable {P:Program} {L:Lev}
theorem Goes.spoil{φ:Map}{h:H}{w w':World}(hr:HRel φ h w){b:Nat}{y:Ob}{k:Nat×Nat×Nat}(hg:h.get b=some y)(hro:h.ro≤b)(hk:φ b=some k)
  (hsz:w'.heap.size=w.heap.size) (hother:∀j,j≠k.1→w'.heap[j]?=w.heap[j]?) (h1:w'.os=w.os) (h2:w'.tape=w.tape) (h3:w'.output=w.output):Goes φ h w φ (h.kill b) w' where
 le:=Map.le_refl _
 rel:=by
  have hfb:φ.fz k.1=none:=hr.own b y k hg hk
  have hfo:∀n c,φ.fz n=some c→n≠k.1:=by
   intro n c e e'
   rw[e',hfb]at e;cases e
  constructor
  ·intro c x hx hxt
   obtain⟨hne,hx⟩:=H.get_kill hx
   obtain⟨n,o,hn,ho,hrel⟩:=hr.obj c x hx hxt
   exact⟨n,o,hn,by rw[hother _ (fun e=>hr.inj b c y x k n hg hx hro (Ne.symm hne) hk hn e.symm)];exact ho,hrel⟩
  ·intro c c' x x' n n' hx hx'
   exact hr.inj c c' x x' n n' (H.get_kill hx).2 (H.get_kill hx').2
  ·intro c n e
   have:=hr.dom c n e
   simp only[H.kill_eq];omega
  ·exact hr.rle
  ·intro n c e
   obtain⟨cs,t,q,e1,e2⟩:=hr.fz n c e
   exact⟨cs,t,q,by rw[hother _ (hfo n c e)];exact e1,e2⟩
  ·intro c x n hx
   exact hr.own c x n (H.get_kill hx).2
  ·intro c hc
   obtain⟨m,h4,h5⟩:=hr.tip c (H.get_kill hc).2
   refine⟨m,h4,fun blk en sz e=>?_⟩
   obtain⟨⟨c',hc',hcs⟩,cs,t,h6,h7⟩:=h5 blk en sz e
   exact⟨⟨c',hc',hcs⟩,cs,t,by rw[hother _ (hfo _ _ hc')];exact h6,h7⟩
  ·intro c c' m m' hc hc'
   exact hr.tinj c c' m m' (H.get_kill hc).2 (H.get_kill hc').2
  ·intro c m e
   have:=hr.tdom c m e
   simp only[H.kill_eq];omega
 next:=Nat.le_refl _
 ro:=rfl
 fresh:=fun _ _ e=>.inl e
 size:=by omega
 frame:=fun j _ hf _=>hother j (fun e=>hf b k hro hk e.symm)
 tfresh:=fun _ _ e=>.inl e
 tlive:=fun _ _ _ hc=>(H.get_kill hc).2
 ffresh:=fun _ _ e _=>.inl e
 os:=h1
 tape:=h2
 output:=h3
theorem qep:∀{ds:List Nat}{h h':H},qdd ds h=some h'→h'.said=h.said
 |[],h,h',e=>by cases e;rfl
 |d::ds,h,h',e=>by
  simp only[qdd]at e
  split at e
  ·split at e
   ·have:=qep e;exact this
   ·cases e
  ·cases e
theorem Goes.took{φ0 φ:Map}{h0 h:H}{w0 w:World}(g:Goes φ0 h0 w0 φ h w){k:Nat}(s:Spent φ w k)(hk:w0.heap.size≤k):
  Goes φ0 h0 w0 φ h { w with heap:=w.heap.setIfInBounds k (.deferred none) }:=by
 obtain⟨s1,s2⟩:=s
 have hr:=g.rel
 have hother:∀j,j≠k→(w.heap.setIfInBounds k (.deferred none))[j]?=w.heap[j]?:=fun j hj=>by
  simp only[Array.getElem?_setIfInBounds];rw[if_neg (fun e=>hj e.symm)]
 have hcell:∀j cs t z,w.heap[j]?=some (.cells cs t z)→j≠k:=fun j cs t z e e'=>by rw[e',s1]at e;cases e
 have hsz:(w.heap.setIfInBounds k (.deferred none)).size=w.heap.size:=by simp
 exact{
  le:=g.le
  rel:=by
   constructor
   ·intro c x hx hxt
    obtain⟨n,o,hn,ho,hrel⟩:=hr.obj c x hx hxt
    exact⟨n,o,hn,by show(w.heap.setIfInBounds k (.deferred none))[n.1]?=_;rw[hother _ (s2 c n hn)];exact ho,hrel⟩
   ·exact hr.inj
   ·intro c n e
    have:=hr.dom c n e
    show _∧_<(w.heap.setIfInBounds k (.deferred none)).size
    rw[hsz];exact this
   ·exact hr.rle
   ·intro n c e
    obtain⟨cs,t,q,e1,e2⟩:=hr.fz n c e
    exact⟨cs,t,q,by show(w.heap.setIfInBounds k (.deferred none))[n]?=_;rw[hother _ (hcell n cs t q e1)];exact e1,e2⟩
   ·exact hr.own
   ·intro c hc
    obtain⟨m,h4,h5⟩:=hr.tip c hc
    refine⟨m,h4,fun blk en sz e=>?_⟩
    obtain⟨h6,cs,t,h7,h8⟩:=h5 blk en sz e
    exact⟨h6,cs,t,by show(w.heap.setIfInBounds k (.deferred none))[blk]?=_;rw[hother _ (hcell _ cs t _ h7)];exact h7,h8⟩
   ·exact hr.tinj
   ·exact hr.tdom
  next:=g.next
  ro:=g.ro
  fresh:=g.fresh
  size:=by show _≤(w.heap.setIfInBounds k (.deferred none)).size;rw[hsz];exact g.size
  frame:=fun j hj hf ht=>by
   show(w.heap.setIfInBounds k (.deferred none))[j]?=_
   rw[hother _ (by omega)];exact g.frame j hj hf ht
  tfresh:=g.tfresh
  tlive:=g.tlive
  ffresh:=g.ffresh
  os:=g.os
  tape:=g.tape
  output:=g.output }
theorem MarksGo.keep{φ:Map}{w w':World}:∀{xs:List Deferred}{ds:List Nat},(∀k,Spent φ w k→markD k∈xs→w'.heap[k]?=w.heap[k]?)→MarksGo φ w ds xs→MarksGo φ w' ds xs
 |[],_,_,e=>e
 |x::xs,ds,hk,e=>by
  have hk':∀k,Spent φ w k→markD k∈xs→w'.heap[k]?=w.heap[k]?:=fun k s hm=>hk k s (List.mem_cons_of_mem _ hm)
  rcases e with⟨d,ds',k,e1,e2,e3,e4,e5⟩|⟨k,e1,e2,e3,e4,e5⟩
  ·exact .inl ⟨d,ds',k,e1,e2,e3,e4,e5.keep hk'⟩
  ·exact .inr ⟨k,e1,e2,⟨by rw[hk k e3 (by rw[←e1];exact List.mem_cons_self ..)];exact e3.1,e3.2⟩,e4,e5.keep hk'⟩
theorem qlM{F:Fence}{n:Nat}{fn:Func}{tmps:Array Value}{R:Ending→World→Prop}{xs:List Deferred}{w:World}{k:Nat}(ho:w.heap[k]?=some (.deferred (some [])))
  (hk:LeavesInM F n P fn tmps R xs .returning { w with heap:=w.heap.setIfInBounds k (.deferred none) }):LeavesInM F n P fn tmps R (markD k::xs) .returning w:=by
 have hlt:=lt_of_heap ho
 refine⟨by simp,.inl ⟨k,{ w with heap:=w.heap.setIfInBounds k (.deferred none) },rfl,?_,hk⟩⟩
 simp[Instr.takeDeferred,getObj,setObj,Sem.run,ho]
theorem qdh{F:Fence}{n:Nat}{fn:Func}{tmps:Array Value}{R:Ending→World→Prop}{φ0 φ:Map}{h0:H}{w0:World}(hb:w0.heap.size≤φ.base.2):
  ∀{xs:List Deferred}{ds:List Nat}{h h':H}(_:qdd ds h=some h'){w:World},MarksGo φ w ds xs→Goes φ0 h0 w0 φ h w →
  (∀w',Goes φ0 h0 w0 φ h' w'→LeavesInM F n P fn tmps R [] .returning w')→LeavesInM F n P fn tmps R xs .returning w
 |[],ds,h,h',e,w,hm,g,hk=>by
  have hm:ds=[]:=hm
  subst hm
  cases e
  exact hk w g
 |x::xs,ds,h,h',e,w,hm,g,hk=>by
  rcases hm with⟨d,ds',k,rfl,hkd,hbk,rfl,hm⟩|⟨k,rfl,hbk,hs,hne,hm⟩
  ·simp only[qdd]at e
   split at e
   ·rename_i hg
    split at e
    ·rename_i hro
     obtain⟨k',o,hk',ho,hrel⟩:=g.rel.obj _ _ hg (by simp)
     rw[hkd]at hk';cases hk'
     cases o with
     |deferred calls=>
      cases calls with
      |none=>exact hrel.elim
      |some l=>
       cases l with
       |cons _ _=>exact hrel.elim
       |nil=>
        refine qlM ho ?_
        have hoth:∀j,j≠k.1→(w.heap.setIfInBounds k.1 (.deferred none))[j]?=w.heap[j]?:=fun j hj=>by
         simp only[Array.getElem?_setIfInBounds];rw[if_neg (fun e=>hj e.symm)]
        have g2:=Goes.spoil (w':={ w with heap:=w.heap.setIfInBounds k.1 (.deferred none) }) g.rel hg (Nat.le_of_ble_eq_true hro) hkd (by simp) hoth rfl rfl rfl
        exact qdh hb e (hm.keep fun j s _=>hoth j (fun e=>s.2 d k hkd e.symm)) (g.trans g2) hk
     |_=>exact hrel.elim
    ·cases e
   ·cases e
  ·refine qlM hs.1 ?_
   refine qdh hb e (hm.keep fun j s hj=>?_) (g.took hs (by omega)) hk
   have hjk:j≠k:=fun e=>hne _ hj (by rw[e])
   show(w.heap.setIfInBounds k (.deferred none))[j]?=_
   simp only[Array.getElem?_setIfInBounds];rw[if_neg (fun e=>hjk e.symm)]
theorem qdY{φ:Map}{ts:List V}{tmps:Array Value}{h:H}{w:World}(hts:VRels φ ts tmps.toList)(hr:HRel φ h w):∀(rs:List ResultVar)(vs:List V),qcP P rs ts h=some vs →
  ∃rvs:List Value,(rs.mapM (fun|.tmp t=>pure (tmps.getD t undef)|.cell a t=>do loadVar t (←asAddr (tmps.getD a undef))):Sem (List Value)).run P w=.ok rvs w∧VRels φ vs rvs
 |[],vs,e=>by simp[qcP]at e;subst e;exact⟨[],rfl,.nil⟩
 |.tmp t::rs,vs,e=>by
  simp only[qcP]at e
  split at e
  ·rename_i us hu
   cases e
   obtain⟨rvs,h1,h2⟩:=qdY hts hr rs us hu
   refine⟨tmps.getD t undef::rvs,?_,.cons (qbD hts t) h2⟩
   simp only[List.mapM_cons,Sem.run_bind,Sem.run_pure,Result.andThen_ok,h1]
  ·cases e
 |.cell a t::rs,vs,e=>by
  simp only[qcP]at e
  split at e
  ·rename_i v us hv hu
   cases e
   obtain⟨rvs,h1,h2⟩:=qdY hts hr rs us hu
   have hat:=qbD hts a
   obtain⟨r,hrun,hrel⟩:=qjG hv hat hr
   refine⟨r::rvs,?_,.cons hrel h2⟩
   have:(do loadVar t (←asAddr (tmps.getD a undef)):Sem Value).run P w=.ok r w:=by
    unfold qjP at hv
    split at hv
    ·rename_i va hva
     rw[hva]at hat
     generalize tmps.getD a undef=rv at hat hrun
     cases hat
     simpa[Instr.loadAt,Instr.sureAddr,asAddr]using hrun
    ·rename_i row hva
     rw[hva]at hat
     generalize tmps.getD a undef=rv at hat hrun
     cases hat
     simpa[Instr.loadAt,Instr.sureAddr,asAddr]using hrun
    ·cases hv
   simp only[List.mapM_cons,Sem.run_bind,Sem.run_pure]at this ⊢
   simp only[this,Result.andThen_ok,h1]
  ·cases e
theorem qkB{φ:Map}{fn:Func}{ts:List V}{tmps:Array Value}{h:H}{w:World}{vs:List V}(hts:VRels φ ts tmps.toList)(hr:HRel φ h w)(e:qcP P fn.results.toList ts h=some vs):
  ∃r,(results fn tmps).run P w=.ok r w∧VRel φ (oneOf vs) r:=by
 obtain⟨rvs,h1,h2⟩:=qdY hts hr _ _ e
 have hm:(fn.results.mapM (fun|.tmp t=>pure (tmps.getD t undef)|.cell a t=>do loadVar t (←asAddr (tmps.getD a undef))):Sem (Array Value)).run P w=.ok rvs.toArray w:=by
  rw[Array.mapM_eq_mapM_toList,Sem.run_map,h1];rfl
 refine⟨(if h:rvs.toArray.size=1 then rvs.toArray[0]else .tuple rvs.toArray),?_,?_⟩
 ·unfold results
  rw[Sem.run_bind]
  exact(congrArg (fun z=>Result.andThen z _) hm).trans rfl
 ·cases h2 with
  |nil=>exact .tuple _ _ .nil
  |@cons _ r1 _ _ hv ht=>
   cases ht with
   |nil=>exact hv
   |@cons _ r2 _ rr hv2 ht2=>
    have:¬(r1::r2::rr:List Value).toArray.size=1:=by simp
    rw[dif_neg this]
    exact .tuple _ _ (.cons hv (.cons hv2 ht2))
theorem qfP{lim:Nat}:∀{l:List (Nat×Ob)}{b:Nat}{x:Ob},look (qbi lim l) b=some x→look l b=some x
 |[],b,x,e=>e
 |(c,y)::r,b,x,e=>by
  simp only[qbi]at e
  split at e
  ·rename_i hc
   have hc':=Nat.le_of_ble_eq_true hc
   have ih:=qfP e
   have hb:b<lim:=by
    have key:∀(l:List (Nat×Ob)),look (qbi lim l) b=some x→b<lim:=by
     intro l
     induction l with
     |nil=>intro e;cases e
     |cons p r ih2=>
      obtain⟨d,z⟩:=p
      intro e
      simp only[qbi]at e
      split at e
      ·exact ih2 e
      ·rename_i hd
       have hd':d<lim:=by
        rcases Nat.lt_or_ge d lim with h|h
        ·exact h
        ·have:=Nat.ble_eq_true_of_le h;rw[hd]at this;cases this
       rw[look_eq]at e
       split at e
       ·rename_i he;have:=Nat.eq_of_beq_eq_true he;omega
       ·split at e
        ·cases e
        ·rename_i hbl
         rcases Nat.lt_or_ge b d with h|h
         ·omega
         ·have:=Nat.ble_eq_true_of_le h;rw[hbl]at this;cases this
    exact key r e
   have hne:c≠b:=by omega
   have hnb:Nat.ble c b=false:=by
    cases hh:Nat.ble c b with
    |false=>rfl
    |true=>have:=Nat.le_of_ble_eq_true hh;omega
   simp only[look_eq,qbn hne,hnb]
   exact ih
  ·exact e
theorem qge{m:List (Nat×Ob)}{b:Nat}{x:Ob}:∀{l:List (Nat×Ob)},look (l++m) b=some x→(b,x)∈l∨look m b=some x
 |[],e=>.inr e
 |(c,y)::r,e=>by
  rw[List.cons_append,look_eq]at e
  split at e
  ·rename_i h
   cases e
   have:=Nat.eq_of_beq_eq_true h
   subst this
   exact .inl (by simp)
  ·split at e
   ·cases e
   ·exact(qge e).imp (fun h=>by simp[h]) id
theorem qn5{objs:List (Nat×Ob)}{ids:List Nat}{b:Nat}{x:Ob}(h:(b,x)∈qok objs ids):look objs b=some x:=by
 obtain⟨c,_,hc⟩:=List.mem_filterMap.1 h
 cases hl:look objs c with
 |none=>rw[hl]at hc;cases hc
 |some y=>rw[hl]at hc;simp at hc;obtain⟨rfl,rfl⟩:=hc;exact hl
theorem qm6(args:List V)(v:V)(lim:Nat)(h:H):(tidy args v lim h).said=h.said:=by
 rw[qoh];split<;>rfl
theorem qob{φ:Map}{args:List V}{v:V}{lim:Nat}{h:H}{w:World}(hr:HRel φ h w):Goes φ h w φ (tidy args v lim h) w:=by
 rw[qoh]
 split
 ·exact Goes.refl hr
 ·refine Goes.drop hr rfl rfl fun b x hx=>?_
  have hx':=qaS hx
  have:look h.objs b=some x:=by
   rcases qge hx' with h1|h1
   ·exact qn5 h1
   ·exact qfP (lim:=lim) h1
  show live (look h.objs b)=some x
  rw[this];exact qk1 hx hx'
theorem qjv{fn:Func}{args:List V}{lim:Nat}{st:S}{v:V}{h':H}(e:qjs P fn args lim st=some (v,h'))(hh:h'.Holds):
  st.h.Holds∧∀(φ φ0:Map)(h0:H)(w0:World)(a:Act)(w:World)(F:Fence)(n:Nat),VRels φ st.ts a.tmps.toList→MarksRel φ w st.dfs a.defers→φ.base=([],w0.heap.size)→Goes φ0 h0 w0 φ st.h w →
   ∀Q:Ending→World→Prop,(∀e w',PostCall φ0 h0 w0 v h' e w'→Q e w')→LeavesInM F n P fn a.tmps Q a.defers .returning w:=by
 unfold qjs at e
 split at e
 ·cases e
 ·rename_i h1 ht
  split at e
  ·cases e
  ·rename_i vs hv
   cases e
   refine⟨fun p hp=>hh p (by rw[qm6,qep ht];exact hp),fun φ φ0 h0 w0 a w F n hts hm hbs g Q hQ=>?_⟩
   obtain⟨_,ys,hys,hgo⟩:=hm
   rw[hbs,List.append_nil]at hys
   rw[hys]
   refine qdh (by rw[hbs];exact Nat.le_refl _) ht hgo g fun w' gw=>?_
   obtain⟨r,hrun,hrel⟩:=qkB hts gw.rel hv
   exact⟨r,hrun,hQ _ _ ⟨φ,r,rfl,hrel,gw.trans (qob gw.rel)⟩⟩
theorem PostCall.unre{φ:Map}{m:List Deferred×Nat}{h h':H}{w w':World}{v:V}{e:Ending}(p:PostCall (φ.re m) h w v h' e w'):PostCall φ h w v h' e w':=by
 obtain⟨φ',r,h1,h2,h3⟩:=p
 exact⟨φ'.re φ.base,r,h1,h2.re _,h3.re⟩
def Plain (P : Program) : Prop := ∀ (f : FuncId) (fn : Func), P.funcs[f]? = some fn → fn.body.isSome = true → (fn.name == "runtime.NumGoroutine") = false
theorem qdT(hp:Plain P){f:FuncId}{fn:Func}{c:Code}(hf:P.funcs[f]?=some fn)(hb:fn.body=some c)(args:Array Value)(w:World):(callFunc f args).run P w=.ok (.enter f args) w:=by
 have hn:=hp f fn hf (by rw[hb];rfl)
 simp only[callFunc,Sem.run_bind,run_program,Result.andThen_ok,hf,hn,Bool.false_eq_true,if_false,hb,Option.isNone_some,Sem.run_pure]
theorem qod(hL:LevOk P L){f:FuncId}{lend:Option (Nat×Ob)}{lim:Nat}:∀(c:Code)(st:S)(x:X)(st':S),InB P (.top f) c→qkm P L (.top f) lend lim c st=some (x,st')→st'.h.Holds→st.h.Holds ∧
  ∀(φ0:Map)(h0:H)(w0:World),h0.next=lim→HRel φ0 h0 w0→Bare lend φ0 h0→∀(φ:Map)(a:Act)(w:World)(F:Fence)(n:Nat),Wide F→(∀φ,RoundRel φ (Rd.top f).l F.round)→VRels φ st.ts a.tmps.toList→MarksRel φ w st.dfs a.defers→Goes φ0 h0 w0 φ st.h w→c.wpIn F n P (Post φ0 h0 w0 x st') a w:=by
 intro c
 have base:∀(c:Code)(st:S)(x:X)(st':S),InB P (.top f) c→L.exec (.top f) c st=some (x,st')→st'.h.Holds→st.h.Holds ∧
   ∀(φ0:Map)(h0:H)(w0:World),h0.next=lim→HRel φ0 h0 w0→Bare lend φ0 h0→∀(φ:Map)(a:Act)(w:World)(F:Fence)(n:Nat),Wide F→(∀φ,RoundRel φ (Rd.top f).l F.round)→VRels φ st.ts a.tmps.toList→MarksRel φ w st.dfs a.defers→Goes φ0 h0 w0 φ st.h w→c.wpIn F n P (Post φ0 h0 w0 x st') a w:=by
  intro c st x st' hin e hh
  obtain⟨p1,p2⟩:=hL.exec _ _ _ _ _ hin e hh
  exact⟨p1,fun φ0 h0 w0 _ hr0 _ φ a w F n hF hrd hts hm g=>wpIn_mono (p2 φ a w F n hF (hrd φ) hts hm g.rel) (fun _ _ _ p=>p.from g)⟩
 induction c with
 |seq c1 c2 _ ih2=>
  intro st x st' hin e hh
  unfold qkm at e
  split at e
  ·rename_i st1 h1
   split at e
   ·rename_i st2 h2
    obtain⟨q1,q2⟩:=ih2 st2 x st' (hin.sub (.seqR (.refl _))) e hh
    obtain⟨p1,p2⟩:=hL.exec _ _ _ _ _ (hin.sub (.seqL (.refl _))) h1 (qkP h2 q1)
    refine⟨p1,fun φ0 h0 w0 hlim hr0 hb φ a w F n hF hrd hts hm g=>wpIn_seq (qd2 (p2 φ a w F n hF (hrd φ) hts hm g.rel) ?_)⟩
    intro φ' a' w' t1 t2 t3
    obtain⟨φ2,u1,u2,u3⟩:=(qmK hr0 hb (by rw[hlim];exact h2) q1).2 φ' a' w' t1 t2 (g.trans t3)
    exact q2 φ0 h0 w0 hlim hr0 hb φ2 a' w' F n hF hrd u1 u2 u3
   ·cases e
  ·rename_i hne
   obtain⟨p1,p2⟩:=hL.exec _ _ _ _ _ (hin.sub (.seqL (.refl _))) e hh
   refine⟨p1,fun φ0 h0 w0 _ hr0 _ φ a w F n hF hrd hts hm g=>wpIn_seq (wpIn_mono (p2 φ a w F n hF (hrd φ) hts hm g.rel) ?_)⟩
   rintro e' a' w' ⟨he,k⟩
   have k':∃φ',VRels φ' st'.ts a'.tmps.toList∧MarksRel φ' w' st'.dfs a'.defers∧Goes φ0 h0 w0 φ' st'.h w':=let⟨φ',a1,a2,a3⟩:=k;⟨φ',a1,a2,g.trans a3⟩
   cases x with
   |normal=>exact absurd e (hne _)
   |exit id=>subst he;exact⟨rfl,k'⟩
   |ret=>subst he;exact⟨rfl,k'⟩
 |_=>intro st x st' hin e hh;exact base _ st x st' hin e hh
theorem qjh(hp:Plain P)(hL:LevOk P L){orc:Orc}(ho:COrcOk P orc.call){f:FuncId}{args:List V}{h h':H}{v:V}(e:qeT orc P L f args h=some (v,h'))(hh:h'.Holds):
  h.Holds∧(∀(args':Array Value)(w:World),(callFunc f args').run P w=.ok (.enter f args') w) ∧
   ∀(φ:Map)(args':Array Value)(w:World)(F:Fence)(n:Nat),Wide F→VRels φ args args'.toList→HRel φ h w→CallsIn F n P f args' w (PostCall φ h w v h'):=by
 unfold qeT at e
 split at e
 ·rename_i r hr
  cases e
  exact ho _ _ _ _ _ hr hh
 ·split at e
  ·cases e
  ·rename_i fn hf
   split at e
   ·cases e
   ·rename_i c hb
    have fin:∀{x:X}{st:S},L.exec (.top f) c { ts:=args++List.replicate (fn.ntmps-args.length) .bot,dfs:=[],h:=h }=some (x,st)→(x=.normal∨x=.ret)→qjs P fn args h.next st=some (v,h') →
      h.Holds∧(∀(args':Array Value)(w:World),(callFunc f args').run P w=.ok (.enter f args') w) ∧
      ∀(φ:Map)(args':Array Value)(w:World)(F:Fence)(n:Nat),Wide F→VRels φ args args'.toList→HRel φ h w→CallsIn F n P f args' w (PostCall φ h w v h'):=by
     intro x st hx hxx hlv
     obtain⟨l1,l2⟩:=qjv hlv hh
     obtain⟨p1,p2⟩:=hL.exec _ _ _ _ _ (show InB P (.top f) c from⟨fn,c,hf,hb,.refl _⟩) hx l1
     refine⟨p1,qdT hp hf hb,fun φ args' w F n hF ha hr=>?_⟩
     have hF0:Wide F.plain:=⟨hF.fn,hF.depth⟩
     have key:CallsIn F.plain n P f args' w (PostCall φ h w v h'):=by
      refine callsIn_of_wp_marks hf hb (hF.fn f) ?_ rfl
      have hlen:=ha.length
      have hts:VRels φ (args++List.replicate (fn.ntmps-args.length) .bot) (args'++Array.replicate (fn.ntmps-args'.size) undef).toList:=by
       have:fn.ntmps-args.length=fn.ntmps-args'.size:=by simp at hlen;omega
       rw[this]
       simpa using ha.append (VRels.replicate (fn.ntmps-args'.size) (.bot undef))
      refine wpIn_mono (p2 (φ.re ([],w.heap.size)) { tmps:=args'++Array.replicate (fn.ntmps-args'.size) undef,defers:=[] } w F.plain n hF0 trivial (hts.re _) ⟨Nat.le_refl _,[],rfl,rfl⟩ (hr.re _)) ?_
      rintro e' a' w' ⟨he,φ',t1,t2,t3⟩
      subst he
      have:=l2 φ' (φ.re ([],w.heap.size)) h w a' w' F.plain n t1 t2 t3.le.base t3 (PostCall φ h w v h') (fun _ _ p=>p.unre)
      rcases hxx with rfl|rfl<;>exact this
     exact key
    have finT:∀{lend:Option (Nat×Ob)}{x:X}{st:S},qe5 h args=some lend→qkm P L (.top f) lend h.next c { ts:=args++List.replicate (fn.ntmps-args.length) .bot,dfs:=[],h:=qek lend h }=some (x,st)→(x=.normal∨x=.ret)→qhV P fn args lend h st=some (v,h') →
      h.Holds∧(∀(args':Array Value)(w:World),(callFunc f args').run P w=.ok (.enter f args') w) ∧
      ∀(φ:Map)(args':Array Value)(w:World)(F:Fence)(n:Nat),Wide F→VRels φ args args'.toList→HRel φ h w→CallsIn F n P f args' w (PostCall φ h w v h'):=by
     intro lend x st hle hx hxx hlv
     unfold qhV at hlv
     split at hlv
     rotate_left
     ·cases hlv
     rename_i v2 h2 hlv2
     split at hlv
     rotate_left
     ·cases hlv
     rename_i v3 h3 hst
     cases hlv
     have hh3:h3.Holds:=fun p hp=>hh p (by rw[(qhy lend h h3).2.2];exact hp)
     obtain⟨hh2,hst2⟩:=qio hst hh3
     obtain⟨l1,l2⟩:=qjv hlv2 hh2
     obtain⟨p1,p2⟩:=qod hL c _ _ _ (show InB P (.top f) c from⟨fn,c,hf,hb,.refl _⟩) hx l1
     refine⟨fun p hp=>p1 p (by rw[qbB];exact hp),qdT hp hf hb,fun φ args' w F n hF ha hr=>?_⟩
     have hF0:Wide F.plain:=⟨hF.fn,hF.depth⟩
     obtain⟨ok,ha'⟩:=qkk hle ha
     have hrl:=hr.lend ok
     have key:CallsIn F.plain n P f args' w (PostCall φ h w v (qdW lend h h3)):=by
      refine callsIn_of_wp_marks hf hb (hF.fn f) ?_ rfl
      have hlen:=ha.length
      have hts:VRels (φ.lend lend) (args++List.replicate (fn.ntmps-args.length) .bot) (args'++Array.replicate (fn.ntmps-args'.size) undef).toList:=by
       have:fn.ntmps-args.length=fn.ntmps-args'.size:=by simp at hlen;omega
       rw[this]
       simpa using ha'.append (VRels.replicate (fn.ntmps-args'.size) (.bot undef))
      have hru':=hrl.re ([],w.heap.size)
      refine wpIn_mono (p2 ((φ.lend lend).re ([],w.heap.size)) (qek lend h) w (by rw[qbB]) hru' (qnz hr ok _) ((φ.lend lend).re ([],w.heap.size)) { tmps:=args'++Array.replicate (fn.ntmps-args'.size) undef,defers:=[] } w F.plain n hF0 (fun _=>trivial) (hts.re _) ⟨Nat.le_refl _,[],rfl,rfl⟩ (Goes.refl hru')) ?_
      rintro e' a' w' ⟨he,φ',t1,t2,t3⟩
      subst he
      have:=l2 φ' ((φ.lend lend).re ([],w.heap.size)) (qek lend h) w a' w' F.plain n t1 t2 t3.le.base t3 (PostCall φ h w v (qdW lend h h3)) (fun _ _ p=>by
       obtain⟨φ2,r,b1,b2,b3⟩:=p.unre
       obtain⟨φ3,b2,b4⟩:=hst2 φ2 _ r b2 b3.rel
       obtain⟨ψ,g1,g2⟩:=Goes.lend hr ok (b3.trans b4)
       exact⟨ψ,r,b1,b2.mono g1,g2⟩)
      rcases hxx with rfl|rfl<;>exact this
     exact key
    split at e
    ·split at e
     ·rename_i st hx;exact fin hx (.inl rfl) e
     ·rename_i st hx;exact fin hx (.inr rfl) e
     ·cases e
    ·rename_i lend hw
     have hle:qe5 h args=some lend:=by
      unfold qii at hw
      split at hw
      ·exact hw
      ·cases hw
     split at e
     ·rename_i st hx;exact finT hle hx (.inl rfl) e
     ·rename_i st hx;exact finT hle hx (.inr rfl) e
     ·cases e
theorem qff{φ:Map}:∀(ps:List Tmp)(vs:List V)(rs:List Value)(ts:List V)(tmps:Array Value),VRels φ vs rs→VRels φ ts tmps.toList →
  VRels φ (qa6 ps vs ts) ((ps.zip rs).foldl (fun tmps (x:Tmp×Value)=>tmps.setIfInBounds x.1 x.2) tmps).toList
 |[],vs,rs,ts,tmps,h,ht=>by cases vs<;>simpa[qa6]using ht
 |t::ps,[],rs,ts,tmps,h,ht=>by cases h;simpa[qa6]using ht
 |t::ps,v::vs,rs,ts,tmps,h,ht=>by
  cases h with
  |cons hv h=>
   simp only[qa6,List.zip_cons_cons,List.foldl_cons]
   exact qff ps vs _ _ _ h (by simpa using ht.set hv t)
theorem qix(hL:LevOk P L){l:Nat}{args:List V}{h h':H}{v:V}(e:qdK L l args h=some (v,h'))(hh:h'.Holds):
  h.Holds∧∀(φ:Map)(args':Array Value)(w:World)(F:Fence)(n:Nat)(k:Nat×Nat×Nat),Wide F→φ l=some k→VRels φ args args'.toList→HRel φ h w →
   ∃f tmps assign body,(Instr.yield k.1 args').run P w=.ok (.round k.1 f tmps assign body) w∧RoundIn F n P k.1 f tmps assign body w (PostCall φ h w v h'):=by
 unfold qdK at e
 split at e
 ·rename_i r hg
  split at e
  ·rename_i hsz hro
   split at e
   ·rename_i st ha
    split at e
    ·rename_i r1 hg1
     split at e
     ·rename_i hrd
      split at e
      ·rename_i x st3 hb
       split at e
       ·rename_i r3 hg3
        cases e
        obtain⟨b1,b2⟩:=hL.exec (.round l) _ _ _ _ trivial hb hh
        have hst:st.h.Holds:=b1
        obtain⟨a1,a2⟩:=hL.exec (.round l) _ _ _ _ trivial ha hst
        refine⟨a1,fun φ args' w F n k hF hk hargs hr=>?_⟩
        obtain⟨k0,q,hk0,hq,hrel⟩:=qg3 hr hg
        rw[hk]at hk0;cases hk0
        have hlen:=hargs.length
        have hsz':args'.size=q.params.size:=by
         rw[hrel.params]
         have:=Nat.eq_of_beq_eq_true hsz
         simp at hlen;omega
        have hro':=Nat.le_of_ble_eq_true hro
        let tm:Array Value:=(q.params.zip args').foldl (fun tmps (t,a)=>tmps.setIfInBounds t a) q.tmps
        have htm:VRels φ (qa6 r.params.toList args r.tmps) tm.toList:=by
         have:=qff q.params.toList args args'.toList r.tmps q.tmps hargs hrel.tmps
         rw[hrel.params]at this
         simp only[tm]
         rw[←Array.foldl_toList,Array.toList_zip,hrel.params]
         exact this
        refine⟨q.fn,tm,q.assign,q.body,?_,?_⟩
        ·have:¬args'.size≠q.params.size:=by simp[hsz']
         simp only[Instr.yield,Sem.run_bind,run_getLoop hq,Result.andThen_ok,if_neg this,Sem.run_pure]
         rfl
        ·refine roundIn_of_wpIn (hF.fn _) ?_
         have hW:Wide (F.inRound k.1):=hF.inRound k.1
         have hRR:RoundRel φ (some l) (F.inRound k.1).round:=⟨k.2,hk⟩
         rw[hrel.assign]
         refine qd2 (a2 (φ.re ([],w.heap.size)) { tmps:=tm,defers:=[] } w (F.inRound k.1) n hW hRR (htm.re _) ⟨Nat.le_refl _,[],rfl,rfl⟩ (hr.re _)) ?_
         intro φ1 a1' w1 t1 t2 t3
         obtain⟨k1,q1,hk1,hq1,hrel1⟩:=qg3 t3.rel hg1
         have hkk:k1=k:=by have:=t3.le _ _ hk;rw[hk1]at this;cases this;rfl
         subst hkk
         have hstate:q1.state=.ready:=by
          rw[hrel1.state];revert hrd;cases r1.state<;>intro hrd<;>first|rfl|cases hrd
         have hro1:st.h.ro≤l:=by rw[t3.ro];exact hro'
         have g1:=qdJ t3.rel (r2:={ r1 with state:=.busy }) (q2:={ q1 with state:=.busy }) hg1 hro1 hk1 hq1 { hrel1 with state:=rfl }
         refine⟨{ w1 with heap:=w1.heap.setIfInBounds k1.1 (.loop { q1 with state:=.busy }) },?_,?_⟩
         ·simp only[Instr.beginRound,Sem.run_bind,run_getLoop hq1,Result.andThen_ok,run_setObj_loop hq1,hstate,Sem.run_pure]
         ·have hbody:q.body=r1.body∨True:=.inr trivial
          rw[hrel.body]
          refine qd2 (b2 φ1 a1' _ (F.inRound k1.1) n hW ⟨k1.2,hk1⟩ t1 (t2.goes t3.rel g1) g1.rel) ?_
          intro φ2 a2' w2 s1 s2 s3
          obtain⟨k3,q3,hk3,hq3,hrel3⟩:=qg3 s3.rel hg3
          have hkk3:k3=k1:=by have:=s3.le _ _ hk1;rw[hk3]at this;cases this;rfl
          subst hkk3
          have hro3:st3.h.ro≤l:=by rw[s3.ro];exact hro1
          have g3:=qdJ s3.rel (r2:={ r3 with state:=if(qcN x).isNone then .ready else .done,pending:=qcN x }) (q2:={ q3 with state:=if(qcN x).isNone then .ready else .done,pending:=qcN x }) hg3 hro3 hk3 hq3 { hrel3 with state:=rfl,pending:=rfl }
          have hend:(Instr.endRound k3.1 (qcN x)).run P w2=.ok (.bool (qcN x).isNone) { w2 with heap:=w2.heap.setIfInBounds k3.1 (.loop { q3 with state:=if(qcN x).isNone then .ready else .done,pending:=qcN x }) }:=by
           simp only[Instr.endRound,Sem.run_bind,run_getLoop hq3,Result.andThen_ok,run_setObj_loop hq3,Sem.run_pure]
          have hpost:=(((t3.trans g1).trans s3).trans g3).re
          cases x with
          |normal=>exact⟨_,_,hend,φ2.re φ.base,_,rfl,.bool _,hpost⟩
          |ret=>exact⟨_,_,hend,φ2.re φ.base,_,rfl,.bool _,hpost⟩
          |exit id=>exact⟨_,_,hend,φ2.re φ.base,_,rfl,.bool _,hpost⟩
       ·cases e
      ·cases e
     ·cases e
    ·cases e
   ·cases e
  ·cases e
 ·cases e
theorem qlr(hp:Plain P){dr:Draw}(hdr:qgA P dr){orc:Orc}(ho:OrcOk P orc):∀n,LevOk P (qj9 dr orc P n)
 |0=>⟨(fun _ _ _ _ _ _ e=>by cases e),(fun _ _ _ _ _ e=>by cases e),(fun _ _ _ _ _ e=>by cases e)⟩
 |n+1=>
  have ih:=qlr hp hdr ho n
  ⟨fun _ _ _ _ _ hin e hh=>qka ih hdr ho hin e hh,fun _ _ _ _ _ e hh=>qjh hp ih ho.call e hh,fun _ _ _ _ _ e hh=>qix ih e hh⟩
end
end Go.Vm

namespace Go.Vm
open Go
def inOrder(bf:Array Nat)(i j:Nat):Bool:=
 match Nat.ble i j with
 |true=>Nat.beq i j||(bf.getD j 0).testBit i
 |false=>(bf.getD i 0).testBit j
def alone(ops:Array Oper)(bf:Array Nat)(i:Nat):Bool:=
 (List.range ops.size).all fun j=>match ops[j]? with
  |some o=>!qat o.op||inOrder bf i j
  |none=>true
def qa4(o:Oper):List Tmp:=
 o.op.operands.toList.filterMap fun|.tmp t=>some t|_=>none
def qcs(ops:Array Oper)(bf:Array Nat):Bool:=
 (List.range ops.size).all fun i=>match ops[i]? with
  |none=>false
  |some o=>
   (o.after.all fun e=>!Region.binds .any e||Nat.blt e.on i) &&
   (match o.guard with
    |none=>true
    |some (j,_)=>(bf.getD i 0).testBit j) &&
   (match o.dst with
    |none=>true
    |some d=>(List.range ops.size).all fun j=>match ops[j]? with
     |none=>false
     |some p=>(Nat.beq i j||!(p.dst==some d))&&(!(qa4 p).contains d||Nat.beq i j||inOrder bf i j))
def qgo(base:Nat)(ok:Nat→Bool):List (Nat×Ob)→List (Nat×Ob)
 |[]=>[]
 |(id,x)::r=>match Nat.ble base id with
  |false=>(id,x)::r
  |true=>(id,match ok id with|true=>x|false=>.dead)::qgo base ok r
def qh5(mask:Nat)(rng:List (Nat×Nat×Nat))(id:Nat):Bool:=
 rng.any fun x=>Nat.ble x.2.1 id&&Nat.blt id x.2.2&&mask.testBit x.1
def qbx(h:H):Bool:=
 match h.objs with
 |[]=>true
 |(c,_)::_=>Nat.ble (c+1) h.next
structure D where
 base:Nat
 rng:List (Nat×Nat×Nat)
 st:S
def qaz(bf:Array Nat)(i:Nat)(d:D)(h:H):H:=
 H.casesOn h fun next _ objs ask said=>{ next:=next,ro:=next,objs:=qgo d.base (qh5 (bf.getD i 0) d.rng) objs,ask:=ask,said:=said }
theorem qmj(bf:Array Nat)(i:Nat)(d:D)(h:H):qaz bf i d h={ h with ro:=h.next,objs:=qgo d.base (qh5 (bf.getD i 0) d.rng) h.objs }:=by cases h;rfl
def H.back(h h2:H):H:=H.casesOn h fun _ ro _ _ _=>H.casesOn h2 fun next _ objs ask said=>{ next:=next,ro:=ro,objs:=objs,ask:=ask,said:=said }
theorem H.back_eq(h h2:H):h.back h2={ h2 with ro:=h.ro }:=by cases h;cases h2;rfl
def H.both(h h2:H):H:=H.casesOn h fun lim ro old _ _=>H.casesOn h2 fun next _ objs ask said=>{ next:=next,ro:=ro,objs:=qbh lim objs++old,ask:=ask,said:=said }
theorem H.both_eq(h h2:H):h.both h2={ h2 with ro:=h.ro,objs:=qbh h.next h2.objs++h.objs }:=by cases h;cases h2;rfl
def qd9(P:Program)(L:Lev)(ops:Array Oper)(bf:Array Nat)(i:Nat)(o:Oper)(d:D)(h:H):Option (V×D):=
 match d with
 |{ base,rng,st:={ ts,dfs,h:=h0 } }=>
 match qbx h,alone ops bf i with
 |true,true=>match qao L P o.op (eval ts) h with
  |none=>none
  |some (v,h2)=>match Nat.ble h.next h2.next with
   |true=>some (v,{ base:=h2.next,rng:=[],st:={ ts:=putT ts o.dst v,dfs:=dfs,h:=h.back h2 } })
   |false=>none
 |true,false=>match qao L P o.op (eval ts) (qaz bf i { base,rng,st:={ ts,dfs,h:=h0 } } h)with
  |none=>none
  |some (v,h2)=>match Nat.ble h.next h2.next with
   |true=>some (v,{ base:=base,rng:=(i,h.next,h2.next)::rng,st:={ ts:=putT ts o.dst v,dfs:=dfs,h:=h.both h2 } })
   |false=>none
 |false,_=>none
theorem qkW(P:Program)(L:Lev)(ops:Array Oper)(bf:Array Nat)(i:Nat)(o:Oper)(d:D)(h:H):qd9 P L ops bf i o d h =
 match qbx h,alone ops bf i with
 |true,true=>match qao L P o.op (eval d.st.ts) h with
  |none=>none
  |some (v,h2)=>match Nat.ble h.next h2.next with
   |true=>some (v,{ base:=h2.next,rng:=[],st:={ d.st with ts:=putT d.st.ts o.dst v,h:={ h2 with ro:=h.ro } } })
   |false=>none
 |true,false=>match qao L P o.op (eval d.st.ts) (qaz bf i d h)with
  |none=>none
  |some (v,h2)=>match Nat.ble h.next h2.next with
   |true=>some (v,{ d with rng:=(i,h.next,h2.next)::d.rng,st:={ d.st with ts:=putT d.st.ts o.dst v,h:={ h2 with ro:=h.ro,objs:=qbh h.next h2.objs++h.objs } } })
   |false=>none
 |false,_=>none:=by
 obtain⟨base,rng,ts,dfs,h0⟩:=d
 unfold qd9
 simp only[H.back_eq,H.both_eq]
def stepD(P:Program)(L:Lev)(ops:Array Oper)(bf:Array Nat)(i:Nat)(d:D):Option (V×D):=
 match d with
 |{ base,rng,st:={ ts,dfs,h } }=>
 match ops[i]? with
 |none=>none
 |some o=>match qaL ops o ts h with
  |none=>none
  |some (false,h)=>some (.tuple [],{ base,rng,st:={ ts:=putT ts o.dst (.tuple []),dfs,h } })
  |some (true,h1)=>match qat o.op with
   |false=>match qcA P o.op (eval ts) h1 with
    |none=>none
    |some (v,h)=>some (v,{ base,rng,st:={ ts:=putT ts o.dst v,dfs,h } })
   |true=>qd9 P L ops bf i o { base,rng,st:={ ts,dfs,h } } h1
theorem qlB(P:Program)(L:Lev)(ops:Array Oper)(bf:Array Nat)(i:Nat)(d:D):stepD P L ops bf i d =
 match ops[i]? with
 |none=>none
 |some o=>match qaL ops o d.st.ts d.st.h with
  |none=>none
  |some (false,h)=>some (.tuple [],{ d with st:={ d.st with ts:=putT d.st.ts o.dst (.tuple []),h:=h } })
  |some (true,h)=>match qat o.op with
   |false=>match qcA P o.op (eval d.st.ts) h with
    |none=>none
    |some (v,h)=>some (v,{ d with st:={ d.st with ts:=putT d.st.ts o.dst v,h:=h } })
   |true=>qd9 P L ops bf i o d h:=by
 obtain⟨base,rng,ts,dfs,h0⟩:=d
 rfl
def qe2(P:Program)(L:Lev)(ops:Array Oper)(bf:Array Nat):List Nat→D→Option D
 |[],d=>some d
 |i::rest,d=>match stepD P L ops bf i d with
  |none=>none
  |some (_,d)=>qe2 P L ops bf rest d
def drawn(P:Program):Draw:=fun L ops st=>
 match qcs ops (Region.before ops)with
 |true=>match qe2 P L ops (Region.before ops) (List.range ops.size) { base:=st.h.next,rng:=[],st:=st }with
  |some d=>match qbx d.st.h with
   |true=>some d.st
   |false=>none
  |none=>none
 |false=>none
theorem qbJ{ρ ρ':Operand→V}{l:List Operand}(h:∀x∈l,ρ x=ρ' x):l.map ρ=l.map ρ':=List.map_congr_left h
theorem qeA{P:Program}{op:Op}{ρ ρ':Operand→V}(h:∀x∈op.operands,ρ x=ρ' x)(hp:H):qcA P op ρ hp=qcA P op ρ' hp:=by
 have pairs:∀ps:Array (Nat×Operand),(∀x∈(ps.toList.map (·.2)),ρ x=ρ' x)→(ps.toList.map fun x=>(x.1,ρ x.2))=(ps.toList.map fun x=>(x.1,ρ' x.2)):=fun ps hp=>
  List.map_congr_left fun p hm=>by rw[hp p.2 (List.mem_map.2 ⟨p,hm,rfl⟩)]
 cases op<;>simp only[Op.operands]at h<;>simp only[qcA]
 case build t ps=>rw[pairs ps fun x hx=>h x (by simpa using hx)]
 case makeFunc fn first captured=>
  rw[qbJ (l:=first.toList) fun x hx=>h x (by simp at hx ⊢;exact .inl hx),qbJ (l:=captured.toList) fun x hx=>h x (by simp at hx ⊢;exact .inr hx)]
 case slice t x lo hi mx=>cases lo<;>cases hi<;>cases mx<;>simp_all
 case call c=>
  obtain⟨callee,args,ts⟩:=c
  cases callee with
  |builtin b=>
   have h2:args.toList.map ρ=args.toList.map ρ':=qbJ fun x hx=>h x (by simp[Call.operands]at hx ⊢;exact hx)
   simp only[h2]
  |_=>rfl
 all_goals first|rfl|(simp_all;done)
theorem qbG{P:Program}{L:Lev}{op:Op}{ρ ρ':Operand→V}(h:∀x∈op.operands,ρ x=ρ' x)(hp:H):qao L P op ρ hp=qao L P op ρ' hp:=by
 have pairs:∀ps:Array (Nat×Operand),(∀x∈(ps.toList.map (·.2)),ρ x=ρ' x)→(ps.toList.map fun x=>(x.1,ρ x.2))=(ps.toList.map fun x=>(x.1,ρ' x.2)):=fun ps hp=>
  List.map_congr_left fun p hm=>by rw[hp p.2 (List.mem_map.2 ⟨p,hm,rfl⟩)]
 cases op<;>simp only[Op.operands]at h<;>simp only[qao,vmem]
 case buildSlice t n ps=>rw[pairs ps fun x hx=>h x (by simpa using hx)]
 case call c=>
  obtain⟨callee,args,ts⟩:=c
  cases callee with
  |value f=>
   simp only[qmd]
   have h1:=h f (by simp[Call.operands])
   have h2:args.toList.map ρ=args.toList.map ρ':=qbJ fun x hx=>h x (by simp[Call.operands]at hx ⊢;exact .inr hx)
   rw[h1,h2]
  |builtin b=>
   have h2:args.toList.map ρ=args.toList.map ρ':=qbJ fun x hx=>h x (by simp[Call.operands]at hx ⊢;exact hx)
   cases b<;>simp only[h2]
  |invoke r m=>rfl
 case makeMap t r=>
  cases r with
  |none=>rfl
  |some x=>dsimp only;rw[h x (by simp)]
 all_goals first|rfl|(simp_all;done)
end Go.Vm

namespace Go.Vm
open Go
theorem qqE{P:Program}{op:BinOp}{t:TypeId}{x y:V}{h h':H}{v:V}(e:vbin P op t x y h=some (v,h')):h.Same h':=by
 unfold vbin at e
 repeat' split at e
 all_goals first
  |(cases e;done)
  |(cases e;exact H.Same.refl _)
  |(cases e;exact H.test_eqs ‹_›)
theorem qiD{P:Program}{t:TypeId}{x y:V}{h h':H}{v:V}(e:qbf P t x y h=some (v,h')):h.Same h':=by
 unfold qbf at e
 repeat' split at e
 all_goals first
  |(cases e;done)
  |(cases e;exact H.test_eqs ‹_›)
theorem qoo{P:Program}{t:TypeId}{x y:V}{h h':H}{v:V}(e:qeK P t x y h=some (v,h')):h.Same h':=by
 unfold qeK at e
 repeat' split at e
 all_goals first
  |(cases e;done)
  |(cases e;exact H.test_eqs ‹_›)
  |(exact H.Same.trans (H.test_eqs ‹_›) (qoV e))
theorem qdM{v:Option V}{d t n:Nat}{h h':H}(e:qcI v d t h=some (n,h')):h.Same h':=by
 unfold qcI at e
 repeat' split at e
 all_goals first
  |(cases e;done)
  |(cases e;exact H.Same.refl _)
  |(cases e;exact H.test_eqs ‹_›)
theorem qcm{len:Nat}{cap:Option Nat}{lo hi mx:Option V}{h h':H}{l g:Nat}{m:Option Nat}(e:qbu len cap lo hi mx h=some (l,g,m,h')):h.Same h':=by
 unfold qbu at e
 split at e
 ·split at e
  ·cases e
  ·rename_i e1
   split at e
   ·cases e
   ·split at e
    ·cases e
    ·rename_i e2
     split at e
     ·cases e
     ·rename_i e3
      cases e
      exact(qdM e1).trans ((qdM e2).trans (qdM e3))
 ·split at e
  ·cases e
  ·rename_i e1
   split at e
   ·cases e
   ·rename_i e2
    cases e
    exact(qdM e1).trans (qdM e2)
theorem qjK{a a':VA}{lo:Option V}{l n hg:Nat}{m:Option Nat}{h h':H}(e:qeu a lo l n m hg h=some (a',h')):h.Same h':=by
 unfold qeu at e
 repeat' split at e
 all_goals first
  |(cases e;done)
  |(cases e;exact H.Same.refl _)
  |(cases e;exact H.test_eqs ‹_›)
theorem qjx{mx:Option V}{m:Option Nat}{hg:Nat}{h h':H}{tip:Tip}(e:qc0 mx m hg h=some (tip,h')):h.Same h':=by
 unfold qc0 at e
 repeat' split at e
 all_goals first
  |(cases e;done)
  |(cases e;exact H.Same.refl _)
  |(cases e;exact H.test_eqs ‹_›)
theorem qmp{lo:Option V}{l hg:Nat}{m:Option Nat}{h h':H}{v:V}(e:qft lo l hg m h=some (v,h')):h.Same h':=by
 unfold qft at e
 repeat' split at e
 all_goals first
  |(cases e;done)
  |(cases e;exact H.test_eqs ‹_›)
theorem qnW{P:Program}{t:TypeId}{x:V}{lo hi mx:Option V}{h h':H}{v:V}(e:qgm P t x lo hi mx h=some (v,h')):h.Same h':=by
 unfold qgm at e
 split at e
 ·split at e
  ·cases e
  ·split at e
   ·cases e
   ·rename_i e1
    split at e
    ·cases e
    ·rename_i e2
     cases e
     exact(qcm e1).trans (qjK e2)
 ·split at e
  ·cases e
  ·split at e
   ·cases e
   ·rename_i e1
    split at e
    ·exact(qcm e1).trans (qmp e)
    ·rename_i e2
     cases e
     exact(qcm e1).trans (qjK e2)
 ·split at e
  ·cases e
  ·split at e
   ·cases e
   ·rename_i e1
    cases e
    exact qcm e1
 ·split at e
  ·cases e
  ·split at e
   ·cases e
   ·split at e
    ·cases e
    ·rename_i e1
     split at e
     ·cases e
     ·rename_i e2
      cases e
      exact(qcm e1).trans (qjx e2)
 ·split at e
  ·cases e
  ·split at e
   ·cases e
   ·rename_i e1
    cases e
    exact qcm e1
 ·cases e
theorem qcR{P:Program}{op:Op}{ρ:Operand→V}{h h':H}{v:V}(e:qcA P op ρ h=some (v,h')):h.Same h':=by
 unfold qcA at e
 split at e
 case h_3=>
  repeat' split at e
  all_goals first
   |(cases e;done)
   |(cases e;exact H.test_eqs ‹_›)
 all_goals first
  |(exact qqE e)
  |(exact qnW e)
  |(exact qiD e)
  |(exact qoo e)
  |(cases e;done)
  |(cases e;exact H.Same.refl _)
  |(split at e<;>first
    |(cases e;done)
    |(cases e;exact H.Same.refl _)
    |(split at e<;>first
     |(cases e;done)
     |(cases e;exact H.Same.refl _)))
theorem qmf{ops:Array Oper}{o:Oper}{ts:List V}{h h':H}{b:Bool}(e:qaL ops o ts h=some (b,h')):h.Same h':=by
 unfold qaL at e
 repeat' split at e
 all_goals first
  |(cases e;done)
  |(cases e;exact H.Same.refl _)
  |(cases e;exact H.test_eqs ‹_›)
theorem qiX{ops:Array Oper}{o:Oper}{ts ts':List V}{h:H}(hc:∀j want d,o.guard=some (j,want)→(ops[j]?).bind (·.dst)=some d→getT ts d=getT ts' d):qaL ops o ts h=qaL ops o ts' h:=by
 unfold qaL
 cases hg:o.guard with
 |none=>rfl
 |some g=>
  obtain⟨j,want⟩:=g
  dsimp only
  cases hd:(ops[j]?).bind (·.dst)with
  |none=>rfl
  |some d=>
   dsimp only
   rw[hc j want d hg hd]
theorem qfU(base:Nat)(ok:Nat→Bool):∀(l:List (Nat×Ob))(b:Nat),look (qgo base ok l) b=(look l b).map (fun x=>if base≤b∧ok b=false then .dead else x)
 |[],b=>rfl
 |(id,x)::r,b=>by
  simp only[qgo]
  cases hb:Nat.ble base id with
  |false=>
   have hlt:id<base:=by
    rcases Nat.lt_or_ge id base with h|h
    ·exact h
    ·have:=Nat.ble_eq_true_of_le h;rw[hb]at this;cases this
   by_cases hbb:base≤b
   ·have h1:id≠b:=by omega
    have h2:Nat.ble id b=true:=Nat.ble_eq_true_of_le (by omega)
    simp only[look_eq,qbn h1,h2,Option.map_none]
   ·have:∀y:Option Ob,y=y.map (fun x=>if base≤b∧ok b=false then .dead else x):=by
     intro y;cases y<;>simp[hbb]
    exact this _
  |true=>
   have ih:=qfU base ok r b
   have hle:=Nat.le_of_ble_eq_true hb
   simp only[look_eq]
   by_cases hib:id=b
   ·subst hib
    simp only[Nat.beq_refl,Option.map_some]
    cases ok id<;>simp[hle]
   ·simp only[qbn hib]
    cases Nat.ble id b with
    |true=>rfl
    |false=>exact ih
theorem qfG{lim b:Nat}(hb:b<lim)(m:List (Nat×Ob)):∀l:List (Nat×Ob),look (qbh lim l++m) b=look m b
 |[]=>rfl
 |(id,x)::r=>by
  simp only[qbh]
  cases h:Nat.ble lim id with
  |false=>rfl
  |true=>
   have hle:=Nat.le_of_ble_eq_true h
   have h1:id≠b:=by omega
   have h2:Nat.ble id b=false:=by
    cases hh:Nat.ble id b with
    |false=>rfl
    |true=>have:=Nat.le_of_ble_eq_true hh;omega
   simp only[List.cons_append,look_eq,qbn h1,h2]
   exact qfG hb m r
theorem qfQ{lim b:Nat}{m:List (Nat×Ob)}(hm:look m b=none){x:Ob}:∀l:List (Nat×Ob),look (qbh lim l++m) b=some x→look l b=some x
 |[],e=>by rw[show qbh lim []++m=m from rfl,hm]at e;cases e
 |(id,y)::r,e=>by
  simp only[qbh]at e
  cases h:Nat.ble lim id with
  |false=>rw[h]at e;simp only[List.nil_append,hm]at e;cases e
  |true=>
   rw[h]at e
   simp only[List.cons_append,look_eq]at e ⊢
   cases hb:Nat.beq id b with
   |true=>rw[hb]at e;exact e
   |false=>
    rw[hb]at e
    cases hl:Nat.ble id b with
    |true=>rw[hl]at e;exact e
    |false=>rw[hl]at e;exact qfQ hm r e
theorem qgy{h:H}(e:qbx h=true){b:Nat}{x:Ob}(hl:look h.objs b=some x):b<h.next:=by
 unfold qbx at e
 split at e
 ·rename_i he;rw[he]at hl;cases hl
 ·rename_i c y r he
  have hc:=Nat.le_of_ble_eq_true e
  rw[he]at hl
  simp only[look_eq]at hl
  split at hl
  ·rename_i hb;have:=Nat.eq_of_beq_eq_true hb;omega
  ·split at hl
   ·cases hl
   ·rename_i hbl
    rcases Nat.lt_or_ge b c with h|h
    ·omega
    ·have:=Nat.ble_eq_true_of_le h;rw[hbl]at this;cases this
theorem qk5{h:H}(e:qbx h=true){b:Nat}(hb:h.next≤b):look h.objs b=none:=by
 cases hl:look h.objs b with
 |none=>rfl
 |some x=>have:=qgy e hl;omega
theorem qdG{α β:Type}(f:Array β→α→β):∀(l:List α)(acc:Array β),
  (l.foldl (fun acc o=>acc.push (f acc o)) acc).size=acc.size+l.length ∧
  (∀k,k<acc.size→(l.foldl (fun acc o=>acc.push (f acc o)) acc)[k]?=acc[k]?) ∧
  (∀k o,l[k]?=some o→∃pre:Array β,pre.size=acc.size+k∧(∀q,q<acc.size+k→pre[q]?=(l.foldl (fun acc o=>acc.push (f acc o)) acc)[q]?)∧(l.foldl (fun acc o=>acc.push (f acc o)) acc)[acc.size+k]?=some (f pre o))
 |[],acc=>⟨by simp,fun _ _=>rfl,fun k o e=>by simp at e⟩
 |a::l,acc=>by
  obtain⟨h1,h2,h3⟩:=qdG f l (acc.push (f acc a))
  simp only[List.foldl_cons,Array.size_push]at *
  refine⟨by simp[h1];omega,fun k hk=>by rw[h2 k (by omega),Array.getElem?_push,if_neg (by omega)],fun k o e=>?_⟩
  cases k with
  |zero=>
   simp at e;subst e
   refine⟨acc,rfl,fun q hq=>?_,?_⟩
   ·rw[h2 q (by omega),Array.getElem?_push,if_neg (by omega)]
   ·rw[Nat.add_zero,h2 acc.size (by omega),Array.getElem?_push,if_pos rfl]
  |succ k=>
   simp at e
   obtain⟨pre,p1,p2,p3⟩:=h3 k o e
   refine⟨pre,by omega,fun q hq=>p2 q (by omega),?_⟩
   rw[show acc.size+(k+1)=acc.size+1+k from by omega];exact p3
theorem qkf{acc:Array Nat}{j:Nat}:∀(es:List Edge)(s:Nat),
  (es.foldl (fun s e=>if Region.binds .any e then s ||| 2^e.on ||| acc.getD e.on 0 else s) s).testBit j=true→s.testBit j=true∨∃e∈es,Region.binds .any e=true∧(e.on=j∨(acc.getD e.on 0).testBit j=true)
 |[],s,h=>.inl h
 |e::es,s,h=>by
  simp only[List.foldl_cons]at h
  rcases qkf es _ h with h|⟨e',he,hb,h⟩
  ·split at h
   ·rename_i hb
    simp only[Nat.testBit_or,Bool.or_eq_true,Nat.testBit_two_pow]at h
    rcases h with(h|h)|h
    ·exact .inl h
    ·exact .inr ⟨e,by simp,hb,.inl (by simpa using h)⟩
    ·exact .inr ⟨e,by simp,hb,.inr h⟩
   ·exact .inl h
  ·exact .inr ⟨e',by simp[he],hb,h⟩
theorem qdw{ops:Array Oper}{i j:Nat}{o:Oper}(ho:ops[i]?=some o)(h:((Region.before ops).getD i 0).testBit j=true):
  ∃e∈o.after,Region.binds .any e=true∧(e.on=j∨(e.on<i∧((Region.before ops).getD e.on 0).testBit j=true)):=by
 obtain⟨_,_,h3⟩:=qdG (fun(acc:Array Nat)(o:Oper)=>o.after.foldl (fun s e=>if Region.binds .any e then s ||| 2^e.on ||| acc.getD e.on 0 else s) 0) ops.toList #[]
 obtain⟨pre,p1,p2,p3⟩:=h3 i o (by simpa using ho)
 simp only[List.size_toArray,List.length_nil,Nat.zero_add]at p1 p2 p3
 have hb:Region.before ops=ops.toList.foldl (fun acc o=>acc.push (o.after.foldl (fun s e=>if Region.binds .any e then s ||| 2^e.on ||| acc.getD e.on 0 else s) 0)) #[]:=by
  unfold Region.before
  rw[←Array.foldl_toList]
 rw[←hb]at p2 p3
 have hi:(Region.before ops).getD i 0=o.after.foldl (fun s e=>if Region.binds .any e then s ||| 2^e.on ||| pre.getD e.on 0 else s) 0:=by
  rw[Array.getD_eq_getD_getElem?,p3];rfl
 rw[hi,←Array.foldl_toList]at h
 rcases qkf o.after.toList 0 h with h|⟨e,he,hbd,h⟩
 ·simp at h
 ·refine⟨e,by simpa using he,hbd,?_⟩
  rcases h with h|h
  ·exact .inl h
  ·rcases Nat.lt_or_ge e.on i with hlt|hge
   ·refine .inr ⟨hlt,?_⟩
    rw[Array.getD_eq_getD_getElem?]at h ⊢
    rw[←p2 e.on hlt];exact h
   ·rw[Array.getD_eq_getD_getElem?,Array.getElem?_eq_none (by omega)]at h
    simp at h
end Go.Vm

namespace Go.Vm
open Go
section
variable {P:Program} {L:Lev} {ops:Array Oper} {bf:Array Nat}
inductive Kind where
 |off
 |pure
 |alone
 |quiet
 deriving DecidableEq
structure Fact(P:Program)(L:Lev)(ops:Array Oper)(bf:Array Nat)(i:Nat)(d d':D)(v:V)(o:Oper)(g:Bool)(hg:H)(k:Kind)(h2:H):Prop where
 op:ops[i]?=some o
 dfs:d'.st.dfs=d.st.dfs
 ts:d'.st.ts=putT d.st.ts o.dst v
 guard:qaL ops o d.st.ts d.st.h=some (g,hg)
 off:k=.off→g=false∧v=.tuple []∧d'.base=d.base∧d'.rng=d.rng∧d'.st.h=hg∧h2=hg
 pure:k=.pure→g=true∧qat o.op=false∧qcA P o.op (eval d.st.ts) hg=some (v,h2)∧d'.base=d.base∧d'.rng=d.rng∧d'.st.h=h2
 alone:k=.alone→g=true∧qat o.op=true∧Vm.alone ops bf i=true∧qbx hg=true∧qao L P o.op (eval d.st.ts) hg=some (v,h2)∧hg.next≤h2.next∧d'.base=h2.next∧d'.rng=[]∧d'.st.h={ h2 with ro:=hg.ro }
 quiet:k=.quiet→g=true∧qat o.op=true∧Vm.alone ops bf i=false∧qbx hg=true∧qao L P o.op (eval d.st.ts) (qaz bf i d hg)=some (v,h2)∧hg.next≤h2.next∧d'.base=d.base∧d'.rng=(i,hg.next,h2.next)::d.rng ∧
  d'.st.h={ h2 with ro:=hg.ro,objs:=qbh hg.next h2.objs++hg.objs }
theorem qqA{i:Nat}{d d':D}{v:V}(e:stepD P L ops bf i d=some (v,d')):∃o g hg k h2,Fact P L ops bf i d d' v o g hg k h2:=by
 rw[qlB]at e
 split at e
 ·cases e
 ·rename_i o ho
  split at e
  ·cases e
  ·rename_i hg hgd
   cases e
   exact⟨o,false,hg,.off,hg,ho,rfl,rfl,hgd,fun _=>⟨rfl,rfl,rfl,rfl,rfl,rfl⟩,(fun e=>by cases e),(fun e=>by cases e),(fun e=>by cases e)⟩
  ·rename_i hg hgd
   split at e
   ·rename_i hp
    split at e
    ·cases e
    ·rename_i v' h' hv
     cases e
     exact⟨o,true,hg,.pure,h',ho,rfl,rfl,hgd,(fun e=>by cases e),fun _=>⟨rfl,hp,hv,rfl,rfl,rfl⟩,(fun e=>by cases e),(fun e=>by cases e)⟩
   ·rename_i hp
    rw[qkW]at e
    split at e
    ·rename_i hd hal
     split at e
     ·cases e
     ·rename_i v' h2 hm
      split at e
      ·rename_i hle
       cases e
       exact⟨o,true,hg,.alone,h2,ho,rfl,rfl,hgd,(fun e=>by cases e),(fun e=>by cases e),fun _=>⟨rfl,hp,hal,hd,hm,Nat.le_of_ble_eq_true hle,rfl,rfl,rfl⟩,(fun e=>by cases e)⟩
      ·cases e
    ·rename_i hd hal
     split at e
     ·cases e
     ·rename_i v' h2 hm
      split at e
      ·rename_i hle
       cases e
       exact⟨o,true,hg,.quiet,h2,ho,rfl,rfl,hgd,(fun e=>by cases e),(fun e=>by cases e),(fun e=>by cases e),fun _=>⟨rfl,hp,hal,hd,hm,Nat.le_of_ble_eq_true hle,rfl,rfl,rfl⟩⟩
      ·cases e
    ·cases e
structure Run(P:Program)(L:Lev)(ops:Array Oper)(bf:Array Nat)(n:Nat) where
 d:Nat→D
 v:Nat→V
 o:Nat→Oper
 g:Nat→Bool
 hg:Nat→H
 k:Nat→Kind
 h2:Nat→H
 fact:∀i,i<n→Fact P L ops bf i (d i) (d (i+1)) (v i) (o i) (g i) (hg i) (k i) (h2 i)
theorem qfM:∀(m s:Nat)(d0 d1:D),qe2 P L ops bf (List.range' s m) d0=some d1→∃(ds:Nat→D)(vs:Nat→V),ds s=d0∧ds (s+m)=d1∧∀i,s≤i→i<s+m→stepD P L ops bf i (ds i)=some (vs i,ds (i+1))
 |0,s,d0,d1,e=>by
  simp only[List.range'_zero,qe2,Option.some.injEq]at e
  subst e
  exact⟨fun _=>d0,fun _=>.bot,rfl,rfl,fun i h1 h2=>by omega⟩
 |m+1,s,d0,d1,e=>by
  simp only[List.range'_succ,qe2]at e
  split at e
  ·cases e
  ·rename_i v d hs
   obtain⟨ds,vs,h1,h2,h3⟩:=qfM m (s+1) d d1 e
   refine⟨fun i=>if i=s then d0 else ds i,fun i=>if i=s then v else vs i,by simp,?_,?_⟩
   ·simp only
    rw[if_neg (by omega),show s+(m+1)=s+1+m from by omega];exact h2
   ·intro i hi1 hi2
    by_cases his:i=s
    ·subst his
     simp only[if_true]
     rw[if_neg (by omega),h1];exact hs
    ·simp only[if_neg his]
     rw[if_neg (by omega)]
     exact h3 i (by omega) (by omega)
theorem qrE{n:Nat}{d0 d1:D}(e:qe2 P L ops bf (List.range n) d0=some d1):∃r:Run P L ops bf n,r.d 0=d0∧r.d n=d1:=by
 rw[List.range_eq_range']at e
 obtain⟨ds,vs,h1,h2,h3⟩:=qfM n 0 d0 d1 e
 have hf:∀i,∃x:Oper×Bool×H×Kind×H,i<n→Fact P L ops bf i (ds i) (ds (i+1)) (vs i) x.1 x.2.1 x.2.2.1 x.2.2.2.1 x.2.2.2.2:=by
  intro i
  by_cases hi:i<n
  ·obtain⟨o,g,hg,k,h2,f⟩:=qqA (h3 i (by omega) (by omega))
   exact⟨(o,g,hg,k,h2),fun _=>f⟩
  ·exact⟨(default,false,d0.st.h,.off,d0.st.h),fun h=>absurd h hi⟩
 refine⟨⟨ds,vs,fun i=>(Classical.choose (hf i)).1,fun i=>(Classical.choose (hf i)).2.1,fun i=>(Classical.choose (hf i)).2.2.1,fun i=>(Classical.choose (hf i)).2.2.2.1,fun i=>(Classical.choose (hf i)).2.2.2.2,fun i hi=>Classical.choose_spec (hf i) hi⟩,h1,by simpa using h2⟩
namespace Run
variable {n:Nat} (r:Run P L ops bf n)
def nx(i:Nat):Nat:=(r.d i).st.h.next
theorem same{i:Nat}(hi:i<n):(r.d i).st.h.Same (r.hg i):=qmf (r.fact i hi).guard
theorem kinds(k:Kind):k=.off∨k=.pure∨k=.alone∨k=.quiet:=by cases k<;>simp
theorem nx_step{i:Nat}(hi:i<n):r.nx i≤r.nx (i+1):=by
 have f:=r.fact i hi
 have s:=r.same hi
 unfold nx
 rcases kinds (r.k i)with hk|hk|hk|hk
 ·obtain⟨_,_,_,_,h,_⟩:=f.off hk
  rw[h,s.1];exact Nat.le_refl _
 ·obtain⟨_,_,hv,_,_,h⟩:=f.pure hk
  rw[h,(qcR hv).1,s.1];exact Nat.le_refl _
 ·obtain⟨_,_,_,_,_,hle,_,_,h⟩:=f.alone hk
  rw[h,←s.1];exact hle
 ·obtain⟨_,_,_,_,_,hle,_,_,h⟩:=f.quiet hk
  rw[h,←s.1];exact hle
theorem nx_mono{i j:Nat}(hij:i≤j)(hj:j≤n):r.nx i≤r.nx j:=by
  induction j with
  | zero => have : i = 0 := by omega
            subst this;exact Nat.le_refl _
  |succ j ih=>
    rcases Nat.lt_or_ge i (j+1)with h|h
    · exact Nat.le_trans (ih (by omega) (by omega)) (r.nx_step (by omega))
    · have:i=j+1:=by omega
      subst this;exact Nat.le_refl _
theorem ro_eq{i:Nat}(hi:i≤n):(r.d i).st.h.ro=(r.d 0).st.h.ro:=by
 induction i with
 |zero=>rfl
 |succ i ih=>
  have hi':i<n:=by omega
  have f:=r.fact i hi'
  have s:=r.same hi'
  rw[←ih (by omega)]
  rcases kinds (r.k i)with hk|hk|hk|hk
  ·obtain⟨_,_,_,_,h,_⟩:=f.off hk
   rw[h,s.2.1]
  ·obtain⟨_,_,hv,_,_,h⟩:=f.pure hk
   rw[h,(qcR hv).2.1,s.2.1]
  ·obtain⟨_,_,_,_,_,hle,_,_,h⟩:=f.alone hk
   rw[h,←s.2.1]
  ·obtain⟨_,_,_,_,_,hle,_,_,h⟩:=f.quiet hk
   rw[h,←s.2.1]
theorem dfs_eq{i:Nat}(hi:i≤n):(r.d i).st.dfs=(r.d 0).st.dfs:=by
 induction i with
 |zero=>rfl
 |succ i ih=>rw[(r.fact i (by omega)).dfs,ih (by omega)]
theorem getT_put_ne{ts:List V}{dst:Option Tmp}{v:V}{t:Nat}(h:dst≠some t):getT (putT ts dst v) t=getT ts t:=by
 cases dst with
 |none=>rfl
 |some d=>
  have:d≠t:=fun e=>h (by rw[e])
  simp only[qa0,qaQ,List.getElem?_set,if_neg this]
theorem getT_put_eq{ts:List V}{v:V}{t:Nat}(h:t<ts.length):getT (putT ts (some t) v) t=v:=by
 simp only[qa0,qaQ,List.getElem?_set,if_true,if_pos h]
theorem len_eq{i:Nat}(hi:i≤n):(r.d i).st.ts.length=(r.d 0).st.ts.length:=by
 induction i with
 |zero=>rfl
 |succ i ih=>
  rw[(r.fact i (by omega)).ts,←ih (by omega)]
  cases(r.o i).dst<;>simp[qa0,qdX]
def Once:Prop:=∀i j,i<n→j<n→∀t,(r.o i).dst=some t→(r.o j).dst=some t→i=j
theorem slot_before{t:Nat}{i:Nat}(hi:i≤n)(h:∀j,j<i→(r.o j).dst≠some t):getT (r.d i).st.ts t=getT (r.d 0).st.ts t:=by
 induction i with
 |zero=>rfl
 |succ i ih=>
  rw[(r.fact i (by omega)).ts,getT_put_ne (h i (by omega))]
  exact ih (by omega) (fun j hj=>h j (by omega))
theorem slot_after(ho:r.Once){t:Nat}{j i:Nat}(hj:(r.o j).dst=some t)(hji:j<i)(hi:i≤n)(ht:t<(r.d 0).st.ts.length):getT (r.d i).st.ts t=r.v j:=by
 induction i with
 |zero=>omega
 |succ i ih=>
  rw[(r.fact i (by omega)).ts]
  by_cases h:j=i
  ·subst h
   rw[hj,getT_put_eq (by rw[r.len_eq (by omega)];exact ht)]
  ·rw[getT_put_ne]
   ·exact ih (by omega) (by omega)
   ·intro e
    exact h (ho j i (by omega) (by omega) t hj e)
def Calm(s i:Nat):Prop:=∀j,s≤j→j<i→r.k j≠.alone
theorem base_eq{s i:Nat}(hc:r.Calm s i)(hsi:s≤i)(hi:i≤n):(r.d i).base=(r.d s).base:=by
  induction i with
  | zero => have : s = 0 := by omega
            subst this;rfl
  |succ i ih=>
    rcases Nat.lt_or_ge s (i+1)with h|h
    · have hi':i<n:=by omega
      have f:=r.fact i hi'
      rw[←ih (fun j h1 h2=>hc j h1 (by omega)) (by omega) (by omega)]
      rcases kinds (r.k i)with hk|hk|hk|hk
      · exact(f.off hk).2.2.1
      · exact(f.pure hk).2.2.2.1
      · exact absurd hk (hc i (by omega) (by omega))
      · exact(f.quiet hk).2.2.2.2.2.2.1
    · have:s=i+1:=by omega
      subst this;rfl
theorem look_phase{s i:Nat}(hc:r.Calm s i)(hsi:s≤i)(hi:i≤n){b:Nat}{x:Ob}(hl:look (r.d i).st.h.objs b=some x)(hb:b<r.nx i):
    (b<r.nx s∧look (r.d s).st.h.objs b=some x)∨∃j,s≤j∧j<i∧r.k j=Kind.quiet∧r.nx j≤b∧b<r.nx (j+1)∧look (r.h2 j).objs b=some x:=by
  induction i with
  | zero => have : s = 0 := by omega
            subst this;exact .inl ⟨hb,hl⟩
  |succ i ih=>
    rcases Nat.lt_or_ge s (i+1)with h|h
    · have hi':i<n:=by omega
      have f:=r.fact i hi'
      have sm:=r.same hi'
      have ih':=ih (fun j h1 h2=>hc j h1 (by omega)) (by omega) (by omega)
      have lift:look (r.d i).st.h.objs b=some x→b<r.nx i→_:=fun h1 h2=>(ih' h1 h2).imp id (fun⟨j,a,b',c⟩=>(⟨j,a,by omega,c⟩:∃j,s≤j∧j<i+1∧r.k j=Kind.quiet∧r.nx j≤b∧b<r.nx (j+1)∧look (r.h2 j).objs b=some x))
      rcases kinds (r.k i)with hk|hk|hk|hk
      · obtain⟨_,_,_,_,he,_⟩:=f.off hk
        unfold nx at hb
        rw[he]at hl hb
        rw[sm.2.2]at hl
        rw[sm.1]at hb
        exact lift hl hb
      · obtain⟨_,_,hv,_,_,he⟩:=f.pure hk
        unfold nx at hb
        rw[he]at hl hb
        rw[(qcR hv).2.2,sm.2.2]at hl
        rw[(qcR hv).1,sm.1]at hb
        exact lift hl hb
      · exact absurd hk (hc i (by omega) (by omega))
      · obtain⟨_,_,_,hd,hm,hle,_,_,he⟩:=f.quiet hk
        rw[he]at hl
        dsimp only at hl
        rcases Nat.lt_or_ge b (r.hg i).next with h1|h1
        · rw[qfG h1,sm.2.2]at hl
          exact lift hl (by unfold nx;rw[←sm.1];exact h1)
        · have hn:=qk5 hd h1
          have hlk:=qfQ hn _ hl
          exact .inr ⟨i,by omega,by omega,hk,by unfold nx;rw[←sm.1];exact h1,hb,hlk⟩
    · have:s=i+1:=by omega
      subst this;exact .inl ⟨hb,hl⟩
theorem rng_spec{s i:Nat}(hc:r.Calm s i)(hsi:s≤i)(hi:i≤n)(h0:(r.d s).rng=[]){x:Nat×Nat×Nat}(hx:x∈(r.d i).rng):
    ∃j,s≤j∧j<i∧r.k j=Kind.quiet∧x=(j,r.nx j,r.nx (j+1)):=by
  induction i with
  | zero => have : s = 0 := by omega
            subst this;rw[h0]at hx;cases hx
  |succ i ih=>
    rcases Nat.lt_or_ge s (i+1)with h|h
    · have hi':i<n:=by omega
      have f:=r.fact i hi'
      have sm:=r.same hi'
      have ih':=ih (fun j h1 h2=>hc j h1 (by omega)) (by omega) (by omega)
      have lift:x∈(r.d i).rng→_:=fun h=>(ih' h).imp (fun j ⟨a,b,c⟩=>(⟨a,by omega,c⟩:s≤j∧j<i+1∧r.k j=Kind.quiet∧x=(j,r.nx j,r.nx (j+1))))
      rcases kinds (r.k i)with hk|hk|hk|hk
      · rw[(f.off hk).2.2.2.1]at hx;exact lift hx
      · rw[(f.pure hk).2.2.2.2.1]at hx;exact lift hx
      · exact absurd hk (hc i (by omega) (by omega))
      · obtain⟨_,_,_,hd,hm,hle,_,hr,he⟩:=f.quiet hk
        rw[hr]at hx
        rcases List.mem_cons.1 hx with rfl|hx
        · exact⟨i,by omega,by omega,hk,by unfold nx;rw[he,←sm.1]⟩
        · exact lift hx
    · have:s=i+1:=by omega
      subst this;rw[h0]at hx;cases hx
end Run
end
end Go.Vm

namespace Go.Vm
open Go
def cut(φ:Map)(m:Nat):Map:={ nm:=fun b=>if b<m then φ b else none,fz:=φ.fz,tp:=fun b=>if b<m then φ.tp b else none,base:=φ.base }
theorem qcG{φ:Map}{m b:Nat}{k:Nat×Nat×Nat}(h:cut φ m b=some k):b<m∧φ b=some k:=by
 simp only[cut]at h
 split at h
 ·exact⟨‹_›,h⟩
 ·cases h
theorem qh8{φ:Map}{m b:Nat}{k:Nat×Nat×Nat}(hb:b<m)(h:φ b=some k):cut φ m b=some k:=by
 simp only[cut];rw[if_pos hb];exact h
theorem qhf{φ:Map}{m b:Nat}{k:Option (Nat×Nat×Nat)}(h:(cut φ m).tp b=some k):b<m∧φ.tp b=some k:=by
 simp only[cut]at h
 split at h
 ·exact⟨‹_›,h⟩
 ·cases h
theorem qdb{φ:Map}{m b:Nat}{k:Option (Nat×Nat×Nat)}(hb:b<m)(h:φ.tp b=some k):(cut φ m).tp b=some k:=by
 simp only[cut];rw[if_pos hb];exact h
theorem qjF(φ:Map)(m:Nat):(cut φ m).le φ:=⟨fun _ _ h=>(qcG h).2,Frozen.le_refl _,fun _ _ h=>(qhf h).2,rfl⟩
theorem qbo{φ ψ:Map}{m m':Nat}(h:φ.le ψ)(hm:m≤m'):(cut φ m).le (cut ψ m'):=⟨fun b k e=>by
 obtain⟨h1,h2⟩:=qcG e
 exact qh8 (by omega) (h b k h2),h.fz,fun b k e=>by
 obtain⟨h1,h2⟩:=qhf e
 exact qdb (by omega) (h.tp b k h2),h.base⟩
def qrS(φ:Map)(w:World)(b:Nat):Prop:=
 ∃m,φ.tp b=some m∧∀blk en sz,m=some (blk,en,sz)→(∃c,φ.fz blk=some c∧c.size=en)∧∃cs t,w.heap[blk]?=some (.cells cs t (0,0))∧cs.size=sz
section
variable {P:Program} {L:Lev} {ops:Array Oper} {bf:Array Nat} {n:Nat}
structure Static(r:Run P L ops bf n):Prop where
 edges:∀i,i<n→∀e∈(r.o i).after,Region.binds .any e=true→e.on<i
 bits:∀i,i<n→∀j,(bf.getD i 0).testBit j=true→∃e∈(r.o i).after,Region.binds .any e=true∧(e.on=j∨(e.on<i∧(bf.getD e.on 0).testBit j=true))
 guards:∀i,i<n→∀j w,(r.o i).guard=some (j,w)→(bf.getD i 0).testBit j=true
 once:r.Once
 names:∀i j,i<n→j<n→∀t,(r.o i).dst=some t→t∈qa4 (r.o j)→i=j∨inOrder bf i j=true
 all:n=ops.size
theorem qfs{i j:Nat}(h:inOrder bf i j=true)(hij:i<j):(bf.getD j 0).testBit i=true:=by
 unfold inOrder at h
 rw[Nat.ble_eq_true_of_le (Nat.le_of_lt hij)]at h
 simp only[Bool.or_eq_true]at h
 rcases h with h|h
 ·have:=Nat.eq_of_beq_eq_true h;omega
 ·exact h
theorem qh7{i j:Nat}(h:inOrder bf i j=true)(hij:j<i):(bf.getD i 0).testBit j=true:=by
 unfold inOrder at h
 split at h
 ·rename_i hb
  have:=Nat.le_of_ble_eq_true hb
  omega
 ·exact h
theorem qeP{i j:Nat}{o:Oper}(h:Vm.alone ops bf i=true)(ho:ops[j]?=some o)(hp:qat o.op=true):inOrder bf i j=true:=by
 unfold Vm.alone at h
 rw[List.all_eq_true]at h
 have hj:j∈List.range ops.size:=by
  rw[List.mem_range]
  exact(Array.getElem?_eq_some_iff.1 ho).1
 have:=h j hj
 simp only[ho,hp,Bool.not_true,Bool.false_or]at this
 exact this
variable (r:Run P L ops bf n)
def Live(s:Nat)(Dn:Nat→Prop)(b:Nat)(x:Ob):Prop:=
 (b<r.nx s∧live (look (r.d s).st.h.objs b)=some x) ∨
 ∃j,s≤j∧j<n∧Dn j∧r.k j=Kind.quiet∧r.nx j≤b∧b<r.nx (j+1)∧live (look (r.h2 j).objs b)=some x
structure Inv(φ0:Map)(w0:World)(df:List Deferred)(s:Nat)(Dn:Nat→Prop)(φ:Map)(a:Act)(w:World):Prop where
 sn:s≤n
 rng:(r.d s).rng=[]
 base:(r.d s).base=r.nx s
 before:∀j,j<s→qat (r.o j).op=true→Dn j
 alones:∀j,Dn j→r.k j=Kind.alone→j<s
 closed:∀i,Dn i→∀j,(bf.getD i 0).testBit j=true→Dn j
 bound:∀i,Dn i→i<n
 tmps:a.tmps.size=(r.d 0).st.ts.length
 slotIn:∀t j,t<(r.d 0).st.ts.length→(r.o j).dst=some t→Dn j→VRel (cut φ (r.nx (j+1))) (r.v j) (a.tmps.getD t undef)
 slotOut:∀t,t<(r.d 0).st.ts.length→(∀j,Dn j→(r.o j).dst≠some t)→VRel (cut φ (r.nx 0)) (getT (r.d 0).st.ts t) (a.tmps.getD t undef)
 defers:a.defers=df
 live1:∀b x,b<r.nx s→live (look (r.d s).st.h.objs b)=some x→x≠.tip→∃k o,φ b=some k∧w.heap[k.1]?=some o∧ObRel (cut φ (r.nx s)) (Nat.ble (r.d 0).st.h.ro b) k.2 x o
 live2:∀j b x,s≤j→Dn j→r.k j=Kind.quiet→r.nx j≤b→b<r.nx (j+1)→live (look (r.h2 j).objs b)=some x→x≠.tip→∃k o,φ b=some k∧w.heap[k.1]?=some o∧ObRel (cut φ (r.nx (j+1))) (Nat.ble (r.d 0).st.h.ro b) k.2 x o
 inj:∀b b' x x' k k',Live r s Dn b x→Live r s Dn b' x'→(r.d 0).st.h.ro≤b→b≠b'→φ b=some k→φ b'=some k'→k.1≠k'.1
 dom:∀b k,φ b=some k→k.1<w.heap.size∧(b<r.nx s∨∃j,s≤j∧Dn j∧r.k j=Kind.quiet∧r.nx j≤b∧b<r.nx (j+1))
 rle:(r.d 0).st.h.ro≤r.nx 0
 le:φ0.le φ
 fresh:∀b k,φ b=some k→φ0 b=some k∨(r.nx 0≤b∧(w0.heap.size≤k.1∨∃c k',(r.d 0).st.h.ro≤c∧φ0 c=some k'∧k'.1=k.1))
 size:w0.heap.size≤w.heap.size
 frame:∀k,k<w0.heap.size→(∀b k',(r.d 0).st.h.ro≤b→φ0 b=some k'→k'.1≠k)→(∀b e,(r.d 0).st.h.ro≤b→(r.d 0).st.h.get b=some .tip→φ0.tp b=some (some e)→e.1≠k)→w.heap[k]?=w0.heap[k]?
 fz:∀k c,φ.fz k=some c→∃cs t z,w.heap[k]?=some (.cells cs t z)∧Begins c cs
 own:∀b x k,Live r s Dn b x→φ b=some k→φ.fz k.1=none
 ltip:∀b,Live r s Dn b .tip→qrS φ w b
 tinj:∀b b' m m',Live r s Dn b .tip→Live r s Dn b' .tip→b≠b'→φ.tp b=some (some m)→φ.tp b'=some (some m')→m.1≠m'.1
 tdom:∀b m,φ.tp b=some m→b<r.nx s∨∃j,s≤j∧Dn j∧r.k j=Kind.quiet∧r.nx j≤b∧b<r.nx (j+1)
 tfresh:∀b m,φ.tp b=some m→φ0.tp b=some m∨(r.nx 0≤b∧∀e,m=some e→w0.heap.size≤e.1∨∃c e',(r.d 0).st.h.ro≤c∧(r.d 0).st.h.get c=some .tip∧φ0.tp c=some (some e')∧e'.1=e.1)
 tlive:∀b m,φ0.tp b=some m→Live r s Dn b .tip→(r.d 0).st.h.get b=some .tip
 ffresh:∀k c,φ.fz k=some c→k<w0.heap.size→φ0.fz k=some c∨qky φ0 (r.d 0).st.h k
 os:w.os=w0.os
 tape:w.tape=w0.tape
 output:w.output=w0.output
def qb1(o:Oper)(gd:Option Nat)(ts:List V):List V:=
 (List.range ts.length).map fun t=>if(qa4 o).contains t||gd==some t then getT ts t else .bot
theorem qjQ{o:Oper}{gd:Option Nat}{ts:List V}{t:Nat}(h:t∈qa4 o∨gd=some t):getT (qb1 o gd ts) t=getT ts t:=by
 rcases Nat.lt_or_ge t ts.length with ht|ht
 ·have:(qb1 o gd ts)[t]?=some (if(qa4 o).contains t||gd==some t then getT ts t else .bot):=by
   simp[qb1,ht]
  rw[qaQ (qb1 o gd ts),this]
  have hc:((qa4 o).contains t||gd==some t)=true:=by
   rcases h with h|h
   ·simp[h]
   ·simp[h]
  simp only[hc,if_true]
 ·have h1:(qb1 o gd ts)[t]?=none:=List.getElem?_eq_none (by simp[qb1];exact ht)
  have h2:ts[t]?=none:=List.getElem?_eq_none ht
  simp only[qaQ,h1,h2]
theorem qn6{o:Oper}{gd:Option Nat}{ts:List V}:∀x∈o.op.operands,eval ts x=eval (qb1 o gd ts) x:=by
 intro x hx
 cases x with
 |tmp t=>
  simp only[eval]
  rw[qjQ]
  left
  exact List.mem_filterMap.2 ⟨.tmp t,by simpa using hx,rfl⟩
 |const v=>rfl
 |global g=>rfl
 |func f=>rfl
def qaE(ops:Array Oper)(o:Oper):Option Nat:=
 match o.guard with
 |none=>none
 |some (j,_)=>(ops[j]?).bind (·.dst)
variable {r}
theorem qpk{ts:List V}{t:Nat}{v:V}(h:ts[t]?=some v):getT ts t=v:=by simp[qaQ,h]
theorem Inv.mask{φ0:Map}{w0:World}{df:List Deferred}{s:Nat}{Dn:Nat→Prop}{φ:Map}{a:Act}{w:World}(hI:Inv r φ0 w0 df s Dn φ a w)(hS:Static r){i:Nat}(hi:i<n)(hni:¬Dn i)
  (hanc:∀j,(bf.getD i 0).testBit j=true→Dn j):
  VRels (cut φ (r.nx i)) (qb1 (r.o i) (qaE ops (r.o i)) (r.d i).st.ts) a.tmps.toList:=by
 have hlen:=r.len_eq (Nat.le_of_lt hi)
 refine VRels.of_get (by simp[qb1,hlen,hI.tmps]) fun t v x hv hx=>?_
 have ht:t<(r.d 0).st.ts.length:=by
  have:=(Array.getElem?_eq_some_iff.1 (show a.tmps[t]?=some x by simpa using hx)).1
  rw[hI.tmps]at this;exact this
 have hxg:a.tmps.getD t undef=x:=by
  have:a.tmps[t]?=some x:=by simpa using hx
  rw[Array.getD_eq_getD_getElem?,this];rfl
 have hvv:v=if(qa4 (r.o i)).contains t||qaE ops (r.o i)==some t then getT (r.d i).st.ts t else .bot:=by
  have:(qb1 (r.o i) (qaE ops (r.o i)) (r.d i).st.ts)[t]?=some (if(qa4 (r.o i)).contains t||qaE ops (r.o i)==some t then getT (r.d i).st.ts t else .bot):=by
   simp[qb1,hlen,ht]
  rw[this]at hv;cases hv;rfl
 by_cases hc:((qa4 (r.o i)).contains t||qaE ops (r.o i)==some t)=true
 ·rw[if_pos hc]at hvv
  rw[hvv,←hxg]
  by_cases hw:∃j,j<n∧(r.o j).dst=some t
  ·obtain⟨j,hj,hjd⟩:=hw
   have hord:j=i∨(j<i→(bf.getD i 0).testBit j=true)∧(i<j→(bf.getD j 0).testBit i=true):=by
    simp only[Bool.or_eq_true]at hc
    rcases hc with hc|hc
    ·have hm:t∈qa4 (r.o i):=by simpa using hc
     rcases hS.names j i hj hi t hjd hm with e|e
     ·exact .inl e
     ·exact .inr ⟨fun h=>qfs e h,fun h=>qh7 e h⟩
    ·have hg:qaE ops (r.o i)=some t:=by simpa using hc
     unfold qaE at hg
     split at hg
     ·cases hg
     ·rename_i g wnt hgg
      have hbit:=hS.guards i hi g wnt hgg
      have hgn:=hI.bound g (hanc g hbit)
      have hgo:=(r.fact g hgn).op
      rw[hgo]at hg
      have hgj:g=j:=hS.once g j hgn hj t hg hjd
      subst hgj
      rcases Nat.lt_or_ge g i with h|h
      ·exact .inr ⟨fun _=>hbit,fun h'=>by omega⟩
      ·rcases Nat.lt_or_ge i g with h'|h'
       ·
        exfalso
        have hlt:∀m,m≤i→∀q,(bf.getD m 0).testBit q=true→q<m∨¬m<n:=by
         intro m
         induction m using Nat.strongRecOn with
         |_ m ih=>
          intro hm q hq
          rcases Nat.lt_or_ge m n with hmn|hmn
          ·obtain⟨e,he,hb,h1⟩:=hS.bits m hmn q hq
           have hel:=hS.edges m hmn e he hb
           rcases h1 with h1|⟨h1,h2⟩
           ·left;omega
           ·rcases ih e.on hel (by omega) q h2 with h3|h3
            ·left;omega
            ·exact absurd (show e.on<n by omega) h3
          ·right;omega
        rcases hlt i (Nat.le_refl _) g hbit with h3|h3
        ·omega
        ·exact h3 hi
       ·left;omega
   rcases hord with rfl|⟨h1,h2⟩
   ·
    rw[r.slot_before (Nat.le_of_lt hi) (fun q hq e=>by have:=hS.once q j (by omega) hj t e hjd;omega)]
    refine(hI.slotOut t ht fun q hq e=>?_).mono (qbo (Map.le_refl _) (r.nx_mono (Nat.zero_le _) (Nat.le_of_lt hi)))
    have:=hS.once q j (hI.bound q hq) hj t e hjd
    subst this
    exact hni hq
   ·rcases Nat.lt_trichotomy j i with hlt|heq|hgt
    ·rw[r.slot_after hS.once hjd hlt (Nat.le_of_lt hi) ht]
     exact(hI.slotIn t j ht hjd (hanc j (h1 hlt))).mono (qbo (Map.le_refl _) (r.nx_mono hlt (Nat.le_of_lt hi)))
    ·subst heq
     rw[r.slot_before (Nat.le_of_lt hi) (fun q hq e=>by have:=hS.once q j (by omega) hj t e hjd;omega)]
     refine(hI.slotOut t ht fun q hq e=>?_).mono (qbo (Map.le_refl _) (r.nx_mono (Nat.zero_le _) (Nat.le_of_lt hi)))
     have:=hS.once q j (hI.bound q hq) hj t e hjd
     subst this
     exact hni hq
    ·rw[r.slot_before (Nat.le_of_lt hi) (fun q hq e=>by have:=hS.once q j (by omega) hj t e hjd;omega)]
     refine(hI.slotOut t ht fun q hq e=>?_).mono (qbo (Map.le_refl _) (r.nx_mono (Nat.zero_le _) (Nat.le_of_lt hi)))
     have:=hS.once q j (hI.bound q hq) hj t e hjd
     subst this
     exact hni (hI.closed q hq i (h2 hgt))
  ·rw[r.slot_before (Nat.le_of_lt hi) (fun q hq e=>hw ⟨q,by omega,e⟩)]
   exact(hI.slotOut t ht fun q hq e=>hw ⟨q,hI.bound q hq,e⟩).mono (qbo (Map.le_refl _) (r.nx_mono (Nat.zero_le _) (Nat.le_of_lt hi)))
 ·rw[if_neg hc]at hvv
  subst hvv
  exact .bot _
end
end Go.Vm

namespace Go.Vm
open Go
section
variable {P:Program} {L:Lev} {ops:Array Oper} {bf:Array Nat} {n:Nat} {r:Run P L ops bf n}
theorem Run.step_holds(hL:LevOk P L){i:Nat}(hi:i<n)(h:(r.d (i+1)).st.h.Holds):(r.d i).st.h.Holds∧(r.hg i).Holds∧(r.h2 i).Holds:=by
 have f:=r.fact i hi
 have mem:∀{op:Op}{ρ:Operand→V}{h0 h1:H}{v:V},qao L P op ρ h0=some (v,h1)→h1.Holds→h0.Holds:=by
  intro op ρ h0 h1 v e hh
  unfold qao at e
  split at e
  ·simp only[qmd]at e
   split at e
   ·exact(hL.call _ _ _ _ _ e hh).1
   ·exact(hL.yield _ _ _ _ _ e hh).1
   ·cases e
  ·exact(qiV e).holds hh
 have g0:(r.hg i).Holds→(r.d i).st.h.Holds:=fun hh=>(qmO f.guard).holds hh
 rcases Run.kinds (r.k i)with hk|hk|hk|hk
 ·obtain⟨_,_,_,_,he,h2⟩:=f.off hk
  have hh:(r.hg i).Holds:=by rw[←he];exact h
  exact⟨g0 hh,hh,by rw[h2];exact hh⟩
 ·obtain⟨_,_,hv,_,_,he⟩:=f.pure hk
  have hh2:(r.h2 i).Holds:=by rw[←he];exact h
  have hh:=(qga hv).holds hh2
  exact⟨g0 hh,hh,hh2⟩
 ·obtain⟨_,_,_,_,hm,_,_,_,he⟩:=f.alone hk
  have hh2:(r.h2 i).Holds:=by rw[he]at h;exact h
  have hh:=mem hm hh2
  exact⟨g0 hh,hh,hh2⟩
 ·obtain⟨_,_,_,_,hm,_,_,_,he⟩:=f.quiet hk
  have hh2:(r.h2 i).Holds:=by rw[he]at h;exact h
  have hh1:(qaz bf i (r.d i) (r.hg i)).Holds:=mem hm hh2
  have hh:(r.hg i).Holds:=hh1
  exact⟨g0 hh,hh,hh2⟩
theorem Run.holds(hL:LevOk P L)(h:(r.d n).st.h.Holds){i:Nat}(hi:i≤n):(r.d i).st.h.Holds:=by
 have:∀m,m≤n→(r.d (n-m)).st.h.Holds:=by
  intro m
  induction m with
  |zero=>intro _;exact h
  |succ m ih=>
   intro hm
   have h1:=ih (by omega)
   have:n-m=n-(m+1)+1:=by omega
   rw[this]at h1
   exact(r.step_holds hL (by omega) h1).1
 have:=this (n-i) (by omega)
 rwa [show n-(n-i)=i from by omega]at this
variable {φ0:Map} {w0:World} {df:List Deferred} {s:Nat} {Dn:Nat→Prop} {φ:Map} {a:Act} {w:World}
theorem qfo(hI:Inv r φ0 w0 df s Dn φ a w)(hS:Static r){i:Nat}(hi:i<n)(hni:¬Dn i){ψ:Map}(hle:φ.le ψ){x:Value}(hx:VRel (cut ψ (r.nx (i+1))) (r.v i) x):
  (a.put (r.o i).dst x).tmps.size=(r.d 0).st.ts.length ∧
  (∀t j,t<(r.d 0).st.ts.length→(r.o j).dst=some t→(Dn j∨j=i)→VRel (cut ψ (r.nx (j+1))) (r.v j) ((a.put (r.o i).dst x).tmps.getD t undef)) ∧
  (∀t,t<(r.d 0).st.ts.length→(∀j,(Dn j∨j=i)→(r.o j).dst≠some t)→VRel (cut ψ (r.nx 0)) (getT (r.d 0).st.ts t) ((a.put (r.o i).dst x).tmps.getD t undef)):=by
 have hput:∀t,(r.o i).dst≠some t→(a.put (r.o i).dst x).tmps.getD t undef=a.tmps.getD t undef:=by
  intro t ht
  cases hd:(r.o i).dst with
  |none=>rfl
  |some d=>
   have:d≠t:=fun e=>ht (by rw[hd,e])
   simp only[Act.put,Array.getD_eq_getD_getElem?,Array.getElem?_setIfInBounds]
   rw[if_neg this]
 refine⟨?_,?_,?_⟩
 ·rw[←hI.tmps];cases(r.o i).dst<;>simp[Act.put]
 ·intro t j ht hj hjd
  by_cases hji:j=i
  ·subst hji
   have:(a.put (r.o j).dst x).tmps.getD t undef=x:=by
    rw[hj]
    have hlt:t<a.tmps.size:=by rw[hI.tmps];exact ht
    simp[Act.put,Array.getD_eq_getD_getElem?,Array.getElem?_setIfInBounds,hlt]
   rw[this];exact hx
  ·have hD:Dn j:=hjd.resolve_right hji
   rw[hput t (fun e=>hji (hS.once j i (hI.bound j hD) hi t hj e))]
   exact(hI.slotIn t j ht hj hD).mono (qbo hle (Nat.le_refl _))
 ·intro t ht hn
  rw[hput t (hn i (.inr rfl))]
  exact(hI.slotOut t ht fun j hj=>hn j (.inl hj)).mono (qbo hle (Nat.le_refl _))
theorem qkc(hI:Inv r φ0 w0 df s Dn φ a w)(hS:Static r){i:Nat}(hi:i<n)(hni:¬Dn i)(hanc:∀j,(bf.getD i 0).testBit j=true→Dn j)(hk:r.k i≠Kind.alone)(hk2:r.k i≠Kind.quiet)
  {x:Value} (hx:VRel (cut φ (r.nx (i+1))) (r.v i) x):Inv r φ0 w0 df s (fun j=>Dn j∨j=i) φ (a.put (r.o i).dst x) w:=by
 obtain⟨t1,t2,t3⟩:=qfo hI hS hi hni (Map.le_refl φ) hx
 have hlive:∀b y,Live r s (fun j=>Dn j∨j=i) b y→Live r s Dn b y:=by
  rintro b y (h|⟨j,h1,h2,h3,h4,h5⟩)
  ·exact .inl h
  ·refine .inr ⟨j,h1,h2,h3.resolve_right (fun e=>hk2 (e▸h4)),h4,h5⟩
 exact{
  sn:=hI.sn,rng:=hI.rng,base:=hI.base
  before:=fun j h1 h2=>.inl (hI.before j h1 h2)
  alones:=fun j h1 h2=>hI.alones j (h1.resolve_right (fun e=>hk (e▸h2))) h2
  closed:=fun j h1 q hq=>by
   rcases h1 with h1|rfl
   ·exact .inl (hI.closed j h1 q hq)
   ·exact .inl (hanc q hq)
  bound:=fun j h1=>h1.elim (hI.bound j) (fun e=>e▸hi)
  tmps:=t1,slotIn:=t2,slotOut:=t3
  defers:=by rw[←hI.defers];cases(r.o i).dst<;>rfl
  live1:=hI.live1
  live2:=fun j b y h1 h2 h3=>hI.live2 j b y h1 (h2.resolve_right (fun e=>hk2 (e▸h3))) h3
  inj:=fun b b' y y' k k' h1 h2=>hI.inj b b' y y' k k' (hlive b y h1) (hlive b' y' h2)
  dom:=fun b k h=>by
   obtain⟨h1,h2⟩:=hI.dom b k h
   exact⟨h1,h2.imp id (fun⟨j,a1,a2,a3⟩=>⟨j,a1,.inl a2,a3⟩)⟩
  rle:=hI.rle,le:=hI.le,fresh:=hI.fresh,size:=hI.size,frame:=hI.frame,os:=hI.os,tape:=hI.tape,output:=hI.output
  fz:=hI.fz
  own:=fun b y k h1=>hI.own b y k (hlive b y h1)
  ltip:=fun b h1=>hI.ltip b (hlive b _ h1)
  tinj:=fun b b' m m' h1 h2=>hI.tinj b b' m m' (hlive b _ h1) (hlive b' _ h2)
  tdom:=fun b m h=>(hI.tdom b m h).imp id (fun⟨j,a1,a2,a3⟩=>⟨j,a1,.inl a2,a3⟩)
  tfresh:=hI.tfresh
  tlive:=fun b m h1 h2=>hI.tlive b m h1 (hlive b _ h2)
  ffresh:=hI.ffresh }
theorem qlP(hI:Inv r φ0 w0 df s Dn φ a w){i:Nat}(hi:i<n)(hni:¬Dn i)(hanc:∀j,(bf.getD i 0).testBit j=true→Dn j)(hp:qat (r.o i).op=true):
  s≤i∧r.Calm s i:=by
 refine⟨?_,?_⟩
 ·rcases Nat.lt_or_ge i s with h|h
  ·exact absurd (hI.before i h hp) hni
  ·exact h
 ·intro j hj1 hj2 hk
  obtain⟨_,_,hal,_⟩:=(r.fact j (by omega)).alone hk
  have hord:=qeP hal (r.fact i hi).op hp
  have:=hI.alones j (hanc j (qfs hord hj2)) hk
  omega
theorem qqz{i:Nat}(hi:i<n):(r.hg i).next=r.nx i:=(r.same hi).1
theorem qqF(hI:Inv r φ0 w0 df s Dn φ a w){i:Nat}(hi:i<n)(hsi:s≤i)(hc:r.Calm s i)(hanc:∀j,(bf.getD i 0).testBit j=true→Dn j)(hd:qbx (r.hg i)=true):
  HRel (cut φ (r.nx i)) (qaz bf i (r.d i) (r.hg i)) w:=by
 have hnx:=qqz (r:=r) hi
 have hobj:∀b x,(qaz bf i (r.d i) (r.hg i)).get b=some x→b<r.nx i∧Live r s Dn b x∧(x≠.tip→∃k o,φ b=some k∧w.heap[k.1]?=some o∧ObRel (cut φ (r.nx i)) (Nat.ble (r.d 0).st.h.ro b) k.2 x o):=by
  intro b x hx
  simp only[H.get,qmj,qfU]at hx
  have hx':=qaS hx
  cases hl:look (r.hg i).objs b with
  |none=>rw[hl]at hx';cases hx'
  |some y=>
   rw[hl]at hx'
   simp only[Option.map_some,Option.some.injEq]at hx'
   have hb:b<r.nx i:=by rw[←hnx];exact qgy hd hl
   by_cases hm:(r.d i).base≤b∧qh5 (bf.getD i 0) (r.d i).rng b=false
   ·rw[if_pos hm]at hx'
    subst hx'
    rw[hl]at hx
    simp only[Option.map_some,if_pos hm,live]at hx
    cases hx
   ·rw[if_neg hm]at hx'
    subst hx'
    have hlive:live (some y)=some y:=by
     rw[hl,Option.map_some,if_neg hm]at hx;exact hx
    have hl':look (r.d i).st.h.objs b=some y:=by rw[←(r.same hi).2.2];exact hl
    have hlv:∀l,look l b=some y→live (look l b)=some y:=fun l e=>by rw[e];exact hlive
    refine⟨hb,?_⟩
    rcases r.look_phase hc hsi (Nat.le_of_lt hi) hl' hb with⟨h1,h2⟩|⟨j,h1,h2,h3,h4,h5,h6⟩
    ·refine⟨.inl ⟨h1,hlv _ h2⟩,fun hxt=>?_⟩
     obtain⟨k,o,q1,q2,q3⟩:=hI.live1 b y h1 (hlv _ h2) hxt
     exact⟨k,o,q1,q2,q3.mono (qbo (Map.le_refl _) (r.nx_mono hsi (Nat.le_of_lt hi)))⟩
    ·
     have hnb:¬b<r.nx s:=by
      have:=r.nx_mono h1 (by omega:j≤n)
      omega
     have hbase:(r.d i).base=r.nx s:=by rw[r.base_eq hc hsi (Nat.le_of_lt hi)];exact hI.base
     have hown:qh5 (bf.getD i 0) (r.d i).rng b=true:=by
      cases ho:qh5 (bf.getD i 0) (r.d i).rng b with
      |true=>rfl
      |false=>exact absurd ⟨by rw[hbase];omega,ho⟩ hm
     unfold qh5 at hown
     rw[List.any_eq_true]at hown
     obtain⟨x,hx1,hx2⟩:=hown
     obtain⟨j',p1,p2,p3,p4⟩:=r.rng_spec hc hsi (Nat.le_of_lt hi) hI.rng hx1
     subst p4
     simp only[Bool.and_eq_true]at hx2
     obtain⟨⟨e1,e2⟩,e3⟩:=hx2
     have e1':=Nat.le_of_ble_eq_true e1
     have e2':b<r.nx (j'+1):=by
      have:Nat.ble (b+1) (r.nx (j'+1))=true:=e2
      exact Nat.le_of_ble_eq_true this
     have hjj:j'=j:=by
      rcases Nat.lt_trichotomy j' j with h|h|h
      ·have:r.nx (j'+1)≤r.nx j:=r.nx_mono h (by omega:j≤n)
       omega
      ·exact h
      ·have:r.nx (j+1)≤r.nx j':=r.nx_mono h (by omega:j'≤n)
       omega
     subst hjj
     refine⟨.inr ⟨j',h1,by omega,hanc j' e3,h3,h4,h5,hlv _ h6⟩,fun hxt=>?_⟩
     obtain⟨k,o,q1,q2,q3⟩:=hI.live2 j' b y h1 (hanc j' e3) h3 h4 h5 (hlv _ h6) hxt
     exact⟨k,o,q1,q2,q3.mono (qbo (Map.le_refl _) (r.nx_mono h2 (Nat.le_of_lt hi)))⟩
 constructor
 ·intro b x hx hxt
  obtain⟨hb,_,hq⟩:=hobj b x hx
  obtain⟨k,o,q1,q2,q3⟩:=hq hxt
  refine⟨k,o,qh8 hb q1,q2,?_⟩
  have hf:Nat.ble (qaz bf i (r.d i) (r.hg i)).ro b=false:=by
   have:(qaz bf i (r.d i) (r.hg i)).ro=r.nx i:=hnx
   rw[this]
   cases hh:Nat.ble (r.nx i) b with
   |false=>rfl
   |true=>have:=Nat.le_of_ble_eq_true hh;omega
  rw[hf]
  exact q3.weak
 ·intro b b' x x' k k' hx _ hro
  have:=(hobj b x hx).1
  have h2:(qaz bf i (r.d i) (r.hg i)).ro=r.nx i:=hnx
  omega
 ·intro b k hb
  obtain⟨h1,h2⟩:=qcG hb
  have:(qaz bf i (r.d i) (r.hg i)).next=r.nx i:=hnx
  exact⟨by omega,(hI.dom b k h2).1⟩
 ·exact Nat.le_refl _
 ·exact hI.fz
 ·intro b x k hx hk
  exact hI.own b x k (hobj b x hx).2.1 (qcG hk).2
 ·intro b hb
  obtain⟨h1,h2,_⟩:=hobj b _ hb
  obtain⟨m,h3,h4⟩:=hI.ltip b h2
  exact⟨m,qdb h1 h3,h4⟩
 ·intro b b' m m' hb hb' hne e e'
  exact hI.tinj b b' m m' (hobj b _ hb).2.1 (hobj b' _ hb').2.1 hne (qhf e).2 (qhf e').2
 ·intro b m e
  have:(qaz bf i (r.d i) (r.hg i)).next=r.nx i:=hnx
  have:=(qhf e).1
  omega
def join(φ φ':Map):Map:={ nm:=fun b=>match φ b with|some k=>some k|none=>φ' b,fz:=φ'.fz,tp:=fun b=>match φ.tp b with|some k=>some k|none=>φ'.tp b,base:=φ.base }
theorem qpd{φ φ':Map}{b:Nat}{k:Nat×Nat×Nat}(h:φ b=some k):join φ φ' b=some k:=by simp only[join,h]
theorem qef{φ φ':Map}{b:Nat}(h:φ b=none):join φ φ' b=φ' b:=by simp only[join,h]
theorem qkR{φ φ':Map}{b:Nat}{k:Option (Nat×Nat×Nat)}(h:φ.tp b=some k):(join φ φ').tp b=some k:=by simp only[join,h]
theorem qbR{φ φ':Map}{b:Nat}(h:φ.tp b=none):(join φ φ').tp b=φ'.tp b:=by simp only[join,h]
theorem qnp(hI:Inv r φ0 w0 df s Dn φ a w)(hS:Static r){i:Nat}(hi:i<n)(hni:¬Dn i)(hanc:∀j,(bf.getD i 0).testBit j=true→Dn j)(hk:r.k i=Kind.quiet)(hsi:s≤i)
  {φ':Map} {w':World} {x:Value} (hx:VRel φ' (r.v i) x) (G:Goes (cut φ (r.nx i)) (qaz bf i (r.d i) (r.hg i)) w φ' (r.h2 i) w'):
  Inv r φ0 w0 df s (fun j=>Dn j∨j=i) (join φ φ') (a.put (r.o i).dst x) w':=by
 have hnx:=qqz (r:=r) hi
 have hown:(qaz bf i (r.d i) (r.hg i)).next=r.nx i:=hnx
 have hownro:(qaz bf i (r.d i) (r.hg i)).ro=r.nx i:=hnx
 obtain⟨_,_,_,_,_,_,_,_,he⟩:=(r.fact i hi).quiet hk
 have hnx1:r.nx (i+1)=(r.h2 i).next:=by unfold Run.nx;rw[he]
 have hh2ro:(r.h2 i).ro=r.nx i:=by rw[G.ro];exact hownro
 generalize hψd:join φ φ'=ψ
 have hψfz:ψ.fz=φ'.fz:=by rw[←hψd];rfl
 have hψ:φ.le ψ:=⟨fun b k h=>by rw[←hψd];exact qpd h,by rw[hψfz];exact G.le.fz,fun b k h=>by rw[←hψd];exact qkR h,by rw[←hψd];rfl⟩
 have hout:∀b,r.nx i≤b→b<r.nx (i+1)→¬(b<r.nx s∨∃j,s≤j∧Dn j∧r.k j=Kind.quiet∧r.nx j≤b∧b<r.nx (j+1)):=by
  intro b h1 h2 hb
  rcases hb with h|⟨j,j1,j2,j3,j4,j5⟩
  ·have:=r.nx_mono hsi (Nat.le_of_lt hi);omega
  ·have hjn:=hI.bound j j2
   rcases Nat.lt_trichotomy j i with h|h|h
   ·have:r.nx (j+1)≤r.nx i:=r.nx_mono h (Nat.le_of_lt hi)
    omega
   ·subst h;exact hni j2
   ·have:r.nx (i+1)≤r.nx j:=r.nx_mono h (Nat.le_of_lt hjn)
    omega
 have hnone:∀b,r.nx i≤b→b<r.nx (i+1)→φ b=none:=by
  intro b h1 h2
  cases hb:φ b with
  |none=>rfl
  |some k=>exact absurd (hI.dom b k hb).2 (hout b h1 h2)
 have htnone:∀b,r.nx i≤b→b<r.nx (i+1)→φ.tp b=none:=by
  intro b h1 h2
  cases hb:φ.tp b with
  |none=>rfl
  |some k=>exact absurd (hI.tdom b k hb) (hout b h1 h2)
 have hfr:∀b k,φ' b=some k→(b<r.nx i∧φ b=some k)∨(r.nx i≤b∧b<r.nx (i+1)∧w.heap.size≤k.1):=by
  intro b k h
  have hb:=(G.rel.dom b k h).1
  rcases G.fresh b k h with h1|⟨h1,h2⟩
  ·exact .inl (qcG h1)
  ·refine .inr ⟨by rw[hown]at h1;exact h1,by rw[hnx1];exact hb,?_⟩
   rcases h2 with h2|⟨c,k',c1,c2,_⟩
   ·exact h2
   ·rw[hownro]at c1
    have:=(qcG c2).1;omega
 have hnotip:∀c e,(qaz bf i (r.d i) (r.hg i)).ro≤c→(cut φ (r.nx i)).tp c=some e→False:=by
  intro c e h1 h2
  rw[hownro]at h1
  have:=(qhf h2).1;omega
 have htfr:∀b m,φ'.tp b=some m→(b<r.nx i∧φ.tp b=some m)∨(r.nx i≤b∧b<r.nx (i+1)∧∀e,m=some e→w.heap.size≤e.1):=by
  intro b m h
  have hb:=G.rel.tdom b m h
  rcases G.tfresh b m h with h1|⟨h1,h2⟩
  ·exact .inl (qhf h1)
  ·refine .inr ⟨by rw[hown]at h1;exact h1,by rw[hnx1];exact hb,fun e he=>?_⟩
   rcases h2 e he with h2|⟨c,e',c1,_,c3,_⟩
   ·exact h2
   ·exact(hnotip c _ c1 c3).elim
 have hffr:∀k c,φ'.fz k=some c→k<w.heap.size→φ.fz k=some c:=by
  intro k c h hk
  rcases G.ffresh k c h hk with h|⟨b,k',h1,h2,_⟩|⟨b,e,h1,_,h3,_⟩
  ·exact h
  ·rw[hownro]at h1
   have:=(qcG h2).1;omega
  ·exact(hnotip b _ h1 h3).elim
 have hfsame:∀k c,φ.fz k=some c→ψ.fz k=some c:=by
  intro k c h
  obtain⟨c',h1,_⟩:=G.le.fz k c h
  obtain⟨cs,t,z,h2,_⟩:=hI.fz k c h
  have:=hffr k c' h1 (lt_of_heap h2)
  rw[h]at this;cases this
  rw[hψfz];exact h1
 have hφ':φ'.le (cut ψ (r.nx (i+1))):=by
  refine⟨fun b k h=>?_,by show Frozen.le φ'.fz ψ.fz;rw[hψfz];exact Frozen.le_refl _,fun b m h=>?_,by rw[←hψd];exact G.le.base.symm⟩
  ·rcases hfr b k h with⟨h1,h2⟩|⟨h1,h2,h3⟩
   ·exact qh8 (by have:=r.nx_step hi;omega) (hψ b k h2)
   ·refine qh8 h2 ?_
    rw[←hψd,qef (hnone b h1 h2)];exact h
  ·rcases htfr b m h with⟨h1,h2⟩|⟨h1,h2,h3⟩
   ·exact qdb (by have:=r.nx_step hi;omega) (hψ.tp b m h2)
   ·refine qdb h2 ?_
    rw[←hψd,qbR (htnone b h1 h2)];exact h
 have hheap:∀k,k<w.heap.size→w'.heap[k]?=w.heap[k]?:=fun k hk'=>G.frame k hk' (fun b k' hb hc=>by
  rw[hownro]at hb
  have:=(qcG hc).1;omega) (fun b e h1 _ h3=>(hnotip b _ h1 h3).elim)
 obtain⟨t1,t2,t3⟩:=qfo hI hS hi hni hψ (hx.mono hφ')
 have hold1:∀b y,b<r.nx s→live (look (r.d s).st.h.objs b)=some y→y≠.tip→∃k o,φ b=some k∧ψ b=some k∧w'.heap[k.1]?=some o∧ObRel (cut ψ (r.nx s)) (Nat.ble (r.d 0).st.h.ro b) k.2 y o:=by
  intro b y h1 h2 hyt
  obtain⟨k,o,q1,q2,q3⟩:=hI.live1 b y h1 h2 hyt
  exact⟨k,o,q1,hψ b k q1,by rw[hheap k.1 (lt_of_heap q2)];exact q2,q3.mono (qbo hψ (Nat.le_refl _))⟩
 have hold2:∀j b y,s≤j→Dn j→r.k j=Kind.quiet→r.nx j≤b→b<r.nx (j+1)→live (look (r.h2 j).objs b)=some y→y≠.tip→∃k o,φ b=some k∧ψ b=some k∧w'.heap[k.1]?=some o∧ObRel (cut ψ (r.nx (j+1))) (Nat.ble (r.d 0).st.h.ro b) k.2 y o:=by
  intro j b y h1 h2 h3 h4 h5 h6 hyt
  obtain⟨k,o,q1,q2,q3⟩:=hI.live2 j b y h1 h2 h3 h4 h5 h6 hyt
  exact⟨k,o,q1,hψ b k q1,by rw[hheap k.1 (lt_of_heap q2)];exact q2,q3.mono (qbo hψ (Nat.le_refl _))⟩
 have hnew:∀b y,r.nx i≤b→b<r.nx (i+1)→live (look (r.h2 i).objs b)=some y→y≠.tip→∃k o,φ' b=some k∧ψ b=some k∧w.heap.size≤k.1∧w'.heap[k.1]?=some o∧ObRel (cut ψ (r.nx (i+1))) (Nat.ble (r.d 0).st.h.ro b) k.2 y o:=by
  intro b y h1 h2 h3 hyt
  obtain⟨k,o,q1,q2,q3⟩:=G.rel.obj b y h3 hyt
  have hb1:Nat.ble (r.h2 i).ro b=true:=Nat.ble_eq_true_of_le (by rw[hh2ro];exact h1)
  have hb2:Nat.ble (r.d 0).st.h.ro b=true:=Nat.ble_eq_true_of_le (by
   have:=hI.rle
   have:=r.nx_mono (Nat.zero_le i) (Nat.le_of_lt hi)
   omega)
  rw[hb1]at q3
  refine⟨k,o,q1,by rw[←hψd,qef (hnone b h1 h2)];exact q1,?_,q2,by rw[hb2];exact q3.mono hφ'⟩
  rcases hfr b k q1 with⟨e1,e2⟩|⟨e1,e2,e3⟩
  ·omega
  ·exact e3
 have hcase:∀b y,Live r s (fun j=>Dn j∨j=i) b y→(Live r s Dn b y∧(b<r.nx s∨∃j,s≤j∧Dn j∧r.k j=Kind.quiet∧r.nx j≤b∧b<r.nx (j+1)))∨(r.nx i≤b∧b<r.nx (i+1)∧live (look (r.h2 i).objs b)=some y):=by
  rintro b y (⟨h1,h2⟩|⟨j,h1,h2,h3,h4,h5,h6,h7⟩)
  ·exact .inl ⟨.inl ⟨h1,h2⟩,.inl h1⟩
  ·rcases h3 with h3|rfl
   ·exact .inl ⟨.inr ⟨j,h1,h2,h3,h4,h5,h6,h7⟩,.inr ⟨j,h1,h3,h4,h5,h6⟩⟩
   ·exact .inr ⟨h5,h6,h7⟩
 have holdk:∀b k,(b<r.nx s∨∃j,s≤j∧Dn j∧r.k j=Kind.quiet∧r.nx j≤b∧b<r.nx (j+1))→ψ b=some k→φ b=some k:=by
  intro b k hb hk'
  cases hφ:φ b with
  |some q=>rw[hψ b q hφ]at hk';exact hk'
  |none=>
   rw[←hψd,qef hφ]at hk'
   rcases hfr b k hk' with⟨_,e2⟩|⟨e1,e2,_⟩
   ·rw[hφ]at e2;exact e2
   ·exact absurd hb (hout b e1 e2)
 have holdt:∀b m,(b<r.nx s∨∃j,s≤j∧Dn j∧r.k j=Kind.quiet∧r.nx j≤b∧b<r.nx (j+1))→ψ.tp b=some m→φ.tp b=some m:=by
  intro b m hb hk'
  cases hφ:φ.tp b with
  |some q=>rw[hψ.tp b q hφ]at hk';exact hk'
  |none=>
   rw[←hψd,qbR hφ]at hk'
   rcases htfr b m hk' with⟨_,e2⟩|⟨e1,e2,_⟩
   ·rw[hφ]at e2;exact e2
   ·exact absurd hb (hout b e1 e2)
 have hnewk:∀b k,r.nx i≤b→b<r.nx (i+1)→ψ b=some k→φ' b=some k∧w.heap.size≤k.1:=by
  intro b k h1 h2 hk'
  rw[←hψd,qef (hnone b h1 h2)]at hk'
  rcases hfr b k hk' with⟨e1,e2⟩|⟨e1,e2,e3⟩
  ·omega
  ·exact⟨hk',e3⟩
 have hnewt:∀b m,r.nx i≤b→b<r.nx (i+1)→ψ.tp b=some m→φ'.tp b=some m∧∀e,m=some e→w.heap.size≤e.1:=by
  intro b m h1 h2 hk'
  rw[←hψd,qbR (htnone b h1 h2)]at hk'
  rcases htfr b m hk' with⟨e1,e2⟩|⟨e1,e2,e3⟩
  ·omega
  ·exact⟨hk',e3⟩
 have htblk:∀b m,Live r s Dn b .tip→φ.tp b=some (some m)→m.1<w.heap.size:=by
  intro b m hb e
  obtain⟨m0,h4,h5⟩:=hI.ltip b hb
  rw[e]at h4;cases h4
  obtain⟨_,cs,t,h6,_⟩:=h5 m.1 m.2.1 m.2.2 rfl
  exact lt_of_heap h6
 exact{
  sn:=hI.sn,rng:=hI.rng,base:=hI.base
  before:=fun j h1 h2=>.inl (hI.before j h1 h2)
  alones:=fun j h1 h2=>hI.alones j (h1.resolve_right (fun e=>by rw[e,hk]at h2;cases h2)) h2
  closed:=fun j h1 q hq=>by
   rcases h1 with h1|rfl
   ·exact .inl (hI.closed j h1 q hq)
   ·exact .inl (hanc q hq)
  bound:=fun j h1=>h1.elim (hI.bound j) (fun e=>e▸hi)
  tmps:=t1,slotIn:=t2,slotOut:=t3
  defers:=by rw[←hI.defers];cases(r.o i).dst<;>rfl
  live1:=fun b y h1 h2 h3=>by
   obtain⟨k,o,_,q1,q2,q3⟩:=hold1 b y h1 h2 h3
   exact⟨k,o,q1,q2,q3⟩
  live2:=fun j b y h1 h2 h3 h4 h5 h6 h7=>by
   rcases h2 with h2|rfl
   ·obtain⟨k,o,_,q1,q2,q3⟩:=hold2 j b y h1 h2 h3 h4 h5 h6 h7
    exact⟨k,o,q1,q2,q3⟩
   ·obtain⟨k,o,_,q1,_,q2,q3⟩:=hnew b y h4 h5 h6 h7
    exact⟨k,o,q1,q2,q3⟩
  inj:=fun b b' y y' k k' h1 h2 hro hne hk1 hk2=>by
   rcases hcase b y h1 with⟨l1,p1⟩|⟨e1,e2,e3⟩
   ·have f1:=holdk b k p1 hk1
    rcases hcase b' y' h2 with⟨l2,p2⟩|⟨e1',e2',e3'⟩
    ·exact hI.inj b b' y y' k k' l1 l2 hro hne f1 (holdk b' k' p2 hk2)
    ·have:=(hnewk b' k' e1' e2' hk2).2
     have:=(hI.dom b k f1).1
     omega
   ·obtain⟨m0,m1⟩:=hnewk b k e1 e2 hk1
    rcases hcase b' y' h2 with⟨l2,p2⟩|⟨e1',e2',e3'⟩
    ·have:=(hI.dom b' k' (holdk b' k' p2 hk2)).1
     omega
    ·exact G.rel.inj b b' y y' k k' e3 e3' (by rw[hh2ro];exact e1) hne m0 (hnewk b' k' e1' e2' hk2).1
  dom:=fun b k hb=>by
   cases hφ:φ b with
   |some q=>
    rw[hψ b q hφ]at hb
    cases hb
    obtain⟨h1,h2⟩:=hI.dom b k hφ
    exact⟨Nat.lt_of_lt_of_le h1 G.size,h2.imp id (fun⟨j,a1,a2,a3⟩=>⟨j,a1,.inl a2,a3⟩)⟩
   |none=>
    have hb':φ' b=some k:=by rw[←hψd,qef hφ]at hb;exact hb
    refine⟨(G.rel.dom b k hb').2,?_⟩
    rcases hfr b k hb' with⟨e1,e2⟩|⟨e1,e2,e3⟩
    ·rw[hφ]at e2;cases e2
    ·exact .inr ⟨i,hsi,.inr rfl,hk,e1,e2⟩
  rle:=hI.rle
  le:=Map.le_trans hI.le hψ
  fresh:=fun b k hb=>by
   cases hφ:φ b with
   |some q=>
    rw[hψ b q hφ]at hb
    cases hb
    exact hI.fresh b k hφ
   |none=>
    have hb':φ' b=some k:=by rw[←hψd,qef hφ]at hb;exact hb
    rcases hfr b k hb' with⟨e1,e2⟩|⟨e1,e2,e3⟩
    ·rw[hφ]at e2;cases e2
    ·have:=r.nx_mono (Nat.zero_le i) (Nat.le_of_lt hi)
     have:=hI.size
     exact .inr ⟨by omega,.inl (by omega)⟩
  size:=Nat.le_trans hI.size G.size
  frame:=fun k hk' hf ht=>by rw[hheap k (Nat.lt_of_lt_of_le hk' hI.size)];exact hI.frame k hk' hf ht
  os:=G.os.trans hI.os,tape:=G.tape.trans hI.tape,output:=G.output.trans hI.output
  fz:=fun k c e=>by rw[hψfz]at e;exact G.rel.fz k c e
  own:=fun b y k h1 hk1=>by
   rcases hcase b y h1 with⟨l1,p1⟩|⟨e1,e2,e3⟩
   ·have f1:=holdk b k p1 hk1
    have f2:=hI.own b y k l1 f1
    cases f3:ψ.fz k.1 with
    |none=>rfl
    |some c=>
     rw[hψfz]at f3
     have:=hffr k.1 c f3 (hI.dom b k f1).1
     rw[f2]at this;cases this
   ·rw[hψfz]
    exact G.rel.own b y k e3 (hnewk b k e1 e2 hk1).1
  ltip:=fun b h1=>by
   rcases hcase b _ h1 with⟨l1,p1⟩|⟨e1,e2,e3⟩
   ·obtain⟨m,h2,h3⟩:=hI.ltip b l1
    refine⟨m,hψ.tp b m h2,fun blk en sz e=>?_⟩
    obtain⟨⟨c,h4,h5⟩,cs,t,h6,h7⟩:=h3 blk en sz e
    exact⟨⟨c,hfsame blk c h4,h5⟩,cs,t,by rw[hheap blk (lt_of_heap h6)];exact h6,h7⟩
   ·obtain⟨m,h2,h3⟩:=G.rel.tip b e3
    refine⟨m,by rw[←hψd,qbR (htnone b e1 e2)];exact h2,fun blk en sz e=>?_⟩
    rw[hψfz]
    exact h3 blk en sz e
  tinj:=fun b b' m m' h1 h2 hne hm hm'=>by
   rcases hcase b _ h1 with⟨l1,p1⟩|⟨e1,e2,e3⟩
   ·have f1:=holdt b _ p1 hm
    rcases hcase b' _ h2 with⟨l2,p2⟩|⟨e1',e2',e3'⟩
    ·exact hI.tinj b b' m m' l1 l2 hne f1 (holdt b' _ p2 hm')
    ·have:=(hnewt b' _ e1' e2' hm').2 m' rfl
     have:=htblk b m l1 f1
     omega
   ·obtain⟨m0,m1⟩:=hnewt b _ e1 e2 hm
    rcases hcase b' _ h2 with⟨l2,p2⟩|⟨e1',e2',e3'⟩
    ·have:=m1 m rfl
     have:=htblk b' m' l2 (holdt b' _ p2 hm')
     omega
    ·exact G.rel.tinj b b' m m' e3 e3' hne m0 (hnewt b' _ e1' e2' hm').1
  tdom:=fun b m hb=>by
   cases hφ:φ.tp b with
   |some q=>exact(hI.tdom b q hφ).imp id (fun⟨j,a1,a2,a3⟩=>⟨j,a1,.inl a2,a3⟩)
   |none=>
    have hb':φ'.tp b=some m:=by rw[←hψd,qbR hφ]at hb;exact hb
    rcases htfr b m hb' with⟨e1,e2⟩|⟨e1,e2,e3⟩
    ·rw[hφ]at e2;cases e2
    ·exact .inr ⟨i,hsi,.inr rfl,hk,e1,e2⟩
  tfresh:=fun b m hb=>by
   cases hφ:φ.tp b with
   |some q=>
    rw[hψ.tp b q hφ]at hb
    cases hb
    exact hI.tfresh b m hφ
   |none=>
    have hb':φ'.tp b=some m:=by rw[←hψd,qbR hφ]at hb;exact hb
    rcases htfr b m hb' with⟨e1,e2⟩|⟨e1,e2,e3⟩
    ·rw[hφ]at e2;cases e2
    ·have:=r.nx_mono (Nat.zero_le i) (Nat.le_of_lt hi)
     have:=hI.size
     exact .inr ⟨by omega,fun e he=>.inl (by have:=e3 e he;omega)⟩
  tlive:=fun b m h1 h2=>by
   rcases hcase b _ h2 with⟨l1,p1⟩|⟨e1,e2,e3⟩
   ·exact hI.tlive b m h1 l1
   ·have:=htnone b e1 e2
    rw[hI.le.tp b m h1]at this;cases this
  ffresh:=fun k c e hk'=>by
   rw[hψfz]at e
   exact hI.ffresh k c (hffr k c e (Nat.lt_of_lt_of_le hk' hI.size)) hk' }
end
end Go.Vm

namespace Go.Vm
open Go
section
variable {P:Program} {L:Lev} {ops:Array Oper} {bf:Array Nat} {n:Nat} {r:Run P L ops bf n}
variable {φ0:Map} {w0:World} {df:List Deferred} {s:Nat} {Dn:Nat→Prop} {φ:Map} {a:Act} {w:World}
theorem qcc{j:Nat}(hj:j<n)(hk:r.k j=Kind.quiet):qat (r.o j).op=true:=((r.fact j hj).quiet hk).2.1
theorem qeD{m:Nat}(hc:r.Calm s m)(hsm:s≤m)(hm:m≤n)(hdn:∀j,j<n→r.k j=Kind.quiet→s≤j→(Dn j↔j<m)){h:H}(hs:(r.d m).st.h.Same h)(hd:qbx h=true){b:Nat}{x:Ob}(hx:h.get b=some x):Live r s Dn b x:=by
 have hnx:h.next=r.nx m:=hs.1
 simp only[H.get]at hx
 have hl:=qaS hx
 have hlv:∀l,look l b=some x→live (look l b)=some x:=fun l e=>by rw[hl]at hx;rw[e];exact hx
 have hb:b<r.nx m:=by rw[←hnx];exact qgy hd hl
 rw[hs.2.2]at hl
 rcases r.look_phase hc hsm hm hl hb with⟨h1,h2⟩|⟨j,h1,h2,h3,h4,h5,h6⟩
 ·exact .inl ⟨h1,hlv _ h2⟩
 ·exact .inr ⟨j,h1,by omega,(hdn j (by omega) h3 h1).2 h2,h3,h4,h5,hlv _ h6⟩
theorem qjR(hI:Inv r φ0 w0 df s Dn φ a w){m:Nat}(hm:m≤n)(hsm:s≤m)(hc:r.Calm s m)(hdn:∀j,j<n→r.k j=Kind.quiet→s≤j→(Dn j↔j<m)){h:H}(hs:(r.d m).st.h.Same h)(hd:qbx h=true):HRel φ h w:=by
 have hro:h.ro=(r.d 0).st.h.ro:=by rw[hs.2.1];exact r.ro_eq hm
 have hnx:h.next=r.nx m:=hs.1
 have hlive:∀b x,h.get b=some x→Live r s Dn b x:=fun b x hx=>qeD hc hsm hm hdn hs hd hx
 have hlt:∀b,(b<r.nx s∨∃j,s≤j∧Dn j∧r.k j=Kind.quiet∧r.nx j≤b∧b<r.nx (j+1))→b<h.next:=by
  intro b h2
  rw[hnx]
  rcases h2 with h2|⟨j,j1,j2,j3,j4,j5⟩
  ·have:=r.nx_mono hsm hm;omega
  ·have hjm:=(hdn j (hI.bound j j2) j3 j1).1 j2
   have:r.nx (j+1)≤r.nx m:=r.nx_mono hjm hm
   omega
 constructor
 ·intro b x hx hxt
  rw[hro]
  rcases hlive b x hx with⟨h1,h2⟩|⟨j,h1,h2,h3,h4,h5,h6,h7⟩
  ·obtain⟨k,o,q1,q2,q3⟩:=hI.live1 b x h1 h2 hxt
   exact⟨k,o,q1,q2,q3.mono (qjF _ _)⟩
  ·obtain⟨k,o,q1,q2,q3⟩:=hI.live2 j b x h1 h3 h4 h5 h6 h7 hxt
   exact⟨k,o,q1,q2,q3.mono (qjF _ _)⟩
 ·intro b b' x x' k k' hx hx' hb
  rw[hro]at hb
  exact hI.inj b b' x x' k k' (hlive b x hx) (hlive b' x' hx') hb
 ·intro b k hb
  obtain⟨h1,h2⟩:=hI.dom b k hb
  exact⟨hlt b h2,h1⟩
 ·rw[hro,hnx]
  have:=hI.rle
  have:=r.nx_mono (Nat.zero_le m) hm
  omega
 ·exact hI.fz
 ·exact fun b x k hx=>hI.own b x k (hlive b x hx)
 ·exact fun b hb=>hI.ltip b (hlive b _ hb)
 ·exact fun b b' m m' hb hb'=>hI.tinj b b' m m' (hlive b _ hb) (hlive b' _ hb')
 ·exact fun b m hb=>hlt b (hI.tdom b m hb)
theorem qhR(hI:Inv r φ0 w0 df s Dn φ a w){i:Nat}(hi:i<n)(hni:¬Dn i)(hanc:∀j,(bf.getD i 0).testBit j=true→Dn j)(hk:r.k i=Kind.alone):
  ∀j,j<n→qat (r.o j).op=true→j≠i→(Dn j↔j<i):=by
 intro j hj hp hne
 obtain⟨_,_,hal,_⟩:=(r.fact i hi).alone hk
 have hord:=qeP hal (r.fact j hj).op hp
 constructor
 ·intro h
  rcases Nat.lt_or_ge j i with h1|h1
  ·exact h1
  ·have:(bf.getD j 0).testBit i=true:=qfs hord (by omega)
   exact absurd (hI.closed j h i this) hni
 ·intro h
  exact hanc j (qh7 hord h)
theorem qoq(hI:Inv r φ0 w0 df s Dn φ a w)(hS:Static r){i:Nat}(hi:i<n)(hni:¬Dn i)(hanc:∀j,(bf.getD i 0).testBit j=true→Dn j)(hk:r.k i=Kind.alone)(hsi:s≤i)
  {φ':Map} {w':World} {x:Value} (hx:VRel φ' (r.v i) x) (hc:r.Calm s i) (hd:qbx (r.hg i)=true) (G:Goes φ (r.hg i) w φ' (r.h2 i) w'):
  Inv r φ0 w0 df (i+1) (fun j=>Dn j∨j=i) φ' (a.put (r.o i).dst x) w':=by
 have hnx:=qqz (r:=r) hi
 have hdn:=qhR hI hi hni hanc hk
 obtain⟨_,_,_,_,_,_,hbase,hrng,he⟩:=(r.fact i hi).alone hk
 have hnx1:r.nx (i+1)=(r.h2 i).next:=by unfold Run.nx;rw[he]
 have hro:(r.hg i).ro=(r.d 0).st.h.ro:=by rw[(r.same hi).2.1];exact r.ro_eq (Nat.le_of_lt hi)
 have hcut:φ'.le (cut φ' (r.nx (i+1))):=⟨fun b k h=>qh8 (by rw[hnx1];exact(G.rel.dom b k h).1) h,Frozen.le_refl _,fun b k h=>qdb (by rw[hnx1];exact G.rel.tdom b k h) h,rfl⟩
 have hold:∀b x,(r.hg i).get b=some x→Live r s Dn b x:=fun b x hx=>qeD hc hsi (Nat.le_of_lt hi) (fun j hj hq _=>hdn j hj (qcc hj hq) (fun e=>by rw[e,hk]at hq;cases hq)) (r.same hi) hd hx
 obtain⟨t1,t2,t3⟩:=qfo hI hS hi hni G.le (hx.mono hcut)
 have hlive:∀b y,Live r (i+1) (fun j=>Dn j∨j=i) b y→(r.h2 i).get b=some y:=by
  rintro b y (⟨h1,h2⟩|⟨j,h1,h2,h3,h4,h5,h6,h7⟩)
  ·rw[he]at h2;exact h2
  ·have hji:j≠i:=by omega
   have:=(hdn j h2 (qcc h2 h4) hji).1 (h3.resolve_right hji)
   omega
 have hn0:=r.nx_mono (Nat.zero_le i) (Nat.le_of_lt hi)
 exact{
  sn:=hi
  rng:=hrng
  base:=by rw[hbase,hnx1]
  before:=fun j h1 h2=>by
   by_cases hji:j=i
   ·exact .inr hji
   ·exact .inl ((hdn j (by omega) h2 hji).2 (by omega))
  alones:=fun j h1 h2=>by
   rcases h1 with h1|rfl
   ·have:=hI.alones j h1 h2;omega
   ·omega
  closed:=fun j h1 q hq=>by
   rcases h1 with h1|rfl
   ·exact .inl (hI.closed j h1 q hq)
   ·exact .inl (hanc q hq)
  bound:=fun j h1=>h1.elim (hI.bound j) (fun e=>e▸hi)
  tmps:=t1,slotIn:=t2,slotOut:=t3
  defers:=by rw[←hI.defers];cases(r.o i).dst<;>rfl
  live1:=fun b y h1 h2 hyt=>by
   obtain⟨k,o,q1,q2,q3⟩:=G.rel.obj b y (hlive b y (.inl ⟨h1,h2⟩)) hyt
   rw[G.ro,hro]at q3
   exact⟨k,o,q1,q2,q3.mono hcut⟩
  live2:=fun j b y h1 h2 h3 h4 h5 h6 _=>by
   exfalso
   have hjn:j<n:=h2.elim (hI.bound j) (fun e=>e▸hi)
   have hji:j≠i:=by omega
   have:=(hdn j hjn (qcc hjn h3) hji).1 (h2.resolve_right hji)
   omega
  inj:=fun b b' y y' k k' h1 h2 hb=>G.rel.inj b b' y y' k k' (hlive b y h1) (hlive b' y' h2) (by rw[G.ro,hro];exact hb)
  dom:=fun b k hb=>⟨(G.rel.dom b k hb).2,.inl (by rw[hnx1];exact(G.rel.dom b k hb).1)⟩
  rle:=hI.rle
  le:=Map.le_trans hI.le G.le
  fresh:=fun b k hb=>by
   rcases G.fresh b k hb with e|⟨h1,e⟩
   ·exact hI.fresh b k e
   ·refine .inr ⟨by omega,?_⟩
    have:=hI.size
    rcases e with e|⟨c,k',hc,e,en⟩
    ·exact .inl (by omega)
    ·rw[hro]at hc
     rcases hI.fresh c k' e with e|⟨_,e⟩
     ·exact .inr ⟨c,k',hc,e,en⟩
     ·rw[en]at e;exact e
  size:=Nat.le_trans hI.size G.size
  frame:=fun k hk' hf ht=>by
   rw[G.frame k (Nat.lt_of_lt_of_le hk' hI.size) ?_ ?_,hI.frame k hk' hf ht]
   ·intro b k' hb e en
    rw[hro]at hb
    rcases hI.fresh b k' e with e|⟨_,e⟩
    ·exact hf b k' hb e en
    ·rcases e with e|⟨c,k'',hc,e,en'⟩
     ·omega
     ·exact hf c k'' hc e (en'.trans en)
   ·intro b e hb hbt he en
    rw[hro]at hb
    rcases hI.tfresh b _ he with h1|⟨_,h1⟩
    ·exact ht b e hb (hI.tlive b _ h1 (hold b _ hbt)) h1 en
    ·rcases h1 e rfl with h1|⟨c,e',hcr,hc,he',hee⟩
     ·omega
     ·exact ht c e' hcr hc he' (hee.trans en)
  fz:=G.rel.fz
  own:=fun b y k h1=>G.rel.own b y k (hlive b y h1)
  ltip:=fun b h1=>G.rel.tip b (hlive b _ h1)
  tinj:=fun b b' m m' h1 h2=>G.rel.tinj b b' m m' (hlive b _ h1) (hlive b' _ h2)
  tdom:=fun b m hb=>.inl (by rw[hnx1];exact G.rel.tdom b m hb)
  tfresh:=fun b m hb=>by
   rcases G.tfresh b m hb with h1|⟨h1,h2⟩
   ·exact hI.tfresh b m h1
   ·refine .inr ⟨by omega,fun e he=>?_⟩
    have:=hI.size
    rcases h2 e he with h3|⟨c,e',hcr,hc,he',hee⟩
    ·exact .inl (by omega)
    ·rw[hro]at hcr
     rcases hI.tfresh c _ he' with h4|⟨_,h4⟩
     ·exact .inr ⟨c,e',hcr,hI.tlive c _ h4 (hold c _ hc),h4,hee⟩
     ·rcases h4 e' rfl with h5|⟨d,e2,hdr,hd,hd2,hd3⟩
      ·exact .inl (by omega)
      ·exact .inr ⟨d,e2,hdr,hd,hd2,hd3.trans hee⟩
  tlive:=fun b m h1 h2=>hI.tlive b m h1 (hold b _ (G.tlive b m (hI.le.tp b m h1) (hlive b _ h2)))
  ffresh:=fun k c e hk'=>by
   rcases G.ffresh k c e (Nat.lt_of_lt_of_le hk' hI.size)with h1|h1
   ·exact hI.ffresh k c h1 hk'
   ·refine .inr ?_
    rcases h1 with⟨b,k',hb,hk2,hkn⟩|⟨b,e,hbr,hb,he,hen⟩
    ·rw[hro]at hb
     rcases hI.fresh b k' hk2 with h2|⟨_,h2⟩
     ·exact .inl ⟨b,k',hb,h2,hkn⟩
     ·rcases h2 with h2|⟨c,k3,hc,hk3,hk4⟩
      ·omega
      ·exact .inl ⟨c,k3,hc,hk3,hk4.trans hkn⟩
    ·rw[hro]at hbr
     rcases hI.tfresh b _ he with h2|⟨_,h2⟩
     ·exact .inr ⟨b,e,hbr,hI.tlive b _ h2 (hold b _ hb),h2,hen⟩
     ·rcases h2 e rfl with h3|⟨c,e',hcr,hc,he',hee⟩
      ·omega
      ·exact .inr ⟨c,e',hcr,hc,he',hee.trans hen⟩
  os:=G.os.trans hI.os,tape:=G.tape.trans hI.tape,output:=G.output.trans hI.output }
theorem qoW(hL:LevOk P L)(hI:Inv r φ0 w0 df s Dn φ a w)(hS:Static r)(hH:(r.d n).st.h.Holds){i:Nat}(hi:i<n)(hni:¬Dn i)(hanc:∀j,(bf.getD i 0).testBit j=true→Dn j)
  {F:Fence} {m:Nat} (hF:Wide F) {K:Act→World→Prop} {Q:Exit→Act→World→Prop}
  (hK:∀s' φ' a' w',Inv r φ0 w0 df s' (fun j=>Dn j∨j=i) φ' a' w'→K a' w'):wpOpIn F m P ops Q i K a w:=by
 obtain⟨hd0,hhg,hh2⟩:=r.step_holds hL hi (r.holds hL hH (by omega))
 have f:=r.fact i hi
 have hmask:=hI.mask hS hi hni hanc
 have hgd:qaL ops (r.o i) (qb1 (r.o i) (qaE ops (r.o i)) (r.d i).st.ts) (r.d i).st.h=some (r.g i,r.hg i):=by
  rw[←f.guard]
  refine(qiX fun j want d hg hd=>?_).symm
  rw[qjQ]
  right
  simp only[qaE,hg,hd]
 obtain⟨_,_,hw⟩:=qex hgd hhg
 have hw:=hw _ a.tmps hmask
 unfold wpOpIn
 rw[f.op]
 dsimp only
 rw[hw]
 have hev:∀x∈(r.o i).op.operands,eval (r.d i).st.ts x=eval (qb1 (r.o i) (qaE ops (r.o i)) (r.d i).st.ts) x:=qn6
 rcases Run.kinds (r.k i)with hk|hk|hk|hk
 ·obtain⟨hg,hv,_⟩:=f.off hk
  rw[hg]
  refine⟨fun f _=>hF.fn f,hK s φ _ _ (qkc hI hS hi hni hanc (by rw[hk];decide) (by rw[hk];decide) ?_)⟩
  rw[hv];exact VRel.skip
 ·obtain⟨hg,hp,hv,_⟩:=f.pure hk
  rw[hg]
  have hnd:∀c,(r.o i).op≠.defer c:=fun c hc=>by rw[hc]at hv;simp[qcA]at hv
  rw[qeA hev]at hv
  obtain⟨⟨x,hrun,hx⟩,_,_⟩:=qgw (o:=r.o i) hv hh2 (fun x=>qbp hmask x) w
  refine⟨fun f _=>hF.fn f,?_⟩
  rw[Oper.semAt_eq _ _ _ hnd,hrun]
  exact hK s φ _ _ (qkc hI hS hi hni hanc (by rw[hk];decide) (by rw[hk];decide) (hx.mono (qbo (Map.le_refl _) (r.nx_step hi))))
 ·obtain⟨hg,hp,hal,hd,hm,_⟩:=f.alone hk
  rw[hg]
  rw[qbG hev]at hm
  obtain⟨hsi,hc⟩:=qlP hI hi hni hanc hp
  have hrel:HRel φ (r.hg i) w:=qjR hI (Nat.le_of_lt hi) hsi hc (fun j hj hq _=>qhR hI hi hni hanc hk j hj (qcc hj hq) (fun e=>by rw[e,hk]at hq;cases hq)) (r.same hi) hd
  have hop:qau L P (r.o i).op (eval (qb1 (r.o i) (qaE ops (r.o i)) (r.d i).st.ts)) (r.hg i)=some (r.v i,r.h2 i):=by
   unfold qau;rw[hp];exact hm
  obtain⟨_,ho⟩:=qbQ hL (o:=r.o i) (st:={ ts:=qb1 (r.o i) (qaE ops (r.o i)) (r.d i).st.ts,dfs:=[],h:=r.hg i }) hop hh2
  refine ho φ a w F m hF (hmask.mono (qjF _ _)) hrel K Q fun φ' x w' hx hG=>?_
  exact hK _ _ _ _ (qoq hI hS hi hni hanc hk hsi hx hc hd hG)
 ·obtain⟨hg,hp,hal,hd,hm,_⟩:=f.quiet hk
  rw[hg]
  rw[qbG hev]at hm
  obtain⟨hsi,hc⟩:=qlP hI hi hni hanc hp
  have hrel:=qqF hI hi hsi hc hanc hd
  have hop:qau L P (r.o i).op (eval (qb1 (r.o i) (qaE ops (r.o i)) (r.d i).st.ts)) (qaz bf i (r.d i) (r.hg i))=some (r.v i,r.h2 i):=by
   unfold qau;rw[hp];exact hm
  obtain⟨_,ho⟩:=qbQ hL (o:=r.o i) (st:={ ts:=qb1 (r.o i) (qaE ops (r.o i)) (r.d i).st.ts,dfs:=[],h:=qaz bf i (r.d i) (r.hg i) }) hop hh2
  refine ho (cut φ (r.nx i)) a w F m hF hmask hrel K Q fun φ' x w' hx hG=>?_
  exact hK _ _ _ _ (qnp hI hS hi hni hanc hk hsi hx hG)
theorem qeh{l:Array Bool}{i j:Nat}(d:Bool):(l.setIfInBounds i true).getD j d=if i=j∧j<l.size then true else l.getD j d:=by
 simp only[Array.getD_eq_getD_getElem?,Array.getElem?_setIfInBounds]
 by_cases h:i=j
 ·subst h
  by_cases h2:i<l.size
  ·simp[h2]
  ·simp[h2]
 ·simp[h]
theorem qqt(hL:LevOk P L)(hS:Static r)(hH:(r.d n).st.h.Holds){F:Fence}{m:Nat}(hF:Wide F){Q:Exit→Act→World→Prop}
  (hQ:∀s φ a w (Dn:Nat→Prop),Inv r φ0 w0 df s Dn φ a w→(∀j,j<n→Dn j)→Q .normal a w):
  ∀(fuel:Nat)(listed:Array Bool)(rest:List Nat)(s:Nat)(Dn:Nat→Prop)(φ:Map)(a:Act)(w:World),Inv r φ0 w0 df s Dn φ a w→listed.size=n→rest.length≤fuel →
   (∀j,j<n→listed.getD j true=false→j∈rest)→(∀j,j<n→(Dn j↔listed.getD j true=true))→wpAnyIn F m P .any ops Q fuel listed a w:=by
 have hnone:∀(listed:Array Bool),listed.size=n→Region.ready .any ops listed=[]→∀j,j<n→listed.getD j true=true:=by
  intro listed hsz hr j
  induction j using Nat.strongRecOn with
  |_ j ih=>
   intro hj
   cases hl:listed.getD j true with
   |true=>rfl
   |false=>
    exfalso
    have:j∈Region.ready .any ops listed:=mem_ready.2 ⟨hl,r.o j,(r.fact j hj).op,fun e he hb=>by
     have hlt:=hS.edges j hj e he hb
     have h1:=ih e.on hlt (by omega)
     have hsz':e.on<listed.size:=by omega
     simp only[Array.getD_eq_getD_getElem?,Array.getElem?_eq_getElem hsz',Option.getD_some]at h1 ⊢
     exact h1⟩
    rw[hr]at this
    cases this
 intro fuel
 induction fuel with
 |zero=>
  intro listed rest s Dn φ a w hI hsz hlen hrest hD
  have hr0:rest=[]:=List.eq_nil_of_length_eq_zero (by omega)
  have hall:∀j,j<n→listed.getD j true=true:=fun j hj=>by
   cases hl:listed.getD j true with
   |true=>rfl
   |false=>have:=hrest j hj hl;rw[hr0]at this;cases this
  refine⟨?_,hQ s φ a w Dn hI fun j hj=>(hD j hj).2 (hall j hj)⟩
  refine List.eq_nil_iff_forall_not_mem.2 fun j hj=>?_
  obtain⟨h1,o,ho,_⟩:=mem_ready.1 hj
  have hjn:j<n:=by rw[hS.all];exact(Array.getElem?_eq_some_iff.1 ho).1
  rw[hall j hjn]at h1;cases h1
 |succ fuel ih=>
  intro listed rest s Dn φ a w hI hsz hlen hrest hD
  refine⟨fun hr=>hQ s φ a w Dn hI fun j hj=>(hD j hj).2 (hnone listed hsz hr j hj),fun i hir=>?_⟩
  obtain⟨h1,o,ho,hall⟩:=mem_ready.1 hir
  have hi:i<n:=by rw[hS.all];exact(Array.getElem?_eq_some_iff.1 ho).1
  have hoi:o=r.o i:=by have:=(r.fact i hi).op;rw[ho]at this;cases this;rfl
  subst hoi
  have hni:¬Dn i:=fun h=>by have:=(hD i hi).1 h;rw[h1]at this;cases this
  have hanc:∀j,(bf.getD i 0).testBit j=true→Dn j:=by
   intro j hj
   obtain⟨e,he,hb,hcase⟩:=hS.bits i hi j hj
   have hlt:=hS.edges i hi e he hb
   have hl:=hall e he hb
   have hen:e.on<n:=by omega
   have hDe:Dn e.on:=(hD e.on hen).2 (by
    have hsz':e.on<listed.size:=by omega
    simp only[Array.getD_eq_getD_getElem?,Array.getElem?_eq_getElem hsz',Option.getD_some]at hl ⊢
    exact hl)
   rcases hcase with rfl|⟨_,h2⟩
   ·exact hDe
   ·exact hI.closed e.on hDe j h2
  refine qoW hL hI hS hH hi hni hanc hF fun s' φ' a' w' hI'=>?_
  refine ih (listed.setIfInBounds i true) (rest.erase i) s' _ φ' a' w' hI' (by simp[hsz]) ?_ ?_ ?_
  ·have:=List.length_erase_of_mem (hrest i hi h1)
   omega
  ·intro j hj hl
   rw[qeh]at hl
   split at hl
   ·cases hl
   ·rename_i hc
    have hji:j≠i:=fun e=>hc ⟨e.symm,by omega⟩
    exact(List.mem_erase_of_ne hji).2 (hrest j hj hl)
  ·intro j hj
   rw[qeh]
   split
   ·rename_i hc
    exact⟨fun _=>rfl,fun _=>.inr hc.1.symm⟩
   ·rename_i hc
    have hji:j≠i:=fun e=>hc ⟨e.symm,by omega⟩
    rw[←hD j hj]
    exact⟨fun h=>h.resolve_right hji,.inl⟩
end
end Go.Vm

namespace Go.Vm
open Go
section
variable {P:Program} {L:Lev} {ops:Array Oper}
theorem qoH{i j:Nat}(h:Nat.blt i j=true):i<j:=Nat.le_of_ble_eq_true (show Nat.ble (i+1) j=true from h)
theorem qm3(h:qcs ops (Region.before ops)=true)(r:Run P L ops (Region.before ops) ops.size):Static r:=by
 unfold qcs at h
 rw[List.all_eq_true]at h
 have hop:∀i,i<ops.size→(∀e∈(r.o i).after,Region.binds .any e=true→e.on<i)∧(∀j w,(r.o i).guard=some (j,w)→((Region.before ops).getD i 0).testBit j=true) ∧
   (∀d,(r.o i).dst=some d→∀j,j<ops.size→((r.o j).dst=some d→i=j)∧(d∈qa4 (r.o j)→i=j∨inOrder (Region.before ops) i j=true)):=by
  intro i hi
  have h1:=h i (List.mem_range.2 hi)
  rw[(r.fact i hi).op]at h1
  simp only[Bool.and_eq_true]at h1
  obtain⟨⟨h1,h2⟩,h3⟩:=h1
  refine⟨fun e he hb=>?_,fun j w hg=>?_,fun d hd j hj=>?_⟩
  ·rw[Array.all_eq_true_iff_forall_mem]at h1
   have:=h1 e he
   rw[hb]at this
   exact qoH (by simpa using this)
  ·rw[hg]at h2;exact h2
  ·rw[hd]at h3
   simp only[List.all_eq_true]at h3
   have:=h3 j (List.mem_range.2 hj)
   rw[(r.fact j hj).op]at this
   simp only[Bool.and_eq_true,Bool.or_eq_true,Bool.not_eq_true']at this
   obtain⟨a1,a2⟩:=this
   refine⟨fun e=>?_,fun e=>?_⟩
   ·rcases a1 with a1|a1
    ·exact Nat.eq_of_beq_eq_true a1
    ·rw[e]at a1;simp at a1
   ·rcases a2 with(a2|a2)|a2
    ·have:(qa4 (r.o j)).contains d=true:=by simpa using e
     rw[a2]at this;cases this
    ·exact .inl (Nat.eq_of_beq_eq_true a2)
    ·exact .inr a2
 exact{
  edges:=fun i hi=>(hop i hi).1
  bits:=fun i hi j hj=>qdw (r.fact i hi).op hj
  guards:=fun i hi=>(hop i hi).2.1
  once:=fun i j hi hj t h1 h2=>((hop i hi).2.2 t h1 j hj).1 h2
  names:=fun i j hi hj t h1 h2=>((hop i hi).2.2 t h1 j hj).2 h2
  all:=rfl }
theorem qi7{φ:Map}:∀{a:List V}{b:List Value},VRels φ a b→a.length=b.length
 |[],[],_=>rfl
 |_::_,_::_,.cons _ t=>by simp[qi7 t]
theorem qpa{φ:Map}{h:H}{w:World}(hr:HRel φ h w):φ.le (cut φ h.next):=⟨fun b k e=>qh8 (hr.dom b k e).1 e,Frozen.le_refl _,fun b k e=>qdb (hr.tdom b k e) e,rfl⟩
theorem qlS{P:Program}(hm:P.follows .mixedOrders=true):qgA P (drawn P):=by
 intro L hL ops st st' e hh
 unfold drawn at e
 split at e
 ·rename_i hs
  split at e
  ·rename_i d hgo
   split at e
   ·rename_i hd
    cases e
    obtain⟨r,hr0,hrn⟩:=qrE hgo
    have hS:=qm3 hs r
    have hH:(r.d ops.size).st.h.Holds:=by rw[hrn];exact hh
    have h0:(r.d 0).st=st:=by rw[hr0]
    have hx0:r.nx 0=st.h.next:=by unfold Run.nx;rw[h0]
    refine⟨by have:=r.holds hL hH (Nat.zero_le _);rw[h0]at this;exact this,fun φ a w F n id hF hts hmk hr=>?_⟩
    refine wpIn_region_any hm ?_
    have hle:φ.le (cut φ (r.nx 0)):=by rw[hx0];exact qpa hr
    have hI0:Inv r φ { w with drawn:=w.drawn+1 } a.defers 0 (fun _=>False) φ a { w with drawn:=w.drawn+1 }:={
     sn:=Nat.zero_le _
     rng:=by rw[hr0]
     base:=by rw[hx0,hr0]
     before:=fun j h1=>by omega
     alones:=fun j h1=>h1.elim
     closed:=fun i h1=>h1.elim
     bound:=fun i h1=>h1.elim
     tmps:=by rw[h0,qi7 hts];simp
     slotIn:=fun t j _ _ h1=>h1.elim
     slotOut:=fun t _ _=>by rw[h0];exact(qbD hts t).mono hle
     defers:=rfl
     live1:=fun b x _ hx hxt=>by
      rw[h0]at hx ⊢
      obtain⟨k,o,q1,q2,q3⟩:=hr.obj b x hx hxt
      exact⟨k,o,q1,q2,q3.mono hle⟩
     live2:=fun j b x _ h1=>h1.elim
     inj:=fun b b' x x' k k' h1 h2 hro hne hk hk'=>by
      rcases h1 with⟨_,h1⟩|⟨j,_,_,h1,_⟩
      ·rcases h2 with⟨_,h2⟩|⟨j,_,_,h2,_⟩
       ·rw[h0]at h1 h2 hro
        exact hr.inj b b' x x' k k' h1 h2 hro hne hk hk'
       ·exact h2.elim
      ·exact h1.elim
     dom:=fun b k hb=>⟨(hr.dom b k hb).2,.inl (by rw[hx0];exact(hr.dom b k hb).1)⟩
     rle:=by rw[hx0,h0];exact hr.rle
     le:=Map.le_refl _
     fresh:=fun _ _ e=>.inl e
     size:=Nat.le_refl _
     frame:=fun _ _ _ _=>rfl
     os:=rfl,tape:=rfl,output:=rfl
     fz:=hr.fz
     own:=fun b x k h1=>by
      rcases h1 with⟨_,h1⟩|⟨j,_,_,h1,_⟩
      ·rw[h0]at h1;exact hr.own b x k h1
      ·exact h1.elim
     ltip:=fun b h1=>by
      rcases h1 with⟨_,h1⟩|⟨j,_,_,h1,_⟩
      ·rw[h0]at h1;exact hr.tip b h1
      ·exact h1.elim
     tinj:=fun b b' m m' h1 h2=>by
      rcases h1 with⟨_,h1⟩|⟨j,_,_,h1,_⟩
      ·rcases h2 with⟨_,h2⟩|⟨j,_,_,h2,_⟩
       ·rw[h0]at h1 h2
        exact hr.tinj b b' m m' h1 h2
       ·exact h2.elim
      ·exact h1.elim
     tdom:=fun b m hb=>.inl (by rw[hx0];exact hr.tdom b m hb)
     tfresh:=fun _ _ e=>.inl e
     tlive:=fun b m _ h1=>by
      rcases h1 with⟨_,h1⟩|⟨j,_,_,h1,_⟩
      ·rw[h0]at h1 ⊢;exact h1
      ·exact h1.elim
     ffresh:=fun _ _ e _=>.inl e }
    refine qqt hL hS hH hF ?_ ops.size _ (List.range ops.size) 0 _ φ a _ hI0 (by simp) (by simp) (fun j hj _=>List.mem_range.2 hj) (fun j hj=>by
     simp only[Array.getD_eq_getD_getElem?,false_iff]
     simp[hj])
    intro s φ' a' w' Dn hI hall
    have hcalm:r.Calm s ops.size:=fun j h1 h2 hk=>by
     have:=hI.alones j (hall j h2) hk;omega
    have hdn:HRel φ' (r.d ops.size).st.h w':=qjR hI (Nat.le_refl _) hI.sn hcalm (fun j hj _ _=>⟨fun _=>hj,fun _=>hall j hj⟩) (H.Same.refl _) (by rw[hrn];exact hd)
    have hlen:=r.len_eq (Nat.le_refl ops.size)
    have hG:Goes φ st.h { w with drawn:=w.drawn+1 } φ' (r.d ops.size).st.h w':={
     le:=hI.le
     rel:=hdn
     next:=by
      have:r.nx 0≤r.nx ops.size:=r.nx_mono (Nat.zero_le _) (Nat.le_refl _)
      rw[hx0]at this;exact this
     ro:=by rw[r.ro_eq (Nat.le_refl _),h0]
     fresh:=fun b k hb=>by
      have:=hI.fresh b k hb
      rw[hx0,h0]at this;exact this
     size:=hI.size
     frame:=fun k hk hf ht=>hI.frame k hk (by rw[h0];exact hf) (by rw[h0];exact ht)
     tfresh:=fun b m hb=>by
      have:=hI.tfresh b m hb
      rw[hx0,h0]at this;exact this
     tlive:=fun b m h1 h2=>by
      have:=hI.tlive b m h1 (qeD hcalm hI.sn (Nat.le_refl _) (fun j hj _ _=>⟨fun _=>hj,fun _=>hall j hj⟩) (H.Same.refl _) (by rw[hrn];exact hd) h2)
      rw[h0]at this;exact this
     ffresh:=fun k c e hk=>by
      have:=hI.ffresh k c e hk
      rw[h0]at this;exact this
     os:=hI.os,tape:=hI.tape,output:=hI.output }
    have hG':=(Goes.of_same (w':={ w with drawn:=w.drawn+1 }) hr (H.Same.refl _) rfl rfl rfl rfl).trans hG
    refine⟨rfl,φ',?_,?_,?_⟩
    ·rw[←hrn]
     refine VRels.of_get (by rw[hlen,←hI.tmps];simp) fun t v x hv hx=>?_
     have ht:t<(r.d 0).st.ts.length:=by
      rw[←hlen];exact(List.getElem?_eq_some_iff.1 hv).1
     have hxg:a'.tmps.getD t undef=x:=by
      have:a'.tmps[t]?=some x:=by simpa using hx
      rw[Array.getD_eq_getD_getElem?,this];rfl
     rw[←qpk hv,←hxg]
     by_cases hw:∃j,j<ops.size∧(r.o j).dst=some t
     ·obtain⟨j,hj,hjd⟩:=hw
      rw[r.slot_after hS.once hjd hj (Nat.le_refl _) ht]
      exact(hI.slotIn t j ht hjd (hall j hj)).mono (qjF _ _)
     ·rw[r.slot_before (Nat.le_refl _) (fun q hq e=>hw ⟨q,hq,e⟩)]
      exact(hI.slotOut t ht fun q hq e=>hw ⟨q,hI.bound q hq,e⟩).mono (qjF _ _)
    ·have h1:d.st.dfs=st.dfs:=by rw[←hrn,r.dfs_eq (Nat.le_refl _),h0]
     rw[h1,hI.defers]
     exact hmk.goes hr hG'
    ·rw[←hrn]
     exact hG'
   ·cases e
  ·cases e
 ·cases e
end
end Go.Vm

namespace Go.Vm
open Go
def qlp(o:Oper):Option (TypeId×Operand×Tmp):=
 match o.op,o.dst,o.guard with
 |.load t p,some d,none=>some (t,p,d)
 |_,_,_=>none
def qig(o:Oper):Option (TypeId×Operand×Operand):=
 match o.op,o.dst,o.guard with
 |.store t p x,none,none=>some (t,p,x)
 |_,_,_=>none
theorem qjn{o:Oper}{t:TypeId}{p:Operand}{d:Tmp}(e:qlp o=some (t,p,d)):o.op=.load t p∧o.dst=some d∧o.guard=none:=by
 unfold qlp at e
 split at e
 ·rename_i h1 h2 h3;cases e;exact⟨h1,h2,h3⟩
 ·cases e
theorem qhW{o:Oper}{t:TypeId}{p x:Operand}(e:qig o=some (t,p,x)):o.op=.store t p x∧o.dst=none∧o.guard=none:=by
 unfold qig at e
 split at e
 ·rename_i h1 h2 h3;cases e;exact⟨h1,h2,h3⟩
 ·cases e
def notT(x:Operand)(d:Tmp):Bool:=
 match x with
 |.tmp t=>!(Nat.beq t d)
 |_=>true
structure Sw where
 t0:TypeId
 p0:Operand
 d0:Tmp
 t1:TypeId
 p1:Operand
 d1:Tmp
 t2:TypeId
 p2:Operand
 x2:Operand
 t3:TypeId
 p3:Operand
 x3:Operand
def qdn(ops:Array Oper)(l:Array Bool)(r:List Nat):Bool:=
 match decEq (Region.ready .any ops l) r with
 |.isTrue _=>true
 |.isFalse _=>false
theorem qbL{ops:Array Oper}{l:Array Bool}{r:List Nat}(h:qdn ops l r=true):Region.ready .any ops l=r:=by
 unfold qdn at h
 split at h
 ·assumption
 ·cases h
def qoa(ops:Array Oper):Bool:=
 qdn ops #[false,false,false,false] [0,1]&&qdn ops #[true,false,false,false] [1,2]&&qdn ops #[false,true,false,false] [0] &&
 qdn ops #[true,true,false,false] [2]&&qdn ops #[true,false,true,false] [1]&&qdn ops #[true,true,true,false] [3]&&qdn ops #[true,true,true,true] []
def qnM(d0 d1:Tmp)(p0 p1 p2 x2:Operand):Bool:=!(Nat.beq d0 d1)&&notT p0 d1&&notT p1 d0&&notT p2 d1&&notT x2 d1
def qjf(ops:Array Oper):Option Sw:=
 match Nat.beq ops.size 4 with
 |false=>none
 |true=>match ops[0]?,ops[1]?,ops[2]?,ops[3]? with
  |some o0,some o1,some o2,some o3=>match qlp o0,qlp o1,qig o2,qig o3 with
   |some (t0,p0,d0),some (t1,p1,d1),some (t2,p2,x2),some (t3,p3,x3)=>match qnM d0 d1 p0 p1 p2 x2&&qoa ops with
    |true=>some ⟨t0,p0,d0,t1,p1,d1,t2,p2,x2,t3,p3,x3⟩
    |false=>none
   |_,_,_,_=>none
  |_,_,_,_=>none
def qhv(P:Program)(t:TypeId)(x:V)(h:H):Option V:=
 match x with
 |.ptr (some a)=>match h.get a.b with
  |some (.box e (.list l))=>match Nat.beq e a.e with
   |true=>match l[a.i]? with
    |some row=>match qdz h row with
     |none=>match qdz h (row.drop 1)with
      |none=>qbT P t a.o row
      |some _=>none
     |some _=>none
    |none=>none
   |false=>none
  |_=>none
 |_=>none
theorem qn0{P:Program}{t:TypeId}{x:V}{h:H}{v:V}(e:qhv P t x h=some v):qax P t x h=some (v,h):=by
 unfold qhv at e
 split at e
 ·split at e
  ·rename_i a _ el l hg
   split at e
   ·rename_i he
    split at e
    ·rename_i row hrow
     split at e
     ·rename_i hu
      split at e
      ·rename_i hu2
       simp only[qax,hg,he,hrow]
       exact qfI hu hu2 e
      ·cases e
     ·cases e
    ·cases e
   ·cases e
  ·cases e
 ·cases e
theorem qle{h h':H}(e:h'.ask.isSome=h.ask.isSome)(row:List V):qdz h' row=qdz h row:=by
 unfold qdz qg1
 cases h1:h.ask<;>cases h2:h'.ask<;>simp_all
theorem H.test_ask{h h':H}{b d:Bool}(e:h.test b=some (d,h')):h'.ask.isSome=h.ask.isSome:=by
 unfold H.test at e
 split at e
 ·cases e;rfl
 ·cases e
 ·rename_i ha;cases e;simp[ha]
theorem qlv{h h':H}{a:VA}{cs:List V}(e:vput h a cs=some h'):h'.ask.isSome=h.ask.isSome:=by
 unfold vput at e
 split at e
 ·split at e
  ·split at e
   ·cases e;rw[H.set_eq]
   ·cases e
  ·cases e
 ·cases e
theorem qmU{P:Program}{t:TypeId}{p x:V}{h h':H}(e:qbb P t p x h=some h'):h'.ask.isSome=h.ask.isSome:=by
 unfold qbb at e
 split at e
 ·split at e
  ·unfold qdE at e
   split at e
   ·split at e
    ·rename_i ht
     split at e
     ·cases e;rw[H.set_eq];have q:=H.test_ask ht;exact q
     ·cases e
    ·cases e
   ·split at e
    ·rename_i ht
     split at e
     ·split at e
      ·cases e;rw[H.set_eq];have q:=H.test_ask ht;exact q
      ·cases e
     ·cases e
    ·cases e
   ·split at e
    ·cases e
    ·split at e
     ·exact qlv e
     ·split at e
      ·rename_i ht
       split at e
       ·cases e;rw[H.set_eq];have q:=H.test_ask ht;exact q
       ·cases e
      ·cases e
   ·exact qlv e
  ·cases e
 ·cases e
theorem qoe{P:Program}{t:TypeId}{a:VA}{h h':H}(e:h'.get a.b=h.get a.b)(ha:h'.ask.isSome=h.ask.isSome):qhv P t (.ptr (some a)) h'=qhv P t (.ptr (some a)) h:=by
 simp only[qhv,e,qle ha]
theorem H.get_set_ne{h:H}{b c:Nat}{x:Ob}(hn:b≠c):(h.set b x).get c=h.get c:=by
 simp only[H.get,H.set_eq,qbY,if_neg hn]
theorem qnr{h h':H}{a:VA}{cs:List V}(e:qdE h a cs=some h'){c:Nat}(hn:a.b≠c):h'.get c=h.get c:=by
 have ht:∀{h h2:H}{b d:Bool}{c:Nat},h.test b=some (d,h2)→h2.get c=h.get c:=fun e=>by
  unfold H.get;rw[(H.test_eqs e).2.2]
 have hput:vput h a cs=some h'→h'.get c=h.get c:=fun e=>by
  unfold vput at e
  split at e
  ·split at e
   ·split at e
    ·cases e;rw[H.get_set_ne hn]
    ·cases e
   ·cases e
  ·cases e
 unfold qdE at e
 split at e
 ·split at e
  ·rename_i h2 htt
   split at e
   ·cases e;rw[H.get_set_ne hn,ht htt]
   ·cases e
  ·cases e
 ·split at e
  ·rename_i h2 htt
   split at e
   ·split at e
    ·cases e;rw[H.get_set_ne hn,ht htt]
    ·cases e
   ·cases e
  ·cases e
 ·split at e
  ·cases e
  ·split at e
   ·exact hput e
   ·split at e
    ·rename_i h2 htt
     split at e
     ·cases e;rw[H.get_set_ne hn,ht htt]
     ·cases e
    ·cases e
 ·exact hput e
theorem qmm{P:Program}{t:TypeId}{a:VA}{x:V}{h h':H}(e:qbb P t (.ptr (some a)) x h=some h'){c:Nat}(hn:a.b≠c):h'.get c=h.get c:=by
 unfold qbb at e
 split at e
 ·rename_i hp _ _
  cases hp
  split at e
  ·exact qnr e hn
  ·cases e
 ·cases e
def apart(x y:V):Bool:=
 match x,y with
 |.ptr (some a),.ptr (some b)=>!(Nat.beq b.b a.b)
 |_,_=>false
def qmi(P:Program)(s:Sw)(st:S):Option S:=
 match st with
 |{ ts,dfs,h }=>match qhv P s.t0 (eval ts s.p0) h,qhv P s.t1 (eval ts s.p1) h with
  |some v0,some v1=>match apart (eval ts s.p1) (eval (putT (putT ts (some s.d0) v0) (some s.d1) v1) s.p2)with
   |true=>match qbb P s.t2 (eval (putT (putT ts (some s.d0) v0) (some s.d1) v1) s.p2) (eval (putT (putT ts (some s.d0) v0) (some s.d1) v1) s.x2) h with
    |some h2=>match qbb P s.t3 (eval (putT (putT ts (some s.d0) v0) (some s.d1) v1) s.p3) (eval (putT (putT ts (some s.d0) v0) (some s.d1) v1) s.x3) h2 with
     |some h3=>some { ts:=putT (putT ts (some s.d0) v0) (some s.d1) v1,dfs:=dfs,h:=h3 }
     |none=>none
    |none=>none
   |false=>none
  |_,_=>none
def qkg(P:Program):Draw:=fun L ops st=>
 match qjf ops with
 |some s=>match qmi P s st with
  |some st=>some st
  |none=>drawn P L ops st
 |none=>drawn P L ops st
section
variable {P:Program} {L:Lev} {ops:Array Oper}
theorem qjC(hL:LevOk P L){i:Nat}{o:Oper}(ho:ops[i]?=some o)(hg:o.guard=none){st:S}{v:V}{h':H}(e:qau L P o.op (eval st.ts) st.h=some (v,h'))(hh:h'.Holds)
  {φ:Map} {a:Act} {w:World} {F:Fence} {m:Nat} (hF:Wide F) (hts:VRels φ st.ts a.tmps.toList) (hr:HRel φ st.h w)
  {K:Act→World→Prop} {Q:Exit→Act→World→Prop} (hK:∀φ' r w',VRel φ' v r→Goes φ st.h w φ' h' w'→K (a.put o.dst r) w'):wpOpIn F m P ops Q i K a w:=by
 unfold wpOpIn
 rw[ho]
 dsimp only
 have hw:Region.wanted o (yielded ops a.tmps)=true:=by simp[Region.wanted,hg]
 rw[hw]
 exact(qbQ hL (o:=o) (st:=st) e hh).2 φ a w F m hF hts hr K Q hK
structure At(φ:Map)(h:H)(w:World)(st':S)(df:List Deferred)(a:Act)(φ':Map)(w':World):Prop where
 ts:VRels φ' st'.ts a.tmps.toList
 df:a.defers=df
 go:Goes φ h w φ' st'.h w'
theorem At.step(hL:LevOk P L){i:Nat}{o:Oper}(ho:ops[i]?=some o)(hg:o.guard=none){φ φ1:Map}{h:H}{w w1:World}{st:S}{df:List Deferred}{a:Act}(hA:At φ h w st df a φ1 w1)
  {v:V} {h':H} (e:qau L P o.op (eval st.ts) st.h=some (v,h')) (hh:h'.Holds) {F:Fence} {m:Nat} (hF:Wide F) {K:Act→World→Prop} {Q:Exit→Act→World→Prop}
  (hK:∀a' φ' w',At φ h w { st with ts:=putT st.ts o.dst v,h:=h' } df a' φ' w'→K a' w'):wpOpIn F m P ops Q i K a w1:=
 qjC hL ho hg e hh hF hA.ts hA.go.rel fun φ' r w' hv hgo=>hK _ φ' w' ⟨qch (hA.ts.mono hgo.le) hv o.dst,by rw[←hA.df];cases o.dst<;>rfl,hA.go.trans hgo⟩
theorem qlY{F:Fence}{n:Nat}{Q:Exit→Act→World→Prop}{fuel:Nat}{listed:Array Bool}{a:Act}{w:World}{r:List Nat}(hr:Region.ready .any ops listed=r)(hne:r≠[])
  (h:∀i∈r,wpOpIn F n P ops Q i (wpAnyIn F n P .any ops Q fuel (listed.setIfInBounds i true)) a w):wpAnyIn F n P .any ops Q (fuel+1) listed a w:=
 ⟨fun e=>absurd (hr.symm.trans e) hne,fun i hi=>h i (by rw[←hr];exact hi)⟩
theorem qiO{F:Fence}{n:Nat}{Q:Exit→Act→World→Prop}{fuel:Nat}{listed:Array Bool}{a:Act}{w:World}{i:Nat}(hr:Region.ready .any ops listed=[i])
  (h:wpOpIn F n P ops Q i (wpAnyIn F n P .any ops Q fuel (listed.setIfInBounds i true)) a w):wpAnyIn F n P .any ops Q (fuel+1) listed a w:=
 qlY hr (by simp) fun j hj=>by rw[List.mem_singleton]at hj;subst hj;exact h
theorem qnl{F:Fence}{n:Nat}{Q:Exit→Act→World→Prop}{fuel:Nat}{listed:Array Bool}{a:Act}{w:World}{i j:Nat}(hr:Region.ready .any ops listed=[i,j])
  (h:wpOpIn F n P ops Q i (wpAnyIn F n P .any ops Q fuel (listed.setIfInBounds i true)) a w) (h':wpOpIn F n P ops Q j (wpAnyIn F n P .any ops Q fuel (listed.setIfInBounds j true)) a w):
  wpAnyIn F n P .any ops Q (fuel+1) listed a w:=
 qlY hr (by simp) fun k hk=>by
  rcases List.mem_cons.1 hk with rfl|hk
  ·exact h
  ·rw[List.mem_singleton]at hk;subst hk;exact h'
theorem eval_put{ts:List V}{x:Operand}{d:Tmp}{v:V}(h:notT x d=true):eval (putT ts (some d) v) x=eval ts x:=by
 cases x with
 |tmp t=>
  show getT (putT ts (some d) v) t=getT ts t
  refine Run.getT_put_ne fun e=>?_
  cases e
  simp[notT]at h
 |_=>rfl
theorem qqo{ts:List V}{d0 d1:Tmp}{v0 v1:V}(h:Nat.beq d0 d1=false):putT (putT ts (some d1) v1) (some d0) v0=putT (putT ts (some d0) v0) (some d1) v1:=by
 rw[qa0,qa0,qa0,qa0]
 exact List.set_comm _ _ fun e=>by subst e;simp at h
theorem qnU{P:Program}(hm:P.follows .mixedOrders=true):qgA P (qkg P):=by
 intro L hL ops st st' e hh
 unfold qkg at e
 split at e
 ·rename_i s hs
  split at e
  ·rename_i st1 hsw
   cases e
   unfold qjf at hs
   split at hs
   ·cases hs
   rename_i hsize
   have hsize:ops.size=4:=Nat.eq_of_beq_eq_true hsize
   split at hs
   rotate_left
   ·cases hs
   rename_i o0 o1 o2 o3 ho0 ho1 ho2 ho3
   split at hs
   rotate_left
   ·cases hs
   rename_i t0 p0 d0 t1 p1 d1 t2 p2 x2 t3 p3 x3 hl0 hl1 hs2 hs3
   split at hs
   rotate_left
   ·cases hs
   rename_i hst
   cases hs
   obtain⟨e0,f0,g0⟩:=qjn hl0
   obtain⟨e1,f1,g1⟩:=qjn hl1
   obtain⟨e2,f2,g2⟩:=qhW hs2
   obtain⟨e3,f3,g3⟩:=qhW hs3
   simp only[Bool.and_eq_true,qnM,Bool.not_eq_true']at hst
   obtain⟨⟨⟨⟨⟨n1,n2⟩,n3⟩,n4⟩,n5⟩,hord⟩:=hst
   simp only[qoa,Bool.and_eq_true]at hord
   obtain⟨⟨⟨⟨⟨⟨r0,r1⟩,r2⟩,r3⟩,r4⟩,r5⟩,r6⟩:=hord
   obtain⟨ts,dfs,h⟩:=st
   simp only[qmi]at hsw
   split at hsw
   rotate_left
   ·cases hsw
   rename_i v0 v1 hv0 hv1
   split at hsw
   rotate_left
   ·cases hsw
   rename_i hap
   split at hsw
   rotate_left
   ·cases hsw
   rename_i h2 hw2
   split at hsw
   rotate_left
   ·cases hsw
   rename_i h3 hw3
   cases hsw
   have hP1:∃b1,eval ts p1=.ptr (some b1):=by
    unfold apart at hap;split at hap
    ·rename_i a b hx hy;exact⟨a,hx⟩
    ·cases hap
   obtain⟨b1,hb1⟩:=hP1
   have hP2:∃b2,eval (putT (putT ts (some d0) v0) (some d1) v1) p2=.ptr (some b2)∧b2.b≠b1.b:=by
    rw[hb1]at hap
    unfold apart at hap;split at hap
    ·rename_i a b hx hy
     cases hx
     refine⟨b,hy,fun e=>?_⟩
     rw[e]at hap;simp at hap
    ·cases hap
   obtain⟨b2,hb2,hne⟩:=hP2
   have hv1':qhv P t1 (eval ts p1) h2=some v1:=by
    rw[hb1]at hv1 ⊢
    rw[hb2]at hw2
    rw[qoe (qmm hw2 hne) (qmU hw2)];exact hv1
   have F0:∀{ts':List V}{h':H},eval ts' p0=eval ts p0→qhv P t0 (eval ts p0) h'=some v0→qau L P o0.op (eval ts') h'=some (v0,h'):=fun q q2=>by
    rw[e0];show qax P t0 (eval _ p0) _=_;rw[q];exact qn0 q2
   have F1:∀{ts':List V}{h':H},eval ts' p1=eval ts p1→qhv P t1 (eval ts p1) h'=some v1→qau L P o1.op (eval ts') h'=some (v1,h'):=fun q q2=>by
    rw[e1];show qax P t1 (eval _ p1) _=_;rw[q];exact qn0 q2
   have F2:∀{ts':List V},eval ts' p2=eval (putT (putT ts (some d0) v0) (some d1) v1) p2→eval ts' x2=eval (putT (putT ts (some d0) v0) (some d1) v1) x2→qau L P o2.op (eval ts') h=some (.bot,h2):=fun q q2=>by
    rw[e2]
    show(match qbb P t2 (eval _ p2) (eval _ x2) h with
     |some h=>some (V.bot,h)
     |none=>none)=_
    rw[q,q2,hw2]
   have F3:qau L P o3.op (eval (putT (putT ts (some d0) v0) (some d1) v1)) h2=some (.bot,h3):=by
    rw[e3]
    show(match qbb P t3 (eval _ p3) (eval _ x3) h2 with
     |some h=>some (V.bot,h)
     |none=>none)=_
    rw[hw3]
   have H2:h2.Holds:=(qbQ hL (o:=o3) (st:={ ts:=putT (putT ts (some d0) v0) (some d1) v1,dfs:=dfs,h:=h2 }) F3 hh).1
   have H0:h.Holds:=(qbQ hL (o:=o2) (st:={ ts:=putT (putT ts (some d0) v0) (some d1) v1,dfs:=dfs,h:=h }) (F2 rfl rfl) H2).1
   refine⟨H0,fun φ a w F n id hF hts hmk hr=>?_⟩
   refine wpIn_region_any hm ?_
   rw[hsize]
   have hA0:At φ h w { ts:=ts,dfs:=dfs,h:=h } a.defers a φ { w with drawn:=w.drawn+1 }:=⟨hts,rfl,Goes.of_same hr (H.Same.refl _) rfl rfl rfl rfl⟩
   have fin:∀a' φ' w',At φ h w { ts:=putT (putT ts (some d0) v0) (some d1) v1,dfs:=dfs,h:=h3 } a.defers a' φ' w' →
     wpAnyIn F n P .any ops (Post φ h w .normal { ts:=putT (putT ts (some d0) v0) (some d1) v1,dfs:=dfs,h:=h3 }) 0 #[true,true,true,true] a' w':=fun a' φ' w' hA=>
    ⟨qbL r6,rfl,φ',hA.ts,by rw[hA.df];exact hmk.goes hr hA.go,hA.go⟩
   have last:∀a' φ' w',At φ h w { ts:=putT (putT ts (some d0) v0) (some d1) v1,dfs:=dfs,h:=h2 } a.defers a' φ' w' →
     wpAnyIn F n P .any ops (Post φ h w .normal { ts:=putT (putT ts (some d0) v0) (some d1) v1,dfs:=dfs,h:=h3 }) 1 #[true,true,true,false] a' w':=fun a' φ' w' hA=>
    qiO (qbL r5) (At.step hL ho3 g3 hA F3 hh hF fun a2 φ2 w2 hA2=>by
     rw[f3]at hA2
     exact fin a2 φ2 w2 hA2)
   have mid:∀a' φ' w',At φ h w { ts:=putT (putT ts (some d0) v0) (some d1) v1,dfs:=dfs,h:=h } a.defers a' φ' w' →
     wpAnyIn F n P .any ops (Post φ h w .normal { ts:=putT (putT ts (some d0) v0) (some d1) v1,dfs:=dfs,h:=h3 }) 2 #[true,true,false,false] a' w':=fun a' φ' w' hA=>
    qiO (qbL r3) (At.step hL ho2 g2 hA (F2 rfl rfl) H2 hF fun a2 φ2 w2 hA2=>by
     rw[f2]at hA2
     exact last a2 φ2 w2 hA2)
   refine qnl (listed:=#[false,false,false,false]) (qbL r0) ?_ ?_
   ·refine At.step hL ho0 g0 hA0 (F0 rfl hv0) H0 hF fun a1 φ1 w1 hA1=>?_
    rw[f0]at hA1
    refine qnl (listed:=#[true,false,false,false]) (qbL r1) ?_ ?_
    ·refine At.step hL ho1 g1 hA1 (F1 (eval_put n3) hv1) H0 hF fun a2 φ2 w2 hA2=>?_
     rw[f1]at hA2
     exact mid a2 φ2 w2 hA2
    ·refine At.step hL ho2 g2 hA1 (F2 (eval_put n4).symm (eval_put n5).symm) H2 hF fun a2 φ2 w2 hA2=>?_
     rw[f2]at hA2
     refine qiO (listed:=#[true,false,true,false]) (qbL r4) ?_
     refine At.step hL ho1 g1 hA2 (F1 (eval_put n3) hv1') H2 hF fun a3 φ3 w3 hA3=>?_
     rw[f1]at hA3
     exact last a3 φ3 w3 hA3
   ·refine At.step hL ho1 g1 hA0 (F1 rfl hv1) H0 hF fun a1 φ1 w1 hA1=>?_
    rw[f1]at hA1
    refine qiO (listed:=#[false,true,false,false]) (qbL r2) ?_
    refine At.step hL ho0 g0 hA1 (F0 (eval_put n2) hv0) H0 hF fun a2 φ2 w2 hA2=>?_
    rw[f0]at hA2
    dsimp only at hA2
    rw[qqo n1]at hA2
    exact mid a2 φ2 w2 hA2
  ·exact qlS hm L hL ops st st' e hh
 ·exact qlS hm L hL ops st st' e hh
end
end Go.Vm

namespace Go.Vm
open Go
def qcB(P:Program)(op:Op)(ρ:Operand→V):Option (List V):=
 match op with
 |.alloc t=>match zeroOf P t with
  |some z=>cellsOf z
  |none=>none
 |.box _ x=>cellsOf (ρ x)
 |_=>none
def insO(b:Nat)(x:Ob):List (Nat×Ob)→List (Nat×Ob)
 |[]=>[(b,x)]
 |(c,y)::r=>if c=b then(b,x)::r else if c<b then(b,x)::(c,y)::r else(c,y)::insO b x r
theorem qjg(b:Nat)(x:Ob)(c:Nat):∀l:List (Nat×Ob),look (insO b x l) c=if b=c then some x else look l c
 |[]=>by
  simp only[insO,qal,look_nil]
  split
  ·rfl
  ·split<;>rfl
 |(d,y)::r=>by
  have ih:=qjg b x c r
  simp only[insO]
  split
  ·rename_i h;subst h
   simp only[qal]
   split<;>rfl
  ·split
   ·simp only[qal]
    split
    ·rfl
    ·repeat' split
     all_goals first|rfl|omega
   ·rw[qal,qal,ih]
    repeat' split
    all_goals first|rfl|omega
def H.insN(h:H)(b:Nat)(x:Ob):H:={ h with objs:=insO b x h.objs }
theorem H.get_insN{h:H}{b c:Nat}{x:Ob}:(h.insN b x).get c=if b=c then live (some x)else h.get c:=by
 simp only[H.get,H.insN,qjg]
 split<;>rfl
def qqe(P:Program)(o:Oper)(ρ:Operand→V)(h:H):Option (V×H×Option (Bool×Nat)):=
 match qat o.op with
 |false=>match qcA P o.op ρ h with
  |some (v,h)=>some (v,h,none)
  |none=>none
 |true=>match o.op with
  |.load t p=>match ρ p with
   |.fp row=>match qax P t (.fp row) h with
    |some (v,h)=>some (v,h,none)
    |none=>none
   |.ptr (some a)=>match qax P t (.ptr (some a)) h with
    |some (v,h)=>some (v,h,some (false,a.b))
    |none=>none
   |_=>none
  |.store t p x=>match ρ p with
   |.ptr (some a)=>match qbb P t (.ptr (some a)) (ρ x) h with
    |some h=>some (.bot,h,some (true,a.b))
    |none=>none
   |_=>none
  |op=>match qcB P op ρ with
   |some cs=>some (.ptr (some ⟨h.next,cs.length,0,0⟩),h.push (.box cs.length (.list [cs])),some (true,h.next))
   |none=>none
def qns(P:Program)(ops:Array Oper):List Nat→S→List (Nat×Bool×Nat)→Option (S×List (Nat×Bool×Nat))
 |[],st,m=>some (st,m)
 |i::rest,st,m=>match st with
  |{ ts,dfs,h }=>match ops[i]? with
   |none=>none
   |some o=>match qqe P o (eval ts) h with
    |none=>none
    |some (v,h,k)=>qns P ops rest { ts:=putT ts o.dst v,dfs:=dfs,h:=h } (match k with
     |none=>m
     |some (w,b)=>(i,w,b)::m)
def qk3(bf:Array Nat)(m:List (Nat×Bool×Nat)):Bool:=
 m.all fun x=>m.all fun y=>!(Nat.beq x.2.2 y.2.2)||!(x.2.1||y.2.1)||inOrder bf x.1 y.1
def qq7(o:Oper):Bool:=
 match o.guard with
 |some _=>false
 |none=>match o.op with
  |.load _ _=>true
  |.store _ _ _=>match o.dst with
   |none=>true
   |some _=>false
  |.alloc _=>true
  |.box _ _=>true
  |op=>!qat op
def qgM(ops:Array Oper):Bool:=
 (match qjf ops with
  |some _=>false
  |none=>true) &&
 (ops.toList.all qq7&&((List.range ops.size).any fun i=>(match ops[i]? with
  |some o=>match o.op with
   |.store _ _ _=>true
   |_=>false
  |none=>false)&&!alone ops (Region.before ops) i))
def mixD(P:Program)(ops:Array Oper)(st:S):Option S:=
 match qcs ops (Region.before ops)with
 |true=>match qns P ops (List.range ops.size) st []with
  |some (st,m)=>match qk3 (Region.before ops) m with
   |true=>some st
   |false=>none
  |none=>none
 |false=>none
def qfL(P:Program):Draw:=fun L ops st=>
 match qgM ops with
 |true=>mixD P ops st
 |false=>qkg P L ops st
theorem H.get_of_objs{h h':H}(e:h'.objs=h.objs)(b:Nat):h'.get b=h.get b:=by unfold H.get;rw[e]
theorem H.test_none{h:H}(e:h.ask=none)(b:Bool):h.test b=some (b,h):=by unfold H.test;rw[e]
theorem get_set_same{h h2:H}{b:Nat}{x:Ob}(e:h2.get b=h.get b){y:Ob}(hy:h.get b=some y):(h2.set b x).get b=(h.set b x).get b:=by
 have hl:∀{h:H},h.get b=some y→∃z,look h.objs b=some z:=fun{h} e=>by
  unfold H.get live at e
  split at e
  ·cases e
  ·exact⟨_,e⟩
 obtain⟨z,hz⟩:=hl hy
 obtain⟨z2,hz2⟩:=hl (e.trans hy)
 simp only[H.get,H.set_eq,qbY,if_pos,hz,hz2,Option.map_some]
theorem qc9{P:Program}{t:TypeId}{a:VA}{h h':H}{v:V}(e:qax P t (.ptr (some a)) h=some (v,h'))(hh:h'.Holds):
  h.Same h'∧∀h2:H,h2.ask=none→h2.get a.b=h.get a.b→qax P t (.ptr (some a)) h2=some (v,h2):=by
 refine⟨(qjU e hh).2.2,fun h2 ha hg=>?_⟩
 unfold qax at e ⊢
 dsimp only at e ⊢
 rw[hg]
 split at e
 ·rename_i el r hr
  split at e
  ·rename_i he
   split at e
   ·split at e
    ·rename_i row hrow
     exact qfI (qfp ha row) (qfp ha _) (qhC e hh).1
    ·cases e
   ·split at e
    ·rename_i h1 ht
     split at e
     ·rename_i u hu
      cases e
      obtain⟨_,h3,_⟩:=H.test_holds ht hh
      rw[H.test_none ha,h3]
     ·cases e
    ·cases e
   ·split at e
    ·rename_i h1 ht
     split at e
     ·rename_i u hu
      cases e
      obtain⟨_,h3,_⟩:=H.test_holds ht hh
      rw[H.test_none ha,h3]
     ·cases e
    ·cases e
  ·cases e
 ·cases e
theorem qoC{h h':H}{a:VA}{cs:List V}(hT:∀h2:H,h2.ask=none→h2.get a.b=h.get a.b→qdE h2 a cs=vput h2 a cs)(e:vput h a cs=some h'):
  ∃ob y,h.get a.b=some y∧h'.objs=upd h.objs a.b ob∧h'.next=h.next∧h'.ro=h.ro ∧
   ∀h2:H,h2.ask=none→h2.get a.b=h.get a.b→h2.ro=h.ro→qdE h2 a cs=some (h2.set a.b ob):=by
 unfold vput at e
 split at e
 ·rename_i el r hg
  split at e
  ·rename_i row q1 q2 q3 q4
   split at e
   ·rename_i q5
    cases e
    refine⟨_,_,hg,by rw[H.set_eq],by rw[H.set_eq],by rw[H.set_eq],fun h2 ha hg2 hro=>?_⟩
    rw[hT h2 ha hg2]
    unfold vput
    rw[hg2,hg]
    simp only[hro,q1,q2,q3,q4,q5]
   ·cases e
  ·cases e
 ·cases e
theorem qpo{h h':H}{a:VA}{cs:List V}(e:qdE h a cs=some h')(hh:h'.Holds):
  ∃ob y,h.get a.b=some y∧h'.objs=upd h.objs a.b ob∧h'.next=h.next∧h'.ro=h.ro ∧
   ∀h2:H,h2.ask=none→h2.get a.b=h.get a.b→h2.ro=h.ro→qdE h2 a cs=some (h2.set a.b ob):=by
 unfold qdE at e
 split at e
 ·rename_i el n f hg
  split at e
  ·rename_i h1 ht
   split at e
   ·rename_i q1 q2 q3 q4
    cases e
    have hh1:h1.Holds:=by
     intro p hp;exact hh p (by rw[H.set_eq];exact hp)
    obtain⟨_,h3,h4,h5,h6⟩:=H.test_holds ht hh1
    refine⟨_,_,hg,by rw[H.set_eq];dsimp only;rw[h6],by rw[H.set_eq];exact h4,by rw[H.set_eq];exact h5,fun h2 ha hg2 hro=>?_⟩
    unfold qdE
    rw[hg2,hg]
    simp only[H.test_none ha,h3,hro,q1,q2,q3,q4]
   ·cases e
  ·cases e
 ·rename_i el t l hg
  split at e
  ·rename_i h1 ht
   split at e
   ·rename_i q1 q2 q3 q4
    split at e
    ·rename_i d hd
     cases e
     have hh1:h1.Holds:=by
      intro p hp;exact hh p (by rw[H.set_eq];exact hp)
     obtain⟨_,h3,h4,h5,h6⟩:=H.test_holds ht hh1
     refine⟨_,_,hg,by rw[H.set_eq];dsimp only;rw[h6],by rw[H.set_eq];exact h4,by rw[H.set_eq];exact h5,fun h2 ha hg2 hro=>?_⟩
     unfold qdE
     rw[hg2,hg]
     simp only[H.test_none ha,h3,hro,q1,q2,q3,q4,hd]
    ·cases e
   ·cases e
  ·cases e
 ·rename_i el l hg
  split at e
  ·cases e
  ·rename_i row hrow
   split at e
   ·exact qoC (fun h2 ha hg2=>qh0 ha (hg2.trans hg)) e
   ·rename_i row' hu
    split at e
    ·rename_i h1 ht
     split at e
     ·rename_i c1 c2
      cases e
      have hh1:h1.Holds:=by
       intro p hp;exact hh p (by rw[H.set_eq];exact hp)
      obtain⟨_,h3,h4,h5,h6⟩:=H.test_holds ht hh1
      have hlt:a.o<row.length:=Nat.le_of_ble_eq_true h3
      obtain⟨u1,u2,u3⟩:=qjp hu hlt
      have u3:=Nat.ble_eq_true_of_le u3
      refine⟨_,_,hg,by rw[H.set_eq];dsimp only;rw[h6],by rw[H.set_eq];exact h4,by rw[H.set_eq];exact h5,fun h2 ha hg2 hro=>?_⟩
      have hget:(Rows.list l).get a.i=some row:=hrow
      rw[qh0 ha (hg2.trans hg)]
      unfold vput
      rw[hg2,hg]
      simp only[hro,c1,c2,hget,u2,u3,u1]
      rfl
     ·cases e
    ·cases e
 ·rename_i n1 n2 n3
  refine qoC (fun h2 ha hg2=>?_) e
  unfold qdE
  rw[hg2]
  split
  ·rename_i e1;exact absurd e1 (n1 _ _ _)
  ·rename_i e1;exact absurd e1 (n2 _ _ _)
  ·rename_i e1;exact absurd e1 (n3 _ _)
  ·rfl
theorem qdO{P:Program}{t:TypeId}{a:VA}{x:V}{h h':H}(e:qbb P t (.ptr (some a)) x h=some h')(hh:h'.Holds):
  ∃ob y,h.get a.b=some y∧h'.objs=upd h.objs a.b ob∧h'.next=h.next∧h'.ro=h.ro ∧
   ∀h2:H,h2.ask=none→h2.get a.b=h.get a.b→h2.ro=h.ro→qbb P t (.ptr (some a)) x h2=some (h2.set a.b ob):=by
 unfold qbb at e
 split at e
 ·rename_i a' cs n hp hc hn
  cases hp
  split at e
  ·rename_i hl
   obtain⟨ob,y,h1,h2,h3,h4,h5⟩:=qpo e hh
   refine⟨ob,y,h1,h2,h3,h4,fun h2 ha hg hr=>?_⟩
   unfold qbb
   simp only[hc,hn,hl]
   exact h5 h2 ha hg hr
  ·cases e
 ·cases e
inductive MixFact(P:Program)(o:Oper)(ρ:Operand→V)(h:H)(v:V)(h':H):Option (Bool×Nat)→Prop
 |pure (hp:qat o.op=false) (e:qcA P o.op ρ h=some (v,h')):MixFact P o ρ h v h' none
 |fp (t:TypeId) (p:Operand) (row:List V) (ho:o.op=.load t p) (hx:ρ p=.fp row) (e:qax P t (.fp row) h=some (v,h')):MixFact P o ρ h v h' none
 |load (t:TypeId) (p:Operand) (a:VA) (ho:o.op=.load t p) (hx:ρ p=.ptr (some a)) (e:qax P t (.ptr (some a)) h=some (v,h')):MixFact P o ρ h v h' (some (false,a.b))
 |store (t:TypeId) (p x:Operand) (a:VA) (ho:o.op=.store t p x) (hx:ρ p=.ptr (some a)) (e:qbb P t (.ptr (some a)) (ρ x) h=some h') (hv:v=.bot):MixFact P o ρ h v h' (some (true,a.b))
 |new (cs:List V) (hp:qat o.op=true) (hc:qcB P o.op ρ=some cs) (hv:v=.ptr (some ⟨h.next,cs.length,0,0⟩)) (hh:h'=h.push (.box cs.length (.list [cs]))):MixFact P o ρ h v h' (some (true,h.next))
theorem qmo{P:Program}{o:Oper}{ρ:Operand→V}{h h':H}{v:V}{k:Option (Bool×Nat)}(e:qqe P o ρ h=some (v,h',k)):MixFact P o ρ h v h' k:=by
 unfold qqe at e
 split at e
 ·rename_i hp
  split at e
  ·rename_i e1;cases e;exact .pure hp e1
  ·cases e
 ·rename_i hpp
  split at e
  ·rename_i t p ho
   split at e
   ·rename_i row hx
    split at e
    ·rename_i e1;cases e;exact .fp t p row ho hx e1
    ·cases e
   ·rename_i a hx
    split at e
    ·rename_i e1;cases e;exact .load t p a ho hx e1
    ·cases e
   ·cases e
  ·rename_i t p x ho
   split at e
   ·rename_i a hx
    split at e
    ·rename_i e1;cases e;exact .store t p x a ho hx e1 rfl
    ·cases e
   ·cases e
  ·split at e
   ·rename_i cs hc
    cases e
    exact .new cs hpp hc rfl rfl
   ·cases e
theorem qdN{P:Program}{t:TypeId}{row:List V}{h h':H}{v:V}(e:qax P t (.fp row) h=some (v,h')):h'=h∧∀h2,qax P t (.fp row) h2=some (v,h2):=by
 unfold qax at e
 dsimp only at e
 split at e
 ·rename_i u hu
  cases e
  exact⟨rfl,fun h2=>by unfold qax;simp only[hu]⟩
 ·cases e
theorem MixFact.holds{P:Program}{o:Oper}{ρ:Operand→V}{h h':H}{v:V}{k:Option (Bool×Nat)}(f:MixFact P o ρ h v h' k)(hh:h'.Holds):h.Holds:=by
 cases f with
 |pure hp e=>exact(qga e).holds hh
 |fp t p row ho hx e=>rw[(qdN e).1]at hh;exact hh
 |load t p a ho hx e=>exact(qgG e).holds hh
 |store t p x a ho hx e hv=>
  have:vmem P o.op ρ h=some (.bot,h'):=by rw[ho];simp only[vmem,hx,e]
  exact(qiV this).holds hh
 |new cs hp hc hv he=>subst he;exact H.push_holds hh
theorem MixFact.gets{P:Program}{o:Oper}{ρ:Operand→V}{h h':H}{v:V}{k:Option (Bool×Nat)}(f:MixFact P o ρ h v h' k)(hh:h'.Holds):
  h.next≤h'.next∧h'.ro=h.ro∧(∀b,k≠some (true,b)→b<h'.next→h'.get b=h.get b)∧((∀b,h.next≤b→h.get b=none)→∀b,h'.next≤b→h'.get b=none):=by
 have keep:h'.next=h.next→(∀b,h'.get b=h.get b)→((∀b,h.next≤b→h.get b=none)→∀b,h'.next≤b→h'.get b=none):=fun e1 e2 h0 b hb=>by rw[e2];exact h0 b (by omega)
 cases f with
 |pure hp e=>have s:=qcR e;have g:=fun b=>H.get_of_objs s.2.2 b;exact⟨Nat.le_of_eq s.1.symm,s.2.1,fun b _ _=>g b,keep s.1 g⟩
 |fp t p row ho hx e=>rw[(qdN e).1];exact⟨Nat.le_refl _,rfl,fun _ _ _=>rfl,fun h0=>h0⟩
 |load t p a ho hx e=>have s:=(qc9 e hh).1;have g:=fun b=>H.get_of_objs s.2.2 b;exact⟨Nat.le_of_eq s.1.symm,s.2.1,fun b _ _=>g b,keep s.1 g⟩
 |store t p x a ho hx e hv=>
  obtain⟨ob,y,h1,h2,h3,h4,_⟩:=qdO e hh
  have g:∀b,a.b≠b→h'.get b=h.get b:=fun b hb=>by simp only[H.get,h2,qbY,if_neg hb]
  refine⟨Nat.le_of_eq h3.symm,h4,fun b hb _=>g b fun e=>hb (by rw[e]),fun h0 b hb=>?_⟩
  have hb':h.get b=none:=h0 b (by omega)
  rw[g b fun e=>by subst e;rw[hb']at h1;cases h1]
  exact hb'
 |new cs hp hc hv he=>
  subst he
  have g:∀b,h.next≠b→b<h.next+1→(h.push (.box cs.length (.list [cs]))).get b=h.get b:=fun b hb hb2=>by
   simp only[H.get,H.push_eq,qal]
   rw[if_neg hb,if_neg (by omega)]
  refine⟨by rw[H.push_eq];exact Nat.le_succ _,by rw[H.push_eq],fun b hb hb2=>g b (fun e=>hb (by rw[e])) (by rw[H.push_eq]at hb2;exact hb2),fun h0 b hb=>?_⟩
  rw[H.push_eq]at hb
  simp only[H.get,H.push_eq,qal]
  rw[if_neg (by show h.next≠b;have:h.next+1≤b:=hb;omega),if_pos (by have:h.next+1≤b:=hb;omega)]
  rfl
theorem MixFact.gets2{P:Program}{o:Oper}{ρ:Operand→V}{h h':H}{v:V}{k:Option (Bool×Nat)}(f:MixFact P o ρ h v h' k)(hh:h'.Holds)(h0:∀b,h.next≤b→h.get b=none)(b:Nat)(hk:k≠some (true,b)):h'.get b=h.get b:=by
 obtain⟨h1,_,h3,h4⟩:=f.gets hh
 rcases Nat.lt_or_ge b h'.next with hb|hb
 ·exact h3 b hk hb
 ·rw[h4 h0 b hb,h0 b (Nat.le_trans h1 hb)]
structure Mix(P:Program)(ops:Array Oper)(n:Nat) where
 st:Nat→S
 v:Nat→V
 o:Nat→Oper
 k:Nat→Option (Bool×Nat)
 op:∀i,i<n→ops[i]?=some (o i)
 fact:∀i,i<n→MixFact P (o i) (eval (st i).ts) (st i).h (v i) (st (i+1)).h (k i)
 ts:∀i,i<n→(st (i+1)).ts=putT (st i).ts (o i).dst (v i)
 dfs:∀i,i<n→(st (i+1)).dfs=(st i).dfs
theorem qhj{P:Program}{ops:Array Oper}:∀(m s:Nat)(s0 s1:S)(m0 m1:List (Nat×Bool×Nat)),qns P ops (List.range' s m) s0 m0=some (s1,m1) →
  ∃(st:Nat→S)(v:Nat→V)(o:Nat→Oper)(k:Nat→Option (Bool×Nat)),st s=s0∧st (s+m)=s1∧(∀x∈m0,x∈m1)∧∀i,s≤i→i<s+m→ops[i]?=some (o i) ∧
   MixFact P (o i) (eval (st i).ts) (st i).h (v i) (st (i+1)).h (k i)∧(st (i+1)).ts=putT (st i).ts (o i).dst (v i)∧(st (i+1)).dfs=(st i).dfs∧∀w b,k i=some (w,b)→(i,w,b)∈m1
 |0,s,s0,s1,m0,m1,e=>by
  simp only[List.range'_zero,qns,Option.some.injEq,Prod.mk.injEq]at e
  obtain⟨rfl,rfl⟩:=e
  exact⟨fun _=>s0,fun _=>.bot,fun _=>default,fun _=>none,rfl,rfl,fun _ h=>h,fun i h1 h2=>by omega⟩
 |m+1,s,s0,s1,m0,m1,e=>by
  obtain⟨ts,dfs,h⟩:=s0
  simp only[List.range'_succ,qns]at e
  split at e
  ·cases e
  ·rename_i o ho
   split at e
   ·cases e
   ·rename_i v h2 k hm
    obtain⟨st,vs,os,ks,q1,q2,q3,q4⟩:=qhj m (s+1) _ s1 _ m1 e
    refine⟨fun i=>if i=s then{ ts:=ts,dfs:=dfs,h:=h }else st i,fun i=>if i=s then v else vs i,fun i=>if i=s then o else os i,fun i=>if i=s then k else ks i,by simp,?_,?_,?_⟩
    ·simp only
     rw[if_neg (by omega),show s+(m+1)=s+1+m from by omega];exact q2
    ·intro x hx
     refine q3 x ?_
     cases k with
     |none=>exact hx
     |some wb=>exact List.mem_cons_of_mem _ hx
    ·intro i hi1 hi2
     by_cases his:i=s
     ·subst his
      simp only[if_true]
      rw[if_neg (by omega),q1]
      refine⟨ho,qmo hm,rfl,rfl,fun w b hk=>?_⟩
      refine q3 _ ?_
      subst hk
      exact List.mem_cons_self
     ·simp only[if_neg his]
      rw[if_neg (by omega)]
      exact q4 i (by omega) (by omega)
structure MixStatic{P:Program}{ops:Array Oper}(r:Mix P ops ops.size):Prop where
 edges:∀i,i<ops.size→∀e∈(r.o i).after,Region.binds .any e=true→e.on<i
 once:∀i j t,i<ops.size→j<ops.size→(r.o i).dst=some t→(r.o j).dst=some t→i=j
 names:∀i j t,i<ops.size→j<ops.size→(r.o i).dst=some t→t∈qa4 (r.o j)→i=j∨inOrder (Region.before ops) i j=true
 marks:∀i j w w' b,i<ops.size→j<ops.size→r.k i=some (w,b)→r.k j=some (w',b)→(w||w')=true→inOrder (Region.before ops) i j=true
theorem qjd{P:Program}{ops:Array Oper}(r:Mix P ops ops.size){m:List (Nat×Bool×Nat)}(hm:∀i,i<ops.size→∀w b,r.k i=some (w,b)→(i,w,b)∈m)
    (h:qcs ops (Region.before ops)=true) (hk:qk3 (Region.before ops) m=true):MixStatic r:=by
  unfold qcs at h
  rw[List.all_eq_true]at h
  have hop:∀i,i<ops.size→(∀e∈(r.o i).after,Region.binds .any e=true→e.on<i) ∧
      (∀d,(r.o i).dst=some d→∀j,j<ops.size→((r.o j).dst=some d→i=j)∧(d∈qa4 (r.o j)→i=j∨inOrder (Region.before ops) i j=true)):=by
    intro i hi
    have h1:=h i (List.mem_range.2 hi)
    rw[r.op i hi]at h1
    simp only[Bool.and_eq_true]at h1
    obtain⟨⟨h1,h2⟩,h3⟩:=h1
    refine⟨fun e he hb=>?_,fun d hd j hj=>?_⟩
    · rw[Array.all_eq_true_iff_forall_mem]at h1
      have:=h1 e he
      rw[hb]at this
      exact qoH (by simpa using this)
    · rw[hd]at h3
      simp only[List.all_eq_true]at h3
      have h4:=h3 j (List.mem_range.2 hj)
      rw[r.op j hj]at h4
      simp only[Bool.and_eq_true,Bool.or_eq_true,Bool.not_eq_true',beq_eq_false_iff_ne]at h4
      obtain⟨h5,h6⟩:=h4
      refine⟨fun e=>?_,fun e=>?_⟩
      · rcases h5 with h5|h5
        · exact Nat.eq_of_beq_eq_true h5
        · exact absurd e h5
      · rcases h6 with(h6|h6)|h6
        · rw[List.contains_iff_mem.2 e]at h6;cases h6
        · exact .inl (Nat.eq_of_beq_eq_true h6)
        · exact .inr h6
  exact { edges := fun i hi => (hop i hi).1
          once:=fun i j t hi hj h1 h2=>((hop i hi).2 t h1 j hj).1 h2
          names:=fun i j t hi hj h1 h2=>((hop i hi).2 t h1 j hj).2 h2
          marks:=fun i j w w' b hi hj h1 h2 h3=>by
            unfold qk3 at hk
            rw[List.all_eq_true]at hk
            have q1:=hk _ (hm i hi w b h1)
            rw[List.all_eq_true]at q1
            have q2:=q1 _ (hm j hj w' b h2)
            simp only[Nat.beq_refl,h3,Bool.not_true,Bool.false_or]at q2
            exact q2 }
namespace Mix
variable {P:Program} {ops:Array Oper}
theorem before_slot(r:Mix P ops ops.size){t i:Nat}:i≤ops.size→(∀j,j<i→(r.o j).dst≠some t)→getT (r.st i).ts t=getT (r.st 0).ts t:=by
 induction i with
 |zero=>intro _ _;rfl
 |succ i ih=>
  intro hi h
  rw[r.ts i (by omega),Run.getT_put_ne (h i (by omega)),ih (by omega) fun j hj=>h j (by omega)]
theorem len_eq(r:Mix P ops ops.size):∀i,i≤ops.size→(r.st i).ts.length=(r.st 0).ts.length
 |0,_=>rfl
 |i+1,hi=>by
  rw[r.ts i (by omega),←r.len_eq i (by omega)]
  cases(r.o i).dst<;>simp[qa0,qdX]
theorem after_slot(r:Mix P ops ops.size)(hS:MixStatic r){t j:Nat}(hj:j<ops.size)(hd:(r.o j).dst=some t)(ht:t<(r.st 0).ts.length):∀i,j<i→i≤ops.size→getT (r.st i).ts t=r.v j:=by
 intro i hji
 induction i with
 |zero=>omega
 |succ i ih=>
  intro hi
  by_cases hij:i=j
  ·subst hij
   rw[r.ts i hj,hd,Run.getT_put_eq (by rw[r.len_eq i (by omega)];exact ht)]
  ·rw[r.ts i (by omega),Run.getT_put_ne (fun e=>hij (hS.once i j t (by omega) hj e hd)),ih (by omega) (by omega)]
theorem dfs_eq(r:Mix P ops ops.size):∀i,i≤ops.size→(r.st i).dfs=(r.st 0).dfs
 |0,_=>rfl
 |i+1,hi=>by rw[r.dfs i (by omega),r.dfs_eq i (by omega)]
theorem holds(r:Mix P ops ops.size)(hh:(r.st ops.size).h.Holds):∀i,i≤ops.size→(r.st i).h.Holds:=by
 have:∀k i,i+k=ops.size→(r.st i).h.Holds:=by
  intro k
  induction k with
  |zero=>intro i e;rw[show i=ops.size by omega];exact hh
  |succ k ih=>intro i e;exact(r.fact i (by omega)).holds (ih (i+1) (by omega))
 exact fun i hi=>this (ops.size-i) i (by omega)
theorem none_at(r:Mix P ops ops.size)(hh:(r.st ops.size).h.Holds)(h0:∀b,(r.st 0).h.next≤b→(r.st 0).h.get b=none):∀i,i≤ops.size→∀b,(r.st i).h.next≤b→(r.st i).h.get b=none
 |0,_=>h0
 |i+1,hi=>((r.fact i (by omega)).gets (r.holds hh _ (by omega))).2.2.2 (r.none_at hh h0 i (by omega))
theorem get_same(r:Mix P ops ops.size)(hh:(r.st ops.size).h.Holds)(h0:∀b,(r.st 0).h.next≤b→(r.st 0).h.get b=none){b j:Nat}:∀i,j≤i→i≤ops.size→(∀k,j≤k→k<i→r.k k≠some (true,b))→(r.st i).h.get b=(r.st j).h.get b:=by
 intro i hji
 induction i with
 |zero=>intro _ _;rw[show j=0 by omega]
 |succ i ih=>
  intro hi h
  by_cases e:j=i+1
  ·rw[e]
  ·rw[(r.fact i (by omega)).gets2 (r.holds hh _ (by omega)) (r.none_at hh h0 i (by omega)) b (h i (by omega) (by omega)),ih (by omega) (by omega) fun k h1 h2=>h k h1 (by omega)]
theorem ros(r:Mix P ops ops.size)(hh:(r.st ops.size).h.Holds):∀i,i≤ops.size→(r.st i).h.ro=(r.st 0).h.ro
 |0,_=>rfl
 |i+1,hi=>((r.fact i (by omega)).gets (r.holds hh _ (by omega))).2.1.trans (r.ros hh i (by omega))
theorem nexts(r:Mix P ops ops.size)(hh:(r.st ops.size).h.Holds){j:Nat}:∀i,j≤i→i≤ops.size→(r.st j).h.next≤(r.st i).h.next
 |0,hj,_=>by rw[show j=0 by omega];exact Nat.le_refl _
 |i+1,hj,hi=>by
  by_cases e:j=i+1
  ·rw[e];exact Nat.le_refl _
  ·exact Nat.le_trans (r.nexts hh i (by omega) (by omega)) ((r.fact i (by omega)).gets (r.holds hh _ (by omega))).1
def isNew(r:Mix P ops ops.size)(i b:Nat):Prop:=b=(r.st i).h.next∧(r.st (i+1)).h.next=b+1
theorem new_one(r:Mix P ops ops.size)(hh:(r.st ops.size).h.Holds){i j b:Nat}(hi:i<ops.size)(hj:j<ops.size)(h1:r.isNew i b)(h2:r.isNew j b):i=j:=by
 rcases Nat.lt_trichotomy i j with h|h|h
 ·have:=r.nexts hh j (j:=i+1) (by omega) (by omega)
  have:=h1.2;have:=h2.1;omega
 ·exact h
 ·have:=r.nexts hh i (j:=j+1) (by omega) (by omega)
  have:=h2.2;have:=h1.1;omega
end Mix
theorem Goes.regets{φ φ':Map}{h h' h2:H}{w w':World}(g:Goes φ h w φ' h' w')(e:∀b,h2.get b=h'.get b)(hn:h2.next=h'.next)(hro:h2.ro=h'.ro):Goes φ h w φ' h2 w' where
 le:=g.le
 rel:=⟨fun b x hb hx=>by rw[e]at hb;rw[hro];exact g.rel.obj b x hb hx,fun b b' x x' k k' h1 h3 h4=>by rw[e]at h1 h3;rw[hro]at h4;exact g.rel.inj b b' x x' k k' h1 h3 h4,
  fun b k hb=>by rw[hn];exact g.rel.dom b k hb,by rw[hro,hn];exact g.rel.rle,g.rel.fz,fun b x k hb=>by rw[e]at hb;exact g.rel.own b x k hb,
  fun b hb=>by rw[e]at hb;exact g.rel.tip b hb,fun b b' m m' h1 h3=>by rw[e]at h1 h3;exact g.rel.tinj b b' m m' h1 h3,fun b m hb=>by rw[hn];exact g.rel.tdom b m hb⟩
 next:=by rw[hn];exact g.next
 ro:=by rw[hro];exact g.ro
 fresh:=g.fresh
 size:=g.size
 frame:=g.frame
 tfresh:=g.tfresh
 tlive:=fun b m hb hg=>g.tlive b m hb (by rw[←e];exact hg)
 ffresh:=g.ffresh
 os:=g.os
 tape:=g.tape
 output:=g.output
structure Dj{P:Program}{ops:Array Oper}(r:Mix P ops ops.size)(φ0:Map)(h0:H)(w0:World)(df:List Deferred)(Dn:Nat→Prop)(ts:List V)(hh:H)(φ:Map)(a:Act)(w:World):Prop where
 at_:At φ0 h0 w0 { ts:=ts,dfs:=[],h:=hh } df a φ w
 len:ts.length=(r.st 0).ts.length
 slotIn:∀t j,j<ops.size→Dn j→(r.o j).dst=some t→t<(r.st 0).ts.length→getT ts t=r.v j
 slotOut:∀t,(∀j,j<ops.size→Dn j→(r.o j).dst≠some t)→getT ts t=getT (r.st 0).ts t
 closed:∀i,Dn i→∀j,((Region.before ops).getD i 0).testBit j=true→Dn j
 hp:∀b,∃k,k≤ops.size∧hh.get b=(r.st k).h.get b∧∀i,i<ops.size→r.k i=some (true,b)→(Dn i↔i<k)
 ask:hh.ask=none
 holds:hh.Holds
 next:hh.next=(r.st ops.size).h.next
 ro:hh.ro=(r.st 0).h.ro
 nm:∀b k,φ b=some k→b<(r.st 0).h.next∨∃i,i<ops.size∧Dn i∧r.isNew i b
theorem qfd{ts:List V}{t:Nat}(h:ts.length≤t):getT ts t=.bot:=by
 rw[qaQ,List.getElem?_eq_none h]
theorem qbl{ops:Array Oper}{i j:Nat}(h:inOrder (Region.before ops) i j=true)(hij:i<j):((Region.before ops).getD j 0).testBit i=true:=by
 unfold inOrder at h
 rw[Nat.ble_eq_true_of_le (Nat.le_of_lt hij)]at h
 simp only[Bool.or_eq_true]at h
 rcases h with h|h
 ·have:=Nat.eq_of_beq_eq_true h;omega
 ·exact h
theorem qlO{ops:Array Oper}{i j:Nat}(h:inOrder (Region.before ops) i j=true)(hij:j<i):((Region.before ops).getD i 0).testBit j=true:=by
 unfold inOrder at h
 have:Nat.ble i j=false:=by
  cases e:Nat.ble i j with
  |false=>rfl
  |true=>have:=Nat.le_of_ble_eq_true e;omega
 rw[this]at h
 exact h
section
variable {P:Program} {L:Lev} {ops:Array Oper}
theorem At.pure{i:Nat}{o:Oper}(ho:ops[i]?=some o)(hg:o.guard=none){φ φ1:Map}{h:H}{w w1:World}{st:S}{df:List Deferred}{a:Act}(hA:At φ h w st df a φ1 w1)
  {v:V} {h1 h':H} (e:qcA P o.op (eval st.ts) h1=some (v,h')) (hh:h'.Holds) {F:Fence} {m:Nat} (hF:Wide F) {K:Act→World→Prop} {Q:Exit→Act→World→Prop}
  (hK:∀a',At φ h w { st with ts:=putT st.ts o.dst v } df a' φ1 w1→K a' w1):wpOpIn F m P ops Q i K a w1:=by
 unfold wpOpIn
 rw[ho]
 dsimp only
 have hw:Region.wanted o (yielded ops a.tmps)=true:=by simp[Region.wanted,hg]
 rw[hw]
 have hnd:∀c,o.op≠.defer c:=fun c hc=>by rw[hc]at e;simp[qcA]at e
 refine⟨fun f _=>hF.fn f,?_⟩
 obtain⟨⟨r,hrun,hv⟩,_,_⟩:=qgw (o:=o) e hh (fun x=>qbp hA.ts x) w1
 rw[Oper.semAt_eq _ _ _ hnd,hrun]
 exact hK _ ⟨qch hA.ts hv o.dst,by rw[←hA.df];cases o.dst<;>rfl,hA.go⟩
theorem qhn{op:Op}{ρ ρ':Operand→V}(h:∀x∈op.operands,ρ x=ρ' x):qcB P op ρ=qcB P op ρ':=by
 unfold qcB
 split
 ·rfl
 ·rename_i t x
  rw[h x (by simp[Op.operands])]
 ·rfl
theorem HRel.insN{φ:Map}{h:H}{w w':World}(hr:HRel φ h w){nb:Nat}(hlt:nb<h.next)(hro:h.ro≤nb)(hn:φ nb=none)(cs:List V)(o:Obj)(z:Nat×Nat)(hw:w'.heap=w.heap.push o)
  (ho:ObRel φ true z (.box cs.length (.list [cs])) o):HRel (φ.add nb (w.heap.size,z)) (h.insN nb (.box cs.length (.list [cs]))) w':=by
 have hle:φ.le (φ.add nb (w.heap.size,z)):=
  ⟨fun b k e=>by
   simp only[Map.add]
   rw[if_neg (fun e'=>by subst e';rw[hn]at e;cases e)];exact e,Frozen.le_refl _,fun _ _ e=>e,rfl⟩
 have hold:∀k,k<w.heap.size→w'.heap[k]?=w.heap[k]?:=by
  intro k hk
  rw[hw,Array.getElem?_push,if_neg (by omega)]
 have hsz:w'.heap.size=w.heap.size+1:=by rw[hw];simp
 have hg:∀b x,(h.insN nb (.box cs.length (.list [cs]))).get b=some x→(b=nb∧x=.box cs.length (.list [cs]))∨(b≠nb∧h.get b=some x):=by
  intro b x e
  rw[H.get_insN]at e
  split at e
  ·rename_i hb;cases e;exact .inl ⟨hb.symm,rfl⟩
  ·rename_i hb;exact .inr ⟨fun e'=>hb e'.symm,e⟩
 have hadd:∀b k,φ.add nb (w.heap.size,z) b=some k→(b=nb∧k=(w.heap.size,z))∨(b≠nb∧φ b=some k):=by
  intro b k e
  simp only[Map.add]at e
  split at e
  ·rename_i hb;cases e;exact .inl ⟨hb,rfl⟩
  ·rename_i hb;exact .inr ⟨hb,e⟩
 constructor
 ·intro b x hx hxt
  rcases hg b x hx with⟨rfl,rfl⟩|⟨hne,hx⟩
  ·refine⟨(w.heap.size,z),o,by simp[Map.add],by rw[hw];simp,?_⟩
   have:Nat.ble (h.insN b (.box cs.length (.list [cs]))).ro b=true:=Nat.ble_eq_true_of_le hro
   rw[this]
   exact ho.mono hle
  ·obtain⟨k,o',hk,ho',hrel⟩:=hr.obj b x hx hxt
   exact⟨k,o',hle _ _ hk,by rw[hold _ (hr.dom _ _ hk).2];exact ho',hrel.mono hle⟩
 ·intro b b' x x' k k' hx hx' hb hne hk hk'
  rcases hadd b k hk with⟨rfl,rfl⟩|⟨hnb,hk1⟩
  ·rcases hadd b' k' hk' with⟨rfl,_⟩|⟨_,hk2⟩
   ·exact(hne rfl).elim
   ·have:=(hr.dom _ _ hk2).2
    simp only
    omega
  ·rcases hadd b' k' hk' with⟨rfl,rfl⟩|⟨hnb',hk2⟩
   ·have:=(hr.dom _ _ hk1).2
    simp only
    omega
   ·rcases hg b x hx with⟨e,_⟩|⟨_,hx⟩
    ·exact absurd e hnb
    ·rcases hg b' x' hx' with⟨e,_⟩|⟨_,hx'⟩
     ·exact absurd e hnb'
     ·exact hr.inj b b' x x' k k' hx hx' hb hne hk1 hk2
 ·intro b k e
  rcases hadd b k e with⟨rfl,rfl⟩|⟨_,e⟩
  ·exact⟨hlt,by rw[hsz];exact Nat.lt_succ_self _⟩
  ·have:=hr.dom b k e
   exact⟨this.1,by omega⟩
 ·exact hr.rle
 ·intro k c e
  obtain⟨c',t,q,e1,e2⟩:=hr.fz k c e
  exact⟨c',t,q,by rw[hold _ (hr.fdom e)];exact e1,e2⟩
 ·intro b x k hx hk
  rcases hadd b k hk with⟨rfl,rfl⟩|⟨hnb,hk⟩
  ·cases e:φ.fz w.heap.size with
   |none=>exact e
   |some c=>have:=hr.fdom e;omega
  ·rcases hg b x hx with⟨e,_⟩|⟨_,hx⟩
   ·exact absurd e hnb
   ·exact hr.own b x k hx hk
 ·intro b hb
  rcases hg b _ hb with⟨_,e⟩|⟨_,hb⟩
  ·cases e
  ·obtain⟨m,h4,h5⟩:=hr.tip b hb
   refine⟨m,h4,fun blk en sz e=>?_⟩
   obtain⟨⟨c,hc,hcs⟩,c',t,h6,h7⟩:=h5 blk en sz e
   exact⟨⟨c,hc,hcs⟩,c',t,by rw[hold _ (hr.fdom hc)];exact h6,h7⟩
 ·intro b b' m m' hb hb' hne e e'
  rcases hg b _ hb with⟨_,e0⟩|⟨_,hb⟩
  ·cases e0
  ·rcases hg b' _ hb' with⟨_,e0⟩|⟨_,hb'⟩
   ·cases e0
   ·exact hr.tinj b b' m m' hb hb' hne e e'
 ·exact fun b m e=>hr.tdom b m e
theorem Goes.insN{φ0 φ:Map}{h0 h:H}{w0 w w':World}(g:Goes φ0 h0 w0 φ h w){nb:Nat}(hbase:h0.next≤nb)(hlt:nb<h.next)(hro:h.ro≤nb)(hn:φ nb=none)(cs:List V)(o:Obj)(z:Nat×Nat)(hw:w'.heap=w.heap.push o)
  (ho:ObRel φ true z (.box cs.length (.list [cs])) o) (h1:w'.os=w.os) (h2:w'.tape=w.tape) (h3:w'.output=w.output):
  Goes φ0 h0 w0 (φ.add nb (w.heap.size,z)) (h.insN nb (.box cs.length (.list [cs]))) w' where
 le:=Map.le_trans g.le ⟨fun b k e=>by
  simp only[Map.add]
  rw[if_neg (fun e'=>by subst e';rw[hn]at e;cases e)];exact e,Frozen.le_refl _,fun _ _ e=>e,rfl⟩
 rel:=g.rel.insN hlt hro hn cs o z hw ho
 next:=g.next
 ro:=g.ro
 fresh:=fun b k e=>by
  simp only[Map.add]at e
  split at e
  ·rename_i hb
   cases e
   exact .inr ⟨by omega,.inl g.size⟩
  ·exact g.fresh b k e
 size:=by rw[hw];simp;have:=g.size;omega
 frame:=fun k hk a b=>by
  rw[hw,Array.getElem?_push,if_neg (by have:=g.size;omega)]
  exact g.frame k hk a b
 tfresh:=g.tfresh
 tlive:=fun b m hb hx=>by
  rw[H.get_insN]at hx
  split at hx
  ·cases hx
  ·exact g.tlive b m hb hx
 ffresh:=g.ffresh
 os:=h1.trans g.os
 tape:=h2.trans g.tape
 output:=h3.trans g.output
theorem new_any{i:Nat}{o:Oper}(ho:ops[i]?=some o)(hg:o.guard=none){φ0 φ:Map}{h0:H}{w0 w:World}{st:S}{df:List Deferred}{a:Act}(hA:At φ0 h0 w0 st df a φ w)
  {cs:List V} (hc:qcB P o.op (eval st.ts)=some cs) {nb:Nat} (hbase:h0.next≤nb) (hlt:nb<st.h.next) (hro:st.h.ro≤nb) (hn:φ nb=none) {F:Fence} {m:Nat} (hF:Wide F) {K:Act→World→Prop} {Q:Exit→Act→World→Prop}
  (hK:∀a' w' z,At φ0 h0 w0 { st with ts:=putT st.ts o.dst (.ptr (some ⟨nb,cs.length,0,0⟩)),h:=st.h.insN nb (.box cs.length (.list [cs])) } df a' (φ.add nb z) w'→K a' w'):wpOpIn F m P ops Q i K a w:=by
 unfold wpOpIn
 rw[ho]
 dsimp only
 have hw:Region.wanted o (yielded ops a.tmps)=true:=by simp[Region.wanted,hg]
 rw[hw]
 have hnd:∀c,o.op≠.defer c:=fun c hc'=>by rw[hc']at hc;cases hc
 have run:∀(el:TypeId)(z':Value)(zv:V),VRel φ zv z'→cellsOf zv=some cs→(execOp a.eval o).run P w=.ok (.value (.pointer (some ⟨w.heap.size,0,none⟩))) (w.alloc (.cells z'.cells el))→∃r w',(execOp a.eval o).run P w=.ok (.value r) w' ∧
   At φ0 h0 w0 { st with ts:=putT st.ts o.dst (.ptr (some ⟨nb,cs.length,0,0⟩)),h:=st.h.insN nb (.box cs.length (.list [cs])) } df (a.put o.dst r) (φ.add nb (w.heap.size,cs.length,0)) w':=by
  intro el z' zv hz hcs hrun
  have hv:=qbW hz hcs
  have hl:=hv.length
  have hgo:=hA.go.insN (w':=w.alloc (.cells z'.cells el)) hbase hlt hro hn cs (.cells z'.cells el) (cs.length,0) rfl ⟨by
   rw[qa8]
   intro i row hrow
   cases i with
   |zero=>
    simp only[Rows.get,List.getElem?_cons_zero,Option.some.injEq]at hrow
    subst hrow
    refine⟨rfl,fun o u hu=>?_⟩
    obtain⟨y,hy,hvy⟩:=hv.get o u hu
    exact⟨y,by simpa using hy,hvy⟩
   |succ i=>simp[Rows.get]at hrow,by simp at hl;omega,fun _=>⟨rfl,rfl⟩⟩ rfl rfl rfl
  refine⟨.pointer (some ⟨w.heap.size,0,none⟩),w.alloc (.cells z'.cells el),hrun,?_,?_,hgo⟩
  ·have hle:φ.le (φ.add nb (w.heap.size,cs.length,0)):=⟨fun b k e=>by
    simp only[Map.add]
    rw[if_neg (fun e'=>by subst e';rw[hn]at e;cases e)];exact e,Frozen.le_refl _,fun _ _ e=>e,rfl⟩
   refine qch (hA.ts.mono hle) ?_ o.dst
   ·have:(⟨w.heap.size,0,none⟩:Addr)=(⟨nb,cs.length,0,0⟩:VA).real (w.heap.size,cs.length,0):=by simp[VA.real]
    rw[this]
    exact .ptr _ _ (by simp[Map.add])
  ·rw[←hA.df];cases o.dst<;>rfl
 have fin:(∃r w',(execOp a.eval o).run P w=.ok (.value r) w' ∧
   At φ0 h0 w0 { st with ts:=putT st.ts o.dst (.ptr (some ⟨nb,cs.length,0,0⟩)),h:=st.h.insN nb (.box cs.length (.list [cs])) } df (a.put o.dst r) (φ.add nb (w.heap.size,cs.length,0)) w')→o.wpIn F m P a w K Q:=by
  rintro⟨r,w',hrun,hA'⟩
  refine⟨fun f _=>hF.fn f,?_⟩
  rw[Oper.semAt_eq _ _ _ hnd,hrun]
  exact hK _ _ _ hA'
 refine fin ?_
 unfold qcB at hc
 split at hc
 ·rename_i t hop
  split at hc
  ·rename_i z hz
   obtain⟨z',rz,vz⟩:=qcq (φ:=φ) (w:=w) hz
   refine run t z' z vz hc ?_
   simp only[execOp,hop,Instr.alloc,Sem.run_bind,rz,Result.andThen_ok,show(newVar t z').run P w=.ok ⟨w.heap.size,0,none⟩ (w.alloc (.cells z'.cells t))from rfl,Sem.run_pure]
  ·cases hc
 ·rename_i t x hop
  refine run t (a.eval x) _ (qbp hA.ts x) hc ?_
  simp only[execOp,hop,Instr.box,Sem.run_bind,show(newVar t (a.eval x)).run P w=.ok ⟨w.heap.size,0,none⟩ (w.alloc (.cells (a.eval x).cells t))from rfl,Result.andThen_ok,Sem.run_pure]
 ·cases hc
theorem At.step2(hL:LevOk P L){i:Nat}{o:Oper}(ho:ops[i]?=some o)(hg:o.guard=none){φ φ1:Map}{h:H}{w w1:World}{st:S}{df:List Deferred}{a:Act}(hA:At φ h w st df a φ1 w1)
  {v:V} {h':H} (e:qau L P o.op (eval st.ts) st.h=some (v,h')) (hh:h'.Holds) (hnx:h'.next=st.h.next) {F:Fence} {m:Nat} (hF:Wide F) {K:Act→World→Prop} {Q:Exit→Act→World→Prop}
  (hK:∀a' φ' w',At φ h w { st with ts:=putT st.ts o.dst v,h:=h' } df a' φ' w'→(∀b k,φ' b=some k→φ1 b=some k)→K a' w'):wpOpIn F m P ops Q i K a w1:=
 qjC hL ho hg e hh hF hA.ts hA.go.rel fun φ' r w' hv hgo=>hK _ φ' w' ⟨qch (hA.ts.mono hgo.le) hv o.dst,by rw[←hA.df];cases o.dst<;>rfl,hA.go.trans hgo⟩ fun b k e=>by
  rcases hgo.fresh b k e with h1|⟨h1,_⟩
  ·exact h1
  ·have:=(hgo.rel.dom b k e).1
   rw[hnx]at this
   omega
theorem qpe(hL:LevOk P L){r:Mix P ops ops.size}(hS:MixStatic r)(hH:(r.st ops.size).h.Holds)(hgd:∀i,i<ops.size→(r.o i).guard=none)
  {φ0:Map} {h0:H} {w0:World} {df:List Deferred} {Dn:Nat→Prop} {ts:List V} {hd:H} {φ:Map} {a:Act} {w:World} (hI:Dj r φ0 h0 w0 df Dn ts hd φ a w)
  (h0n:h0.next=(r.st 0).h.next) (h0r:h0.ro≤h0.next) (h00:∀b,(r.st 0).h.next≤b→(r.st 0).h.get b=none)
  {i:Nat} (hi:i<ops.size) (hni:¬Dn i) (hanc:∀j,((Region.before ops).getD i 0).testBit j=true→Dn j) {F:Fence} {m:Nat} (hF:Wide F) {K:Act→World→Prop} {Q:Exit→Act→World→Prop}
  (hK:∀ts' hd' φ' a' w',Dj r φ0 h0 w0 df (fun j=>Dn j∨j=i) ts' hd' φ' a' w'→K a' w'):wpOpIn F m P ops Q i K a w:=by
 have hHi:∀j,j≤ops.size→(r.st j).h.Holds:=r.holds hH
 have hsl:∀t,t∈qa4 (r.o i)→getT ts t=getT (r.st i).ts t:=by
  intro t ht
  by_cases hex:∃j,j<ops.size∧(r.o j).dst=some t
  ·obtain⟨j,hj,hjd⟩:=hex
   by_cases hlen:t<(r.st 0).ts.length
   ·have hout:¬Dn j→j≥i→getT ts t=getT (r.st i).ts t:=fun hnd hge=>by
     rw[hI.slotOut t fun q hq hdq e=>by rw[hS.once q j t hq hj e hjd]at hdq;exact hnd hdq,
      r.before_slot (Nat.le_of_lt hi) fun q hq e=>by have:=hS.once q j t (by omega) hj e hjd;omega]
    rcases hS.names j i t hj hi hjd ht with e|e
    ·subst e;exact hout hni (Nat.le_refl _)
    ·rcases Nat.lt_trichotomy j i with hlt|heq|hgt
     ·rw[hI.slotIn t j hj (hanc j (qbl e hlt)) hjd hlen,r.after_slot hS hj hjd hlen i hlt (Nat.le_of_lt hi)]
     ·subst heq;exact hout hni (Nat.le_refl _)
     ·exact hout (fun hd=>hni (hI.closed j hd i (qlO e hgt))) (Nat.le_of_lt hgt)
   ·rw[qfd (ts:=ts) (t:=t) (by rw[hI.len];exact Nat.le_of_not_lt hlen),qfd (ts:=(r.st i).ts) (t:=t) (by rw[r.len_eq i (Nat.le_of_lt hi)];exact Nat.le_of_not_lt hlen)]
  ·rw[hI.slotOut t fun q hq _ e=>hex ⟨q,hq,e⟩,r.before_slot (Nat.le_of_lt hi) fun q hq e=>hex ⟨q,by omega,e⟩]
 have hops:∀x∈(r.o i).op.operands,eval ts x=eval (r.st i).ts x:=by
  intro x hx
  cases x with
  |tmp t=>exact hsl t (List.mem_filterMap.2 ⟨.tmp t,by simpa using hx,rfl⟩)
  |_=>rfl
 have mk:∀(hd':H)(φ':Map)(a':Act)(w':World),At φ0 h0 w0 { ts:=putT ts (r.o i).dst (r.v i),dfs:=[],h:=hd' } df a' φ' w' →
   (∀b,∃k,k≤ops.size∧hd'.get b=(r.st k).h.get b∧∀j,j<ops.size→r.k j=some (true,b)→(Dn j∨j=i↔j<k))→hd'.ask=none→hd'.Holds→hd'.next=hd.next→hd'.ro=hd.ro→(∀b k,φ' b=some k→φ b=some k∨r.isNew i b)→K a' w':=
  fun hd' φ' a' w' hA hp h1 h2 h3 h4 h5=>hK _ hd' φ' a' w' {
   at_:=hA
   len:=by rw[←hI.len];cases(r.o i).dst<;>simp[qa0,qdX]
   slotIn:=fun t j hj hdj hjd ht=>by
    by_cases hji:j=i
    ·subst hji
     rw[hjd,Run.getT_put_eq (by rw[hI.len];exact ht)]
    ·rw[Run.getT_put_ne (fun e=>hji (hS.once j i t hj hi hjd e)),hI.slotIn t j hj (hdj.resolve_right hji) hjd ht]
   slotOut:=fun t ht=>by
    rw[Run.getT_put_ne (ht i hi (.inr rfl)),hI.slotOut t fun j hj hdj=>ht j hj (.inl hdj)]
   closed:=fun j hj q hq=>by
    rcases hj with hj|rfl
    ·exact .inl (hI.closed j hj q hq)
    ·exact .inl (hanc q hq)
   hp:=hp
   ask:=h1
   holds:=h2
   next:=h3.trans hI.next
   ro:=h4.trans hI.ro
   nm:=fun b k e=>by
    rcases h5 b k e with e|e
    ·rcases hI.nm b k e with h|⟨j,q1,q2,q3⟩
     ·exact .inl h
     ·exact .inr ⟨j,q1,.inl q2,q3⟩
    ·exact .inr ⟨i,hi,.inr rfl,e⟩ }
 have hpk:(∀b,r.k i≠some (true,b))→∀b,∃k,k≤ops.size∧hd.get b=(r.st k).h.get b∧∀j,j<ops.size→r.k j=some (true,b)→(Dn j∨j=i↔j<k):=fun hk b=>by
  obtain⟨k,h1,h2,h3⟩:=hI.hp b
  refine⟨k,h1,h2,fun j hj hjk=>?_⟩
  rw[←h3 j hj hjk]
  exact⟨fun h=>h.resolve_right fun e=>by subst e;exact hk b hjk,.inl⟩
 have hobj:∀w b,r.k i=some (w,b)→hd.get b=(r.st i).h.get b:=by
  intro w b hk
  obtain⟨k,h1,h2,h3⟩:=hI.hp b
  rw[h2]
  rcases Nat.le_total k i with hki|hik
  ·refine(r.get_same hH h00 i hki (Nat.le_of_lt hi) fun q hq1 hq2 hqk=>?_).symm
   have hq:q<ops.size:=by omega
   have:=(h3 q hq hqk).1 (hanc q (qbl (hS.marks q i true w b hq hi hqk hk rfl) hq2))
   omega
  ·refine r.get_same hH h00 k hik h1 fun q hq1 hq2 hqk=>?_
   have hq:q<ops.size:=by omega
   have hdq:=(h3 q hq hqk).2 hq2
   by_cases hqi:q=i
   ·subst hqi;exact hni hdq
   ·have ho:=hS.marks i q w true b hi hq hk hqk (by simp)
    exact hni (hI.closed q hdq i (qbl ho (by omega)))
 have hro:=hI.ro.trans (r.ros hH i (Nat.le_of_lt hi)).symm
 have hf:=r.fact i hi
 generalize hki:r.k i=ki at hf
 have hh':=hHi (i+1) (by omega)
 cases hf with
 |pure hp e=>
  rw[←qeA hops]at e
  exact At.pure (r.op i hi) (hgd i hi) hI.at_ e hh' hF fun a' hA=>mk hd φ a' w hA (hpk fun b h=>by rw[hki]at h;cases h) hI.ask hI.holds rfl rfl (fun _ _ e=>.inl e)
 |fp t p row ho hx e=>
  have hx':eval ts p=.fp row:=by rw[hops p (by rw[ho];simp[Op.operands])];exact hx
  have e':qau L P (r.o i).op (eval ts) hd=some (r.v i,hd):=by
   rw[ho];show qax P t (eval ts p) hd=_;rw[hx'];exact(qdN e).2 hd
  exact At.step2 hL (r.op i hi) (hgd i hi) hI.at_ e' hI.holds rfl hF fun a' φ' w' hA hn=>mk hd φ' a' w' hA (hpk fun b h=>by rw[hki]at h;cases h) hI.ask hI.holds rfl rfl (fun b k e=>.inl (hn b k e))
 |load t p a ho hx e=>
  have hx':eval ts p=.ptr (some a):=by rw[hops p (by rw[ho];simp[Op.operands])];exact hx
  have e':qau L P (r.o i).op (eval ts) hd=some (r.v i,hd):=by
   rw[ho];show qax P t (eval ts p) hd=_;rw[hx'];exact(qc9 e hh').2 hd hI.ask (hobj _ _ hki)
  exact At.step2 hL (r.op i hi) (hgd i hi) hI.at_ e' hI.holds rfl hF fun a' φ' w' hA hn=>mk hd φ' a' w' hA (hpk fun b h=>by rw[hki]at h;cases h) hI.ask hI.holds rfl rfl (fun b k e=>.inl (hn b k e))
 |store t p x a ho hx e hv=>
  have hx':eval ts p=.ptr (some a):=by rw[hops p (by rw[ho];simp[Op.operands])];exact hx
  have hy':eval ts x=eval (r.st i).ts x:=hops x (by rw[ho];simp[Op.operands])
  obtain⟨ob,y,q1,q2,q3,q4,q5⟩:=qdO e hh'
  have hge:=hobj _ _ hki
  have e':qau L P (r.o i).op (eval ts) hd=some (r.v i,hd.set a.b ob):=by
   rw[ho,hv]
   show(match qbb P t (eval ts p) (eval ts x) hd with
    |some h=>some (V.bot,h)
    |none=>none)=_
   rw[hx',hy',q5 hd hI.ask hge hro]
  have hset:(hd.set a.b ob).Holds:=fun p hp=>hI.holds p (by rw[H.set_eq]at hp;exact hp)
  refine At.step2 hL (r.op i hi) (hgd i hi) hI.at_ e' hset (by rw[H.set_eq]) hF fun a' φ' w' hA hn=>mk _ φ' a' w' hA (fun b=>?_) (by rw[H.set_eq];exact hI.ask) hset (by rw[H.set_eq]) (by rw[H.set_eq]) (fun b k e=>.inl (hn b k e))
  by_cases hb:a.b=b
  ·subst hb
   refine⟨i+1,by omega,?_,fun j hj hjk=>?_⟩
   ·rw[get_set_same hge q1]
    simp only[H.get,H.set_eq,q2]
   ·constructor
    ·rintro(hdj|rfl)
     ·refine Nat.lt_succ_of_le (Nat.le_of_not_lt fun hlt=>?_)
      exact hni (hI.closed j hdj i (qbl (hS.marks i j true true a.b hi hj hki hjk rfl) hlt))
     ·omega
    ·intro hlt
     by_cases hji:j=i
     ·exact .inr hji
     ·exact .inl (hanc j (qbl (hS.marks j i true true a.b hj hi hjk hki rfl) (by omega)))
  ·obtain⟨k,h1,h2,h3⟩:=hI.hp b
   refine⟨k,h1,by rw[H.get_set_ne hb];exact h2,fun j hj hjk=>?_⟩
   rw[←h3 j hj hjk]
   exact⟨fun h=>h.resolve_right fun e=>by subst e;rw[hki]at hjk;cases hjk;exact hb rfl,.inl⟩
 |new cs hp hc hv he=>
  have hc':qcB P (r.o i).op (eval ts)=some cs:=by rw[qhn hops];exact hc
  have hnx:(r.st (i+1)).h.next=(r.st i).h.next+1:=by rw[he,H.push_eq]
  have hnew:r.isNew i (r.st i).h.next:=⟨rfl,hnx⟩
  have hb0:(r.st 0).h.next≤(r.st i).h.next:=r.nexts hH i (Nat.zero_le _) (Nat.le_of_lt hi)
  have hφ:φ (r.st i).h.next=none:=by
   cases e:φ (r.st i).h.next with
   |none=>rfl
   |some k=>
    exfalso
    rcases hI.nm _ k e with h|⟨j,hj,hdj,hjn⟩
    ·omega
    ·have:=r.new_one hH hi hj hnew hjn
     subst this
     exact hni hdj
  have hlt:(r.st i).h.next<hd.next:=by
   rw[hI.next]
   have:=r.nexts hH (j:=i+1) ops.size hi (Nat.le_refl _)
   omega
  have hro':hd.ro≤(r.st i).h.next:=by
   have h1:hd.ro=h0.ro:=hI.at_.go.ro
   omega
  have hset:(hd.insN (r.st i).h.next (.box cs.length (.list [cs]))).Holds:=fun p hp=>hI.holds p hp
  refine new_any (r.op i hi) (hgd i hi) hI.at_ hc' (by omega) hlt hro' hφ hF fun a' w' z hA=>mk (hd.insN (r.st i).h.next (.box cs.length (.list [cs]))) (φ.add (r.st i).h.next z) a' w' (by rw[hv];exact hA) (fun b=>?_) hI.ask hset rfl rfl (fun b k e=>?_)
  ·by_cases hb:(r.st i).h.next=b
   ·subst hb
    refine⟨i+1,by omega,?_,fun j hj hjk=>?_⟩
    ·rw[H.get_insN,if_pos rfl,he]
     simp only[H.get,H.push_eq,qal,if_true]
    ·constructor
     ·rintro(hdj|rfl)
      ·refine Nat.lt_succ_of_le (Nat.le_of_not_lt fun hlt=>?_)
       exact hni (hI.closed j hdj i (qbl (hS.marks i j true true _ hi hj hki hjk rfl) hlt))
      ·omega
     ·intro hlt
      by_cases hji:j=i
      ·exact .inr hji
      ·exact .inl (hanc j (qbl (hS.marks j i true true _ hj hi hjk hki rfl) (by omega)))
   ·obtain⟨k,h1,h2,h3⟩:=hI.hp b
    refine⟨k,h1,by rw[H.get_insN,if_neg hb];exact h2,fun j hj hjk=>?_⟩
    rw[←h3 j hj hjk]
    exact⟨fun h=>h.resolve_right fun e=>by subst e;rw[hki]at hjk;cases hjk;exact hb rfl,.inl⟩
  ·simp only[Map.add]at e
   split at e
   ·rename_i hb;subst hb;exact .inr hnew
   ·exact .inl e
theorem qqd(hL:LevOk P L){r:Mix P ops ops.size}(hS:MixStatic r)(hH:(r.st ops.size).h.Holds)(hgd:∀i,i<ops.size→(r.o i).guard=none)
  {φ0:Map} {h0:H} {w0:World} {df:List Deferred} (h0n:h0.next=(r.st 0).h.next) (h0r:h0.ro≤h0.next) (h00:∀b,(r.st 0).h.next≤b→(r.st 0).h.get b=none) {F:Fence} {m:Nat} (hF:Wide F) {Q:Exit→Act→World→Prop}
  (hQ:∀(Dn:Nat→Prop) ts hd φ a w,Dj r φ0 h0 w0 df Dn ts hd φ a w→(∀j,j<ops.size→Dn j)→Q .normal a w):
  ∀(fuel:Nat)(listed:Array Bool)(rest:List Nat)(Dn:Nat→Prop)(ts:List V)(hd:H)(φ:Map)(a:Act)(w:World),Dj r φ0 h0 w0 df Dn ts hd φ a w→listed.size=ops.size→rest.length≤fuel →
   (∀j,j<ops.size→listed.getD j true=false→j∈rest)→(∀j,j<ops.size→(Dn j↔listed.getD j true=true))→wpAnyIn F m P .any ops Q fuel listed a w:=by
 have hnone:∀(listed:Array Bool),listed.size=ops.size→Region.ready .any ops listed=[]→∀j,j<ops.size→listed.getD j true=true:=by
  intro listed hsz hr j
  induction j using Nat.strongRecOn with
  |_ j ih=>
   intro hj
   cases hl:listed.getD j true with
   |true=>rfl
   |false=>
    exfalso
    have:j∈Region.ready .any ops listed:=mem_ready.2 ⟨hl,r.o j,r.op j hj,fun e he hb=>by
     have hlt:=hS.edges j hj e he hb
     have h1:=ih e.on hlt (by omega)
     have hsz':e.on<listed.size:=by omega
     simp only[Array.getD_eq_getD_getElem?,Array.getElem?_eq_getElem hsz',Option.getD_some]at h1 ⊢
     exact h1⟩
    rw[hr]at this
    cases this
 intro fuel
 induction fuel with
 |zero=>
  intro listed rest Dn ts hd φ a w hI hsz hlen hrest hD
  have hr0:rest=[]:=List.eq_nil_of_length_eq_zero (by omega)
  have hall:∀j,j<ops.size→listed.getD j true=true:=fun j hj=>by
   cases hl:listed.getD j true with
   |true=>rfl
   |false=>have:=hrest j hj hl;rw[hr0]at this;cases this
  refine⟨?_,hQ Dn ts hd φ a w hI fun j hj=>(hD j hj).2 (hall j hj)⟩
  refine List.eq_nil_iff_forall_not_mem.2 fun j hj=>?_
  obtain⟨h1,o,ho,_⟩:=mem_ready.1 hj
  have hjn:j<ops.size:=(Array.getElem?_eq_some_iff.1 ho).1
  rw[hall j hjn]at h1;cases h1
 |succ fuel ih=>
  intro listed rest Dn ts hd φ a w hI hsz hlen hrest hD
  refine⟨fun hr=>hQ Dn ts hd φ a w hI fun j hj=>(hD j hj).2 (hnone listed hsz hr j hj),fun i hir=>?_⟩
  obtain⟨h1,o,ho,hall⟩:=mem_ready.1 hir
  have hi:i<ops.size:=(Array.getElem?_eq_some_iff.1 ho).1
  have hoi:o=r.o i:=by have:=r.op i hi;rw[ho]at this;cases this;rfl
  subst hoi
  have hni:¬Dn i:=fun h=>by have:=(hD i hi).1 h;rw[h1]at this;cases this
  have hanc:∀j,((Region.before ops).getD i 0).testBit j=true→Dn j:=by
   intro j hj
   obtain⟨e,he,hb,hcase⟩:=qdw (r.op i hi) hj
   have hlt:=hS.edges i hi e he hb
   have hl:=hall e he hb
   have hen:e.on<ops.size:=by omega
   have hDe:Dn e.on:=(hD e.on hen).2 (by
    have hsz':e.on<listed.size:=by omega
    simp only[Array.getD_eq_getD_getElem?,Array.getElem?_eq_getElem hsz',Option.getD_some]at hl ⊢
    exact hl)
   rcases hcase with rfl|⟨_,h2⟩
   ·exact hDe
   ·exact hI.closed e.on hDe j h2
  refine qpe hL hS hH hgd hI h0n h0r h00 hi hni hanc hF fun ts' hd' φ' a' w' hI'=>?_
  refine ih (listed.setIfInBounds i true) (rest.erase i) _ ts' hd' φ' a' w' hI' (by simp[hsz]) ?_ ?_ ?_
  ·have:=List.length_erase_of_mem (hrest i hi h1)
   omega
  ·intro j hj hl
   rw[qeh]at hl
   split at hl
   ·cases hl
   ·rename_i hc
    have hji:j≠i:=fun e=>hc ⟨e.symm,by omega⟩
    exact(List.mem_erase_of_ne hji).2 (hrest j hj hl)
  ·intro j hj
   rw[qeh]
   split
   ·rename_i hc
    exact⟨fun _=>rfl,fun _=>.inr hc.1.symm⟩
   ·rename_i hc
    have hji:j≠i:=fun e=>hc ⟨e.symm,by omega⟩
    rw[←hD j hj]
    exact⟨fun h=>h.resolve_right hji,.inl⟩
theorem qqc(hm:P.follows .mixedOrders=true)(hmx:qgM ops=true)(hL:LevOk P L){st st':S}(e:mixD P ops st=some st')(hh:st'.h.Holds):
  st.h.Holds∧∀(φ:Map)(a:Act)(w:World)(F:Fence)(n id:Nat),Wide F→VRels φ st.ts a.tmps.toList→MarksRel φ w st.dfs a.defers→HRel φ st.h w→(Code.region id ops true).wpIn F n P (Post φ st.h w .normal st') a w:=by
 unfold mixD at e
 split at e
 rotate_left
 ·cases e
 rename_i hs
 split at e
 rotate_left
 ·cases e
 rename_i st1 m hgo
 split at e
 rotate_left
 ·cases e
 rename_i hmk
 cases e
 rw[List.range_eq_range']at hgo
 obtain⟨sq,vq,oq,kq,q1,q2,_,q4⟩:=qhj _ _ _ _ _ _ hgo
 simp only[Nat.zero_add]at q2 q4
 let r:Mix P ops ops.size:=⟨sq,vq,oq,kq,fun i hi=>(q4 i (Nat.zero_le _) hi).1,fun i hi=>(q4 i (Nat.zero_le _) hi).2.1,fun i hi=>(q4 i (Nat.zero_le _) hi).2.2.1,fun i hi=>(q4 i (Nat.zero_le _) hi).2.2.2.1⟩
 have hS:MixStatic r:=qjd r (fun i hi=>(q4 i (Nat.zero_le _) hi).2.2.2.2) hs hmk
 have hH:(r.st ops.size).h.Holds:=by show(sq ops.size).h.Holds;rw[q2];exact hh
 have h0:r.st 0=st:=q1
 have hn:r.st ops.size=st':=q2
 have hgd:∀i,i<ops.size→(r.o i).guard=none:=by
  intro i hi
  unfold qgM at hmx
  simp only[Bool.and_eq_true]at hmx
  have:=List.all_eq_true.1 hmx.2.1 (r.o i) (by
   have:=Array.getElem?_eq_some_iff.1 (r.op i hi)
   obtain⟨h1,h2⟩:=this
   rw[←h2];simp)
  unfold qq7 at this
  split at this
  ·cases this
  ·assumption
 have hst:st.h.Holds:=by rw[←h0];exact r.holds hH 0 (Nat.zero_le _)
 refine⟨hst,fun φ a w F n id hF hts hmk hr=>?_⟩
 refine wpIn_region_any hm ?_
 have hT:st.h.next≤(r.st ops.size).h.next:=by rw[←h0];exact r.nexts hH _ (Nat.zero_le _) (Nat.le_refl _)
 have h00:∀b,(r.st 0).h.next≤b→(r.st 0).h.get b=none:=by
  rw[h0]
  intro b hb
  cases e:st.h.get b with
  |none=>rfl
  |some x=>have:=hr.lt e;omega
 have hI0:Dj r φ st.h { w with drawn:=w.drawn+1 } a.defers (fun _=>False) st.ts { st.h with ask:=none,next:=(r.st ops.size).h.next } φ a { w with drawn:=w.drawn+1 }:={
  at_:=⟨hts,rfl,{ le:=Map.le_refl _,rel:=⟨hr.obj,hr.inj,fun b k e=>⟨Nat.lt_of_lt_of_le (hr.dom b k e).1 hT,(hr.dom b k e).2⟩,Nat.le_trans hr.rle hT,hr.fz,hr.own,hr.tip,hr.tinj,fun b m e=>Nat.lt_of_lt_of_le (hr.tdom b m e) hT⟩,next:=hT,ro:=rfl,fresh:=fun _ _ e=>.inl e,size:=Nat.le_refl _,frame:=fun _ _ _ _=>rfl,tfresh:=fun _ _ e=>.inl e,tlive:=fun _ _ _ e=>e,ffresh:=fun _ _ e _=>.inl e,os:=rfl,tape:=rfl,output:=rfl }⟩
  len:=by rw[h0]
  slotIn:=fun _ _ _ h=>h.elim
  slotOut:=fun _ _=>by rw[h0]
  closed:=fun _ h=>h.elim
  hp:=fun b=>⟨0,Nat.zero_le _,by rw[h0];rfl,fun j _ _=>⟨fun h=>h.elim,fun h=>by omega⟩⟩
  ask:=rfl
  holds:=hst
  next:=rfl
  ro:=by rw[h0]
  nm:=fun b k e=>.inl (by rw[h0];exact(hr.dom b k e).1) }
 refine qqd hL hS hH hgd (by rw[h0]) hr.rle h00 hF ?_ ops.size _ (List.range ops.size) (fun _=>False) _ _ φ a _ hI0 (by simp) (by simp) (fun j hj _=>List.mem_range.2 hj) (fun j hj=>by
  simp only[Array.getD_eq_getD_getElem?,false_iff]
  simp[hj])
 intro Dn ts' hd φ' a' w' hI hall
 have hgets:∀b,(r.st ops.size).h.get b=hd.get b:=by
  intro b
  obtain⟨k,h1,h2,h3⟩:=hI.hp b
  rw[h2]
  refine r.get_same hH h00 _ h1 (Nat.le_refl _) fun q hq1 hq2 hqk=>?_
  have:=(h3 q hq2 hqk).1 (hall q hq2)
  omega
 have hts':ts'=(r.st ops.size).ts:=by
  have hlen:=r.len_eq ops.size (Nat.le_refl _)
  refine List.ext_getElem (by rw[hI.len,hlen]) fun t h1 h2=>?_
  have hg:∀{l:List V}(h:t<l.length),getT l t=l[t]:=fun h=>by rw[qaQ,List.getElem?_eq_getElem h]
  rw[←hg h1,←hg h2]
  have ht:t<(r.st 0).ts.length:=by rw[←hI.len];exact h1
  by_cases hex:∃j,j<ops.size∧(r.o j).dst=some t
  ·obtain⟨j,hj,hjd⟩:=hex
   rw[hI.slotIn t j hj (hall j hj) hjd ht,r.after_slot hS hj hjd ht _ hj (Nat.le_refl _)]
  ·rw[hI.slotOut t fun q hq _ e=>hex ⟨q,hq,e⟩,r.before_slot (Nat.le_refl _) fun q hq e=>hex ⟨q,hq,e⟩]
 have hnr:=r.ros hH ops.size (Nat.le_refl _)
 rw[←hn]
 refine⟨rfl,φ',?_,?_,?_⟩
 ·rw[←hts'];exact hI.at_.ts
 ·rw[r.dfs_eq _ (Nat.le_refl _),h0,hI.at_.df]
  exact hmk.goes hr ((Goes.of_same (w':={ w with drawn:=w.drawn+1 }) hr (H.Same.refl _) rfl rfl rfl rfl).trans hI.at_.go)
 ·have hG:=hI.at_.go.regets (h2:=(r.st ops.size).h) hgets (by show _=hd.next;rw[hI.next]) (by show _=hd.ro;rw[hI.ro];exact hnr)
  exact(Goes.of_same (w':={ w with drawn:=w.drawn+1 }) hr (H.Same.refl _) rfl rfl rfl rfl).trans hG
end
theorem qjw{P:Program}(hm:P.follows .mixedOrders=true):qgA P (qfL P):=by
 intro L hL ops st st' e hh
 unfold qfL at e
 split at e
 ·rename_i hmx
  exact qqc hm hmx hL e hh
 ·exact qnU hm L hL ops st st' e hh
def qdj:Nat→Nat→List V→H→List V×H
 |0,_,ts,h=>(ts,h)
 |n+1,i,ts,h=>match qdi h (.int .i64) (getT ts i)with
  |some (d,ns)=>qdj n (i+1) (ts.set i (.vs (.int .i64) d .no)) (qaw ns h)
  |none=>qdj n (i+1) ts h
theorem qdQ:∀(n i:Nat)(ts:List V)(h:H),(qdj n i ts h).2.said=h.said
 |0,_,_,_=>rfl
 |n+1,i,ts,h=>by
  simp only[qdj]
  split
  ·rw[qdQ,qa9]
  ·exact qdQ _ _ _ _
theorem VRels.putI{φ:Map}{ts:List V}{rs:Array Value}{t:Nat}{v:V}(h:VRels φ ts rs.toList)(hv:VRel φ v (rs.getD t undef)):VRels φ (ts.set t v) rs.toList:=by
 refine VRels.of_get (by simp[h.length]) fun i u r hu hr=>?_
 rw[List.getElem?_set]at hu
 split at hu
 ·rename_i hti
  subst hti
  split at hu
  ·cases hu
   have:rs.getD t undef=r:=by
    have:rs[t]?=some r:=by simpa using hr
    simp[Array.getD_eq_getD_getElem?,this]
   rw[←this];exact hv
  ·cases hu
 ·obtain⟨x,hx,hv⟩:=h.get _ _ hu
  rw[hr]at hx
  cases hx
  exact hv
theorem qeC{w:World}{rs:Array Value}:∀(n i:Nat)(ts:List V)(h:H)(φ:Map),VRels φ ts rs.toList→HRel φ h w →
  ∃φ',VRels φ' (qdj n i ts h).1 rs.toList∧Goes φ h w φ' (qdj n i ts h).2 w
 |0,_,_,_,φ,hts,hr=>⟨φ,hts,Goes.refl hr⟩
 |n+1,i,ts,h,φ,hts,hr=>by
  simp only[qdj]
  split
  ·rename_i d ns hs
   have hv:=qbD hts i
   obtain⟨f',g,a,m,cap,hx,h3,h4⟩:=qc2 hs hv hr
   have hd':VRel { φ with fz:=f' } (.vs (.int .i64) d .no) (rs.getD i undef):=by
    rw[hx]
    exact .vs _ _ _ _ _ _ h3 h4 trivial
   obtain⟨φ2,q1,q2⟩:=qeC n (i+1) _ _ _ (VRels.putI (hts.mono g.le) hd') g.rel
   exact⟨φ2,q1,g.trans q2⟩
  ·exact qeC n (i+1) ts h φ hts hr
def qcS(st:S):S:=
 match qdj st.ts.length 0 st.ts st.h with
 |(ts,h)=>{ ts:=ts,dfs:=st.dfs,h:=h }
def qlj(P:Program):Draw:=fun L ops st=>
 match Nat.beq 1000000 st.h.ro with
 |false=>qfL P L ops st
 |true=>qfL P L ops (qcS st)
theorem qni{P:Program}(hm:P.follows .mixedOrders=true):qgA P (qlj P):=by
 intro L hL ops st st' e hh
 unfold qlj at e
 split at e
 ·exact qjw hm L hL ops st st' e hh
 ·obtain⟨k1,k2⟩:=qjw hm L hL ops (qcS st) st' e hh
  refine⟨fun p hp=>k1 p (by show p∈(qdj st.ts.length 0 st.ts st.h).2.said;rw[qdQ];exact hp),fun φ a w F n id hF hts hmk hr=>?_⟩
  obtain⟨φ1,q1,q2⟩:=qeC st.ts.length 0 st.ts st.h φ hts hr
  exact wpIn_mono (k2 φ1 a w F n id hF q1 (hmk.goes hr q2) q2.rel) fun _ _ _ p=>p.from q2
end Go.Vm
