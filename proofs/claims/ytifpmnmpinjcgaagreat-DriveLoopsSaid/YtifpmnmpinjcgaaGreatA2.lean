/- A machine over virtual values that stands for the model's: part 2. -/
import Derived.Test.YtifpmnmpinjcgaaGreatA1
import Derived.MapKept
import Derived.Laws.IdiomStrings
import Derived.Laws.IdiomRangeMap
import Derived.RangeFuncBound
import Derived.CallAlone
import Derived.LoopNIn
import Derived.RangeFuncCalls
set_option linter.unusedVariables false
set_option linter.unusedSimpArgs false

namespace Go.Vm
open Go
theorem LiesIn.append{α:Type}{D:α→List Value→Prop}{e:Nat}{l xs:List α}{c:Array Value}{off:Nat}(h:LiesIn D e l c off)(k:LiesIn D e xs c (off+l.length*e)):LiesIn D e (l++xs) c off:=by
 intro i d hi
 rcases Nat.lt_or_ge i l.length with hlt|hge
 ·rw[List.getElem?_append_left hlt]at hi
  exact h i d hi
 ·rw[List.getElem?_append_right hge]at hi
  obtain⟨cs,h1,h2,h3⟩:=k _ d hi
  refine⟨cs,h1,h2,fun j v e'=>?_⟩
  rw[←h3 j v e']
  have:i=l.length+(i-l.length):=by omega
  have h4:i*e=l.length*e+(i-l.length)*e:=by rw[←Nat.add_mul];congr 1
  congr 1;omega
theorem LiesIn.shift{α:Type}{D:α→List Value→Prop}{e:Nat}{l:List α}{c c':Array Value}{off off':Nat}(h:LiesIn D e l c off)(hc:∀(j:Nat)(v:Value),c[off+j]?=some v→c'[off'+j]?=some v):LiesIn D e l c' off':=by
 intro i d hi
 obtain⟨cs,h1,h2,h3⟩:=h i d hi
 refine⟨cs,h1,h2,fun j v e'=>?_⟩
 have:=hc (i*e+j) v (by rw[←Nat.add_assoc];exact h3 j v e')
 rw[←Nat.add_assoc]at this
 exact this
theorem Elems.lies{φ:Map}{t:Ty}{n:Nat}{q:Rows}{ns:List Value}(h:Elems φ t.cells n q ns){xs:List t.data}(hd:qbd t q=some xs):xs.length=n∧LiesIn (DRel φ.fz t) t.cells xs ns.toArray 0:=by
 obtain⟨h1,h2⟩:=qbA hd
 refine⟨by rw[←h1];exact h.len,fun i d hi=>?_⟩
 obtain⟨row,hrow,hdec⟩:=h2 i d hi
 obtain⟨k1,k2⟩:=h.rows i row hrow
 have hin:i<n:=by rw[←h.len];exact Rows.lt_len hrow
 obtain⟨rs,r1,r2,r3⟩:=qbH h.rows hrow 0 row.length (by omega)
 have hV:VRels φ row rs:=by simpa using r2
 have hD:=qeb hdec hV
 refine⟨rs,hD,hD.len,fun j v hj=>?_⟩
 have:=r3 j v hj
 rw[Nat.add_zero]at this
 rw[Nat.zero_add];exact this
theorem qfZ{t:Ty}{φ:Map}{n:Nat}{q:Rows}{ns:List Value}(h:Elems φ t.cells n q ns){xs:List t.data}(hd:qbd t q=some xs):∀u∈ns,u.oneCell'=true:=by
 intro u hu
 obtain⟨hl,hlies⟩:=h.lies hd
 obtain⟨j,hj,rfl⟩:=List.mem_iff_getElem.1 hu
 have hc:=h.cells
 have hs:0<t.cells:=by
  rcases Nat.eq_zero_or_pos t.cells with h0|h0
  ·rw[h0]at hc;omega
  ·exact h0
 have hi:j/t.cells<n:=by rw[Nat.div_lt_iff_lt_mul hs];omega
 have hd:xs[j/t.cells]?=some (xs[j/t.cells]'(by omega)):=by simp
 obtain⟨cs,c1,c2,c3⟩:=hlies _ _ hd
 have hm:=Nat.mod_lt j hs
 have hV:=c1.cellsV
 have hjj:j/t.cells*t.cells+j%t.cells=j:=by rw[Nat.mul_comm];exact Nat.div_add_mod j t.cells
 have hx:cs[j%t.cells]?=some (cs[j%t.cells]'(by omega)):=by simp
 have:=c3 _ _ hx
 rw[Nat.zero_add,hjj]at this
 simp only[List.getElem?_toArray,List.getElem?_eq_getElem hj,Option.some.injEq]at this
 rw[this]
 have hlen:=hV.length
 have hv:(cellsV t (xs[j/t.cells]'(by omega)))[j%t.cells]?=some ((cellsV t (xs[j/t.cells]'(by omega)))[j%t.cells]'(by omega)):=by simp
 obtain⟨y,hy,hr⟩:=hV.get _ _ hv
 rw[hx]at hy;cases hy
 exact qfh hr (qcj t _ _ (List.getElem_mem _))
theorem qb2{tip:Tip}{h h':H}(e:qdk tip h=some h'):h'.said=h.said∧h'.next=h.next:=by
 unfold qdk at e
 split at e
 ·cases e
 ·cases e;exact⟨rfl,rfl⟩
 ·cases e;exact⟨rfl,rfl⟩
 ·split at e
  ·split at e
   ·cases e;exact⟨by rw[H.kill_eq],by rw[H.kill_eq]⟩
   ·cases e
  ·cases e
 ·split at e
  ·split at e
   ·cases e;exact⟨by rw[H.kill_eq],by rw[H.kill_eq]⟩
   ·cases e
  ·cases e
theorem qfS{φ:Map}{tip:Tip}{h h':H}{w:World}(hr:HRel φ h w)(e:qdk tip h=some h'):Goes φ h w φ h' w:=by
 unfold qdk at e
 split at e
 ·cases e
 ·cases e;exact Goes.refl hr
 ·cases e;exact Goes.refl hr
 ·split at e
  ·split at e
   ·cases e
    exact Goes.drop hr (by rw[H.kill_eq]) (by rw[H.kill_eq]) (fun _ _ hx=>(H.get_kill hx).2)
   ·cases e
  ·cases e
 ·split at e
  ·split at e
   ·cases e
    exact Goes.drop hr (by rw[H.kill_eq]) (by rw[H.kill_eq]) (fun _ _ hx=>(H.get_kill hx).2)
   ·cases e
  ·cases e
section
variable {P:Program} {φ:Map} {w:World} {ts:Array TypeId} {ty t xt elem n m cap':Nat} {xd:TypeDesc} {base':Option Addr} {x:V} {x':Value} {args':Array Value} {h h':H} {v:V} {u:Ty} {l:List u.data} {tip:Tip}
theorem qck(e:qaD P elem u l tip x n h=some (v,h'))(hh:h'.Holds)(hs:VRel φ (.vs u l tip) (.slice base' m cap'))(hx:VRel φ x x')(hlx:lenV x=some n)(hn0:h.Holds→n≠0)(hr:HRel φ h w)
  (h0:ts[0]?=some t) (h1:ts[1]?=some xt) (a0:args'[0]?=some (.slice base' m cap')) (a1:args'[1]?=some x') (hu:P.underlying t=some (.slice elem)) (hux:P.underlying xt=some xd) (hxd:∀k,xd≠.int k)
  (hsz:qam P elem=some u.cells):
  h.Holds∧∃φ' w' r,(Builtin.append_ ts ty args').run P w=.ok r w'∧VRel φ' v r∧Goes φ h w φ' h' w':=by
 unfold qaD at e
 split at e
 ·rename_i i zs hi hzs
  split at e
  ·rename_i h2 ht
   split at e
   ·cases e
   ·rename_i q h3 e2
    split at e
    ·rename_i xs h4 hxs htg
     cases e
     obtain⟨sd,hnx⟩:=qb2 htg
     have hh3:h3.Holds:=by
      intro p hp
      exact H.push_holds hh p (by rw[sd];exact hp)
     obtain⟨hh2,s23⟩:=qav e2 hh3
     obtain⟨hh1,hb,s12'⟩:=H.test_holds ht hh2
     have s12:h.Same h2:=s12'
     have s13:h.Same h3:=s12.trans s23
     refine⟨hh1,?_⟩
     have hn0:=hn0 hh1
     simp only[Bool.and_eq_true]at hb
     have hb1:=Nat.le_of_ble_eq_true hb.1
     have hb2:=Nat.le_of_ble_eq_true hb.2
     have hn':=qdf (P:=P) hlx hx w
     have hold:elems h (.vs u l tip) u.cells=some (.ty u l,h):=by simp only[elems,Nat.beq_refl]
     have hrd:qbd u (.ty u l)=some l:=by simp only[qbd,Ty.eq?_self];rfl
     have hml:m=l.length:=by cases hs with|vs _ _ _ _ _ _ _ hsl _=>exact hsl.1
     subst hml
     by_cases hfit:l.length+n≤cap'
     ·
      obtain⟨_,_,ns,rns,ens⟩:=qbF (P:=P) e2 hh3 hlx hx (hr.same s12)
      obtain⟨hxl,hlies⟩:=ens.lies hxs
      have hone:=qfZ ens hxs
      cases hs with
      |vs _ _ _ _ _ _ hncap hsl htp=>
       have hcase:∃b mt,φ.tp b=some mt∧(match mt with
         |none=>cap'=l.length
         |some (blk,en,sz)=>∃off,base'=some ⟨blk,off,none⟩∧off+l.length*u.cells=en∧off+cap'*u.cells≤sz∧(qo8 tip=true→off=0))∧h3.get b=some .tip∧h3.ro≤b∧h4=h3.kill b:=by
        cases tip with
        |no=>cases htg
        |tight=>exact absurd hfit (by have:cap'=l.length:=htp;omega)
        |fresh=>exact absurd hfit (by have:l.length=0∧cap'=0:=htp;omega)
        |name b=>
         obtain⟨mt,hmt,hmt2⟩:=htp
         have hgone:h3.get b=some .tip∧h3.ro≤b∧h4=h3.kill b:=by
          simp only[qdk]at htg
          split at htg
          ·rename_i hg
           split at htg
           ·rename_i hro;cases htg;exact⟨hg,Nat.le_of_ble_eq_true hro,rfl⟩
           ·cases htg
          ·cases htg
         refine⟨b,mt,hmt,?_,hgone⟩
         cases mt with
         |none=>exact hmt2
         |some q=>obtain⟨off,q1,q2,q3⟩:=hmt2;exact⟨off,q1,q2,q3,fun e=>by cases e⟩
        |own b=>
         obtain⟨mt,hmt,hmt2⟩:=htp
         have hgone:h3.get b=some .tip∧h3.ro≤b∧h4=h3.kill b:=by
          simp only[qdk]at htg
          split at htg
          ·rename_i hg
           split at htg
           ·rename_i hro;cases htg;exact⟨hg,Nat.le_of_ble_eq_true hro,rfl⟩
           ·cases htg
          ·cases htg
         refine⟨b,mt,hmt,?_,hgone⟩
         cases mt with
         |none=>exact hmt2.2.trans hmt2.1.symm
         |some q=>obtain⟨off,q1,q2,q3,q4⟩:=hmt2;exact⟨off,q1,q2,q3,fun _=>q4⟩
       have hcase:=hcase
       obtain⟨b,mt,hmt,hmt2,hg,hro,rfl⟩:=hcase
       ·
        have hr3:=hr.same s13
        cases mt with
        |none=>exact absurd hfit (by have:cap'=l.length:=hmt2;omega)
        |some mt=>
         obtain⟨blk,en,sz⟩:=mt
         obtain⟨off,hbase,hen,hsz2,hown⟩:=hmt2
         subst hbase
         obtain⟨m0,hm0,hm1⟩:=hr3.tip b hg
         rw[hmt]at hm0;cases hm0
         obtain⟨⟨c,hc,hcs⟩,cs,tt,hhere,hcsz⟩:=hm1 blk en sz rfl
         have hnc:=ens.cells
         have hsum:l.length*u.cells+n*u.cells≤cap'*u.cells:=by rw[←Nat.add_mul];exact Nat.mul_le_mul_right _ hfit
         obtain⟨w',c',hrun,hw,hcl⟩:=qbj (P:=P) (k:=blk) (off:=off+l.length*u.cells) (t:=tt) ns 0 w cs hhere (by omega) hone
         have hbc:Begins c cs:=by
          obtain⟨cs2,t2,z2,g1,g2⟩:=hr3.fz blk c hc
          rw[hhere]at g1;cases g1
          exact g2
         have hc':∀j,c'[j]?=if j<en then cs[j]? else if j<en+ns.length then ns[j-en]? else cs[j]?:=by
          intro j
          rw[←Array.getElem?_toList,hcl]
          have hmin:min (off+l.length*u.cells) cs.size=en:=by omega
          simp only[Nat.add_zero]
          split
          ·rename_i hj
           rw[List.getElem?_append_left (by simp;omega),List.getElem?_take,if_pos (by omega)];simp
          ·rename_i hj
           rw[List.getElem?_append_right (by simp;omega)]
           simp only[List.length_take,Array.length_toList,hmin]
           split
           ·rename_i hj2
            rw[List.getElem?_append_left (by omega)]
           ·rename_i hj2
            rw[List.getElem?_append_right (by omega),List.getElem?_drop]
            simp only[Array.getElem?_toList]
            congr 1;omega
         have hc2:∀j:Nat,(c.toList++ns).toArray[j]?=if j<en then c[j]? else ns[j-en]?:=by
          intro j
          simp only[List.getElem?_toArray]
          split
          ·rename_i hj;rw[List.getElem?_append_left (by simp;omega)];simp
          ·rename_i hj;rw[List.getElem?_append_right (by simp;omega)];simp[hcs]
         have hbegin:Begins (c.toList++ns).toArray c':=by
          intro j v hj
          rw[hc2]at hj
          rw[hc']
          split
          ·rename_i hlt;rw[if_pos hlt]at hj;exact hbc j v hj
          ·rename_i hlt
           rw[if_neg hlt]at hj
           have:j-en<ns.length:=(List.getElem?_eq_some_iff.1 hj).1
           rw[if_pos (by omega)];exact hj
         have hbegin0:∀c0,φ.fz blk=some c0→Begins c0 (c.toList++ns).toArray:=by
          intro c0 e0
          rw[hc]at e0;cases e0
          intro j v hj
          have:j<c.size:=(Array.getElem?_eq_some_iff.1 hj).1
          rw[hc2,if_pos (by omega)];exact hj
         have g:=Goes.inTip hr3 hg hro hmt hw.here (by rw[hw.csize];exact hcsz) hbegin hbegin0 hw.size hw.other hw.os hw.tape hw.output
         have hle:=g.le
         have hsz3:(c.toList++ns).toArray.size=en+n*u.cells:=by simp[hcs,hnc]
         refine⟨_,w',.slice (some ⟨blk,off,none⟩) (l.length+n) cap',?_,?_,(Goes.of_same hr s13 rfl rfl rfl rfl).trans g⟩
         ·have:=qaC (P:=P) (ty:=ty) h0 h1 a0 a1 hu hux hxd hsz hn' hfit rns
          rw[this]
          have hadd:(⟨blk,off,none⟩:Addr).add (l.length*u.cells)=⟨blk,off+l.length*u.cells,none⟩:=by
           unfold Addr.add;split<;>simp_all
          simp only[hadd]
          rw[hrun];rfl
         ·refine .vs _ _ _ _ _ _ hfit ⟨by simp[hxl],.inr ⟨blk,off,(c.toList++ns).toArray,rfl,by simp[Map.tipped],by rw[hsz3];simp[hxl,Nat.add_mul];omega,?_⟩⟩ (TipRel.next (blk:=blk) (en:=(c.toList++ns).toArray.size) (sz:=sz) (off:=off) ?_ rfl (by rw[hsz3,Nat.add_mul];omega) hsz2 hown)
          ·refine LiesIn.append ?_ ?_
           ·rcases hsl.2 with h5|⟨b2,off2,c3,h5,h6,h7,h8⟩
            ·intro i d hi;rw[h5]at hi;simp at hi
            ·cases h5
             rw[hc]at h6;cases h6
             exact h8.mono (DRel.mono hle.fz u) (hbegin0 _ hc)
           ·refine(LiesIn.shift (D:=DRel φ.fz u) hlies (fun j v hj=>?_)).mono (DRel.mono hle.fz u) (Begins.refl _)
            rw[Nat.zero_add]at hj
            rw[hc2,if_neg (by omega),←hj]
            simp only[List.getElem?_toArray]
            congr 1;omega
          ·rw[show(h3.kill b).next=h3.next from by rw[H.kill_eq]]
           simp[Map.tipped]
     ·
      obtain⟨_,_,ns,rns,ens⟩:=qbF (P:=P) e2 hh3 hlx hx (hr.drew.same s12)
      obtain⟨hxl,hlies⟩:=ens.lies hxs
      obtain⟨_,_,os,ros,eos⟩:=qbF (P:=P) (n:=l.length) hold hh1 rfl hs hr.drew
      obtain⟨_,hlies0⟩:=eos.lies hrd
      obtain⟨z,rz,vz,lz⟩:=qa7 (φ:=φ) hzs w.drew
      obtain⟨nc,hnc,hrun⟩:=run_append_grow (P:=P) (ty:=ty) h0 h1 a0 a1 hu hux hxd hsz hn' hfit hi hb1 hb2 ros rns rz
      have g1:Goes φ h w φ h3 w.drew:=(Goes.of_same hr s13 rfl rfl rfl rfl).trans (Goes.drew (hr.same s13))
      have g2:=qfS g1.rel htg
      have hzl:z.cells.size=u.cells:=by have:=vz.length;simp at this;omega
      have hoc:=eos.cells
      have hnn:=ens.cells
      have hsize:(os.toArray++ns.toArray++Builtin.zeroCells z.cells (nc-(l.length+n))).size=nc*u.cells:=by
       simp only[Array.size_append,List.size_toArray,qa2,hoc,hnn,hzl]
       rw[←Nat.add_mul,←Nat.add_mul];congr 1;omega
      have hbegin:Begins (os.toArray++ns.toArray) (os.toArray++ns.toArray++Builtin.zeroCells z.cells (nc-(l.length+n))):=by
       intro j v hj
       have:j<(os.toArray++ns.toArray).size:=(Array.getElem?_eq_some_iff.1 hj).1
       rw[Array.getElem?_append_left this];exact hj
      have g3:=Goes.grow g2.rel (w':=w.drew.alloc (.cells (os.toArray++ns.toArray++Builtin.zeroCells z.cells (nc-(l.length+n))) elem)) rfl hbegin rfl rfl rfl
      have hle:=g3.le
      have hsz3:(os.toArray++ns.toArray).size=l.length*u.cells+n*u.cells:=by simp[hoc,hnn]
      refine⟨_,_,_,hrun,?_,(g1.trans g2).trans g3⟩
      refine .vs _ _ _ _ _ _ hnc ⟨by simp[hxl],.inr ⟨w.heap.size,0,os.toArray++ns.toArray,rfl,by simp[Map.tipped],by rw[hsz3];simp[hxl,Nat.add_mul],?_⟩⟩ (TipRel.next (blk:=w.heap.size) (en:=(os.toArray++ns.toArray).size) (sz:=nc*u.cells) (off:=0) ?_ rfl (by rw[hsz3,Nat.add_mul];omega) (by omega) (fun _=>rfl))
      ·refine LiesIn.append ?_ ?_
       ·refine(LiesIn.shift (D:=DRel φ.fz u) hlies0 (fun j v hj=>?_)).mono (DRel.mono hle.fz u) (Begins.refl _)
        have:0+j<os.toArray.size:=(Array.getElem?_eq_some_iff.1 hj).1
        rw[Array.getElem?_append_left this];exact hj
       ·refine(LiesIn.shift (D:=DRel φ.fz u) hlies (fun j v hj=>?_)).mono (DRel.mono hle.fz u) (Begins.refl _)
        rw[Array.getElem?_append_right (by simp;omega),←hj]
        congr 1;simp;omega
      ·simp only[Map.tipped,if_true]
       rw[hsize];rfl
    ·cases e
  ·cases e
 ·cases e
end
theorem Goes.retip{φ:Map}{h h':H}{w:World}{e:Nat}{tip:Tip}{a:Option Addr}{n cap:Nat}(hr:HRel φ h w)(htp:TipRel φ e tip a n cap)(hg:qdk tip h=some h'):
  ∃m,Goes φ h w { φ with tp:=fun d=>if d=h.next then some m else φ.tp d } (h'.push .tip) w∧TipRel { φ with tp:=fun d=>if d=h.next then some m else φ.tp d } e (qhk tip h.next) a n cap:=by
 have hnx:φ.tp h.next=none:=by
  cases e:φ.tp h.next with
  |none=>rfl
  |some m=>have:=hr.tdom _ _ e;omega
 have key:∃m,(∀ψ:Map,ψ.tp h.next=some m→TipRel ψ e (qhk tip h.next) a n cap)∧(∀q,m=some q→∃b,h.ro≤b∧h.get b=some .tip∧φ.tp b=some (some q)∧∀c x,h'.get c=some x→c≠b):=by
  unfold qdk at hg
  split at hg
  ·cases hg
  ·cases hg
   exact⟨none,fun ψ hψ=>⟨none,hψ,htp⟩,fun q hq=>by cases hq⟩
  ·cases hg
   exact⟨none,fun ψ hψ=>⟨none,hψ,htp⟩,fun q hq=>by cases hq⟩
  ·rename_i b
   split at hg
   ·rename_i hb
    split at hg
    ·rename_i hro
     cases hg
     obtain⟨m,h1,h2⟩:=htp
     exact⟨m,fun ψ hψ=>⟨m,hψ,h2⟩,fun q hq=>⟨b,Nat.le_of_ble_eq_true hro,hb,by rw[←hq];exact h1,fun c x hc=>(H.get_kill hc).1⟩⟩
    ·cases hg
   ·cases hg
  ·rename_i b
   split at hg
   ·rename_i hb
    split at hg
    ·rename_i hro
     cases hg
     obtain⟨m,h1,h2⟩:=htp
     exact⟨m,fun ψ hψ=>⟨m,hψ,h2⟩,fun q hq=>⟨b,Nat.le_of_ble_eq_true hro,hb,by rw[←hq];exact h1,fun c x hc=>(H.get_kill hc).1⟩⟩
    ·cases hg
   ·cases hg
 obtain⟨m,hm1,hm2⟩:=key
 have g0:=qfS hr hg
 obtain⟨_,hnext⟩:=qb2 hg
 have hr':=g0.rel
 have hle:φ.le { φ with tp:=fun d=>if d=h.next then some m else φ.tp d }:=⟨fun _ _ e=>e,Frozen.le_refl _,fun b q e=>by
  dsimp only
  have:=hr.tdom b q e
  rw[if_neg (by omega)];exact e,rfl⟩
 have hobj:∀b x,(h'.push .tip).get b=some x→x≠.tip→h'.get b=some x:=by
  intro b x hb hx
  rcases H.get_push hb with⟨_,e⟩|⟨_,hb⟩
  ·exact absurd e hx
  ·exact hb
 have hlook:∀b x k,(h'.push .tip).get b=some x→φ b=some k→h'.get b=some x:=by
  intro b x k hb hk
  rcases H.get_push hb with⟨e,_⟩|⟨_,hb⟩
  ·have:=(hr'.dom b k hk).1;omega
  ·exact hb
 have htip:∀b,(h'.push .tip).get b=some .tip→b=h.next∨(b≠h.next∧h'.get b=some .tip):=by
  intro b hb
  rcases H.get_push hb with⟨e,_⟩|⟨hne,hb⟩
  ·exact .inl (by omega)
  ·exact .inr ⟨by omega,hb⟩
 refine⟨m,?_,hm1 _ (by simp)⟩
 constructor
 ·exact hle
 ·constructor
  ·intro b x hb hx
   obtain⟨k,o,h4,h5,h6⟩:=hr'.obj b x (hobj b x hb hx) hx
   exact⟨k,o,h4,h5,h6.mono hle⟩
  ·intro b b' x x' k k' hb hb' hro hne hk hk'
   exact hr'.inj b b' x x' k k' (hlook b x k hb hk) (hlook b' x' k' hb' hk') hro hne hk hk'
  ·intro b k hk
   have:=hr'.dom b k hk
   simp only[H.push_eq];omega
  ·have:=hr'.rle
   simp only[H.push_eq];omega
  ·exact hr'.fz
  ·intro b x k hb hk
   exact hr'.own b x k (hlook b x k hb hk) hk
  ·intro b hb
   rcases htip b hb with rfl|⟨hne,hb⟩
   ·refine⟨m,by simp,fun blk en sz e=>?_⟩
    obtain⟨b0,_,hb0,hb1,_⟩:=hm2 _ e
    obtain⟨m0,h4,h5⟩:=hr.tip b0 hb0
    rw[hb1]at h4
    cases h4
    exact h5 blk en sz rfl
   ·obtain⟨m0,h4,h5⟩:=hr'.tip b hb
    exact⟨m0,by dsimp only;rw[if_neg hne];exact h4,h5⟩
  ·intro b b' q q' hb hb' hne e e'
   dsimp only at e e'
   rcases htip b hb with rfl|⟨hn,hb⟩
   ·rw[if_pos rfl]at e
    cases e
    obtain⟨b0,hro0,hb0,hb1,hb2⟩:=hm2 _ rfl
    rcases htip b' hb' with rfl|⟨hn',hb'⟩
    ·exact absurd rfl hne
    ·rw[if_neg hn']at e'
     have hb'':=g0.tlive b' _ e' hb'
     exact hr.tinj b0 b' q q' hb0 hb'' (fun e=>hb2 b' _ hb' e.symm) hb1 e'
   ·rw[if_neg hn]at e
    rcases htip b' hb' with rfl|⟨hn',hb'⟩
    ·rw[if_pos rfl]at e'
     cases e'
     obtain⟨b0,hro0,hb0,hb1,hb2⟩:=hm2 _ rfl
     have hb'':=g0.tlive b _ e hb
     exact fun hq=>hr.tinj b0 b q' q hb0 hb'' (fun e=>hb2 b _ hb e.symm) hb1 e hq.symm
    ·rw[if_neg hn']at e'
     exact hr'.tinj b b' q q' hb hb' hne e e'
  ·intro b q e
   dsimp only at e
   simp only[H.push_eq]
   split at e
   ·omega
   ·have:=hr'.tdom b q e;omega
 ·simp only[H.push_eq];omega
 ·rw[H.push_eq];exact g0.ro
 ·exact fun _ _ e=>.inl e
 ·exact Nat.le_refl _
 ·exact fun _ _ _ _=>rfl
 ·intro b q e
  dsimp only at e
  split at e
  ·cases e
   refine .inr ⟨by omega,fun q' hq'=>?_⟩
   obtain⟨b0,hro0,hb0,hb1,_⟩:=hm2 _ hq'
   exact .inr ⟨b0,q',hro0,hb0,hb1,rfl⟩
  ·exact .inl e
 ·intro b q e hb
  rcases htip b hb with rfl|⟨_,hb⟩
  ·rw[hnx]at e;cases e
  ·exact g0.tlive b _ e hb
 ·exact fun _ _ e _=>.inl e
 ·rfl
 ·rfl
 ·rfl
end Go.Vm

namespace Go.Vm
open Go
def qbO(P:Program)(bx:Bool)(elem:TypeId)(size:Nat)(s x:V)(base:Option VA)(sLen:Nat)(cap:Option Nat)(n:Nat)(h:H):Option (V×H):=
 match base with
 |some _=>qaK P elem size s x base sLen cap n h
 |none=>match bx with
  |true=>qaK P elem size s x base sLen cap n h
  |false=>match tyOf P 8 elem with
   |none=>qaK P elem size s x base sLen cap n h
   |some t=>match Nat.beq size t.cells with
    |false=>qaK P elem size s x base sLen cap n h
    |true=>match qaD P elem t [] .fresh x n h with
     |some r=>some r
     |none=>qaK P elem size s x base sLen cap n h
def qrL:V→Bool
 |.sl (some _) _ _=>true
 |_=>false
def qnq(h:H)(x:V):Bool:=
 match x with
 |.sl (some a) _ _=>match h.get a.b with
  |some (.box _ (.list (row::_)))=>row.any qrL
  |_=>false
 |_=>false
def qcp(P:Program)(elem:TypeId)(t:Ty)(l:List t.data)(tip:Tip)(x:V)(h:H):Option (V×H):=
 match qd1 h t x with
 |some (d,ns,h2)=>qaD P elem t l tip (.vs t d .no) d.length (qaw ns h2)
 |none=>none
def qew(P:Program)(elem:TypeId)(size:Nat)(x:V)(base:Option VA)(h:H):Option (V×H):=
 match base with
 |some _=>none
 |none=>match tyOf P 8 elem with
  |none=>none
  |some t=>match Nat.beq size t.cells with
   |false=>none
   |true=>qcp P elem t [] .fresh x h
def qpw:Bool:=true
def qdV(P:Program)(bx:Bool)(elem:TypeId)(size:Nat)(s x:V)(h:H):Option (V×H):=
 match bx,h.ask,x with
 |false,some _,.vs _ xs _=>match s with
  |.vs t l tip=>match Nat.beq size t.cells with
   |true=>qaD P elem t l tip x xs.length h
   |false=>none
  |.sl none _ _=>match tyOf P 8 elem with
   |none=>none
   |some t=>match Nat.beq size t.cells with
    |true=>qaD P elem t [] .fresh x xs.length h
    |false=>none
  |.sl (some a) m c=>match qpw with
   |true=>match h.get a.b with
    |some (.box _ (.list []))=>match m,c,a with
     |0,some 0,⟨b,_,0,0⟩=>qaK P elem size (.sl (some ⟨b,size,0,0⟩) 0 none) x (some ⟨b,size,0,0⟩) 0 none xs.length h
     |_,_,_=>none
    |_=>none
   |false=>match m,c with
    |0,some 0=>match tyOf P 8 elem with
     |none=>none
     |some t=>match Nat.beq size t.cells with
      |true=>qaD P elem t [] .fresh x xs.length h
      |false=>none
    |_,_=>none
  |_=>none
 |_,_,_=>none
def qeg(P:Program)(bx:Bool)(elem:TypeId)(size:Nat)(s x:V)(h:H):Option (V×H):=
 match s,lenV x with
 |.sl base sLen cap,some n=>
  match h.test (Nat.beq n 0)with
  |none=>none
  |some (true,h)=>some (s,h)
  |some (false,h)=>match bx,qnq h x with
   |true,_=>qbO P true elem size s x base sLen cap n h
   |false,false=>qbO P false elem size s x base sLen cap n h
   |false,true=>match qew P elem size x base h with
    |some r=>some r
    |none=>qbO P true elem size s x base sLen cap n h
 |.vs t l tip,some n=>
  match Nat.beq size t.cells with
  |false=>none
  |true=>match h.test (Nat.beq n 0)with
   |none=>none
   |some (true,h)=>some (s,h)
   |some (false,h)=>match qnq h x with
    |false=>qaD P elem t l tip x n h
    |true=>qcp P elem t l tip x h
 |_,_=>none
def qeR(P:Program)(bx:Bool)(elem:TypeId)(size:Nat)(s x:V)(h:H):Option (V×H):=
 match qdV P bx elem size s x h with
 |some r=>some r
 |none=>qeg P bx elem size s x h
def isInt:TypeDesc→Bool
 |.int _=>true
 |_=>false
def qrv(args:Array Operand):Bool:=
 match args.toList with
 |.const _::_=>true
 |_=>false
def bxOf(args:Array Operand)(h:H):Bool:=
 match h.ask with
 |none=>true
 |some _=>match qrv args with
  |true=>true
  |false=>Nat.beq 1000000 h.ro
def qgF(P:Program)(bx:Bool)(ts:Array TypeId)(args:List V)(h:H):Option (V×H):=
 match ts[0]?,ts[1]?,args with
 |some t,some xt,[s,x]=>
  match P.underlying t,P.underlying xt with
  |some (.slice elem),some xd=>
   match isInt xd,qam P elem with
   |false,some size=>qeR P bx elem size s x h
   |_,_=>none
  |_,_=>none
 |_,_,_=>none
end Go.Vm

namespace Go.Vm
open Go
section
variable {P:Program} {φ:Map} {w:World} {ts:Array TypeId} {ty t xt elem size:Nat} {xd:TypeDesc} {s x:V} {s' x':Value} {h h':H} {v:V}
theorem qhc{s:V}{sLen n:Nat}(e:qjX P elem size s x sLen n h=some (v,h'))(hh:h'.Holds):h.Holds:=by
 unfold qjX at e
 split at e
 ·split at e
  ·rename_i h4 ht4
   split at e
   ·cases e
   ·rename_i r h5 e1
    split at e
    ·cases e
    ·rename_i q h6 e2
     split at e
     ·cases e
      exact(H.test_holds ht4 (qav e1 (qav e2 (qd0 (H.push_holds hh))).1).1).1
     ·cases e
  ·cases e
 ·cases e
theorem qaU{base:Option VA}{sLen n:Nat}{cap:Option Nat}(e:qaK P elem size (.sl base sLen cap) x base sLen cap n h=some (v,h'))(hh:h'.Holds)(hs:VRel φ (.sl base sLen cap) s')(hx:VRel φ x x')(hlx:lenV x=some n)(hr:HRel φ h w)
  (h0:ts[0]?=some t) (h1:ts[1]?=some xt) (hu:P.underlying t=some (.slice elem)) (hux:P.underlying xt=some xd) (hxd:∀k,xd≠.int k) (hsz:qam P elem=some size):
  h.Holds∧∃φ' w' r,(Builtin.append_ ts ty #[s',x']).run P w=.ok r w'∧VRel φ' v r∧Goes φ h w φ' h' w':=by
 unfold qaK at e
 split at e
 ·rename_i c
  split at e
  ·rename_i h3 ht2
   have s3:h.Same h3:=H.test_eqs ht2
   have key:∀base' cap',s'=.slice base' sLen cap'→h3.Holds→c=cap'→¬sLen+n≤cap':=by
    intro base' cap' _ hh3 hc hle
    obtain⟨_,q2,_⟩:=H.test_holds ht2 hh3
    have:=Nat.ble_eq_true_of_le (hc▸hle)
    rw[q2]at this;cases this
   have hh3:h3.Holds:=qhc e hh
   obtain⟨q1,q2,q3⟩:=H.test_holds ht2 hh3
   refine⟨q1,?_⟩
   have hsv:=hs
   cases hsv with
   |slNil _ hc=>
    obtain⟨_,φ',w',r,g1,g2,g3⟩:=qgV (P:=P) (φ:=φ) (ty:=ty) (w:=w) (args':=#[_,x']) e hh hs hx hlx (hr.same s3) h0 h1 rfl rfl hu hux hxd hsz (fun h=>by cases h)
     (fun _=>key _ _ rfl hh3 (hc c rfl))
    exact⟨φ',w',r,g1,g2,(Goes.of_same hr s3 rfl rfl rfl rfl).trans g3⟩
   |sl a k _ cap' _ hk hl hc hz=>
    obtain⟨_,φ',w',r,g1,g2,g3⟩:=qgV (P:=P) (φ:=φ) (ty:=ty) (w:=w) (args':=#[_,x']) e hh hs hx hlx (hr.same s3) h0 h1 rfl rfl hu hux hxd hsz (fun h=>by cases h)
     (fun _=>key _ _ rfl hh3 (hc c rfl))
    exact⟨φ',w',r,g1,g2,(Goes.of_same hr s3 rfl rfl rfl rfl).trans g3⟩
  ·cases e
 ·split at e
  ·cases e
  ·rename_i a
   split at e
   ·rename_i hcond
    simp only[Bool.and_eq_true]at hcond
    obtain⟨⟨⟨c1,c2⟩,c3⟩,c4⟩:=hcond
    refine⟨qhc e hh,?_⟩
    have hsv:=hs
    cases hsv with
    |sl _ k _ cap' _ hk hl hc hz=>
     obtain⟨_,φ',w',r,g1,g2,g3⟩:=qgV (P:=P) (φ:=φ) (ty:=ty) (w:=w) (args':=#[_,x']) e hh hs hx hlx hr h0 h1 rfl rfl hu hux hxd hsz
      (fun _=>⟨a,rfl,Nat.eq_of_beq_eq_true c1,Nat.eq_of_beq_eq_true c2,Nat.eq_of_beq_eq_true c3,Nat.le_of_ble_eq_true c4⟩) (fun h=>absurd rfl h)
     exact⟨φ',w',r,g1,g2,g3⟩
   ·cases e
theorem qcU{bx:Bool}{base:Option VA}{sLen n:Nat}{cap:Option Nat}(e:qbO P bx elem size (.sl base sLen cap) x base sLen cap n h=some (v,h'))(hh:h'.Holds)(hs:VRel φ (.sl base sLen cap) s')(hx:VRel φ x x')(hlx:lenV x=some n)(hn0:h.Holds→n≠0)(hr:HRel φ h w)
  (h0:ts[0]?=some t) (h1:ts[1]?=some xt) (hu:P.underlying t=some (.slice elem)) (hux:P.underlying xt=some xd) (hxd:∀k,xd≠.int k) (hsz:qam P elem=some size):
  h.Holds∧∃φ' w' r,(Builtin.append_ ts ty #[s',x']).run P w=.ok r w'∧VRel φ' v r∧Goes φ h w φ' h' w':=by
 unfold qbO at e
 split at e
 ·exact qaU e hh hs hx hlx hr h0 h1 hu hux hxd hsz
 ·split at e
  ·exact qaU e hh hs hx hlx hr h0 h1 hu hux hxd hsz
  split at e
  ·exact qaU e hh hs hx hlx hr h0 h1 hu hux hxd hsz
  ·rename_i u _
   split at e
   ·exact qaU e hh hs hx hlx hr h0 h1 hu hux hxd hsz
   ·rename_i hst
    have hst':=Nat.eq_of_beq_eq_true hst
    subst hst'
    split at e
    ·rename_i r hr2
     cases e
     cases hs with
     |slNil _ hc=>
      exact qck (tip:=.fresh) (m:=0) (cap':=0) (base':=none) hr2 hh (.vs u [] .fresh none 0 0 (Nat.le_refl _) ⟨rfl,.inl rfl⟩ ⟨rfl,rfl⟩) hx hlx hn0 hr h0 h1 rfl rfl hu hux hxd hsz
    ·exact qaU e hh hs hx hlx hr h0 h1 hu hux hxd hsz
theorem qhb{u:Ty}{l:List u.data}{tip:Tip}{n:Nat}(e:qaD P elem u l tip x n h=some (v,h'))(hh:h'.Holds):h.Holds:=by
 unfold qaD at e
 split at e
 ·split at e
  ·rename_i ht
   split at e
   ·cases e
   ·rename_i e1
    split at e
    ·rename_i htg
     cases e
     have k1:=H.push_holds hh
     have k2:∀p,p∈_→_:=fun p hp=>k1 p (by rw[(qb2 htg).1];exact hp)
     exact(H.test_holds ht (qav e1 k2).1).1
    ·cases e
  ·cases e
 ·cases e
theorem qer{u:Ty}{l:List u.data}{tip:Tip}{n:Nat}{size:Nat}(hcz:u.cells=size)(e:qcp P elem u l tip x h=some (v,h'))(hh:h'.Holds)(hs:VRel φ (.vs u l tip) s')(hx:VRel φ x x')(hlx:lenV x=some n)(hn0:h.Holds→n≠0)(hr:HRel φ h w)
  (h0:ts[0]?=some t) (h1:ts[1]?=some xt) (hu:P.underlying t=some (.slice elem)) (hux:P.underlying xt=some xd) (hxd:∀k,xd≠.int k) (hsz:qam P elem=some size):
  h.Holds∧∃φ' w' r,(Builtin.append_ ts ty #[s',x']).run P w=.ok r w'∧VRel φ' v r∧Goes φ h w φ' h' w':=by
 subst hcz
 unfold qcp at e
 split at e
 ·rename_i d ns h2 hst
  have hk:∀p:(qaw ns h2).Holds,h2.Holds:=fun p q hq=>p q (by rw[qa9];exact hq)
  have hk2:h2.Holds:=hk (qhb e hh)
  obtain⟨hh0,f',g,a,n',cap,hx',h3,h4⟩:=qeG hst hk2 hx hr
  subst hx'
  have hn':n=d.length:=by
   have k1:=qdf (P:=P) hlx hx w
   have k2:(Builtin.lenOf (.slice a n' cap)).run P w=.ok n' w:=rfl
   rw[k2]at k1
   cases k1
   exact h4.1
  have hd:VRel { φ with fz:=f' } (.vs u d .no) (.slice a n' cap):=.vs _ _ _ _ _ _ h3 h4 trivial
  have hs1:=hs.mono g.le
  cases hs1 with
  |vs _ _ _ a1 m1 cap1 hm1 hsl1 htp1=>
   obtain⟨q1,φ',w',r,g1,g2,g3⟩:=qck (P:=P) (ty:=ty) (args':=#[_,_]) e hh (.vs u l tip a1 m1 cap1 hm1 hsl1 htp1) hd rfl (fun p=>by rw[←hn'];exact hn0 hh0) g.rel h0 h1 rfl rfl hu hux hxd hsz
   exact⟨hh0,φ',w',r,g1,g2,g.trans g3⟩
 ·cases e
theorem qhq{bx:Bool}(e:qeg P bx elem size s x h=some (v,h'))(hh:h'.Holds)(hs:VRel φ s s')(hx:VRel φ x x')(hr:HRel φ h w)
  (h0:ts[0]?=some t) (h1:ts[1]?=some xt) (hu:P.underlying t=some (.slice elem)) (hux:P.underlying xt=some xd) (hxd:∀k,xd≠.int k) (hsz:qam P elem=some size):
  h.Holds∧∃φ' w' r,(Builtin.append_ ts ty #[s',x']).run P w=.ok r w'∧VRel φ' v r∧Goes φ h w φ' h' w':=by
 have hnew:lenV x=some 0→(Builtin.firstCells size 0 x').run P w=.ok #[] w:=by
  intro hlx
  cases hx<;>simp only[lenV,Option.some.injEq]at hlx<;>first|(cases hlx;done)|skip
  ·simp[Builtin.firstCells]
  ·rfl
  ·simp[Builtin.firstCells,loadCells,loadCellsFrom]
  ·rename_i a _ _ _ _ _
   cases a with
   |none=>rfl
   |some a=>simp[Builtin.firstCells,loadCells,loadCellsFrom]
 unfold qeg at e
 split at e
 ·rename_i base sLen cap n hlx
  split at e
  ·cases e
  ·
   rename_i h2 ht
   cases e
   obtain⟨q1,q2,q3⟩:=H.test_holds ht hh
   have hn0:n=0:=Nat.eq_of_beq_eq_true q2
   subst hn0
   refine⟨q1,φ,w,s',?_,hs,Goes.of_same hr q3 rfl rfl rfl rfl⟩
   have hn':=qdf (P:=P) hlx hx w
   cases hs with
   |slNil=>
    rw[qaC (P:=P) (ty:=ty) h0 h1 (args:=#[_,x']) rfl rfl hu hux hxd hsz hn' (Nat.le_refl _) (hnew hlx)]
    rfl
   |sl a k _ cap' _ hk hl hc hz=>
    rw[qaC (P:=P) (ty:=ty) h0 h1 (args:=#[_,x']) rfl rfl hu hux hxd hsz hn' hl (hnew hlx)]
    rfl
  ·rename_i h2 ht
   have s2:h.Same h2:=H.test_eqs ht
   have hn0:h2.Holds→n≠0:=by
    intro hh2 e0
    obtain⟨_,q2,_⟩:=H.test_holds ht hh2
    subst e0
    cases q2
   have key:h2.Holds∧∃φ' w' r,(Builtin.append_ ts ty #[s',x']).run P w=.ok r w'∧VRel φ' v r∧Goes φ h2 w φ' h' w':=by
    split at e
    ·exact qcU (P:=P) (ty:=ty) e hh hs hx hlx hn0 (hr.same s2) h0 h1 hu hux hxd hsz
    ·exact qcU (P:=P) (ty:=ty) e hh hs hx hlx hn0 (hr.same s2) h0 h1 hu hux hxd hsz
    ·split at e
     ·rename_i r1 hr1
      cases e
      unfold qew at hr1
      split at hr1
      ·cases hr1
      ·split at hr1
       ·cases hr1
       ·rename_i u1 _
        split at hr1
        ·cases hr1
        ·rename_i hcz
         have hcz':=Nat.eq_of_beq_eq_true hcz
         cases hs with
         |slNil _ hc=>
          exact qer (P:=P) (ty:=ty) (tip:=.fresh) hcz'.symm hr1 hh (.vs u1 [] .fresh none 0 0 (Nat.le_refl _) ⟨rfl,.inl rfl⟩ ⟨rfl,rfl⟩) hx hlx hn0 (hr.same s2) h0 h1 hu hux hxd hsz
     ·exact qcU (P:=P) (ty:=ty) e hh hs hx hlx hn0 (hr.same s2) h0 h1 hu hux hxd hsz
   obtain⟨q1,φ',w',r,g1,g2,g3⟩:=key
   exact⟨(H.test_holds ht q1).1,φ',w',r,g1,g2,(Goes.of_same hr s2 rfl rfl rfl rfl).trans g3⟩
 ·rename_i u l tip n hlx
  split at e
  ·cases e
  ·rename_i hst
   have hst':=Nat.eq_of_beq_eq_true hst
   subst hst'
   split at e
   ·cases e
   ·rename_i h2 ht
    cases e
    obtain⟨q1,q2,q3⟩:=H.test_holds ht hh
    have hn0:n=0:=Nat.eq_of_beq_eq_true q2
    subst hn0
    refine⟨q1,φ,w,s',?_,hs,Goes.of_same hr q3 rfl rfl rfl rfl⟩
    have hn':=qdf (P:=P) hlx hx w
    cases hs with
    |vs _ _ _ a m cap hm hsl htp=>
     rw[qaC (P:=P) (ty:=ty) h0 h1 (args:=#[_,x']) rfl rfl hu hux hxd hsz hn' hm (hnew hlx)]
     cases a<;>rfl
   ·rename_i h2 ht
    have s2:h.Same h2:=H.test_eqs ht
    cases hs with
    |vs _ _ _ a m cap hm hsl htp=>
     have hn0:h2.Holds→n≠0:=by
      intro hh2 e0
      obtain⟨_,q2,_⟩:=H.test_holds ht hh2
      subst e0
      cases q2
     have key:h2.Holds∧∃φ' w' r,(Builtin.append_ ts ty #[.slice a m cap,x']).run P w=.ok r w'∧VRel φ' v r∧Goes φ h2 w φ' h' w':=by
      split at e
      ·exact qck (P:=P) (ty:=ty) (args':=#[_,x']) e hh (.vs u l tip a m cap hm hsl htp) hx hlx hn0 (hr.same s2) h0 h1 rfl rfl hu hux hxd hsz
      ·exact qer (P:=P) (ty:=ty) rfl e hh (.vs u l tip a m cap hm hsl htp) hx hlx hn0 (hr.same s2) h0 h1 hu hux hxd hsz
     obtain⟨q1,φ',w',r,g1,g2,g3⟩:=key
     exact⟨(H.test_holds ht q1).1,φ',w',r,g1,g2,(Goes.of_same hr s2 rfl rfl rfl rfl).trans g3⟩
 ·cases e
theorem qhh(hlx:lenV x=some 0)(hx:VRel φ x x'):(Builtin.firstCells size 0 x').run P w=.ok #[] w:=by
 cases hx<;>simp only[lenV,Option.some.injEq]at hlx<;>first|(cases hlx;done)|skip
 ·simp[Builtin.firstCells]
 ·rfl
 ·simp[Builtin.firstCells,loadCells,loadCellsFrom]
 ·rename_i a _ _ _ _ _
  cases a with
  |none=>rfl
  |some a=>simp[Builtin.firstCells,loadCells,loadCellsFrom]
theorem qdu{u u2:Ty}{l:List u.data}{xs:List u2.data}{tip tip2:Tip}{base':Option Addr}{m cap':Nat}(e:qaD P elem u l tip (.vs u2 xs tip2) xs.length h=some (v,h'))(hh:h'.Holds)(hs:VRel φ (.vs u l tip) (.slice base' m cap'))(hx:VRel φ (.vs u2 xs tip2) x')(hr:HRel φ h w)
  (h0:ts[0]?=some t) (h1:ts[1]?=some xt) (hu:P.underlying t=some (.slice elem)) (hux:P.underlying xt=some xd) (hxd:∀k,xd≠.int k) (hsz:qam P elem=some u.cells):
  h.Holds∧∃φ' w' r,(Builtin.append_ ts ty #[.slice base' m cap',x']).run P w=.ok r w'∧VRel φ' v r∧Goes φ h w φ' h' w':=by
 by_cases hn:xs.length=0
 ·have hn':xs=[]:=List.eq_nil_of_length_eq_zero hn
  subst hn'
  have hlx:lenV (.vs u2 [] tip2)=some 0:=rfl
  have hrun:=qdf (P:=P) hlx hx w
  have hcells:=qhh (P:=P) (w:=w) (size:=u.cells) hlx hx
  unfold qaD at e
  split at e
  ·split at e
   ·rename_i h2 ht
    split at e
    ·cases e
    ·rename_i q h3 e2
     split at e
     ·rename_i ys h4 hxs htg
      cases e
      obtain⟨sd,hnx⟩:=qb2 htg
      have hh3:h3.Holds:=fun p hp=>H.push_holds hh p (by rw[sd];exact hp)
      obtain⟨hh2,s23⟩:=qav e2 hh3
      obtain⟨hh1,_,s12⟩:=H.test_holds ht hh2
      have s13:h.Same h3:=H.Same.trans s12 s23
      refine⟨hh1,?_⟩
      have hys:ys=[]:=by
       simp only[elems]at e2
       split at e2
       ·cases e2
        simp only[qbd]at hxs
        have cast0:∀{a b:Ty}(hq:PLift (a=b)),Ty.castL hq []=[]:=by
         intro a b hq
         obtain⟨hq⟩:=hq
         subst hq;rfl
        split at hxs
        ·simp only[Option.some.injEq]at hxs
         rw[←hxs]
         exact cast0 _
        ·cases hxs
       ·cases e2
      subst hys
      cases hs with
      |vs _ _ _ _ _ _ hm hsl htp=>
       obtain⟨mm,g,htp'⟩:=Goes.retip (hr.same s13) htp htg
       refine⟨_,w,.slice base' m cap',?_,?_,(Goes.of_same hr s13 rfl rfl rfl rfl).trans g⟩
       ·rw[qaC (P:=P) (ty:=ty) h0 h1 (args:=#[_,x']) rfl rfl hu hux hxd hsz hrun hm hcells]
        cases base'<;>rfl
       ·rw[hnx]
        exact .vs _ _ _ _ _ _ hm (by rw[List.append_nil];exact hsl) htp'
     ·cases e
   ·cases e
  ·cases e
 ·exact qck (P:=P) (ty:=ty) (args':=#[_,x']) e hh hs hx rfl (fun _=>hn) hr h0 h1 rfl rfl hu hux hxd hsz
theorem qis{bx:Bool}(e:qeR P bx elem size s x h=some (v,h'))(hh:h'.Holds)(hs:VRel φ s s')(hx:VRel φ x x')(hr:HRel φ h w)
  (h0:ts[0]?=some t) (h1:ts[1]?=some xt) (hu:P.underlying t=some (.slice elem)) (hux:P.underlying xt=some xd) (hxd:∀k,xd≠.int k) (hsz:qam P elem=some size):
  h.Holds∧∃φ' w' r,(Builtin.append_ ts ty #[s',x']).run P w=.ok r w'∧VRel φ' v r∧Goes φ h w φ' h' w':=by
 unfold qeR at e
 split at e
 ·rename_i r hw
  cases e
  unfold qdV at hw
  split at hw
  ·split at hw
   ·split at hw
    ·rename_i hz
     have hz:=Nat.eq_of_beq_eq_true hz
     subst hz
     cases hs with
     |vs _ _ _ a m cap hm hsl htp=>exact qdu (P:=P) (ty:=ty) hw hh (.vs _ _ _ a m cap hm hsl htp) hx hr h0 h1 hu hux hxd hsz
    ·cases hw
   ·split at hw
    ·cases hw
    ·split at hw
     ·rename_i hz
      have hz:=Nat.eq_of_beq_eq_true hz
      subst hz
      cases hs with
      |slNil _ hc=>exact qdu (P:=P) (ty:=ty) hw hh (.vs _ [] .fresh none 0 0 (Nat.le_refl _) ⟨rfl,.inl rfl⟩ ⟨rfl,rfl⟩) hx hr h0 h1 hu hux hxd hsz
     ·cases hw
   ·split at hw
    ·split at hw
     ·split at hw
      ·cases hs with
       |sl _ k _ cap' _ hk hl hc _=>
        have:=hc 0 rfl
        subst this
        rename_i b e0 _ _
        have heq:(⟨b,e0,0,0⟩:VA).real k=(⟨b,size,0,0⟩:VA).real k:=by simp[VA.real]
        rw[heq]
        exact qaU (P:=P) (ty:=ty) hw hh (.sl (⟨b,size,0,0⟩:VA) k 0 0 none hk (Nat.le_refl _) (fun _ h=>by cases h) (fun _=>⟨rfl,by simp⟩)) hx rfl hr h0 h1 hu hux hxd hsz
      ·cases hw
     ·cases hw
    ·split at hw
     ·split at hw
      ·cases hw
      ·split at hw
       ·rename_i hz
        have hz:=Nat.eq_of_beq_eq_true hz
        subst hz
        cases hs with
        |sl _ k _ cap' _ hk hl hc _=>
         have:=hc 0 rfl
         subst this
         exact qdu (P:=P) (ty:=ty) hw hh (.vs _ [] .fresh _ 0 0 (Nat.le_refl _) ⟨rfl,.inl rfl⟩ ⟨rfl,rfl⟩) hx hr h0 h1 hu hux hxd hsz
       ·cases hw
     ·cases hw
   ·cases hw
  ·cases hw
 ·exact qhq (P:=P) (ty:=ty) e hh hs hx hr h0 h1 hu hux hxd hsz
end
theorem qkN{P:Program}{bx:Bool}{φ:Map}{w:World}{ts:Array TypeId}{ty:TypeId}{args:List V}{args':Array Value}{h h':H}{v:V}(e:qgF P bx ts args h=some (v,h'))(hh:h'.Holds)(ha:VRels φ args args'.toList)(hr:HRel φ h w):
  h.Holds∧∃φ' w' r,(Builtin.append_ ts ty args').run P w=.ok r w'∧VRel φ' v r∧Goes φ h w φ' h' w':=by
 unfold qgF at e
 split at e
 ·rename_i t xt s x h0 h1
  obtain⟨args'⟩:=args'
  cases ha with
  |@cons _ s' _ _ hs ha=>
   cases ha with
   |@cons _ x' _ _ hx ha=>
    cases ha
    split at e
    ·rename_i elem xd hu hux
     split at e
     ·rename_i size hxi hsz
      exact qis e hh hs hx hr h0 h1 hu hux (fun k hk=>by rw[hk]at hxi;cases hxi) hsz
     ·cases e
    ·cases e
 ·cases e
def flat:Rows→Option (List V)
 |.list l=>some l.flatten
 |.fn _ _=>none
 |.ty t l=>some (l.map (cellsV t)).flatten
def cutV(x:V)(n:Nat):V:=
 match x with
 |.sl a _ c=>.sl a n c
 |.str s=>.str (s.extract 0 n)
 |.vs t l _=>.vs t (l.take n) .no
 |x=>x
theorem qjV{φ:Map}{size:Nat}:∀(l:List (List V))(rs:List Value),RowsIn φ size (.list l) rs.toArray→rs.length=l.length*size→VRels φ l.flatten rs:=by
 intro l
 induction l with
 |nil=>intro rs _ hl;have:rs=[]:=List.eq_nil_of_length_eq_zero (by simpa using hl);subst this;exact .nil
 |cons row l ih=>
  intro rs hri hl
  simp only[List.length_cons,Nat.add_mul]at hl
  have h0:=hri 0 row rfl
  have hsplit:rs=rs.take size++rs.drop size:=(List.take_append_drop size rs).symm
  rw[hsplit,List.flatten_cons]
  refine VRels.append ?_ (ih _ ?_ (by simp;omega))
  ·refine VRels.of_get (by simp;omega) fun i v r hv hr'=>?_
   obtain⟨x,hx,hvx⟩:=h0.2 i v hv
   rw[List.getElem?_take]at hr'
   split at hr'
   ·simp only[List.getElem?_toArray,Nat.zero_mul,Nat.zero_add]at hx
    rw[hx]at hr';cases hr';exact hvx
   ·cases hr'
  ·intro i row' hrow
   obtain⟨q1,q2⟩:=hri (i+1) row' (by simpa[Rows.get]using hrow)
   refine⟨q1,fun o v hv=>?_⟩
   obtain⟨x,hx,hvx⟩:=q2 o v hv
   refine⟨x,?_,hvx⟩
   simp only[List.getElem?_toArray]at hx ⊢
   rw[List.getElem?_drop,←hx]
   congr 1
   rw[Nat.add_mul];omega
theorem qpv{φ:Map}{size n:Nat}{r:Rows}{rs:List Value}(h:Elems φ size n r rs){cs:List V}(e:flat r=some cs):VRels φ cs rs:=by
 have hl:=h.len
 cases r with
 |fn _ _=>cases e
 |ty t l=>
  simp only[flat,Option.some.injEq]at e
  subst e
  simp only[Rows.len]at hl
  refine qjV (l.map (cellsV t)) rs (fun i row hrow=>?_) (by rw[List.length_map,hl];exact h.cells)
  refine h.rows i row ?_
  simpa[Rows.get,List.getElem?_map]using hrow
 |list l=>
  simp only[flat,Option.some.injEq]at e
  subst e
  simp only[Rows.len]at hl
  exact qjV l rs h.rows (by rw[hl];exact h.cells)
def qlE(b:Bool)(m d:Nat):Nat:=match b with|true=>m|false=>d
def qfy(c:Nat):Nat→Nat→H→Option (Nat×H)
 |0,_,_=>none
 |f+1,k,h=>match h.test (Nat.beq c k)with
  |some (true,h)=>some (k,h)
  |some (false,h)=>qfy c f (k+1) h
  |none=>none
theorem qhK{c:Nat}:∀{f k:Nat}{h h':H}{n:Nat},qfy c f k h=some (n,h')→h'.Holds→h.Holds∧n=c∧h.Same h'
 |0,_,_,_,_,e,_=>by cases e
 |f+1,k,h,h',n,e,hh=>by
  simp only[qfy]at e
  split at e
  ·rename_i h1 ht
   cases e
   obtain⟨h2,h3,h4⟩:=H.test_holds ht hh
   exact⟨h2,(Nat.eq_of_beq_eq_true h3).symm,h4⟩
  ·rename_i h1 ht
   obtain⟨q1,q2,q3⟩:=qhK e hh
   obtain⟨h2,h3,h4⟩:=H.test_holds ht q1
   exact⟨h2,q2,H.Same.trans h4 q3⟩
  ·cases e
def qqL(k:Nat):Rows→Option (List V)
 |.list l=>some l.flatten
 |.fn _ _=>none
 |.ty t l=>some ((List.range k).map fun j=>cellsV t (l.getD j t.dflt)).flatten
theorem qm7{φ:Map}{size n:Nat}{r:Rows}{rs:List Value}(h:Elems φ size n r rs){cs:List V}(e:qqL n r=some cs):VRels φ cs rs:=by
 refine qpv h ?_
 cases r with
 |list l=>exact e
 |fn _ _=>exact e
 |ty t l=>
  rw[←e]
  simp only[flat,qqL]
  congr 2
  have hl:l.length=n:=h.len
  apply List.ext_getElem?
  intro i
  rw[List.getElem?_map,List.getElem?_map]
  rcases Nat.lt_or_ge i n with hi|hi
  ·rw[List.getElem?_range hi]
   simp[List.getD,List.getElem?_eq_getElem (show i<l.length by omega)]
  ·rw[List.getElem?_eq_none (by omega),List.getElem?_eq_none (by simpa using hi)]
   rfl
def qrz(h:H)(a:VA):Nat:=
 match h.get a.b with
 |some (.box _ r)=>match r.get a.i with
  |some row=>row.length-a.o
  |none=>0
 |_=>0
def qea(h:H)(a:VA)(e:Nat)(t:Ty)(l:List t.data)(r:Rows)(size c:Nat):Option H:=
 match qbd t r with
 |none=>none
 |some xs=>match h.test (Nat.ble (a.i+c) l.length)with
  |some (true,h)=>match Nat.beq e a.e,Nat.beq e size,Nat.beq t.cells size,a.o,Nat.ble h.ro a.b with
   |true,true,true,0,true=>some (h.set a.b (.box e (.ty t (l.take a.i++(xs++l.drop (a.i+c))))))
   |_,_,_,_,_=>none
  |_=>none
def qgq(a:VA)(x:V)(size c:Nat)(h:H):Option (V×H):=
 match h.get a.b with
 |some (.box e (.ty t l))=>match elems h (cutV x c) size with
  |none=>none
  |some (r,h)=>match qea h a e t l r size c with
   |some h=>some (.int .i64 (c:Nat),h)
   |none=>none
 |_=>match qfy c (qrz h a+1) 0 h with
  |none=>none
  |some (k,h)=>match elems h (cutV x k) size with
   |none=>none
   |some (r,h)=>match qqL k r with
    |none=>none
    |some cs=>match vput h a cs with
     |some h=>some (.int .i64 (k:Nat),h)
     |none=>none
def qkV(P:Program)(ts:Array TypeId)(args:List V)(h:H):Option (V×H):=
 match ts[0]?,args with
 |some t,[.sl (some a) dLen _,x]=>
  match P.underlying t with
  |some (.slice elem)=>
   match qam P elem,lenV x with
   |some size,some m=>
    match h.test (Nat.ble m dLen)with
    |none=>none
    |some (true,h)=>qgq a x size m h
    |some (false,h)=>qgq a x size dLen h
   |_,_=>none
  |_=>none
 |_,_=>none
theorem qlV(P:Program)(ts:Array TypeId)(args:List V)(h:H):qkV P ts args h =
 match ts[0]?,args with
 |some t,[.sl (some a) dLen _,x]=>
  match P.underlying t with
  |some (.slice elem)=>
   match qam P elem,lenV x with
   |some size,some m=>
    match h.test (Nat.ble m dLen)with
    |none=>none
    |some (b,h)=>qgq a x size (qlE b m dLen) h
   |_,_=>none
  |_=>none
 |_,_=>none:=by
 unfold qkV
 split
 ·split
  ·split
   ·generalize h.test _=tt
    cases tt with
    |none=>rfl
    |some r=>obtain⟨b,h2⟩:=r;cases b<;>rfl
   ·rfl
  ·rfl
 ·rfl
theorem qen{P:Program}{w:World}{size n:Nat}{x:V}{x':Value}{φ:Map}{m:Nat}(hx:VRel φ x x')(hm:lenV x=some m)(hn:n≤m):
  ∃y',VRel φ (cutV x n) y'∧lenV (cutV x n)=some n∧(Builtin.firstCells size n x').run P w=(Builtin.firstCells size n y').run P w:=by
 cases hx with
 |str s=>
  simp only[lenV,Option.some.injEq]at hm
  subst hm
  refine⟨.string (s.extract 0 n),.str _,?_,?_⟩
  ·simp only[cutV,lenV]
   congr 1
   simp
   omega
  ·simp only[Builtin.firstCells]
   congr 3
   simp
 |slNil cap hc=>
  simp only[lenV,Option.some.injEq]at hm
  have:n=0:=by omega
  subst this
  exact⟨_,.slNil cap hc,rfl,rfl⟩
 |sl a k len cap' cap hk hl hc hz=>
  simp only[lenV,Option.some.injEq]at hm
  exact⟨_,.sl a k n cap' cap hk (by omega) hc hz,rfl,rfl⟩
 |vs t l tip a k cap hk hs ht=>
  simp only[lenV,Option.some.injEq]at hm
  refine⟨.slice a n cap,.vs _ _ _ _ _ _ (by have:=hs.1;omega) ⟨by simp;omega,?_⟩ trivial,by simp only[cutV,lenV];congr 1;simp;omega,by cases a<;>rfl⟩
  rcases hs.2 with h|⟨b,off,c,h1,h2,h3,h4⟩
  ·left;simp[h]
  ·right
   refine⟨b,off,c,h1,h2,?_,h4.take n⟩
   have:(l.take n).length*t.cells≤l.length*t.cells:=Nat.mul_le_mul_right _ (by simp;omega)
   omega
 |_=>simp[lenV]at hm
theorem qmy{h h':H}{a:VA}{cs:List V}(e:vput h a cs=some h')(hh:h'.Holds):h.Holds:=by
 intro p hp
 exact hh p (by rw[(qoz e).1];exact hp)
theorem qjE{P:Program}{φ:Map}{h h':H}{a:VA}{e:Nat}{t:Ty}{l:List t.data}{r:Rows}{size c:Nat}{rs:List Value}{k:Nat×Nat×Nat}{w:World}
  (ee:qea h a e t l r size c=some h') (hh:h'.Holds) (hg:h.get a.b=some (.box e (.ty t l))) (hr:HRel φ h w) (hk:φ a.b=some k) (he:Elems φ size c r rs):
  h.Holds∧∃w',(storeCells (a.real k) rs).run P w=.ok () w'∧Goes φ h w φ h' w':=by
 unfold qea at ee
 split at ee
 ·cases ee
 ·rename_i xs hxs
  split at ee
  ·rename_i h2 ht
   split at ee
   ·rename_i c1 c2 c3 c4 c5
    cases ee
    have hh2:h2.Holds:=by intro p hp;exact hh p (by rw[H.set_eq];exact hp)
    obtain⟨k1,k2,k3⟩:=H.test_holds ht hh2
    have k2:=Nat.le_of_ble_eq_true k2
    have c1:=Nat.eq_of_beq_eq_true c1
    have c2:=Nat.eq_of_beq_eq_true c2
    have c3:=Nat.eq_of_beq_eq_true c3
    subst c2
    have s2:h.Same h2:=k3
    have hr2:HRel φ h2 w:=hr.same s2
    have hg2:h2.get a.b=some (.box e (.ty t l)):=by
     rw[←hg];simp only[H.get];rw[k3.2.2]
    have c5':=Nat.le_of_ble_eq_true c5
    refine⟨k1,?_⟩
    obtain⟨k',o,hk',ho,hrel⟩:=hr2.obj _ _ hg2 (by simp)
    rw[hk]at hk';cases hk'
    rw[c5]at hrel
    cases o with
    |cells cc tt fz=>
     obtain⟨hri,hcz,hfz⟩:=hrel
     obtain⟨hfz',hz0⟩:=hfz rfl
     subst hfz'
     rw[hz0,qa8]at hri
     rw[←c3]at he c1 hri
     obtain⟨hxl,hlies⟩:=he.lies hxs
     have hreal:a.real k=⟨k.1,a.i*t.cells+0,none⟩:=by unfold VA.real;rw[hz0,Nat.zero_add,c4,←c1]
     rw[hreal]
     have hlen:=he.cells
     have hsz:a.i*t.cells+0+rs.length≤cc.size:=by
      rcases Nat.eq_zero_or_pos (a.i+c)with h0|h0
      ·have:a.i=0:=by omega
       have:c=0:=by omega
       subst this
       rw[hlen];simp_all
      ·have:=qhQ hri (n:=a.i+c) (by simpa[Rows.len]using k2) h0
       rw[Nat.add_mul]at this
       omega
     obtain⟨w',c',hrun,hw,hcl⟩:=qbj (P:=P) (k:=k.1) (off:=a.i*t.cells+0) (t:=tt) rs 0 w cc ho (by omega) (qfZ he hxs)
     refine⟨w',hrun,(Goes.of_same hr s2 rfl rfl rfl rfl).trans ?_⟩
     refine Goes.write hr2 hg2 c5' hk hw.here hw.size hw.other hw.os hw.tape hw.output ⟨?_,?_,fun _=>⟨rfl,hz0⟩⟩
     ·rw[hz0,qa8]
      have hget:∀n,c'[n]?=if n<a.i*t.cells then cc[n]? else if n<a.i*t.cells+rs.length then rs[n-a.i*t.cells]? else cc[n]?:=by
       intro n
       have hcl':c'.toList=cc.toList.take (a.i*t.cells)++(rs++cc.toList.drop (a.i*t.cells+rs.length)):=by simpa using hcl
       rw[←Array.getElem?_toList,hcl']
       have hmin:min (a.i*t.cells) cc.size=a.i*t.cells:=by omega
       split
       ·rename_i h
        rw[List.getElem?_append_left (by simp;omega),List.getElem?_take,if_pos h];simp
       ·rename_i h
        rw[List.getElem?_append_right (by simp;omega)]
        simp only[List.length_take,Array.length_toList,hmin]
        split
        ·rename_i h2
         rw[List.getElem?_append_left (by omega)]
        ·rename_i h2
         rw[List.getElem?_append_right (by omega),List.getElem?_drop]
         simp only[Array.getElem?_toList]
         congr 1;omega
      have hxs2:RowsIn φ t.cells (.ty t xs) rs.toArray:=he.rows.typed (qbA hxs).2
      rw[←c3]
      intro j row hj
      simp only[Rows.get]at hj
      by_cases h1:j<a.i
      ·rw[List.getElem?_append_left (by simp;omega),List.getElem?_take,if_pos h1]at hj
       obtain⟨q1,q2⟩:=hri j row (by simpa only[Rows.get]using hj)
       refine⟨q1,fun o v hv=>?_⟩
       obtain⟨x,hx,hv2⟩:=q2 o v hv
       refine⟨x,?_,hv2⟩
       have ho2:o<t.cells:=by
        rcases Nat.lt_or_ge o row.length with h|h
        ·omega
        ·rw[List.getElem?_eq_none h]at hv;cases hv
       have:(j+1)*t.cells≤a.i*t.cells:=Nat.mul_le_mul_right _ h1
       rw[Nat.add_mul]at this
       rw[hget,if_pos (by omega)];exact hx
      ·rw[List.getElem?_append_right (by simp;omega)]at hj
       simp only[List.length_take,show min a.i l.length=a.i by omega]at hj
       by_cases h2:j-a.i<xs.length
       ·rw[List.getElem?_append_left (by omega)]at hj
        obtain⟨q1,q2⟩:=hxs2 (j-a.i) row (by simpa only[Rows.get]using hj)
        refine⟨q1,fun o v hv=>?_⟩
        obtain⟨x,hx,hv2⟩:=q2 o v hv
        refine⟨x,?_,hv2⟩
        have ho2:o<t.cells:=by
         rcases Nat.lt_or_ge o row.length with h|h
         ·omega
         ·rw[List.getElem?_eq_none h]at hv;cases hv
        have e1:a.i*t.cells≤j*t.cells:=Nat.mul_le_mul_right _ (by omega)
        have e2:(j-a.i)*t.cells=j*t.cells-a.i*t.cells:=Nat.sub_mul _ _ _
        have e3:(j-a.i+1)*t.cells≤xs.length*t.cells:=Nat.mul_le_mul_right _ h2
        rw[Nat.add_mul,hxl,←hlen]at e3
        rw[hget,if_neg (by omega),if_pos (by omega)]
        rw[←hx]
        simp only[List.getElem?_toArray]
        congr 1;omega
       ·rw[List.getElem?_append_right (by omega),List.getElem?_drop]at hj
        have e0:a.i+c+(j-a.i-xs.length)=j:=by omega
        rw[e0]at hj
        obtain⟨q1,q2⟩:=hri j row (by simpa only[Rows.get]using hj)
        refine⟨q1,fun o v hv=>?_⟩
        obtain⟨x,hx,hv2⟩:=q2 o v hv
        refine⟨x,?_,hv2⟩
        have e1:(a.i+c)*t.cells≤j*t.cells:=Nat.mul_le_mul_right _ (by omega)
        rw[Nat.add_mul]at e1
        rw[hget,if_neg (by omega),if_neg (by omega)];exact hx
     ·rw[hw.csize];exact hcz
    |_=>exact hrel.elim
   ·cases ee
  ·cases ee
theorem qmC{P:Program}{φ:Map}{w:World}{a:VA}{x:V}{x':Value}{size c m:Nat}{k:Nat×Nat×Nat}{h h':H}{v:V}(e:qgq a x size c h=some (v,h'))(hh:h'.Holds)(hm:lenV x=some m)(hcm:h.Holds→c≤m)(hx:VRel φ x x')(hk:φ a.b=some k)(hr:HRel φ h w):
  h.Holds∧c≤m∧v=.int .i64 (c:Nat)∧∃w' rs,(Builtin.firstCells size c x').run P w=.ok rs w∧(storeCells (a.real k) rs.toList).run P w=.ok () w'∧Goes φ h w φ h' w':=by
 unfold qgq at e
 split at e
 ·rename_i el t l hg
  split at e
  ·cases e
  ·rename_i r h3 e1
   split at e
   ·rename_i h4 e2
    cases e
    have hh3:h3.Holds:=by
     unfold qea at e2
     split at e2
     ·cases e2
     ·split at e2
      ·rename_i h5 ht
       split at e2
       ·cases e2
        exact(H.test_holds ht (by intro p hp;exact hh p (by rw[H.set_eq];exact hp))).1
       ·cases e2
      ·cases e2
    obtain⟨hh1,s23⟩:=qav e1 hh3
    have hcm:=hcm hh1
    obtain⟨y',hy,hly,hfc⟩:=qen (P:=P) (w:=w) (size:=size) hx hm hcm
    obtain⟨_,_,rs,rrs,ers⟩:=qbF (P:=P) e1 hh3 hly hy hr
    have hg3:h3.get a.b=some (.box el (.ty t l)):=by rw[←hg];simp only[H.get];rw[s23.2.2]
    obtain⟨_,w',hrun,g⟩:=qjE (P:=P) e2 hh hg3 (hr.same s23) hk ers
    refine⟨hh1,hcm,rfl,w',rs.toArray,by rw[hfc];exact rrs,by simpa using hrun,(Goes.of_same hr s23 rfl rfl rfl rfl).trans g⟩
   ·cases e
 ·split at e
  ·cases e
  ·rename_i n h2 e0
   split at e
   ·cases e
   ·rename_i r h3 e1
    split at e
    ·cases e
    ·rename_i cs hcs
     split at e
     ·rename_i h4 e2
      cases e
      have hh3:h3.Holds:=qmy e2 hh
      obtain⟨hh2,s23⟩:=qav e1 hh3
      obtain⟨hh1,hn,s12⟩:=qhK e0 hh2
      subst hn
      have hcm:=hcm hh1
      obtain⟨y',hy,hly,hfc⟩:=qen (P:=P) (w:=w) (size:=size) hx hm hcm
      obtain⟨_,_,rs,rrs,ers⟩:=qbF (P:=P) e1 hh3 hly hy (hr.same s12)
      have hvr:=qm7 ers hcs
      obtain⟨w',hrun,g,_⟩:=qee (P:=P) e2 (hr.same (s12.trans s23)) hk hvr
      exact⟨hh1,hcm,rfl,w',rs.toArray,by rw[hfc];exact rrs,by simpa using hrun,(Goes.of_same hr (s12.trans s23) rfl rfl rfl rfl).trans g⟩
     ·cases e
theorem qnG{P:Program}{φ:Map}{w:World}{ts:Array TypeId}{ty:TypeId}{args:List V}{args':Array Value}{h h':H}{v:V}(e:qkV P ts args h=some (v,h'))(hh:h'.Holds)(ha:VRels φ args args'.toList)(hr:HRel φ h w):
  h.Holds∧∃w' r,(Builtin.copy_ ts ty args').run P w=.ok r w'∧VRel φ v r∧Goes φ h w φ h' w':=by
 rw[qlV]at e
 split at e
 ·rename_i t a dLen dcap x h0
  obtain⟨args'⟩:=args'
  cases ha with
  |@cons _ s' _ _ hs ha=>
   cases ha with
   |@cons _ x' _ _ hx ha=>
    cases ha
    split at e
    ·rename_i elem hu
     split at e
     ·rename_i size m hsz hm
      split at e
      ·cases e
      ·rename_i b h2 ht
       cases hs with
       |sl _ k _ cap' _ hk hl hc hz=>
        have hnm:h2.Holds→qlE b m dLen≤m∧qlE b m dLen=Nat.min m dLen:=by
         intro hh2
         obtain⟨_,hb,_⟩:=H.test_holds ht hh2
         cases b with
         |true=>
          have:=Nat.le_of_ble_eq_true hb
          exact⟨Nat.le_refl _,(Nat.min_eq_left this).symm⟩
         |false=>
          have:¬m≤dLen:=fun h=>by have:=Nat.ble_eq_true_of_le h;rw[hb]at this;cases this
          have hd:qlE false m dLen=dLen:=rfl
          exact⟨by omega,(Nat.min_eq_right (by omega)).symm⟩
        have s12:h.Same h2:=by
         obtain⟨q1,q2,q3⟩:=H.test_eqs ht
         exact⟨q1,q2,q3⟩
        obtain⟨hh2,_,hv,w',rs,rrs,hrun,g⟩:=qmC (P:=P) e hh hm (fun q=>(hnm q).1) hx hk (hr.same s12)
        obtain⟨hh1,_,_⟩:=H.test_holds ht hh2
        subst hv
        have hnm:=(hnm hh2).2
        refine⟨hh1,w',_,?_,.int _ _,(Goes.of_same hr s12 rfl rfl rfl rfl).trans g⟩
        have hlx:=qdf (P:=P) hm hx w
        rw[hnm]at rrs
        simp only[Builtin.copy_,h0,Sem.run_bind,qaa hu,Result.andThen_ok,hlx,qae hsz,List.getElem?_toArray,List.getElem?_cons_zero,List.getElem?_cons_succ,rrs,hrun,Sem.run_pure]
        rw[←hnm];rfl
     ·cases e
    ·cases e
 ·cases e
end Go.Vm

namespace Go.Vm
open Go
def valV:(t:Ty)→t.data→V
 |.int k,n=>.int k n
 |.bool,b=>.bool b
 |.str,s=>.str s
 |.unit,_=>.agg []
 |.pair a b,d=>.agg (cellsV a d.1++cellsV b d.2)
 |.slice t,l=>.vs t l .no
def decV(t:Ty)(v:V):Option t.data:=
 match t.isAgg with
 |true=>match v with
  |.agg cs=>qc5 t cs
  |_=>none
 |false=>qc5 t [v]
theorem DVal.val{φ:Map}:∀{t:Ty}{d:t.data}{x:Value},DVal φ.fz t d x→VRel φ (valV t d) x
 |.int k,n,x,h=>by
  have h:[x]=[Value.int k n]:=h
  cases h;exact .int _ _
 |.bool,b,x,h=>by
  have h:[x]=[Value.bool b]:=h
  cases h;exact .bool _
 |.str,s,x,h=>by
  have h:[x]=[Value.string s]:=h
  cases h;exact .str _
 |.unit,d,x,h=>by
  obtain⟨cs,rfl,h⟩:=h
  have h:cs.toList=[]:=h
  exact .agg _ _ (by rw[h];exact .nil)
 |.pair a b,d,x,h=>by
  obtain⟨cs,rfl,h⟩:=h
  exact .agg _ _ h.cellsV
 |.slice t,l,x,h=>by
  obtain⟨a,n,cap,h1,h2,h3⟩:∃a n cap,[x]=[Value.slice a n cap]∧n≤cap∧SlRel φ.fz (DRel φ.fz t) t.cells l a n:=h
  cases h1
  exact .vs _ _ _ _ _ _ h2 h3 trivial
theorem qcf{φ:Map}{t:Ty}{v:V}{d:t.data}{x:Value}(e:decV t v=some d)(h:VRel φ v x):DVal φ.fz t d x:=by
 unfold decV at e
 unfold DVal
 cases ht:t.isAgg with
 |true=>
  rw[ht]at e
  dsimp only at e ⊢
  split at e
  ·cases h with
   |agg _ rs h=>exact⟨rs,rfl,qeb e h⟩
  ·cases e
 |false=>
  rw[ht]at e
  exact qeb e (.cons h .nil)
theorem DVal.mono{f g:Frozen}(hf:f.le g){t:Ty}{d:t.data}{x:Value}(h:DVal f t d x):DVal g t d x:=by
 unfold DVal at h ⊢
 split at h
 ·obtain⟨cs,h1,h2⟩:=h
  exact⟨cs,h1,h2.mono hf⟩
 ·exact DRel.mono hf _ _ _ h
theorem qe8(f:Frozen):Frozen.le (fun _=>none) f:=fun _ _ e=>by cases e
theorem DRel.bare{f:Frozen}:∀{t:Ty}{d:t.data}{cs:List Value},t.flat=true→DRel f t d cs→DRel (fun _=>none) t d cs
 |.int _,_,_,_,h=>h
 |.bool,_,_,_,h=>h
 |.str,_,_,_,h=>h
 |.unit,_,_,_,h=>h
 |.pair a b,_,_,hf,⟨x,y,h1,h2,h3⟩=>by
  simp only[Ty.flat]at hf
  split at hf
  ·rename_i ha
   exact⟨x,y,h1,DRel.bare ha h2,DRel.bare hf h3⟩
  ·cases hf
 |.slice _,_,_,hf,_=>by cases hf
theorem DVal.bare{f:Frozen}{t:Ty}{d:t.data}{x:Value}(hf:t.flat=true)(h:DVal f t d x):DVal (fun _=>none) t d x:=by
 unfold DVal at h ⊢
 split at h
 ·obtain⟨cs,h1,h2⟩:=h
  exact⟨cs,h1,h2.bare hf⟩
 ·exact DRel.bare hf h
theorem DRel.one{f g:Frozen}:∀{t:Ty}{d:t.data}{a b:List Value},t.flat=true→DRel f t d a→DRel g t d b→a=b
 |.int _,_,_,_,_,h,k=>h.trans k.symm
 |.bool,_,_,_,_,h,k=>h.trans k.symm
 |.str,_,_,_,_,h,k=>h.trans k.symm
 |.unit,_,_,_,_,h,k=>h.trans k.symm
 |.pair p q,_,_,_,hf,⟨x,y,h1,h2,h3⟩,⟨x',y',k1,k2,k3⟩=>by
  simp only[Ty.flat]at hf
  split at hf
  ·rename_i hp
   rw[h1,k1,DRel.one hp h2 k2,DRel.one hf h3 k3]
  ·cases hf
 |.slice _,_,_,_,hf,_,_=>by cases hf
theorem DVal.one{f g:Frozen}{t:Ty}{d:t.data}{x y:Value}(hf:t.flat=true)(h:DVal f t d x)(k:DVal g t d y):x=y:=by
 unfold DVal at h k
 cases ht:t.isAgg with
 |true=>
  rw[ht]at h k
  obtain⟨cs,rfl,h2⟩:=h
  obtain⟨ds,rfl,k2⟩:=k
  have:=DRel.one hf h2 k2
  rw[Array.toList_inj.1 this]
 |false=>
  rw[ht]at h k
  have:=DRel.one hf h k
  cases this;rfl
def qp9(a b:Int):Bool:=
 match a,b with
 |.ofNat m,.ofNat n=>Nat.beq m n
 |.negSucc m,.negSucc n=>Nat.beq m n
 |_,_=>false
theorem qia(a b:Int):qp9 a b=(a==b):=by
 rw[Bool.eq_iff_iff]
 unfold qp9
 split
 ·simp only[Nat.beq_eq,beq_iff_eq,Int.ofNat_eq_natCast];omega
 ·simp
 ·rename_i h1 h2
  simp only[Bool.false_eq_true,beq_iff_eq,false_iff]
  rintro rfl
  cases a with
  |ofNat m=>exact h1 m m rfl rfl
  |negSucc m=>exact h2 m m rfl rfl
def qbr:(t:Ty)→t.data→t.data→Bool
 |.int _,a,b=>qp9 a b
 |.bool,a,b=>a==b
 |.str,a,b=>qiw a b
 |.unit,_,_=>true
 |.pair p q,a,b=>match qbr p a.1 b.1 with
  |true=>qbr q a.2 b.2
  |false=>false
 |.slice _,_,_=>false
theorem qip:∀{t:Ty}{a b:t.data},qbr t a b=true→a=b
 |.int _,a,b,h=>by rw[qbr,qia]at h;exact eq_of_beq h
 |.bool,a,b,h=>eq_of_beq h
 |.str,a,b,h=>by
  have h:(ByteArray.toList a==ByteArray.toList b)=true:=h
  have:=eq_of_beq h
  have hd:ByteArray.data a=ByteArray.data b:=by
   have h1:ByteArray.toList a=(ByteArray.data a).toList:=ByteArray.toList_eq a
   have h2:ByteArray.toList b=(ByteArray.data b).toList:=ByteArray.toList_eq b
   exact Array.toList_inj.1 (by rw[←h1,←h2,this])
  exact ByteArray.ext hd
 |.unit,_,_,_=>rfl
 |.pair p q,a,b,h=>by
  simp only[qbr]at h
  split at h
  ·rename_i h1
   exact Prod.ext (qip h1) (qip h)
  ·cases h
 |.slice _,_,_,h=>by cases h
def qeF(P:Program)(t:TypeId)(k:Ty):Bool:=
 match P.underlying t,k with
 |some .bool,.bool=>true
 |some (.int _),.int _=>true
 |some .string,.str=>true
 |_,_=>false
def qcy(P:Program):List Field→Ty→Nat→Bool
 |[],k,_=>match k with
  |.unit=>true
  |_=>false
 |f::fs,k,n=>match k with
  | .pair a b => qeF P f.type a && (f.name != "_") && Nat.beq f.offset n && qcy P fs b (n + 1)
  |_=>false
def qdB(P:Program)(e:TypeId):Nat→Ty→Bool
 |0,k=>match k with
  |.unit=>true
  |_=>false
 |n+1,k=>match k with
  |.pair a b=>qeF P e a&&qdB P e n b
  |_=>false
def kfit(P:Program)(t:TypeId)(k:Ty):Bool:=
 match P.underlying t with
 |some (.struct fs)=>!P.stoodInHeld t&&qcy P fs.toList k 0&&k.isAgg
 |some (.array n e)=>(match qam P e with|some s=>Nat.beq s 1|none=>false)&&qdB P e n k&&k.isAgg
 |_=>qeF P t k
section
variable {P:Program} {w:World}
theorem qc4{t:TypeId}{k:Ty}(h:qeF P t k=true):qg4 P t=some false∧k.isAgg=false∧k.cells=1:=by
 unfold qeF at h
 unfold qg4
 split at h
 ·rename_i hu;rw[hu];exact⟨rfl,rfl,rfl⟩
 ·rename_i hu;rw[hu];exact⟨rfl,rfl,rfl⟩
 ·rename_i hu;rw[hu];exact⟨rfl,rfl,rfl⟩
 ·cases h
theorem qfu{t:TypeId}{k:Ty}(h:qeF P t k=true){f g:Frozen}{a b:k.data}{x y:Value}(d:Nat)(hx:DRel f k a [x])(hy:DRel g k b [y]):
  (Op.equalIn (d+1) t x y).run P w=.ok (qbr k a b) w:=by
 unfold qeF at h
 split at h
 ·rename_i hu
  have hx:[x]=[Value.bool a]:=hx
  have hy:[y]=[Value.bool b]:=hy
  cases hx;cases hy
  simp[Op.equalIn,qaa hu,qbr]
 ·rename_i j hu
  have hx:[x]=[Value.int _ a]:=hx
  have hy:[y]=[Value.int _ b]:=hy
  cases hx;cases hy
  simp[Op.equalIn,qaa hu,qbr,qia]
 ·rename_i hu
  have hx:[x]=[Value.string a]:=hx
  have hy:[y]=[Value.string b]:=hy
  cases hx;cases hy
  simp[Op.equalIn,qaa hu,qbr,beq_toListBytes,qiw]
 ·cases h
theorem qfi{t:TypeId}{k:Ty}(h:qeF P t k=true){f:Frozen}{a:k.data}{x:Value}(em:Bool)(d:Nat)(hx:DRel f k a [x]):(Instr.checkKey em (d+1) t x).run P w=.ok () w:=by
 unfold qeF at h
 unfold Instr.checkKey
 split at h
 ·rename_i hu
  have hx:[x]=[Value.bool a]:=hx
  cases hx
  simp[qaa hu]
 ·rename_i j hu
  have hx:[x]=[Value.int _ a]:=hx
  cases hx
  simp[qaa hu]
 ·rename_i hu
  have hx:[x]=[Value.string a]:=hx
  cases hx
  simp[qaa hu]
 ·cases h
theorem qc6{t:TypeId}(h:qg4 P t=some false){cs:Array Value}{off:Nat}{x:Value}(hx:cs[off]?=some x):(part t cs off).run P w=.ok x w:=by
 simp[part,qcw h,hx]
theorem qc3{f:Frozen}{a b:Ty}{d:(Ty.pair a b).data}{cs:Array Value}{n:Nat}(ha:a.cells=1)(h:DRel f (.pair a b) d (cs.toList.drop n)):
  ∃x,cs[n]?=some x∧DRel f a d.1 [x]∧DRel f b d.2 (cs.toList.drop (n+1)):=by
 obtain⟨p,q,e,h1,h2⟩:=h
 have hl:=h1.len
 rw[ha]at hl
 match p,hl with
 |[x],_=>
  refine⟨x,?_,h1,?_⟩
  ·have:(cs.toList.drop n)[0]?=some x:=by rw[e];rfl
   rw[List.getElem?_drop]at this
   simpa using this
  ·have:cs.toList.drop (n+1)=q:=by
    rw[show n+1=n+1 from rfl,←List.drop_drop,e];rfl
   rw[this];exact h2
theorem qe4(d:Nat){xs ys:Array Value}{f g:Frozen}:∀(fs:List Field)(k:Ty)(n:Nat)(a b:k.data),qcy P fs k n=true→DRel f k a (xs.toList.drop n)→DRel g k b (ys.toList.drop n) →
  (Op.eqFields (d+1) xs ys fs).run P w=.ok (qbr k a b) w
 |[],k,n,a,b,h,hx,hy=>by
  cases k<;>simp only[qcy]at h<;>first|(cases h;done)|rfl
 |fd::fs,k,n,a,b,h,hx,hy=>by
  cases k<;>simp only[qcy]at h<;>first|(cases h;done)|skip
  rename_i p q
  simp only[Bool.and_eq_true,bne_iff_ne,ne_eq]at h
  obtain⟨⟨⟨h1,h2⟩,h3⟩,h4⟩:=h
  have h3:=Nat.eq_of_beq_eq_true h3
  obtain⟨g1,g2,g3⟩:=qc4 h1
  obtain⟨x,hx1,hx2,hx3⟩:=qc3 g3 hx
  obtain⟨y,hy1,hy2,hy3⟩:=qc3 g3 hy
  have e1:=qfu (w:=w) h1 d hx2 hy2
  have e2:=qe4 d fs q (n+1) a.2 b.2 h4 hx3 hy3
  have p1:=qc6 (P:=P) (w:=w) g1 hx1
  have p2:=qc6 (P:=P) (w:=w) g1 hy1
  simp only[Op.eqFields,ne_eq,h2,not_false_eq_true,if_true,Sem.run_bind,h3,p1,p2,e1,Result.andThen_ok,qbr]
  rcases Bool.eq_false_or_eq_true (qbr p a.1 b.1)with hk|hk
  ·simpa[hk]using e2
  ·simp[hk]
theorem qdD(em:Bool)(d:Nat){xs:Array Value}{f:Frozen}:∀(fs:List Field)(k:Ty)(n:Nat)(a:k.data),qcy P fs k n=true→DRel f k a (xs.toList.drop n) →
  (forIn fs PUnit.unit (fun f _=>do
   if f.name ≠ "_" then
    Instr.checkKey em (d+1) f.type (←part f.type xs f.offset)
    pure (ForInStep.yield PUnit.unit)
   else pure (ForInStep.yield PUnit.unit)):Sem PUnit).run P w=.ok PUnit.unit w
 |[],k,n,a,h,hx=>rfl
 |fd::fs,k,n,a,h,hx=>by
  cases k<;>simp only[qcy]at h<;>first|(cases h;done)|skip
  rename_i p q
  simp only[Bool.and_eq_true,bne_iff_ne,ne_eq]at h
  obtain⟨⟨⟨h1,h2⟩,h3⟩,h4⟩:=h
  have h3:=Nat.eq_of_beq_eq_true h3
  obtain⟨g1,g2,g3⟩:=qc4 h1
  obtain⟨x,hx1,hx2,hx3⟩:=qc3 g3 hx
  have e1:=qfi (w:=w) h1 em d hx2
  have e2:=qdD em d fs q (n+1) a.2 h4 hx3
  have p1:=qc6 (P:=P) (w:=w) g1 hx1
  simp only[List.forIn_cons,ne_eq,h2,not_false_eq_true,if_true,Sem.run_bind,h3,p1,e1,Result.andThen_ok,Sem.run_pure]
  exact e2
theorem qfV(d:Nat){xs ys:Array Value}{f g:Frozen}{e:TypeId}:∀(m:Nat)(k:Ty)(n:Nat)(a b:k.data),qdB P e m k=true→DRel f k a (xs.toList.drop n)→DRel g k b (ys.toList.drop n) →
    (forIn (List.range' n m) ((none, ()) : Option Bool × Unit) (fun i _ => do
          let a←part e xs (i*1)
          let c←part e ys (i*1)
          let q←Op.equalIn (d+1) e a c
          if(!q)=true then pure (ForInStep.done (some false,()))else pure (ForInStep.yield (none,()))):Sem (Option Bool×Unit)).run P w=.ok (if qbr k a b then(none,())else(some false,())) w
  |0,k,n,a,b,h,hx,hy=>by
    cases k<;>simp only[qdB]at h<;>first|(cases h;done)|rfl
  |m+1,k,n,a,b,h,hx,hy=>by
    cases k<;>simp only[qdB]at h<;>first|(cases h;done)|skip
    rename_i p q
    simp only[Bool.and_eq_true]at h
    obtain⟨h1,h4⟩:=h
    obtain⟨g1,g2,g3⟩:=qc4 h1
    obtain⟨x,hx1,hx2,hx3⟩:=qc3 g3 hx
    obtain⟨y,hy1,hy2,hy3⟩:=qc3 g3 hy
    have e1:=qfu (w:=w) h1 d hx2 hy2
    have e2:=qfV d m q (n+1) a.2 b.2 h4 hx3 hy3
    have p1:=qc6 (P:=P) (w:=w) g1 hx1
    have p2:=qc6 (P:=P) (w:=w) g1 hy1
    simp only[List.range'_succ,List.forIn_cons,Sem.run_bind,Nat.mul_one,p1,p2,e1,Result.andThen_ok,qbr]
    simp only[Nat.mul_one]at e2
    rcases Bool.eq_false_or_eq_true (qbr p a.1 b.1)with hk|hk
    · simpa[hk]using e2
    · simp[hk]
theorem qdU(em:Bool)(d:Nat){xs:Array Value}{f:Frozen}{e:TypeId}(hs:qam P e=some 1):∀(m:Nat)(k:Ty)(n:Nat)(a:k.data),qdB P e m k=true→DRel f k a (xs.toList.drop n) →
  (forIn (List.range' n m) PUnit.unit (fun i _=>do
   Instr.checkKey em (d+1) e (←part e xs (i*(←sizeOf e)))
   pure (ForInStep.yield PUnit.unit)):Sem PUnit).run P w=.ok PUnit.unit w
 |0,k,n,a,h,hx=>rfl
 |m+1,k,n,a,h,hx=>by
  cases k<;>simp only[qdB]at h<;>first|(cases h;done)|skip
  rename_i p q
  simp only[Bool.and_eq_true]at h
  obtain⟨h1,h4⟩:=h
  obtain⟨g1,g2,g3⟩:=qc4 h1
  obtain⟨x,hx1,hx2,hx3⟩:=qc3 g3 hx
  have e1:=qfi (w:=w) h1 em d hx2
  have e2:=qdU em d hs m q (n+1) a.2 h4 hx3
  have p1:=qc6 (P:=P) (w:=w) g1 hx1
  simp only[List.range'_succ,List.forIn_cons,Sem.run_bind,qae hs,Nat.mul_one,p1,e1,Result.andThen_ok,Sem.run_pure]
  exact e2
theorem qjW{t:TypeId}{k:Ty}(h:kfit P t k=true){f g:Frozen}{a b:k.data}{x y:Value}(d:Nat)(hx:DVal f k a x)(hy:DVal g k b y):
  (Op.equalIn (d+2) t x y).run P w=.ok (qbr k a b) w:=by
 unfold kfit at h
 split at h
 ·rename_i fs hu
  simp only[Bool.and_eq_true,Bool.not_eq_true']at h
  obtain⟨⟨h1,h2⟩,h3⟩:=h
  unfold DVal at hx hy
  rw[h3]at hx hy
  obtain⟨xs,rfl,hx⟩:=hx
  obtain⟨ys,rfl,hy⟩:=hy
  have hf:P.underlying t=some (.struct (P.fieldsOf t)):=by simp[Program.fieldsOf,hu]
  rw[run_equalIn_struct w (d+1) t xs ys hf h1]
  have:P.fieldsOf t=fs:=by simp[Program.fieldsOf,hu]
  rw[this]
  exact qe4 d _ _ 0 a b h2 (by simpa using hx) (by simpa using hy)
 ·rename_i n e hu
  simp only[Bool.and_eq_true]at h
  obtain⟨⟨h1,h2⟩,h3⟩:=h
  have hs:qam P e=some 1:=by
   cases hz:qam P e with
   |none=>rw[hz]at h1;cases h1
   |some s=>rw[hz]at h1;rw[Nat.eq_of_beq_eq_true h1]
  unfold DVal at hx hy
  rw[h3]at hx hy
  obtain⟨xs,rfl,hx⟩:=hx
  obtain⟨ys,rfl,hy⟩:=hy
  have:=qfV (P:=P) (w:=w) (xs:=xs) (ys:=ys) d n k 0 a b h2 (by simpa using hx) (by simpa using hy)
  show(Op.equalIn ((d+1)+1) t (.agg xs) (.agg ys)).run P w=_
  generalize d+1=D at this ⊢
  simp only[Op.equalIn,Sem.run_bind,qaa hu,Result.andThen_ok,qae hs]
  simp only[Std.Legacy.Range.forIn_eq_forIn_range',Std.Legacy.Range.size,Nat.sub_zero,Nat.add_sub_cancel,Nat.div_one]
  refine(congrArg (fun z=>Result.andThen z _) this).trans ?_
  cases qbr k a b<;>rfl
 ·obtain⟨_,g2,_⟩:=qc4 h
  unfold DVal at hx hy
  rw[g2]at hx hy
  exact qfu h (d+1) hx hy
theorem qcJ{t:TypeId}{k:Ty}(h:kfit P t k=true){f:Frozen}{a:k.data}{x:Value}(em:Bool)(d:Nat)(hx:DVal f k a x):(Instr.checkKey em (d+2) t x).run P w=.ok () w:=by
 unfold kfit at h
 split at h
 ·rename_i fs hu
  simp only[Bool.and_eq_true,Bool.not_eq_true']at h
  obtain⟨⟨h1,h2⟩,h3⟩:=h
  unfold DVal at hx
  rw[h3]at hx
  obtain⟨xs,rfl,hx⟩:=hx
  have:=qdD (P:=P) (w:=w) (xs:=xs) em d _ _ 0 a h2 (by simpa using hx)
  unfold Instr.checkKey
  simp only[Sem.run_bind,qaa hu,Result.andThen_ok]
  rw[←Array.forIn_toList]
  refine(congrArg (fun z=>Result.andThen z _) this).trans ?_
  rfl
 ·rename_i n e hu
  simp only[Bool.and_eq_true]at h
  obtain⟨⟨h1,h2⟩,h3⟩:=h
  have hs:qam P e=some 1:=by
   cases hz:qam P e with
   |none=>rw[hz]at h1;cases h1
   |some s=>rw[hz]at h1;rw[Nat.eq_of_beq_eq_true h1]
  unfold DVal at hx
  rw[h3]at hx
  obtain⟨xs,rfl,hx⟩:=hx
  have:=qdU (P:=P) (w:=w) (xs:=xs) em d hs n k 0 a h2 (by simpa using hx)
  unfold Instr.checkKey
  simp only[Sem.run_bind,qaa hu,Result.andThen_ok]
  simp only[Std.Legacy.Range.forIn_eq_forIn_range',Std.Legacy.Range.size,Nat.sub_zero,Nat.add_sub_cancel,Nat.div_one]
  refine(congrArg (fun z=>Result.andThen z _) this).trans ?_
  rfl
 ·obtain⟨_,g2,_⟩:=qc4 h
  unfold DVal at hx
  rw[g2]at hx
  exact qfi h em (d+1) hx
end
end Go.Vm

namespace Go.Vm
open Go
def qj5{k v:Ty}:List (k.data×v.data)→k.data→Option v.data
 |[],_=>none
 |p::l,d=>match qbr k d p.1 with
  |true=>some p.2
  |false=>qj5 l d
def mput{k v:Ty}:List (k.data×v.data)→k.data→v.data→List (k.data×v.data)
 |[],d,x=>[(d,x)]
 |p::l,d,x=>match qbr k d p.1 with
  |true=>(d,x)::l
  |false=>p::mput l d x
theorem EntsRel.len{k v:Ty}:∀{l:List (k.data×v.data)}{es:List MapEntry},EntsRel k v l es→es.length=l.length
 |[],[],_=>rfl
 |_::_,_::_,h=>by simp[EntsRel.len h.2]
 |[],_::_,h=>h.elim
 |_::_,[],h=>h.elim
section
variable {P:Program} {w:World} {kT:TypeId} {k v:Ty}
def qa3{k v:Ty}(d:k.data):List (k.data×v.data)→List MapEntry→Nat→Option (Nat×Value)
 |p::l,e::es,i=>match qbr k d p.1 with
  |true=>some (i,e.val)
  |false=>qa3 d l es (i+1)
 |_,_,_=>none
theorem qeq(hf:kfit P kT k=true){d:k.data}{x:Value}(hx:DVal (fun _=>none) k d x):∀(l:List (k.data×v.data))(es:List MapEntry)(i:Nat),EntsRel k v l es →
  (Instr.findAsking kT x es i).run P w=.ok (qa3 d l es i) w
 |[],[],i,_=>rfl
 |[],_::_,_,h=>h.elim
 |_::_,[],_,h=>h.elim
 |p::l,e::es,i,⟨⟨h1,_⟩,h2⟩=>by
  have e1:(Op.equal kT x e.key).run P w=.ok (qbr k d p.1) w:=qjW hf 9998 hx h1
  have e2:=qeq hf hx l es (i+1) h2
  simp only[Instr.findAsking,Sem.run_bind,e1,Result.andThen_ok,qa3]
  rcases Bool.eq_false_or_eq_true (qbr k d p.1)with hk|hk
  ·simp[hk]
  ·simpa[hk]using e2
theorem qkA{t:TypeId}{k:Ty}(hf:kfit P t k=true)(hk:k.isAgg=false):qeF P t k=true:=by
 unfold kfit at hf
 split at hf
 ·simp only[Bool.and_eq_true]at hf;rw[hk]at hf;exact absurd hf.2 (by simp)
 ·simp only[Bool.and_eq_true]at hf;rw[hk]at hf;exact absurd hf.2 (by simp)
 ·exact hf
theorem qhM(hf:kfit P kT k=true){u:TypeDesc}(hu:P.underlying kT=some u){d:k.data}{x:Value}(hx:DVal (fun _=>none) k d x):∀(l:List (k.data×v.data))(es:List MapEntry)(i:Nat),EntsRel k v l es →
  Instr.findNow u x es i=none∨Instr.findNow u x es i=some (qa3 d l es i)
 |[],[],i,_=>.inr rfl
 |[],_::_,_,h=>h.elim
 |_::_,[],_,h=>h.elim
 |p::l,e::es,i,⟨⟨h1,h1v⟩,h2⟩=>by
  have ih:=qhM hf hu hx l es (i+1) h2
  have one:Instr.sameNow u x e.key=none∨Instr.sameNow u x e.key=some (qbr k d p.1):=by
   cases hk:k.isAgg with
   |true=>
    unfold DVal at hx
    rw[hk]at hx
    obtain⟨cs,rfl,_⟩:=hx
    exact .inl (by cases u<;>rfl)
   |false=>
    have h0:=qkA hf hk
    unfold DVal at hx h1
    rw[hk]at hx h1
    dsimp only at hx h1
    unfold qeF at h0
    split at h0
    ·rename_i q
     rw[hu]at q
     cases q
     have hx:[x]=[Value.bool d]:=hx
     have h1:[e.key]=[Value.bool p.1]:=h1
     injection hx with hx
     injection h1 with h1
     rw[hx,h1]
     exact .inr rfl
    ·rename_i j q
     rw[hu]at q
     cases q
     have hx:[x]=[Value.int _ d]:=hx
     have h1:[e.key]=[Value.int _ p.1]:=h1
     injection hx with hx
     injection h1 with h1
     rw[hx,h1]
     refine .inr ?_
     simp[Instr.sameNow,qbr,qia]
    ·rename_i q
     rw[hu]at q
     cases q
     have hx:[x]=[Value.string d]:=hx
     have h1:[e.key]=[Value.string p.1]:=h1
     injection hx with hx
     injection h1 with h1
     rw[hx,h1]
     refine .inr ?_
     simp[Instr.sameNow,qbr,beq_toListBytes,qiw]
    ·cases h0
  simp only[Instr.findNow,qa3]
  rcases one with one|one
  ·rw[one];exact .inl rfl
  ·rw[one]
   rcases Bool.eq_false_or_eq_true (qbr k d p.1)with hk|hk
   ·simp[hk]
   ·simp only[hk];exact ih
theorem qcE(hf:kfit P kT k=true){u:TypeDesc}(hu:P.underlying kT=some u){d:k.data}{x:Value}(hx:DVal (fun _=>none) k d x){l:List (k.data×v.data)}{es:List MapEntry}(h:EntsRel k v l es):
  (Instr.findKey kT x es).run P w=.ok (qa3 d l es 0) w:=by
 simp only[Instr.findKey,Sem.run_bind,qaa hu,Result.andThen_ok]
 rcases qhM hf hu hx l es 0 h with e|e
 ·rw[e];exact qeq hf hx l es 0 h
 ·rw[e];rfl
theorem qb5{d:k.data}:∀(l:List (k.data×v.data))(es:List MapEntry)(i:Nat),EntsRel k v l es →
  match qa3 d l es i with
  |none=>qj5 l d=none∧∀x,mput l d x=l++[(d,x)]
  |some (j,y)=>∃p n,j=i+n∧l[n]?=some p∧qbr k d p.1=true∧qj5 l d=some p.2∧DVal (fun _=>none) v p.2 y∧(∃e,es[n]?=some e∧DVal (fun _=>none) k p.1 e.key)∧∀x,mput l d x=l.set n (d,x)
 |[],[],i,_=>⟨rfl,fun _=>rfl⟩
 |[],_::_,_,h=>h.elim
 |_::_,[],_,h=>h.elim
 |p::l,e::es,i,⟨⟨h0,h1⟩,h2⟩=>by
  have ih:=qb5 (d:=d) l es (i+1) h2
  simp only[qa3]
  rcases Bool.eq_false_or_eq_true (qbr k d p.1)with hk|hk
  ·simp only[hk]
   exact⟨p,0,rfl,rfl,hk,by simp[qj5,hk],h1,⟨e,rfl,h0⟩,fun x=>by simp[mput,hk]⟩
  ·simp only[hk]
   cases hq:qa3 d l es (i+1)with
   |none=>
    rw[hq]at ih
    exact⟨by simp[qj5,hk,ih.1],fun x=>by simp[mput,hk,ih.2]⟩
   |some jy=>
    obtain⟨j,y⟩:=jy
    rw[hq]at ih
    obtain⟨q,n,a1,a2,a3,a4,a5,a6,a7⟩:=ih
    exact⟨q,n+1,by omega,by simpa using a2,a3,by simp[qj5,hk,a4],a5,by simpa using a6,fun x=>by simp[mput,hk,a7]⟩
end
theorem qcd:∀{t:Ty}{f:Frozen}{d:t.data}{cs:List Value},t.flat=true→DRel f t d cs→∀n,∀x∈cs,Instr.sameBits n x x=true
 |.int _,_,_,_,_,h,n,x,hx=>by
  have h:_=[Value.int _ _]:=h
  rw[h]at hx
  simp only[List.mem_singleton]at hx
  subst hx
  cases n<;>simp[Instr.sameBits]
 |.bool,_,_,_,_,h,n,x,hx=>by
  have h:_=[Value.bool _]:=h
  rw[h]at hx
  simp only[List.mem_singleton]at hx
  subst hx
  cases n<;>simp[Instr.sameBits]
 |.str,_,d,_,_,h,n,x,hx=>by
  have h:_=[Value.string d]:=h
  rw[h]at hx
  simp only[List.mem_singleton]at hx
  subst hx
  have:(d==d)=true:=by rw[beq_toListBytes];exact beq_self_eq_true _
  cases n<;>simpa[Instr.sameBits]using this
 |.unit,_,_,_,_,h,_,x,hx=>by
  have h:_=[]:=h
  rw[h]at hx;cases hx
 |.pair a b,_,_,_,hf,⟨p,q,e,h2,h3⟩,n,x,hx=>by
  simp only[Ty.flat]at hf
  split at hf
  ·rename_i ha
   rw[e]at hx
   rcases List.mem_append.1 hx with hx|hx
   ·exact qcd ha h2 n x hx
   ·exact qcd hf h3 n x hx
  ·cases hf
 |.slice _,_,_,_,hf,_,_,_,_=>by cases hf
theorem qfE(n:Nat):∀(l:List Value),(∀x∈l,Instr.sameBits n x x=true)→((l.zip l).all fun(x,y)=>Instr.sameBits n x y)=true
 |[],_=>rfl
 |x::l,h=>by
  simp only[List.zip_cons_cons,List.all_cons,Bool.and_eq_true]
  exact⟨h x (by simp),qfE n l fun y hy=>h y (by simp[hy])⟩
theorem qjq{t:Ty}{f:Frozen}{d:t.data}{x:Value}(hf:t.flat=true)(h:DVal f t d x)(n:Nat):Instr.sameBits (n+1) x x=true:=by
 unfold DVal at h
 cases ht:t.isAgg with
 |true=>
  rw[ht]at h
  obtain⟨cs,rfl,h⟩:=h
  have:=qfE n cs.toList (qcd hf h n)
  simp only[Instr.sameBits,beq_self_eq_true,Bool.true_and]
  exact this
 |false=>
  rw[ht]at h
  exact qcd hf h (n+1) x (by simp)
theorem EntsRel.append{k v:Ty}{e:MapEntry}{d:k.data}{x:v.data}(h1:DVal (fun _=>none) k d e.key)(h2:DVal (fun _=>none) v x e.val):∀{l:List (k.data×v.data)}{es:List MapEntry},EntsRel k v l es→EntsRel k v (l++[(d,x)]) (es++[e])
 |[],[],_=>⟨⟨h1,h2⟩,trivial⟩
 |[],_::_,h=>h.elim
 |_::_,[],h=>h.elim
 |_::_,_::_,⟨h,t⟩=>⟨h,t.append h1 h2⟩
theorem EntsRel.set{k v:Ty}{e:MapEntry}{d:k.data}{x:v.data}(h1:DVal (fun _=>none) k d e.key)(h2:DVal (fun _=>none) v x e.val):∀{l:List (k.data×v.data)}{es:List MapEntry}(n:Nat),EntsRel k v l es→EntsRel k v (l.set n (d,x)) (es.set n e)
 |[],[],_,_=>trivial
 |[],_::_,_,h=>h.elim
 |_::_,[],_,h=>h.elim
 |_::_,_::_,0,⟨_,t⟩=>⟨⟨h1,h2⟩,t⟩
 |_::_,_::_,n+1,⟨h,t⟩=>⟨h,t.set h1 h2 n⟩
theorem qo9{es:List MapEntry}{n:Nat}{e e':MapEntry}(hn:es[n]?=some e)(hb:e'.born=e.born):(es.set n e').map (·.born)=es.map (·.born):=by
 apply List.ext_getElem?
 intro j
 simp only[List.getElem?_map,List.getElem?_set]
 by_cases hj:n=j
 ·subst hj
  have hlt:n<es.length:=(List.getElem?_eq_some_iff.1 hn).1
  have he:es[n]=e:=by
   have:=(List.getElem?_eq_some_iff.1 hn).2;exact this
  simp[hlt,hb,he]
 ·simp[hj]
theorem MapRel.put{k v:Ty}{l:List (k.data×v.data)}{es:Array MapEntry}{clock:Nat}(h:MapRel k v l es.toList clock){d:k.data}{x:v.data}{key val:Value}(hk:DVal (fun _=>none) k d key)(hv:DVal (fun _=>none) v x val):
  match qa3 d l es.toList 0 with
  |none=>MapRel k v (mput l d x) (es.push { key,val,born:=clock }).toList (clock+1)
  |some (i,_)=>MapRel k v (mput l d x) (es.modify i fun e=>{ e with key,val }).toList clock:=by
 have hf:=qb5 (d:=d) l es.toList 0 h.ents
 cases hq:qa3 d l es.toList 0 with
 |none=>
  rw[hq]at hf
  rw[hf.2 x]
  dsimp only
  refine⟨h.kflat,h.vflat,by rw[Array.toList_push];exact h.ents.append hk hv,?_,?_⟩
  ·have h1:=h.num
   have h2:=h.clk
   rw[Array.toList_push,List.map_append,h1,List.length_append,List.length_singleton,List.range_succ]
   simp[h2]
  ·have h2:=h.clk
   rw[Array.toList_push,List.length_append,List.length_singleton]
   omega
 |some jy=>
  obtain⟨j,y⟩:=jy
  rw[hq]at hf
  obtain⟨p,n,a1,a2,a3,a4,a5,⟨e,a6,_⟩,a7⟩:=hf
  have a1:j=n:=by omega
  subst a1
  rw[a7 x]
  dsimp only
  have hm:(es.modify j fun e=>{ e with key,val }).toList=es.toList.set j { e with key,val }:=by
   apply List.ext_getElem?
   intro i
   have a6':es[j]?=some e:=by simpa using a6
   have hlt:j<es.size:=(Array.getElem?_eq_some_iff.1 a6').1
   rw[Array.getElem?_toList,Array.getElem?_modify,List.getElem?_set]
   by_cases hj:j=i
   ·subst hj
    have he:es[j]=e:=(Array.getElem?_eq_some_iff.1 a6').2
    simp[hlt,he]
   ·simp[hj]
  rw[hm]
  refine⟨h.kflat,h.vflat,h.ents.set (e:={ e with key,val }) hk hv j,?_,?_⟩
  ·rw[qo9 (e':={ key:=key,val:=val,born:=e.born }) a6 rfl,List.length_set];exact h.num
  ·rw[List.length_set];exact h.clk
def qei(P:Program)(t:TypeId)(h:H):Option (V×H):=
 match P.underlying t with
 |some (.map kT eT)=>match tyOf P 8 kT,tyOf P 8 eT with
  |some k,some v=>match k.flat&&v.flat with
   |true=>some (.map (some h.next),h.push (.map k v []))
   |false=>none
  |_,_=>none
 |_=>none
def qpP{α:Type}(r:Option α)(z:α):α:=
 match r with
 |some x=>x
 |none=>z
def found{α:Type}(r:Option α):Bool:=
 match r with
 |some _=>true
 |none=>false
def qrH{v:Ty}(ok:Bool)(r:Option v.data)(z:v.data):V:=
 match ok with
 |true=>.tuple [valV v (qpP r z),.bool (found r)]
 |false=>valV v (qpP r z)
def qih(P:Program)(t:TypeId)(m x:V)(ok:Bool)(h:H):Option (V×H):=
 match P.underlying t,m with
 |some (.map kT eT),.map (some b)=>match h.get b with
  |some (.map k v l)=>match kfit P kT k,decV k x,zeroOf P eT with
   |true,some d,some z=>match decV v z with
    |some z=>some (qrH ok (qj5 l d) z,h)
    |none=>none
   |_,_,_=>none
  |_=>none
 |_,_=>none
def qcr(P:Program)(t:TypeId)(m x y:V)(h:H):Option (V×H):=
 match P.underlying t,m with
 |some (.map kT _),.map (some b)=>match h.get b with
  |some (.map k v l)=>match kfit P kT k,decV k x,decV v y,Nat.ble h.ro b with
   |true,some d,some z,true=>some (.bot,h.set b (.map k v (mput l d z)))
   |_,_,_,_=>none
  |_=>none
 |_,_=>none
def qit(P:Program)(ts:Array TypeId)(args:List V)(h:H):Option (V×H):=
 match ts[0]?,args with
 |some t,.map (some b)::_=>match P.underlying t,h.get b with
  |some (.map _ _),some (.map _ _ l)=>some (.int .i64 l.length,h)
  |_,_=>none
 |_,_=>none
section
variable {P:Program} {φ:Map} {w:World} {h h':H} {v:V}
theorem qfH{t:TypeId}{r:Option Value}(hr0:∀x,r=some x→∃k n,x=.int k n)(e:qei P t h=some (v,h'))(hr:HRel φ h w):
  h'.said=h.said∧∃φ' w' x,(Instr.makeMap t r).run P w=.ok x w'∧VRel φ' v x∧Goes φ h w φ' h' w':=by
 unfold qei at e
 split at e
 ·rename_i kT eT hu
  split at e
  ·rename_i k u _ _
   split at e
   ·rename_i hf
    cases e
    refine⟨by rw[H.push_eq],?_⟩
    simp only[Bool.and_eq_true]at hf
    obtain⟨g,hk⟩:=Goes.push hr (w':=w.alloc (.map #[] 0)) (.map k u []) _ (0,0) rfl rfl rfl rfl
     (⟨hf.1,hf.2,trivial,rfl,rfl⟩:MapRel k u [] (#[]:Array MapEntry).toList 0)
    refine⟨_,_,.map (some w.heap.size),?_,.map _ _ hk,g⟩
    cases r with
    |none=>simp[Instr.makeMap]
    |some x=>
     obtain⟨q,n,rfl⟩:=hr0 x rfl
     simp[Instr.makeMap,qaa hu,asInt,asIntOf]
   ·cases e
  ·cases e
 ·cases e
theorem qan{b:Nat}{es:Array MapEntry}{clock:Nat}(hb:w.heap[b]?=some (.map es clock)):(getObj b).run P w=.ok (.map es clock) w:=MapKept.run_getObj_map hb
theorem HRel.map{b:Nat}{k u:Ty}{l:List (k.data×u.data)}(hr:HRel φ h w)(hg:h.get b=some (.map k u l)):
  ∃q es clock,φ b=some q∧w.heap[q.1]?=some (.map es clock)∧MapRel k u l es.toList clock:=by
 obtain⟨q,o,h1,h2,h3⟩:=hr.obj b _ hg (by simp)
 cases o<;>simp only[ObRel]at h3
 exact⟨q,_,_,h1,h2,h3⟩
theorem qkK{t:TypeId}{m x:V}{m' x':Value}{ok:Bool}(e:qih P t m x ok h=some (v,h'))(hm:VRel φ m m')(hx:VRel φ x x')(hr:HRel φ h w):
  h'=h∧∃r,(Instr.lookup t m' x' ok).run P w=.ok r w∧VRel φ v r:=by
 unfold qih at e
 split at e
 ·rename_i kT eT b hu
  split at e
  ·rename_i k u l hg
   split at e
   ·rename_i d z hf hd hz
    split at e
    ·rename_i z0 hz0
     cases e
     refine⟨rfl,?_⟩
     obtain⟨q,es,clock,h1,h2,h3⟩:=hr.map hg
     cases hm with
     |map _ q' hq=>
      rw[hq]at h1
      cases h1
      have hxd:=(qcf hd hx).bare h3.kflat
      obtain⟨z',hzr,hzv⟩:=qcq (P:=P) (w:=w) (φ:=φ) hz
      have hzd:=qcf hz0 hzv
      have hcheck:=qcJ (w:=w) hf es.isEmpty 9998 hxd
      have hcheck:(Instr.checkKey es.isEmpty 10000 kT x').run P w=.ok () w:=hcheck
      obtain⟨uk,huk⟩:∃uk,P.underlying kT=some uk:=by
       cases hq:P.underlying kT with
       |some uk=>exact⟨uk,rfl⟩
       |none=>unfold kfit qeF at hf;rw[hq]at hf;cases hf
      have hfind:=qcE (w:=w) hf huk hxd h3.ents
      have hff:=qb5 (d:=d) l es.toList 0 h3.ents
      cases hfa:qa3 d l es.toList 0 with
      |none=>
       rw[hfa]at hff hfind
       rw[hff.1]
       cases ok with
       |true=>
        refine⟨.tuple #[z',.bool false],?_,.tuple _ _ (.cons hzd.val (.cons (.bool _) .nil))⟩
        simp[Instr.lookup,qaa hu,qan h2,hcheck,hfind,hzr]
       |false=>
        refine⟨z',?_,hzd.val⟩
        simp[Instr.lookup,qaa hu,qan h2,hcheck,hfind,hzr]
      |some jy=>
       obtain⟨j,y⟩:=jy
       rw[hfa]at hff hfind
       obtain⟨p,n,a1,a2,a3,a4,a5,a6,a7⟩:=hff
       rw[a4]
       have hy:=(a5.mono (qe8 φ.fz)).val
       cases ok with
       |true=>
        refine⟨.tuple #[y,.bool true],?_,.tuple _ _ (.cons hy (.cons (.bool _) .nil))⟩
        simp[Instr.lookup,qaa hu,qan h2,hcheck,hfind]
       |false=>
        refine⟨y,?_,hy⟩
        simp[Instr.lookup,qaa hu,qan h2,hcheck,hfind]
    ·cases e
   ·cases e
  ·cases e
 ·cases e
theorem qem{t:TypeId}{m x y:V}{m' x' y':Value}(e:qcr P t m x y h=some (v,h'))(hm:VRel φ m m')(hx:VRel φ x x')(hy:VRel φ y y')(hr:HRel φ h w):
  v=.bot∧h'.said=h.said∧∃w',(Instr.mapUpdate t m' x' y').run P w=.ok () w'∧Goes φ h w φ h' w':=by
 unfold qcr at e
 split at e
 ·rename_i kT eT b hu
  split at e
  ·rename_i k u l hg
   split at e
   ·rename_i d z hf hd hz hro
    cases e
    refine⟨rfl,by rw[H.set_eq],?_⟩
    obtain⟨q,es,clock,h1,h2,h3⟩:=hr.map hg
    cases hm with
    |map _ q' hq=>
     rw[hq]at h1
     cases h1
     have hxd:=(qcf hd hx).bare h3.kflat
     have hyd:=(qcf hz hy).bare h3.vflat
     have hcheck:(Instr.checkKey false 10000 kT x').run P w=.ok () w:=qcJ (w:=w) hf false 9998 hxd
     obtain⟨uk,huk⟩:∃uk,P.underlying kT=some uk:=by
      cases hq:P.underlying kT with
      |some uk=>exact⟨uk,rfl⟩
      |none=>unfold kfit qeF at hf;rw[hq]at hf;cases hf
     have hfind:=qcE (w:=w) hf huk hxd h3.ents
     have hff:=qb5 (d:=d) l es.toList 0 h3.ents
     have hput:=MapRel.put h3 hxd hyd
     have hlt:q.1<w.heap.size:=(Array.getElem?_eq_some_iff.1 h2).1
     have fin:∀es' clock',MapRel k u (mput l d z) es'.toList clock'→Goes φ h w φ (h.set b (.map k u (mput l d z))) { w with heap:=w.heap.setIfInBounds q.1 (.map es' clock') }:=fun es' clock' hm=>
      Goes.write hr hg (Nat.le_of_ble_eq_true hro) hq (o:=.map es' clock') (by simp[hlt]) (by simp) (fun j hj=>by simp[Ne.symm hj]) rfl rfl rfl hm
     cases hfa:qa3 d l es.toList 0 with
     |none=>
      rw[hfa]at hfind hput
      refine⟨_,?_,fin _ _ hput⟩
      simp[Instr.mapUpdate,qaa hu,qan h2,hcheck,hfind,MapKept.run_setObj_map _ h2]
     |some jy=>
      obtain⟨j,y0⟩:=jy
      rw[hfa]at hff hfind hput
      obtain⟨p,n,a1,a2,a3,a4,a5,⟨e0,a6,a8⟩,a7⟩:=hff
      have a1:j=n:=by omega
      subst a1
      have a6':es[j]?=some e0:=by simpa using a6
      have hkk:e0.key=x':=by
       have:d=p.1:=qip a3
       rw[←this]at a8
       exact DVal.one h3.kflat a8 hxd
      have hst:(Instr.keyThatStays x' x').run P w=.ok x' w:=by
       simp[Instr.keyThatStays,qjq h3.kflat hxd 9999]
      refine⟨_,?_,fin _ _ hput⟩
      simp[Instr.mapUpdate,qaa hu,qan h2,hcheck,hfind,a6',hkk,hst,MapKept.run_setObj_map _ h2]
   ·cases e
  ·cases e
 ·cases e
theorem qlg{ts:Array TypeId}{ty:TypeId}{args:List V}{args':Array Value}(e:qit P ts args h=some (v,h'))(ha:VRels φ args args'.toList)(hr:HRel φ h w):
  h'=h∧∃r,(Builtin.len_ ts ty args').run P w=.ok r w∧VRel φ v r:=by
 unfold qit at e
 split at e
 ·rename_i t b rest ht
  split at e
  ·rename_i u1 u2 k u l hu hg
   cases e
   refine⟨rfl,?_⟩
   obtain⟨q,es,clock,h1,h2,h3⟩:=hr.map hg
   have ha0:∃m',args'[0]?=some m'∧VRel φ (.map (some b)) m':=by
    obtain⟨r,hr1,hr2⟩:=ha.get 0 _ rfl
    exact⟨r,by simpa using hr1,hr2⟩
   obtain⟨m',hm',hmv⟩:=ha0
   cases hmv with
   |map _ q' hq=>
    rw[hq]at h1
    cases h1
    have:=h3.ents.len
    have hl:es.size=l.length:=by simpa using this
    refine⟨.int .i64 l.length,?_,.int _ _⟩
    simp[Builtin.len_,ht,hm',qaa hu,qan h2,goInt,hl]
  ·cases e
 ·cases e
end
section
variable {P:Program} {w:World}
theorem qeH{b:Nat}{m:Option Nat}{s l:Nat}{seen:Array Nat}(hb:w.heap[b]?=some (.mapIter m s seen l)):(getObj b).run P w=.ok (.mapIter m s seen l) w:=by
 simp[getObj,Sem.run,hb]
theorem qk7{b:Nat}{m:Option Nat}{s l:Nat}{seen:Array Nat}{m':Option Nat}{s' l':Nat}{seen':Array Nat}(hb:w.heap[b]?=some (.mapIter m s seen l)):
  (setObj b (.mapIter m' s' seen' l')).run P w=.ok () { w with heap:=w.heap.setIfInBounds b (.mapIter m' s' seen' l') }:=by
 simp[setObj,Sem.run,hb]
end
theorem Goes.froze{φ:Map}{h:H}{w w':World}(hr:HRel φ h w){cs c:Array Value}{t:TypeId}{z:Nat×Nat}(hw:w'.heap=w.heap.push (.cells cs t z))(hc:Begins c cs)(h1:w'.os=w.os)(h2:w'.tape=w.tape)(h3:w'.output=w.output):
  Goes φ h w { φ with fz:=fun k=>if k=w.heap.size then some c else φ.fz k } h w':=by
 have hsz:w'.heap.size=w.heap.size+1:=by rw[hw];simp
 have hold:∀k,k<w.heap.size→w'.heap[k]?=w.heap[k]?:=by
  intro k hk
  rw[hw,Array.getElem?_push,if_neg (by omega)]
 have hnew:w'.heap[w.heap.size]?=some (.cells cs t z):=by rw[hw];simp
 have hnf:φ.fz w.heap.size=none:=by
  cases e:φ.fz w.heap.size with
  |none=>rfl
  |some c=>have:=hr.fdom e;omega
 have hle:φ.le { φ with fz:=fun k=>if k=w.heap.size then some c else φ.fz k }:=⟨fun _ _ e=>e,fun k c0 e=>by
  dsimp only
  by_cases hk:k=w.heap.size
  ·subst hk;rw[hnf]at e;cases e
  ·rw[if_neg hk];exact⟨c0,e,Begins.refl _⟩,fun _ _ e=>e,rfl⟩
 constructor
 ·exact hle
 ·constructor
  ·intro b x hb hx
   obtain⟨k,o,h4,h5,h6⟩:=hr.obj b x hb hx
   exact⟨k,o,h4,by rw[hold _ (hr.dom _ _ h4).2];exact h5,h6.mono hle⟩
  ·exact hr.inj
  ·intro b k hk
   have:=hr.dom b k hk
   omega
  ·exact hr.rle
  ·intro k d e
   dsimp only at e
   split at e
   ·rename_i hk
    cases e
    subst hk
    exact⟨cs,t,_,hnew,hc⟩
   ·obtain⟨cs',t',z',e1,e2⟩:=hr.fz k d e
    exact⟨cs',t',z',by rw[hold _ (hr.fdom e)];exact e1,e2⟩
  ·intro b x k hb hk
   have hlt:=(hr.dom b k hk).2
   dsimp only
   rw[if_neg (by omega)]
   exact hr.own b x k hb hk
  ·intro b hb
   obtain⟨m,h4,h5⟩:=hr.tip b hb
   refine⟨m,h4,fun blk en sz e=>?_⟩
   obtain⟨⟨c',hc',hcs⟩,cs',t',h6,h7⟩:=h5 blk en sz e
   have hlt:=hr.fdom hc'
   refine⟨⟨c',?_,hcs⟩,cs',t',by rw[hold _ hlt];exact h6,h7⟩
   dsimp only
   rw[if_neg (by omega)];exact hc'
  ·exact hr.tinj
  ·exact hr.tdom
 ·exact Nat.le_refl _
 ·rfl
 ·exact fun _ _ e=>.inl e
 ·omega
 ·exact fun k hk _ _=>hold k hk
 ·exact fun _ _ e=>.inl e
 ·exact fun _ _ _ e=>e
 ·intro k c0 e hk
  dsimp only at e
  rw[if_neg (by omega)]at e
  exact .inl e
 ·exact h1
 ·exact h2
 ·exact h3
def bytesOf(s:ByteArray):List Int:=s.data.toList.map fun b=>(b.toNat:Int)
def qly(P:Program)(src dst:TypeId)(x:V)(h:H):Option (V×H):=
 match P.underlying src,P.underlying dst,x with
 |some .string,some (.slice e),.str s=>match P.underlying e with
  |some (.int .u8)=>some (.vs (.int .u8) (bytesOf s) .no,h)
  |_=>none
 |_,_,_=>none
theorem qiq(s:ByteArray)(cap:Nat)(f:Frozen):LiesIn (DRel f (.int .u8)) 1 (bytesOf s) (bytesRow s cap) 0:=by
 intro i d hi
 refine⟨[.int .u8 d],rfl,rfl,fun j v hj=>?_⟩
 cases j with
 |succ j=>simp at hj
 |zero=>
  simp only[List.getElem?_cons_zero,Option.some.injEq]at hj
  subst hj
  simp only[bytesOf,List.getElem?_map]at hi
  cases hs:s.data.toList[i]? with
  |none=>rw[hs]at hi;cases hi
  |some b=>
   rw[hs]at hi
   cases hi
   have hlt:i<s.data.size:=by
    have:=(List.getElem?_eq_some_iff.1 hs).1
    simpa using this
   have hs':s.data[i]?=some b:=by simpa using hs
   simp only[bytesRow,Nat.zero_add,Nat.mul_one,Nat.add_zero]
   rw[Array.getElem?_append_left (by simpa using hlt)]
   simp[hs']
theorem qmR{P:Program}{φ:Map}{w:World}{src dst:TypeId}{x:V}{x':Value}{h h':H}{v:V}(e:qly P src dst x h=some (v,h'))(hx:VRel φ x x')(hr:HRel φ h w):
  h'=h∧∃φ' w' r,(convert src dst x').run P w=.ok r w'∧VRel φ' v r∧Goes φ h w φ' h' w':=by
 unfold qly at e
 split at e
 ·rename_i e1 s hs hd
  split at e
  ·rename_i he
   cases e
   refine⟨rfl,?_⟩
   cases hx
   refine⟨_,_,_,run_bytes_of_string w src dst e1 s hs hd he,?_,Goes.froze (c:=bytesRow s (grownCap w s.size 0 e1)) hr rfl (Begins.refl _) rfl rfl rfl⟩
   have hl:s.size=(bytesOf s).length:=by
    unfold bytesOf
    rw[List.length_map,Array.length_toList];rfl
   have hcap:s.size≤grownCap w s.size 0 e1:=by
    unfold grownCap
    exact Nat.le_add_right _ _
   refine .vs _ _ _ _ _ _ hcap ⟨hl,.inr ⟨w.heap.size,0,bytesRow s (grownCap w s.size 0 e1),rfl,by simp,?_,qiq s _ _⟩⟩ trivial
   simp[bytesRow,bytesOf,Ty.cells]
  ·cases e
 ·cases e
end Go.Vm

namespace Go.Vm
open Go
def qct{α:Type}:Nat→List α→List (Nat×α)
 |_,[]=>[]
 |i,p::l=>(i,p)::qct (i+1) l
theorem qgv{α:Type}:∀(i:Nat)(l:List α),(qct i l).map Prod.snd=l
 |_,[]=>rfl
 |i,p::l=>by simp only[qct,List.map_cons,qgv (i+1) l]
theorem qdA{α:Type}:∀(i:Nat)(l:List α),(qct i l).map Prod.fst=List.range' i l.length
 |_,[]=>rfl
 |i,p::l=>by simp only[qct,List.map_cons,qdA (i+1) l,List.length_cons,List.range'_succ]
def ddel{k v:Ty}(d:k.data):List (Nat×(k.data×v.data))→List (Nat×(k.data×v.data))
 |[]=>[]
 |p::l=>match qbr k d p.2.1 with
  |true=>l
  |false=>p::ddel d l
def leftD{α:Type}(seen:List Nat)(l:List (Nat×α)):List Nat:=(l.map Prod.fst).filter fun i=>!seen.contains i
def hasE{α:Type}(l:List (Nat×α))(i:Nat):Bool:=
 match l with
 |[]=>false
 |p::r=>match Nat.beq p.1 i with
  |true=>true
  |false=>hasE r i
def entE{k v:Ty}(l:List (Nat×(k.data×v.data)))(i:Nat):k.data×v.data:=
 match l with
 |[]=>(k.dflt,v.dflt)
 |p::r=>match Nat.beq p.1 i with
  |true=>p.2
  |false=>entE r i
def qi0(P:Program)(t:TypeId)(m:V)(h:H):Option (V×H):=
 match P.underlying t,m with
 |some (.map _ _),.map (some b)=>match Nat.ble h.ro b,h.get b with
  |true,some (.map k v l)=>match h.set b (.mapd k v (qct 0 l) l.length)with
   |h2=>some (.ptr (some ⟨h2.next,1,0,0⟩),h2.push (.mit b l.length []))
  |true,some (.mapd _ _ _ ck)=>some (.ptr (some ⟨h.next,1,0,0⟩),h.push (.mit b ck []))
  |_,_=>none
 |_,_=>none
def qlh(it:V)(isString:Bool)(h:H):Option (V×H):=
 match isString,it with
 |false,.ptr (some ⟨b,_,0,0⟩)=>match h.get b with
  |some (.mit m since seen)=>match h.get m with
   |some (.mapd _ _ l ck)=>match Nat.ble h.ro b with
    |true=>match h.test (Nat.beq ck since)with
     |some (true,h)=>match leftD seen l with
      |[]=>some (.tuple [.bool false],h)
      |[i]=>some (.tuple [.bool true,.bot,.bot],h.set b (.mit m since (i::seen)))
      |_=>none
     |_=>none
    |false=>none
   |_=>none
  |_=>none
 |_,_=>none
def qrn(pk:Option Nat)(it:V)(h:H):Option (V×H):=
 match it with
 |.ptr (some ⟨b,_,0,0⟩)=>match h.get b with
  |some (.mit m since seen)=>match h.get m with
   |some (.mapd _ _ _ ck)=>match Nat.ble h.ro b with
    |true=>match h.test (Nat.beq ck since)with
     |some (true,h)=>match pk with
      |none=>some (.tuple [.bool false],h)
      |some i=>some (.tuple [.bool true,.bot,.bot],h.set b (.mit m since (i::seen)))
     |_=>none
    |false=>none
   |_=>none
  |_=>none
 |_=>none
def qpX(l:List Nat):Option Nat→Prop
 |none=>l=[]
 |some i=>i∈l
def qiU(it:V)(h:H):Option (V×H):=
 match it with
 |.ptr (some ⟨b,_,0,0⟩)=>match h.get b with
  |some (.mit m since seen)=>match h.get m with
   |some (.mapd k v l ck)=>match Nat.ble h.ro b,seen with
    |true,i::_=>match h.test (Nat.beq ck since)with
     |some (true,h)=>match h.test (hasE l i)with
      |some (true,h)=>some (.tuple [valV k (entE l i).1,valV v (entE l i).2],h)
      |_=>none
     |_=>none
    |_,_=>none
   |_=>none
  |_=>none
 |_=>none
def qgb(P:Program)(t:TypeId)(m x:V)(ok:Bool)(h:H):Option (V×H):=
 match P.underlying t,m with
 |some (.map kT eT),.map (some b)=>match h.get b with
  |some (.mapd k v l _)=>match kfit P kT k,decV k x,zeroOf P eT with
   |true,some d,some z=>match decV v z with
    |some z=>some (qrH ok (qj5 (l.map Prod.snd) d) z,h)
    |none=>none
   |_,_,_=>none
  |_=>none
 |_,_=>none
def qin(P:Program)(ts:Array TypeId)(args:List V)(h:H):Option (V×H):=
 match ts[0]?,args with
 |some t,[.map (some b),x]=>match P.underlying t,h.get b with
  |some (.map kT _),some (.mapd k v l ck)=>match kfit P kT k,decV k x,Nat.ble h.ro b with
   |true,some d,true=>some (.tuple [],h.set b (.mapd k v (ddel d l) ck))
   |_,_,_=>none
  |_,_=>none
 |_,_=>none
section
variable {P:Program} {φ:Map} {w:World} {h h':H} {v:V}
theorem HRel.mapd{b:Nat}{k u:Ty}{l:List (Nat×(k.data×u.data))}{ck:Nat}(hr:HRel φ h w)(hg:h.get b=some (.mapd k u l ck)):
  ∃q es clock,φ b=some q∧w.heap[q.1]?=some (.map es clock)∧MapRelD k u l ck es.toList clock:=by
 obtain⟨q,o,h1,h2,h3⟩:=hr.obj b _ hg (by simp)
 cases o<;>simp only[ObRel]at h3
 exact⟨q,_,_,h1,h2,h3⟩
theorem MapRel.numbered{k u:Ty}{l:List (k.data×u.data)}{es:List MapEntry}{clock:Nat}(h:MapRel k u l es clock):MapRelD k u (qct 0 l) l.length es clock where
 kflat:=h.kflat
 vflat:=h.vflat
 ents:=by rw[qgv];exact h.ents
 num:=by rw[qdA,h.num,h.ents.len,List.range_eq_range']
 lt:=by
  intro p hp
  have:p.1∈(qct 0 l).map Prod.fst:=List.mem_map.2 ⟨p,hp,rfl⟩
  rw[qdA]at this
  have:=List.mem_range'.1 this
  obtain⟨i,h1,h2⟩:=this
  omega
 nodup:=by rw[qdA];exact List.nodup_range'
 clk:=by rw[h.clk,h.ents.len]
theorem qkX{t:TypeId}{m:V}{m':Value}(e:qi0 P t m h=some (v,h'))(hm:VRel φ m m')(hr:HRel φ h w):
  h'.said=h.said∧∃φ' w' r,(Instr.range t m').run P w=.ok r w'∧VRel φ' v r∧Goes φ h w φ' h' w':=by
 unfold qi0 at e
 split at e
 ·rename_i kT eT b hu
  split at e
  ·rename_i k u l hro hg
   cases e
   refine⟨by rw[H.push_eq,H.set_eq],?_⟩
   obtain⟨q,es,clock,h1,h2,h3⟩:=hr.map hg
   have hlt:q.1<w.heap.size:=(Array.getElem?_eq_some_iff.1 h2).1
   have g0:Goes φ h w φ (h.set b (.mapd k u (qct 0 l) l.length)) w:=
    Goes.write hr hg (Nat.le_of_ble_eq_true hro) h1 (o:=.map es clock) h2 rfl (fun _ _=>rfl) rfl rfl rfl h3.numbered
   cases hm with
   |map _ q' hq=>
    rw[hq]at h1
    cases h1
    have hc:clock=l.length:=by rw[h3.clk,h3.ents.len]
    obtain⟨g,hk⟩:=Goes.push g0.rel (w':=w.alloc (.mapIter (some q.1) clock #[] clock)) (.mit b l.length []) _ (0,0) rfl rfl rfl rfl
     (⟨rfl,⟨q,hq,rfl⟩,hc,rfl,hc⟩:ObRel φ true (0,0) (.mit b l.length []) (.mapIter (some q.1) clock #[] clock))
    refine⟨_,_,.pointer (some ⟨w.heap.size,0,none⟩),?_,?_,g0.trans g⟩
    ·simp[Instr.range,qaa hu,qan h2]
    ·have:(⟨w.heap.size,0,none⟩:Addr)=(⟨(h.set b (.mapd k u (qct 0 l) l.length)).next,1,0,0⟩:VA).real (w.heap.size,0,0):=by simp[VA.real]
     rw[this]
     exact .ptr _ _ hk
  ·rename_i k u l ck hro hg
   cases e
   refine⟨by rw[H.push_eq],?_⟩
   obtain⟨q,es,clock,h1,h2,h3⟩:=hr.mapd hg
   cases hm with
   |map _ q' hq=>
    rw[hq]at h1
    cases h1
    have hc:clock=ck:=h3.clk
    obtain⟨g,hk⟩:=Goes.push hr (w':=w.alloc (.mapIter (some q.1) clock #[] clock)) (.mit b ck []) _ (0,0) rfl rfl rfl rfl
     (⟨rfl,⟨q,hq,rfl⟩,hc,rfl,hc⟩:ObRel φ true (0,0) (.mit b ck []) (.mapIter (some q.1) clock #[] clock))
    refine⟨_,_,.pointer (some ⟨w.heap.size,0,none⟩),?_,?_,g⟩
    ·simp[Instr.range,qaa hu,qan h2]
    ·have:(⟨w.heap.size,0,none⟩:Addr)=(⟨h.next,1,0,0⟩:VA).real (w.heap.size,0,0):=by simp[VA.real]
     rw[this]
     exact .ptr _ _ hk
  ·cases e
 ·cases e
theorem HRel.mitD{b m since:Nat}{seen:List Nat}{k u:Ty}{l:List (Nat×(k.data×u.data))}{ck:Nat}(hr:HRel φ h w)(hg:h.get b=some (.mit m since seen))(hgm:h.get m=some (.mapd k u l ck))(hl:ck=since):
  ∃q r es seen',φ b=some q∧q.2.2=0∧φ m=some r∧w.heap[q.1]?=some (.mapIter (some r.1) since seen' since)∧seen'.toList=seen.reverse∧w.heap[r.1]?=some (.map es since)∧MapRelD k u l ck es.toList since:=by
 obtain⟨q,o,h1,h2,h3⟩:=hr.obj b _ hg (by simp)
 obtain⟨r,es,clock,g1,g2,g3⟩:=hr.mapd hgm
 cases o<;>simp only[ObRel]at h3
 rename_i mm s' seen' last
 cases mm with
 |none=>exact h3.elim
 |some mm=>
  obtain⟨a0,⟨r',a1,a2⟩,a3,a4,a5⟩:=h3
  rw[g1]at a1
  cases a1
  subst a2 a3 a5
  have hc:=g3.clk.trans hl
  subst hc
  exact⟨q,r,es,seen',h1,a0,g1,h2,a4,g2,g3⟩
theorem next_any{b n m since:Nat}{seen:List Nat}{k u:Ty}{l:List (Nat×(k.data×u.data))}{ck:Nat}{it':Value}{ty:TypeId}(hg:h.get b=some (.mit m since seen))(hgm:h.get m=some (.mapd k u l ck))(hl:ck=since)(hro:h.ro≤b)
  (hi:VRel φ (.ptr (some ⟨b,n,0,0⟩)) it') (hr:HRel φ h w):
  (leftD seen l=[]∧(Instr.next it' false ty).run P w=.ok (.tuple #[.bool false]) w) ∨
  ∃i∈leftD seen l,∃w' x y,(Instr.next it' false ty).run P w=.ok (.tuple #[.bool true,x,y]) w'∧Goes φ h w φ (h.set b (.mit m since (i::seen))) w':=by
 obtain⟨q,r,es,seen',h1,h0,h2,h3,h4,h5,h6⟩:=hr.mitD hg hgm hl
 cases hi with
 |ptr _ q' hq=>
  rw[h1]at hq
  cases hq
  have ha:(⟨b,n,0,0⟩:VA).real q=⟨q.1,0,none⟩:=by simp[VA.real,h0]
  rw[ha]
  have hborn:∀x∈es.toList,x.born<since:=by
   intro x hx
   have:x.born∈es.toList.map (·.born):=List.mem_map.2 ⟨x,hx,rfl⟩
   rw[h6.num]at this
   obtain⟨p,hp,he⟩:=List.mem_map.1 this
   have:=h6.lt p hp
   omega
  have hlast:(!seen'.isEmpty&&!es.isEmpty&&es.all (fun x=>decide (x.born≥since)))=false:=next_test_false seen' es since since hborn (Nat.le_refl _)
  have hold:(es.filter fun e=>!seen'.contains e.born).filter (fun e=>decide (e.born<since))=es.filter fun e=>!seen'.contains e.born:=by
   apply Array.filter_eq_self.2
   intro x hx
   have:=hborn x (Array.mem_toList_iff.2 (Array.mem_filter.1 hx).1)
   simpa using this
  have hnew:(es.filter fun e=>!seen'.contains e.born).filter (fun e=>decide (e.born≥since))=#[]:=by
   apply Array.filter_eq_empty_iff.2
   intro x hx
   have:=hborn x (Array.mem_toList_iff.2 (Array.mem_filter.1 hx).1)
   simpa using this
  have hmap:((es.filter fun e=>!seen'.contains e.born).toList.map (·.born))=leftD seen l:=by
   rw[Array.toList_filter]
   unfold leftD
   have hc:∀i,seen.contains i=seen'.toList.contains i:=by intro i;rw[h4];simp
   simp only[hc]
   rw[←h6.num,List.filter_map]
   congr 1
   apply List.filter_congr
   intro x _
   simp
  generalize hL:(es.filter fun e=>!seen'.contains e.born)=L at hold hnew hmap
  have hlt:q.1<w.heap.size:=(Array.getElem?_eq_some_iff.1 h3).1
  by_cases hz:L.size=0
  ·have hL0:L=#[]:=Array.eq_empty_of_size_eq_zero hz
   subst hL0
   left
   refine⟨by rw[←hmap];rfl,?_⟩
   simp only[Instr.next,Sem.run_bind,qeH h3,qan h5,Result.andThen_ok,hlast,Bool.false_eq_true,if_false,hL,hold,hnew]
   simp[run_choose,Question.forced]
  ·right
   have hne:L.isEmpty=false:=by simp[Array.isEmpty,hz]
   have hch:∃(j:Nat)(w1:World),j<L.size∧w1.heap=w.heap∧w1.os=w.os∧w1.tape=w.tape∧w1.output=w.output∧(choose (Question.mapNext L.size)).run P w=.ok j w1:=by
    by_cases hf:L.size≤1
    ·exact⟨0,w,by omega,rfl,rfl,rfl,rfl,by simp[choose,Sem.run,Question.forced,hf]⟩
    ·refine⟨_,{ w with drawn:=w.drawn+1 },Nat.mod_lt (w.tape w.drawn (.mapNext L.size)) (show 0<L.size by omega),rfl,rfl,rfl,rfl,?_⟩
     simp only[choose,Sem.run,Question.forced,decide_eq_true_eq,hf,if_false,Question.cut]
   obtain⟨j,w1,hj,e1,e2,e3,e4,hrun⟩:=hch
   have hmem:L[j].born∈leftD seen l:=by
    rw[←hmap]
    exact List.mem_map.2 ⟨L[j],by simp,rfl⟩
   have h3':w1.heap[q.1]?=some (.mapIter (some r.1) since seen' since):=by rw[e1];exact h3
   refine⟨L[j].born,hmem,{ w1 with heap:=w1.heap.setIfInBounds q.1 (.mapIter (some r.1) since (seen'.push L[j].born) since) },L[j].key,L[j].val,?_,?_⟩
   ·simp only[Instr.next,Sem.run_bind,qeH h3,qan h5,Result.andThen_ok,hlast,Bool.false_eq_true,if_false,hL,hold,hnew,hne,Array.empty_append,Array.append_empty,Array.size_map,hrun,Array.getElem?_map,Array.getElem?_eq_getElem hj,Option.map_some,qk7 h3']
    rfl
   ·refine Goes.write hr hg hro h1 (o:=.mapIter (some r.1) since (seen'.push L[j].born) since) (by simp[e1,hlt]) (by simp[e1]) (fun j' hj'=>by simp[Ne.symm hj',e1]) e2 e3 e4 ?_
    exact⟨h0,⟨r,h2,rfl⟩,rfl,by rw[Array.toList_push,h4,List.reverse_cons],rfl⟩
theorem qmP{it:V}{it':Value}{isString:Bool}{ty:TypeId}(e:qlh it isString h=some (v,h'))(hh:h'.Holds)(hi:VRel φ it it')(hr:HRel φ h w):
  h.Holds∧∃w' r,(Instr.next it' isString ty).run P w=.ok r w'∧VRel φ v r∧Goes φ h w φ h' w':=by
 unfold qlh at e
 split at e
 ·rename_i b n
  split at e
  ·rename_i m since seen hg
   split at e
   ·rename_i k u l ck hgm
    split at e
    ·rename_i hro
     split at e
     ·rename_i h2 ht
      have hh2:h2.Holds:=by
       split at e
       ·cases e;exact hh
       ·cases e;exact fun p hp=>hh p (by rw[H.set_eq];exact hp)
       ·cases e
      obtain⟨t1,t2,t3⟩:=H.test_holds ht hh2
      obtain⟨u1,u2,u3⟩:=H.test_eqs ht
      have hr2:HRel φ h2 w:=hr.same t3
      have hg2:h2.get b=some (.mit m since seen):=by rw[H.get,u3];exact hg
      have hgm2:h2.get m=some (.mapd k u l ck):=by rw[H.get,u3];exact hgm
      have key:=next_any (P:=P) (ty:=ty) hg2 hgm2 (Nat.eq_of_beq_eq_true t2) (by rw[u2];exact Nat.le_of_ble_eq_true hro) hi hr2
      have g0:Goes φ h w φ h2 w:=Goes.of_same hr t3 rfl rfl rfl rfl
      refine⟨t1,?_⟩
      split at e
      ·rename_i hl0
       cases e
       refine⟨w,.tuple #[.bool false],?_,.tuple _ _ (.cons (.bool _) .nil),g0⟩
       rcases key with⟨_,h1⟩|⟨i,hi,_⟩
       ·exact h1
       ·rw[hl0]at hi;cases hi
      ·rename_i i hl1
       cases e
       rcases key with⟨h0,_⟩|⟨j,hj,w',x,y,h1,h2⟩
       ·rw[hl1]at h0;cases h0
       ·rw[hl1]at hj
        have:=List.mem_singleton.1 hj
        subst this
        exact⟨w',_,h1,.tuple _ _ (.cons (.bool _) (.cons (.bot _) (.cons (.bot _) .nil))),g0.trans h2⟩
      ·cases e
     ·cases e
    ·cases e
   ·cases e
  ·cases e
 ·cases e
theorem qke{k u:Ty}:∀{l:List (Nat×(k.data×u.data))}{es:List MapEntry}{i:Nat},EntsRel k u (l.map Prod.snd) es→es.map (·.born)=l.map Prod.fst→hasE l i=true →
  ∃x,(es.find? fun e=>e.born==i)=some x∧DVal (fun _=>none) k (entE l i).1 x.key∧DVal (fun _=>none) u (entE l i).2 x.val
 |[],_,_,_,_,h=>by cases h
 |p::l,[],_,h,_,_=>h.elim
 |p::l,e::es,i,⟨h1,h2⟩,hn,hh=>by
  simp only[List.map_cons,List.cons.injEq]at hn
  simp only[hasE]at hh
  simp only[entE]
  cases hb:Nat.beq p.1 i with
  |true=>
   have:e.born==i:=by rw[hn.1];exact beq_iff_eq.2 (Nat.eq_of_beq_eq_true hb)
   exact⟨e,by rw[List.find?_cons,this],h1⟩
  |false=>
   rw[hb]at hh
   have:(e.born==i)=false:=by
    rw[hn.1]
    cases hc:p.1==i with
    |false=>rfl
    |true=>rw[beq_iff_eq.1 hc,Nat.beq_refl]at hb;cases hb
   obtain⟨x,q1,q2⟩:=qke h2 hn.2 hh
   exact⟨x,by rw[List.find?_cons,this];exact q1,q2⟩
theorem qkx{it:V}{it':Value}(e:qiU it h=some (v,h'))(hh:h'.Holds)(hi:VRel φ it it')(hr:HRel φ h w):
  h.Holds∧h.Same h'∧∃r,(Instr.entry it').run P w=.ok r w∧VRel φ v r:=by
 unfold qiU at e
 split at e
 ·rename_i b n
  split at e
  ·rename_i m since seen hg
   split at e
   ·rename_i k u l ck hgm
    split at e
    ·rename_i i sn hro
     split at e
     ·rename_i h1' ht1
      split at e
      rotate_left
      ·cases e
      rename_i h2 ht
      cases e
      obtain⟨t1,t2,t3⟩:=H.test_holds ht hh
      obtain⟨s1,s2,s3⟩:=H.test_holds ht1 t1
      refine⟨s1,H.Same.trans s3 t3,?_⟩
      obtain⟨q,r,es,seen',h1,h0,g2,h3,h4,h5,h6⟩:=hr.mitD hg hgm (Nat.eq_of_beq_eq_true s2)
      cases hi with
      |ptr _ q' hq=>
       rw[h1]at hq
       cases hq
       have ha:(⟨b,n,0,0⟩:VA).real q=⟨q.1,0,none⟩:=by simp[VA.real,h0]
       rw[ha]
       have hback:seen'.back?=some i:=by
        rw[←Array.getLast?_toList,h4];simp
       obtain⟨x,hx,hk,hv⟩:=qke h6.ents h6.num t2
       have hfind':(es.find? fun e=>e.born==i)=some x:=by rw[←hx];simp
       refine⟨.tuple #[x.key,x.val],?_,.tuple _ _ (.cons ((hk.mono (qe8 φ.fz)).val) (.cons ((hv.mono (qe8 φ.fz)).val) .nil))⟩
       simp[Instr.entry,qeH h3,qan h5,hback,hfind']
     ·cases e
    ·cases e
   ·cases e
  ·cases e
 ·cases e
theorem qjD{t:TypeId}{m x:V}{m' x':Value}{ok:Bool}(e:qgb P t m x ok h=some (v,h'))(hm:VRel φ m m')(hx:VRel φ x x')(hr:HRel φ h w):
  h'=h∧∃r,(Instr.lookup t m' x' ok).run P w=.ok r w∧VRel φ v r:=by
 unfold qgb at e
 split at e
 ·rename_i kT eT b hu
  split at e
  ·rename_i k u l ck hg
   split at e
   ·rename_i d z hf hd hz
    split at e
    ·rename_i z0 hz0
     cases e
     refine⟨rfl,?_⟩
     obtain⟨q,es,clock,h1,h2,h3⟩:=hr.mapd hg
     cases hm with
     |map _ q' hq=>
      rw[hq]at h1
      cases h1
      have hxd:=(qcf hd hx).bare h3.kflat
      obtain⟨z',hzr,hzv⟩:=qcq (P:=P) (w:=w) (φ:=φ) hz
      have hzd:=qcf hz0 hzv
      have hcheck:=qcJ (w:=w) hf es.isEmpty 9998 hxd
      have hcheck:(Instr.checkKey es.isEmpty 10000 kT x').run P w=.ok () w:=hcheck
      obtain⟨uk,huk⟩:∃uk,P.underlying kT=some uk:=by
       cases hq:P.underlying kT with
       |some uk=>exact⟨uk,rfl⟩
       |none=>unfold kfit qeF at hf;rw[hq]at hf;cases hf
      have hfind:=qcE (w:=w) hf huk hxd h3.ents
      have hff:=qb5 (d:=d) (l.map Prod.snd) es.toList 0 h3.ents
      cases hfa:qa3 d (l.map Prod.snd) es.toList 0 with
      |none=>
       rw[hfa]at hff hfind
       rw[hff.1]
       cases ok with
       |true=>
        refine⟨.tuple #[z',.bool false],?_,.tuple _ _ (.cons hzd.val (.cons (.bool _) .nil))⟩
        simp[Instr.lookup,qaa hu,qan h2,hcheck,hfind,hzr]
       |false=>
        refine⟨z',?_,hzd.val⟩
        simp[Instr.lookup,qaa hu,qan h2,hcheck,hfind,hzr]
      |some jy=>
       obtain⟨j,y⟩:=jy
       rw[hfa]at hff hfind
       obtain⟨p,n,a1,a2,a3,a4,a5,a6,a7⟩:=hff
       rw[a4]
       have hy:=(a5.mono (qe8 φ.fz)).val
       cases ok with
       |true=>
        refine⟨.tuple #[y,.bool true],?_,.tuple _ _ (.cons hy (.cons (.bool _) .nil))⟩
        simp[Instr.lookup,qaa hu,qan h2,hcheck,hfind]
       |false=>
        refine⟨y,?_,hy⟩
        simp[Instr.lookup,qaa hu,qan h2,hcheck,hfind]
    ·cases e
   ·cases e
  ·cases e
 ·cases e
theorem qhG{k u:Ty}{d:k.data}:∀(l:List (Nat×(k.data×u.data)))(es:List MapEntry)(i:Nat),EntsRel k u (l.map Prod.snd) es→es.map (·.born)=l.map Prod.fst →
  match qa3 d (l.map Prod.snd) es i with
  |none=>ddel d l=l
  |some (j,_)=>∃n,j=i+n∧n<es.length∧EntsRel k u ((ddel d l).map Prod.snd) (es.eraseIdx n)∧(es.eraseIdx n).map (·.born)=(ddel d l).map Prod.fst
 |[],[],_,_,_=>rfl
 |[],_::_,_,h,_=>h.elim
 |_::_,[],_,h,_=>h.elim
 |p::l,e::es,i,⟨h1,h2⟩,hn=>by
  simp only[List.map_cons,List.cons.injEq]at hn
  simp only[List.map_cons,qa3,ddel]
  cases hk:qbr k d p.2.1 with
  |true=>exact⟨0,rfl,by simp,h2,hn.2⟩
  |false=>
   have ih:=qhG (d:=d) l es (i+1) h2 hn.2
   revert ih
   cases hf:qa3 d (l.map Prod.snd) es (i+1)with
   |none=>intro ih;simp only[ih]
   |some jy=>
    obtain⟨j,y⟩:=jy
    intro ih
    obtain⟨n,a1,a2,a3,a4⟩:=ih
    refine⟨n+1,by omega,by simpa using a2,⟨h1,a3⟩,?_⟩
    simp only[List.eraseIdx_cons_succ,List.map_cons,hn.1,a4]
theorem qlK{k u:Ty}{d:k.data}:∀(l:List (Nat×(k.data×u.data))),(ddel d l).Sublist l
 |[]=>.slnil
 |p::l=>by
  simp only[ddel]
  cases qbr k d p.2.1 with
  |true=>exact .cons _ (List.Sublist.refl _)
  |false=>exact .cons_cons _ (qlK l)
theorem qko{ts:Array TypeId}{ty:TypeId}{args:List V}{args':Array Value}(e:qin P ts args h=some (v,h'))(ha:VRels φ args args'.toList)(hr:HRel φ h w):
  h'.said=h.said∧∃w' r,(Builtin.delete_ ts ty args').run P w=.ok r w'∧VRel φ v r∧Goes φ h w φ h' w':=by
 unfold qin at e
 split at e
 ·rename_i t b x ht
  split at e
  ·rename_i kT eT k u l ck hu hg
   split at e
   ·rename_i d hf hd hro
    cases e
    refine⟨by rw[H.set_eq],?_⟩
    obtain⟨q,es,clock,h1,h2,h3⟩:=hr.mapd hg
    obtain⟨m',hm',hmv⟩:∃m',args'[0]?=some m'∧VRel φ (.map (some b)) m':=by
     obtain⟨r,hr1,hr2⟩:=ha.get 0 _ rfl
     exact⟨r,by simpa using hr1,hr2⟩
    obtain⟨x',hx',hx⟩:∃x',args'[1]?=some x'∧VRel φ x x':=by
     obtain⟨r,hr1,hr2⟩:=ha.get 1 _ rfl
     exact⟨r,by simpa using hr1,hr2⟩
    cases hmv with
    |map _ q' hq=>
     rw[hq]at h1
     cases h1
     have hxd:=(qcf hd hx).bare h3.kflat
     have hcheck:(Instr.checkKey es.isEmpty 10000 kT x').run P w=.ok () w:=qcJ (w:=w) hf es.isEmpty 9998 hxd
     obtain⟨uk,huk⟩:∃uk,P.underlying kT=some uk:=by
      cases hq:P.underlying kT with
      |some uk=>exact⟨uk,rfl⟩
      |none=>unfold kfit qeF at hf;rw[hq]at hf;cases hf
     have hfind:=qcE (w:=w) hf huk hxd h3.ents
     have hff:=qhG (d:=d) l es.toList 0 h3.ents h3.num
     have hlt:q.1<w.heap.size:=(Array.getElem?_eq_some_iff.1 h2).1
     have fin:∀es':Array MapEntry,MapRelD k u (ddel d l) ck es'.toList clock→Goes φ h w φ (h.set b (.mapd k u (ddel d l) ck)) { w with heap:=w.heap.setIfInBounds q.1 (.map es' clock) }:=fun es' hm=>
      Goes.write hr hg (Nat.le_of_ble_eq_true hro) hq (o:=.map es' clock) (by simp[hlt]) (by simp) (fun j hj=>by simp[Ne.symm hj]) rfl rfl rfl hm
     have sub:=qlK (d:=d) l
     have hlt':∀p∈ddel d l,p.1<ck:=fun p hp=>h3.lt p (sub.subset hp)
     have hnd:((ddel d l).map Prod.fst).Nodup:=(sub.map Prod.fst).nodup h3.nodup
     cases hfa:qa3 d (l.map Prod.snd) es.toList 0 with
     |none=>
      rw[hfa]at hfind hff
      refine⟨_,.tuple #[],?_,.tuple _ _ .nil,fin es ⟨h3.kflat,h3.vflat,by rw[hff];exact h3.ents,by rw[hff];exact h3.num,hlt',hnd,h3.clk⟩⟩
      simp[Builtin.delete_,ht,hm',hx',qaa hu,qan h2,hcheck,hfind,MapKept.run_setObj_map _ h2]
     |some jy=>
      obtain⟨j,y0⟩:=jy
      rw[hfa]at hff hfind
      obtain⟨n,a1,a2,a3,a4⟩:=hff
      have a1:j=n:=by omega
      subst a1
      have hes:(es.eraseIdxIfInBounds j).toList=es.toList.eraseIdx j:=by simp
      refine⟨_,.tuple #[],?_,.tuple _ _ .nil,fin (es.eraseIdxIfInBounds j) ⟨h3.kflat,h3.vflat,by rw[hes];exact a3,by rw[hes];exact a4,hlt',hnd,h3.clk⟩⟩
      simp[Builtin.delete_,ht,hm',hx',qaa hu,qan h2,hcheck,hfind,MapKept.run_setObj_map _ h2]
   ·cases e
  ·cases e
 ·cases e
end
end Go.Vm

namespace Go.Vm
open Go
theorem qaH{α:Type}(zs:List α):∀(n j:Nat),j<n*zs.length→((List.replicate n zs).flatten)[j]?=zs[j%zs.length]?
 |0,j,h=>by simp at h
 |n+1,j,h=>by
  rw[List.replicate_succ,List.flatten_cons]
  rw[Nat.add_mul]at h
  rcases Nat.lt_or_ge j zs.length with hj|hj
  ·rw[List.getElem?_append_left hj,Nat.mod_eq_of_lt hj]
  ·rw[List.getElem?_append_right hj,qaH zs n (j-zs.length) (by omega)]
   rw[←Nat.mod_eq_sub_mod hj]
theorem qhi{φ:Map}{zs:List V}{z:Array Value}{size:Nat}(h:VRels φ zs z.toList)(hl:zs.length=size)(n:Nat):
  VRels φ ((List.replicate n zs).flatten) ((Array.range (n*size)).map (fun i=>z[i%z.size]!)).toList:=by
 have hz:z.size=size:=by have:=h.length;simp at this;omega
 have hlen:((List.replicate n zs).flatten).length=n*size:=by simp[List.length_flatten,hl]
 refine VRels.of_get (by rw[hlen];simp) fun i v r hv hr=>?_
 have hi:i<n*size:=by
  rcases Nat.lt_or_ge i (n*size)with h|h
  ·exact h
  ·rw[List.getElem?_eq_none (by omega)]at hv;cases hv
 rw[qaH zs n i (by rw[hl];exact hi),hl]at hv
 obtain⟨x,hx,hvx⟩:=h.get _ _ hv
 have hr':=hr
 simp only[Array.toList_map,Array.toList_range,List.getElem?_map,List.getElem?_range hi,Option.map_some,Option.some.injEq]at hr'
 rw[hz]at hr'
 have hx':z[i%size]?=some x:=by simpa using hx
 rw[getElem!_def,hx']at hr'
 subst hr'
 exact hvx
def eOf(len size:Nat):Nat:=
 match len with
 |0=>0
 |_+1=>size
def qbv(P:Program)(t:TypeId)(len:Nat)(parts:List (Nat×V))(h:H):Option (V×H):=
 match P.underlying t with
 |some (.slice elem)=>
  match qam P elem with
  |none=>none
  |some size=>
   match Nat.ble (len*size) (2^24),qbt P elem size with
   |true,some zs=>match qkw (fun i=>some (i*size,size)) ((List.replicate len zs).flatten) parts with
    |none=>none
    |some cells=>match Nat.beq cells.length (len*size)with
     |true=>some (.sl (some ⟨h.next,eOf len size,0,0⟩) len (some len),h.push (.box size (.list (chunks len size cells))))
     |false=>none
   |_,_=>none
 |_=>none
theorem qdS{P:Program}{φ:Map}{w:World}{t:TypeId}{len:Nat}{parts:List (Nat×V)}{parts':Array (Nat×Value)}{h h':H}{v:V}(e:qbv P t len parts h=some (v,h'))(hh:h'.Holds)
  (hi:parts.map (·.1)=parts'.toList.map (·.1)) (hp:VRels φ (parts.map (·.2)) (parts'.toList.map (·.2))) (hr:HRel φ h w):
  h.Holds∧∃φ' w' r,(Instr.buildSlice t len parts').run P w=.ok r w'∧VRel φ' v r∧Goes φ h w φ' h' w':=by
 unfold qbv at e
 split at e
 ·rename_i elem hu
  split at e
  ·cases e
  ·rename_i size hsz
   split at e
   ·rename_i zs hle hz
    split at e
    ·cases e
    ·rename_i cells hf
     split at e
     ·rename_i hlc
      cases e
      refine⟨hh,?_⟩
      have hle':=Nat.le_of_ble_eq_true hle
      have hlc':=Nat.eq_of_beq_eq_true hlc
      obtain⟨z,rz,vz,lz⟩:=qa7 (φ:=φ) hz w
      have hzero:∃zero:Array Value,(((len*size=0∧zero=#[])∨(¬len*size=0∧zero=z.cells)) ∧
        VRels φ ((List.replicate len zs).flatten) ((Array.range (len*size)).map (fun i=>zero[i%zero.size]!)).toList):=by
       by_cases h0:len*size=0
       ·refine⟨#[],.inl ⟨h0,rfl⟩,?_⟩
        have:(List.replicate len zs).flatten=[]:=List.eq_nil_of_length_eq_zero (by simp[List.length_flatten,lz,h0])
        rw[this]
        simp[h0]
        exact .nil
       ·exact⟨z.cells,.inr ⟨h0,rfl⟩,qhi vz lz _⟩
      obtain⟨zero,rzero,vzero⟩:=hzero
      obtain⟨out',ho,hro⟩:=qeJ parts parts'.toList _ _ cells hi hp vzero hf
      have hol:out'.size=len*size:=by have:=hro.length;simp at this;omega
      have el:=Elems.chunks (n:=len) (size:=size) (l:=cells) (rs:=out'.toList) (by rw[←hlc',List.take_length];exact hro) (by omega)
      obtain⟨g,hk⟩:=Goes.push hr (w':=w.alloc (.cells out' elem)) (.box size (.list (chunks len size cells))) _ (len*size,0) rfl rfl rfl rfl ⟨by rw[qa8];simpa using el.rows,hol,fun _=>⟨rfl,rfl⟩⟩
      refine⟨_,_,.slice (some ⟨w.heap.size,0,none⟩) len len,?_,?_,g⟩
      ·have hle2:¬len*size>2^24:=by omega
       rcases rzero with⟨h0,rfl⟩|⟨h0,rfl⟩
       ·simp only[Instr.buildSlice,Sem.run_bind,qaa hu,qae hsz,Result.andThen_ok,if_neg hle2,if_pos h0,ho,newRow,run_newObj,Sem.run_pure]
        rfl
       ·simp only[Instr.buildSlice,Sem.run_bind,qaa hu,qae hsz,Result.andThen_ok,if_neg hle2,if_neg h0,rz,ho,newRow,run_newObj,Sem.run_pure]
        rfl
      ·have:(⟨w.heap.size,0,none⟩:Addr)=(⟨h.next,eOf len size,0,0⟩:VA).real (w.heap.size,len*size,0):=by simp[VA.real]
       rw[this]
       exact .sl ⟨h.next,eOf len size,0,0⟩ _ len len (some len) hk (Nat.le_refl _) (fun c e=>by cases e;rfl) (fun e=>by cases e)
     ·cases e
   ·cases e
 ·cases e
def qq5(P:Program)(t:TypeId):Option Ty:=
 match P.underlying t with
 |some (.slice e)=>tyOf P 8 e
 |_=>none
def qoM(P:Program)(t:TypeId)(r:Option (V×H)):Option (V×H):=
 match r with
 |some (.sl (some a) (n+1) (some c),h)=>match h.ask,Nat.beq 1000000 h.ro,Nat.beq (n+1) c&&!qnq h (.sl (some a) (n+1) (some c))with
  |some _,false,true=>match qq5 P t with
   |some u=>match qdi h u (.sl (some a) (n+1) (some c))with
    |some (d,ns)=>some (.vs u d .tight,qaw ns h)
    |none=>r
   |none=>r
  |_,_,_=>r
 |r=>r
theorem qmY{P:Program}{φ:Map}{w:World}{t:TypeId}{len:Nat}{parts:List (Nat×V)}{parts':Array (Nat×Value)}{h h':H}{v:V}(e:qoM P t (qbv P t len parts h)=some (v,h'))(hh:h'.Holds)
  (hi:parts.map (·.1)=parts'.toList.map (·.1)) (hp:VRels φ (parts.map (·.2)) (parts'.toList.map (·.2))) (hr:HRel φ h w):
  h.Holds∧∃φ' w' r,(Instr.buildSlice t len parts').run P w=.ok r w'∧VRel φ' v r∧Goes φ h w φ' h' w':=by
 have plain:qbv P t len parts h=some (v,h')→h.Holds∧∃φ' w' r,(Instr.buildSlice t len parts').run P w=.ok r w'∧VRel φ' v r∧Goes φ h w φ' h' w':=fun e=>qdS e hh hi hp hr
 unfold qoM at e
 split at e
 ·rename_i a n c h2 hb
  split at e
  ·rename_i hc
   split at e
   ·rename_i u hu
    split at e
    ·rename_i d ns hs
     cases e
     have hh2:h2.Holds:=fun p hp=>hh p (by rw[qa9];exact hp)
     obtain⟨h1,φ',w',r,hrun,hv,g⟩:=qdS (P:=P) (parts':=parts') hb hh2 hi hp hr
     obtain⟨f',g2,a',n',cap',hx,h3,h4⟩:=qc2 hs hv g.rel
     refine⟨h1,_,w',r,hrun,?_,g.trans g2⟩
     subst hx
     have hfull:cap'=n':=by
      cases hv with
      |sl _ k _ cap' _ hk hl hc2 hz=>
       have h1:=hc2 c rfl
       have h2:=Nat.eq_of_beq_eq_true (Bool.and_eq_true_iff.1 hc).1
       omega
     exact .vs _ _ _ _ _ _ h3 h4 hfull
    ·exact plain e
   ·exact plain e
  ·exact plain e
 ·exact plain e
def vbox(v:V)(h:H):Option (V×H):=
 match cellsOf v with
 |some cs=>some (.ptr (some ⟨h.next,cs.length,0,0⟩),h.push (.box cs.length (.list [cs])))
 |none=>none
theorem qlX{P:Program}{φ:Map}{w:World}{elem:TypeId}{x v:V}{x':Value}{h h':H}(e:vbox x h=some (v,h'))(hx:VRel φ x x')(hr:HRel φ h w):
  h'.said=h.said∧∃φ' w' a,(newVar elem x').run P w=.ok a w'∧VRel φ' v (.pointer (some a))∧Goes φ h w φ' h' w':=by
 unfold vbox at e
 split at e
 ·rename_i cs hcs
  cases e
  refine⟨rfl,?_⟩
  have hv:=qbW hx hcs
  have hl:=hv.length
  obtain⟨g,hk⟩:=Goes.push hr (w':=w.alloc (.cells x'.cells elem)) (.box cs.length (.list [cs])) _ (cs.length,0) rfl rfl rfl rfl ⟨by
   rw[qa8]
   intro i row hrow
   cases i with
   |zero=>
    simp only[Rows.get,List.getElem?_cons_zero,Option.some.injEq]at hrow
    subst hrow
    refine⟨rfl,fun o u hu=>?_⟩
    obtain⟨y,hy,hvy⟩:=hv.get o u hu
    exact⟨y,by simpa using hy,hvy⟩
   |succ i=>simp[Rows.get]at hrow,by simp at hl;omega,fun _=>⟨rfl,rfl⟩⟩
  refine⟨_,_,⟨w.heap.size,0,none⟩,rfl,?_,g⟩
  have:(⟨w.heap.size,0,none⟩:Addr)=(⟨h.next,cs.length,0,0⟩:VA).real (w.heap.size,cs.length,0):=by simp[VA.real]
  rw[this]
  exact .ptr _ _ hk
 ·cases e
def qcQ(P:Program)(elem:TypeId)(n:Nat)(zs:List V)(ask:Option (List Bool)):Rows:=
 match ask with
 |none=>.list (List.replicate n zs)
 |some _=>match tyOf P 8 elem with
  |none=>.fn n (fun _=>zs)
  |some t=>match qc5 t zs with
   |none=>.fn n (fun _=>zs)
   |some d=>.ty t (List.replicate n d)
def qd8(P:Program)(t:TypeId)(l c:V)(h:H):Option (V×H):=
 match P.underlying t,l,c with
 |some (.slice elem),.int _ l,.int _ c=>
  match qam P elem,P.info? elem with
  |some size,some i=>
   match qbt P elem size,h.test (decide (0≤l)&&decide (l≤c)&&decide ((i.bytes:Int)*c≤2^48)&&decide (c≤2^48))with
   |some zs,some (true,h)=>
    some (.sl (some ⟨h.next,size,0,0⟩) l.toNat (some c.toNat),h.push (.box size (qcQ P elem c.toNat zs h.ask)))
   |_,_=>none
  |_,_=>none
 |_,_,_=>none
theorem wrap_small(n:Int)(h0:0≤n)(h1:n≤2^48):IntKind.i64.wrap n=n:=by
 have:(2:Int)^48=281474976710656:=by decide
 simp only[IntKind.wrap,IntKind.signed,IntKind.bits]
 simp
 omega
theorem qhr{P:Program}{φ:Map}{w:World}{t:TypeId}{l c:V}{l' c':Value}{h h':H}{v:V}(e:qd8 P t l c h=some (v,h'))(hh:h'.Holds)(hl:VRel φ l l')(hc:VRel φ c c')(hr:HRel φ h w):
  h.Holds∧∃φ' w' r,(Instr.makeSlice t l' c').run P w=.ok r w'∧VRel φ' v r∧Goes φ h w φ' h' w':=by
 unfold qd8 at e
 split at e
 ·rename_i elem _ l _ c hu
  split at e
  ·rename_i size i hsz hi
   split at e
   ·rename_i zs h2 hz ht
    have hh2:h2.Holds:=by cases e;exact hh
    obtain⟨q1,q2,q3⟩:=H.test_holds ht hh2
    simp only[Bool.and_eq_true,decide_eq_true_eq]at q2
    obtain⟨⟨⟨b1,b2⟩,b3⟩,b4⟩:=q2
    refine⟨q1,?_⟩
    cases hl;cases hc
    have hs:h.Same h2:=q3
    have hr2:=hr.same hs
    obtain⟨z,rz,vz,lz⟩:=qa7 (φ:=φ) hz w
    have hzs:z.cells.size=size:=by have:=vz.length;simp at this;omega
    have hwl:=wrap_small l b1 (by omega)
    have hwc:=wrap_small c (by omega) b4
    have hzero:∃zero:Array Value,(((c.toNat*size=0∧zero=#[])∨(¬c.toNat*size=0∧zero=z.cells)) ∧
      VRels φ ((List.replicate c.toNat zs).flatten) ((Array.range (c.toNat*size)).map (fun i=>zero[i%zero.size]!)).toList):=by
     by_cases h0:c.toNat*size=0
     ·refine⟨#[],.inl ⟨h0,rfl⟩,?_⟩
      have:(List.replicate c.toNat zs).flatten=[]:=List.eq_nil_of_length_eq_zero (by simp[List.length_flatten,lz,h0])
      rw[this]
      simp[h0]
      exact .nil
     ·exact⟨z.cells,.inr ⟨h0,rfl⟩,qhi vz lz _⟩
    obtain⟨zero,rzero,vzero⟩:=hzero
    have hrow:∀(r:Rows),(∀i row,r.get i=some row→i<c.toNat∧row=zs)→RowsIn φ size r ((Array.range (c.toNat*size)).map (fun i=>zero[i%zero.size]!)):=by
     intro r hget i row hrow
     obtain⟨hi,rfl⟩:=hget i row hrow
     refine⟨lz,fun o u hu=>?_⟩
     have ho:o<size:=by
      rcases Nat.lt_or_ge o row.length with h|h
      ·omega
      ·rw[List.getElem?_eq_none h]at hu;cases hu
     have hle:(i+1)*size≤c.toNat*size:=Nat.mul_le_mul_right size hi
     rw[Nat.add_mul]at hle
     have hfl:((List.replicate c.toNat row).flatten)[i*size+o]?=some u:=by
      rw[qaH row _ _ (by rw[lz];omega),lz,Nat.mul_comm i size,Nat.mul_add_mod,Nat.mod_eq_of_lt ho];exact hu
     obtain⟨x,hx,hvx⟩:=vzero.get _ _ hfl
     exact⟨x,by rw[←Array.getElem?_toList];exact hx,hvx⟩
    have hfn:RowsIn φ size (.fn c.toNat (fun _=>zs)) ((Array.range (c.toNat*size)).map (fun i=>zero[i%zero.size]!)):=by
     refine hrow _ fun i row hg=>?_
     simp only[Rows.get]at hg
     split at hg
     ·cases hg;exact⟨by assumption,rfl⟩
     ·cases hg
    have hrows:RowsIn φ size (qcQ P elem c.toNat zs h2.ask) ((Array.range (c.toNat*size)).map (fun i=>zero[i%zero.size]!)):=by
     unfold qcQ
     split
     ·refine hrow _ fun i row hg=>?_
      simp only[Rows.get]at hg
      rw[List.getElem?_replicate]at hg
      split at hg
      ·cases hg;exact⟨by assumption,rfl⟩
      ·cases hg
     ·split
      ·exact hfn
      ·split
       ·exact hfn
       ·rename_i t _ d hd
        refine hfn.typed fun i d' hi=>?_
        rw[List.getElem?_replicate]at hi
        split at hi
        ·rename_i hlt
         cases hi
         exact⟨zs,if_pos hlt,hd⟩
        ·cases hi
    cases e
    obtain⟨g,hk⟩:=Goes.push hr2 (w':=w.alloc (.cells ((Array.range (c.toNat*size)).map (fun i=>zero[i%zero.size]!)) elem)) (.box size (qcQ P elem c.toNat zs h2.ask)) _ (c.toNat*size,0) rfl rfl rfl rfl ⟨by rw[qa8];exact hrows,by simp,fun _=>⟨rfl,rfl⟩⟩
    refine⟨_,_,.slice (some ⟨w.heap.size,0,none⟩) l.toNat c.toNat,?_,?_,(Goes.of_same hr hs rfl rfl rfl rfl).trans g⟩
    ·have htl:(decide (c<0)||decide ((i.bytes:Int)*c>2^48))=false:=by simp;omega
     have hll:(decide (l<0))=false:=by simp;omega
     have hlc:(decide (l>c))=false:=by simp;omega
     have hti:(typeInfo elem).run P w=.ok i w:=by simp[typeInfo,hi]
     rcases rzero with⟨h0,rfl⟩|⟨h0,rfl⟩
     ·simp only[Instr.makeSlice,asInt,asIntOf,Sem.run_bind,qaa hu,qae hsz,Result.andThen_ok,Sem.run_pure,hti,hwl,hwc,htl,hll,hlc,Bool.or_self,Bool.false_eq_true,if_false,run_askRoom,if_pos h0,newRow,run_newObj]
      rfl
     ·simp only[Instr.makeSlice,asInt,asIntOf,Sem.run_bind,qaa hu,qae hsz,Result.andThen_ok,Sem.run_pure,hti,hwl,hwc,htl,hll,hlc,Bool.or_self,Bool.false_eq_true,if_false,run_askRoom,if_neg h0,rz,newRow,run_newObj]
      rfl
    ·have:(⟨w.heap.size,0,none⟩:Addr)=(⟨h2.next,size,0,0⟩:VA).real (w.heap.size,c.toNat*size,0):=by simp[VA.real]
     rw[this]
     exact .sl _ _ _ _ _ hk (by omega) (fun _ e=>by cases e;rfl) (fun e=>by cases e)
   ·cases e
  ·cases e
 ·cases e
def qgi(P:Program)(ts:Array TypeId)(args:List V)(h:H):Option (V×H):=
 match ts[0]?,ts[1]?,args with
 |some t,some xt,[.sl none 0 (some 0),.int _ l]=>
  match P.underlying t,P.underlying xt with
  |some (.slice elem),some (.int _)=>match qam P elem,P.info? elem with
   |some size,some i=>match qbt P elem size,h.test (decide (0<l)&&decide ((2*l+192)*(i.bytes:Int)≤2^48)&&decide (l≤2^48))with
    |some zs,some (true,h)=>some (.sl (some ⟨h.next,size,0,0⟩) l.toNat none,h.push (.box size (qcQ P elem l.toNat zs h.ask)))
    |_,_=>none
   |_,_=>none
  |_,_=>none
 |_,_,_=>none
theorem qf3{P:Program}{w:World}{ts:Array TypeId}{ty t xt elem size n cap:Nat}{k kk:IntKind}{l:Int}{info:TypeInfo}{z:Value}(h0:ts[0]?=some t)(h1:ts[1]?=some xt)
  (hu:P.underlying t=some (.slice elem)) (hx:P.underlying xt=some (.int k)) (hs:qam P elem=some size) (hi:P.info? elem=some info) (hl:l=(n:Int)) (hn:0<n) (hc:cap=0)
  (hb1:(2*n+192)*info.bytes≤2^48) (hb2:n≤2^48) (hz:(zeroValue elem).run P w.drew=.ok z w.drew) (hzs:z.cells.size=size):
  ∃nc,n≤nc∧(Builtin.append_ ts ty #[.slice none 0 cap,.int kk l]).run P w=.ok (.slice (some ⟨w.heap.size,0,none⟩) n nc) (w.drew.alloc (.cells (Builtin.zeroCells z.cells n++Builtin.zeroCells z.cells (nc-n)) elem)):=by
 have hti:∀w:World,(typeInfo elem).run P w=.ok info w:=fun w=>by simp[typeInfo,hi]
 have h48:(2:Nat)^48=281474976710656:=by decide
 have h48i:(2:Int)^48=281474976710656:=by decide
 have hwl:IntKind.i64.wrap l=l:=wrap_small l (by omega) (by omega)
 have c0:¬l<0:=by omega
 have c4:¬(l*(info.bytes:Int)>2^48):=by
  have h1:(n:Nat)*info.bytes≤(2*n+192)*info.bytes:=Nat.mul_le_mul_right _ (by omega)
  have h2:l*(info.bytes:Int)=((n*info.bytes:Nat):Int):=by rw[hl];simp
  rw[h2,h48i];omega
 have c5:¬(0+n≤cap):=by omega
 have c1:¬((((0+n:Nat):Int)>IntKind.i64.max)∧True):=by
  intro⟨h,_⟩
  have:IntKind.i64.max=9223372036854775807:=by decide
  rw[this]at h
  omega
 have c2:¬(Builtin.nextslicecap (0+n) cap*info.bytes>2^48):=by
  have h1:=nextslicecap_le (0+n) cap (by omega)
  have h2:=Nat.mul_le_mul_right info.bytes h1
  have h3:(0+n+(0+n)+192)=2*n+192:=by omega
  have h4:(2*(0+n)+192)*info.bytes=(2*n+192)*info.bytes:=by rw[Nat.zero_add]
  omega
 have hnat:l.toNat=n:=by omega
 let q:Question:=.appendCap n cap elem
 refine⟨q.cut (w.tape w.drawn q),Nat.le_add_right _ _,?_⟩
 have hfc:∀w':World,(Builtin.firstCells size 0 (.slice none 0 cap)).run P w'=.ok #[] w':=fun w'=>rfl
 have hnew:((if n*size=0 then(pure #[]:Sem (Array Value))else do pure (Builtin.zeroCells (←zeroValue elem).cells n))).run P w.drew=.ok (Builtin.zeroCells z.cells n) w.drew:=by
  by_cases h:n*size=0
  ·rw[if_pos h]
   have:Builtin.zeroCells z.cells n=#[]:=by
    apply Array.eq_empty_of_size_eq_zero
    rw[qa2,hzs];exact h
   rw[this];rfl
  ·rw[if_neg h]
   simp only[Sem.run_bind,hz,Result.andThen_ok,Sem.run_pure]
 simp only[Builtin.append_,h0,h1,List.getElem?_toArray,List.getElem?_cons_zero,List.getElem?_cons_succ,Sem.run_bind,qaa hu,qaa hx,qae hs,Result.andThen_ok,Sem.run_pure,if_true,Bool.not_true,Bool.false_eq_true,if_false,asInt,asIntOf,hwl,if_neg c0,hti,if_neg c4,hnat,if_neg c5,c1,c2,true_or,run_choose,Question.forced,run_askRoom,World.drew_eq,hfc,hnew,hz,newRow,run_newObj,World.alloc_eq]
 simp only[Nat.zero_add,Array.empty_append]
 rfl
theorem qjj{P:Program}{φ:Map}{w:World}{ts:Array TypeId}{ty:TypeId}{args:List V}{args':Array Value}{h h':H}{v:V}(e:qgi P ts args h=some (v,h'))(hh:h'.Holds)(ha:VRels φ args args'.toList)(hr:HRel φ h w):
  h.Holds∧∃φ' w' r,(Builtin.append_ ts ty args').run P w=.ok r w'∧VRel φ' v r∧Goes φ h w φ' h' w':=by
 unfold qgi at e
 split at e
 ·rename_i t xt kk l h0 h1
  obtain⟨args'⟩:=args'
  cases ha with
  |@cons _ s' _ _ hs ha=>
   cases ha with
   |@cons _ x' _ _ hx ha=>
    cases ha
    split at e
    ·rename_i elem k hu hux
     split at e
     ·rename_i size i hsz hi
      split at e
      ·rename_i zs h2 hz ht
       have hh2:h2.Holds:=by cases e;exact hh
       obtain⟨q1,q2,q3⟩:=H.test_holds ht hh2
       simp only[Bool.and_eq_true,decide_eq_true_eq]at q2
       obtain⟨⟨b1,b2⟩,b3⟩:=q2
       refine⟨q1,?_⟩
       cases hx
       cases hs with
       |slNil _ hc=>
        have hc0:=(hc 0 rfl).symm
        have hs2:h.Same h2:=q3
        have h48:(2:Nat)^48=281474976710656:=by decide
        have h48i:(2:Int)^48=281474976710656:=by decide
        obtain⟨z,rz,vz,lz⟩:=qa7 (φ:=φ) hz w.drew
        have hzs:z.cells.size=size:=by have:=vz.length;simp at this;omega
        have hbn:(2*l.toNat+192)*i.bytes≤2^48:=by
         have:(((2*l.toNat+192)*i.bytes:Nat):Int)=(2*l+192)*(i.bytes:Int):=by
          have:((l.toNat:Nat):Int)=l:=by omega
          simp[this]
         omega
        obtain⟨nc,hnc,hrun⟩:=qf3 (P:=P) (w:=w) (ty:=ty) (kk:=kk) (l:=l) (n:=l.toNat) h0 h1 hu hux hsz hi (by omega) (by omega) hc0 hbn (by omega) rz hzs
        have vzero:=qhi vz lz l.toNat
        have hA:(Builtin.zeroCells z.cells l.toNat).size=l.toNat*size:=by rw[qa2,hzs]
        have hrow:∀(r:Rows),(∀i row,r.get i=some row→i<l.toNat∧row=zs)→RowsIn φ size r (Builtin.zeroCells z.cells l.toNat++Builtin.zeroCells z.cells (nc-l.toNat)):=by
         intro r hget i row hrow
         obtain⟨hi,rfl⟩:=hget i row hrow
         refine⟨lz,fun o u hu=>?_⟩
         have ho:o<size:=by
          rcases Nat.lt_or_ge o row.length with h|h
          ·omega
          ·rw[List.getElem?_eq_none h]at hu;cases hu
         have hle:(i+1)*size≤l.toNat*size:=Nat.mul_le_mul_right size hi
         rw[Nat.add_mul]at hle
         have hfl:((List.replicate l.toNat row).flatten)[i*size+o]?=some u:=by
          rw[qaH row _ _ (by rw[lz];omega),lz,Nat.mul_comm i size,Nat.mul_add_mod,Nat.mod_eq_of_lt ho];exact hu
         obtain⟨x,hx,hvx⟩:=vzero.get _ _ hfl
         refine⟨x,?_,hvx⟩
         rw[Array.getElem?_append_left (by rw[hA];omega),←Array.getElem?_toList]
         unfold Builtin.zeroCells
         rw[show l.toNat*z.cells.size=l.toNat*size by rw[hzs]]
         exact hx
        have hfn:RowsIn φ size (.fn l.toNat (fun _=>zs)) (Builtin.zeroCells z.cells l.toNat++Builtin.zeroCells z.cells (nc-l.toNat)):=by
         refine hrow _ fun i row hg=>?_
         simp only[Rows.get]at hg
         split at hg
         ·cases hg;exact⟨by assumption,rfl⟩
         ·cases hg
        have hrows:RowsIn φ size (qcQ P elem l.toNat zs h2.ask) (Builtin.zeroCells z.cells l.toNat++Builtin.zeroCells z.cells (nc-l.toNat)):=by
         unfold qcQ
         split
         ·refine hrow _ fun i row hg=>?_
          simp only[Rows.get]at hg
          rw[List.getElem?_replicate]at hg
          split at hg
          ·cases hg;exact⟨by assumption,rfl⟩
          ·cases hg
         ·split
          ·exact hfn
          ·split
           ·exact hfn
           ·rename_i t _ d hd
            refine hfn.typed fun i d' hi=>?_
            rw[List.getElem?_replicate]at hi
            split at hi
            ·rename_i hlt
             cases hi
             exact⟨zs,if_pos hlt,hd⟩
            ·cases hi
        cases e
        have g1:Goes φ h w φ h2 w.drew:=(Goes.of_same hr hs2 rfl rfl rfl rfl).trans (Goes.drew (hr.same hs2))
        obtain⟨g,hk⟩:=Goes.push g1.rel (w':=w.drew.alloc (.cells (Builtin.zeroCells z.cells l.toNat++Builtin.zeroCells z.cells (nc-l.toNat)) elem)) (.box size (qcQ P elem l.toNat zs h2.ask)) _ (nc*size,0) rfl rfl rfl rfl
         ⟨by rw[qa8];exact hrows,by rw[Array.size_append,qa2,qa2,hzs,←Nat.add_mul];congr 1;omega,fun _=>⟨rfl,rfl⟩⟩
        refine⟨_,_,_,hrun,?_,g1.trans g⟩
        have:(⟨w.heap.size,0,none⟩:Addr)=(⟨h2.next,size,0,0⟩:VA).real (w.drew.heap.size,nc*size,0):=by simp[VA.real]
        rw[this]
        exact .sl _ _ _ _ _ hk hnc (fun c e=>by cases e) (fun _=>⟨rfl,by simp⟩)
      ·cases e
     ·cases e
    ·cases e
 ·cases e
def qdr(P:Program)(bx:Bool)(ts:Array TypeId)(args:List V)(h:H):Option (V×H):=
 match qgF P bx ts args h with
 |some r=>some r
 |none=>qgi P ts args h
theorem qj3{P:Program}{bx:Bool}{φ:Map}{w:World}{ts:Array TypeId}{ty:TypeId}{args:List V}{args':Array Value}{h h':H}{v:V}(e:qdr P bx ts args h=some (v,h'))(hh:h'.Holds)(ha:VRels φ args args'.toList)(hr:HRel φ h w):
  h.Holds∧∃φ' w' r,(Builtin.append_ ts ty args').run P w=.ok r w'∧VRel φ' v r∧Goes φ h w φ' h' w':=by
 unfold qdr at e
 split at e
 ·rename_i r hb
  cases e
  exact qkN hb hh ha hr
 ·exact qjj e hh ha hr
def qbb(P:Program)(t:TypeId)(a x:V)(h:H):Option H:=
 match a,cellsOf x,qam P t with
 |.ptr (some a),some cs,some n=>match Nat.beq cs.length n with
  |true=>qdE h a cs
  |false=>none
 |_,_,_=>none
def vmem(P:Program)(op:Op)(ρ:Operand→V)(h:H):Option (V×H):=
 match op with
 |.alloc t=>match zeroOf P t with
  |some z=>vbox z h
  |none=>none
 |.box _ x=>vbox (ρ x) h
 |.buildSlice t len parts=>qoM P t (qbv P t len (parts.toList.map fun x=>(x.1,ρ x.2)) h)
 |.load t a=>qax P t (ρ a) h
 |.store t a x=>match qbb P t (ρ a) (ρ x) h with
  |some h=>some (.bot,h)
  |none=>none
 |.makeSlice t l c=>qd8 P t (ρ l) (ρ c) h
 |.call { callee:=.builtin .append,args,argTypes }=>qdr P (bxOf args h) argTypes (args.toList.map ρ) h
 |.call { callee:=.builtin .copy,args,argTypes }=>qkV P argTypes (args.toList.map ρ) h
 |.makeMap t r=>match r with
  |none=>qei P t h
  |some x=>match ρ x with
   |.int _ _=>qei P t h
   |_=>none
 |.lookup t m x ok=>qih P t (ρ m) (ρ x) ok h
 |.mapUpdate t m x y=>qcr P t (ρ m) (ρ x) (ρ y) h
 |.insert t m x y=>qcr P t (ρ m) (ρ x) (ρ y) h
 |_=>none
def qht(P:Program)(op:Op)(ρ:Operand→V)(h:H):Option (V×H):=
 match op with
 |.convert s d x=>qly P s d (ρ x) h
 |.call { callee:=.builtin .len,args,argTypes }=>qit P argTypes (args.toList.map ρ) h
 |.call { callee:=.builtin .delete,args,argTypes }=>qin P argTypes (args.toList.map ρ) h
 |.lookup t m x ok=>qgb P t (ρ m) (ρ x) ok h
 |.range t x=>qi0 P t (ρ x) h
 |.next x s=>qlh (ρ x) s h
 |.entry x=>qiU (ρ x) h
 |_=>none
def qqg(φ:Map)(v:V):Next→Prop
 |.value r=>VRel φ v r
 |.skip=>v=.bot
 |_=>False
theorem qoY{P:Program}{φ:Map}{w:World}{o:Oper}{ρ:Operand→V}{ρ':Operand→Value}{h h':H}{v:V}(e:vmem P o.op ρ h=some (v,h'))(hh:h'.Holds)(hρ:∀x,VRel φ (ρ x) (ρ' x))(hr:HRel φ h w):
  h.Holds∧∃φ' w' n,(execOp ρ' o).run P w=.ok n w'∧qqg φ' v n∧Goes φ h w φ' h' w':=by
 obtain⟨dst,op,ty,pos,after,guard⟩:=o
 have said:∀{a b:H},b.said=a.said→b.Holds→a.Holds:=fun e hb p hp=>hb p (by rw[e];exact hp)
 simp only[vmem]at e
 split at e
 ·rename_i t
  split at e
  ·rename_i z hz
   obtain⟨z',rz,vz⟩:=qcq (φ:=φ) (w:=w) hz
   obtain⟨q,φ',w',a,hrun,hv,g⟩:=qlX (P:=P) (elem:=t) e vz hr
   refine⟨said q hh,φ',w',.value (.pointer (some a)),?_,hv,g⟩
   simp only[execOp,Instr.alloc,Sem.run_bind,rz,Result.andThen_ok,hrun,Sem.run_pure]
  ·cases e
 ·rename_i t x
  obtain⟨q,φ',w',a,hrun,hv,g⟩:=qlX (P:=P) (elem:=t) e (hρ x) hr
  refine⟨said q hh,φ',w',.value (.pointer (some a)),?_,hv,g⟩
  simp only[execOp,Instr.box,Sem.run_bind,hrun,Result.andThen_ok,Sem.run_pure]
 ·rename_i t len parts
  obtain⟨q,φ',w',r,hrun,hv,g⟩:=qmY (P:=P) (parts':=parts.map fun x=>(x.1,ρ' x.2)) e hh (by simp[List.map_map,Function.comp_def])
   (by simpa[List.map_map,Function.comp_def]using qaZ hρ (parts.toList.map (·.2))) hr
  refine⟨q,φ',w',.value r,?_,hv,g⟩
  simp only[execOp,Sem.run_bind,hrun,Result.andThen_ok,Sem.run_pure]
 ·rename_i t a
  obtain⟨hu,q,qs⟩:=qjU e hh
  obtain⟨r,hrun,hv⟩:=qjG hu (hρ a) hr
  exact⟨q,φ,w,.value r,by simp only[execOp,Sem.run_bind,hrun,Result.andThen_ok,Sem.run_pure],hv,Goes.of_same hr qs rfl rfl rfl rfl⟩
 ·rename_i t a x
  split at e
  ·rename_i h2 hs
   cases e
   unfold qbb at hs
   split at hs
   ·rename_i va cs n ha hcs hn
    split at hs
    ·rename_i hl
     have hl':=Nat.eq_of_beq_eq_true hl
     have har:=hρ a
     rw[ha]at har
     generalize haa:ρ' a=ra at har
     cases har with
     |ptr _ k hk=>
      have hvc:=qbW (hρ x) hcs
      obtain⟨q,w',hrun,g⟩:=qoB (P:=P) hs hh hr hk hvc
      refine⟨q,φ,w',.skip,?_,rfl,g⟩
      have hsz:¬(ρ' x).cells.size≠n:=by have:=hvc.length;simp at this;omega
      simp only[execOp,haa,Instr.storeAt,Instr.sureAddr,storeVar,Sem.run_bind,Sem.run_pure,Result.andThen_ok,qae hn,if_neg hsz,hrun]
    ·cases hs
   ·cases hs
  ·cases e
 ·rename_i t l c
  obtain⟨q,φ',w',r,hrun,hv,g⟩:=qhr (P:=P) e hh (hρ l) (hρ c) hr
  exact⟨q,φ',w',.value r,by simp only[execOp,Sem.run_bind,hrun,Result.andThen_ok,Sem.run_pure],hv,g⟩
 ·rename_i args ts
  obtain⟨q,φ',w',r,hrun,hv,g⟩:=qj3 (P:=P) (ty:=ty) (args':=args.map ρ') e hh (by simpa using qaZ hρ args.toList) hr
  exact⟨q,φ',w',.value r,by simp only[execOp,resolve,invoke,builtin,Sem.run_bind,hrun,Result.andThen_ok,Sem.run_pure],hv,g⟩
 ·rename_i args ts
  obtain⟨q,w',r,hrun,hv,g⟩:=qnG (P:=P) (ty:=ty) (args':=args.map ρ') e hh (by simpa using qaZ hρ args.toList) hr
  exact⟨q,φ,w',.value r,by simp only[execOp,resolve,invoke,builtin,Sem.run_bind,hrun,Result.andThen_ok,Sem.run_pure],hv,g⟩
 ·rename_i t r
  split at e
  ·obtain⟨q,φ',w',x,hrun,hv,g⟩:=qfH (P:=P) (r:=none) (fun _ e=>by cases e) e hr
   exact⟨said q hh,φ',w',.value x,by simp only[execOp,Option.map_none,Sem.run_bind,hrun,Result.andThen_ok,Sem.run_pure],hv,g⟩
  ·rename_i x
   split at e
   ·rename_i k n hx
    have hxr:=hρ x
    rw[hx]at hxr
    generalize hxa:ρ' x=rx at hxr
    cases hxr with
    |int _ _=>
     obtain⟨q,φ',w',x,hrun,hv,g⟩:=qfH (P:=P) (r:=some (.int k n)) (fun _ e=>⟨k,n,by cases e;rfl⟩) e hr
     exact⟨said q hh,φ',w',.value x,by simp only[execOp,Option.map_some,hxa,Sem.run_bind,hrun,Result.andThen_ok,Sem.run_pure],hv,g⟩
   ·cases e
 ·rename_i t m x ok
  obtain⟨rfl,r,hrun,hv⟩:=qkK (P:=P) e (hρ m) (hρ x) hr
  exact⟨hh,φ,w,.value r,by simp only[execOp,Sem.run_bind,hrun,Result.andThen_ok,Sem.run_pure],hv,Goes.refl hr⟩
 ·rename_i t m x y
  obtain⟨rfl,q,w',hrun,g⟩:=qem (P:=P) e (hρ m) (hρ x) (hρ y) hr
  exact⟨said q hh,φ,w',.skip,by simp only[execOp,Sem.run_bind,hrun,Result.andThen_ok,Sem.run_pure],rfl,g⟩
 ·rename_i t m x y
  obtain⟨rfl,q,w',hrun,g⟩:=qem (P:=P) e (hρ m) (hρ x) (hρ y) hr
  exact⟨said q hh,φ,w',.skip,by simp only[execOp,Sem.run_bind,hrun,Result.andThen_ok,Sem.run_pure],rfl,g⟩
 ·cases e
theorem qn1{P:Program}{φ:Map}{w:World}{o:Oper}{ρ:Operand→V}{ρ':Operand→Value}{h h':H}{v:V}(e:qht P o.op ρ h=some (v,h'))(hh:h'.Holds)(hρ:∀x,VRel φ (ρ x) (ρ' x))(hr:HRel φ h w):
  h.Holds∧∃φ' w' r,(execOp ρ' o).run P w=.ok (.value r) w'∧VRel φ' v r∧Goes φ h w φ' h' w':=by
 obtain⟨dst,op,ty,pos,after,guard⟩:=o
 have said:∀{a b:H},b.said=a.said→b.Holds→a.Holds:=fun e hb p hp=>hb p (by rw[e];exact hp)
 simp only[qht]at e
 split at e
 ·rename_i s d x
  obtain⟨q,φ',w',r,hrun,hv,g⟩:=qmR (P:=P) e (hρ x) hr
  exact⟨by rw[←q];exact hh,φ',w',r,by simp only[execOp,Sem.run_bind,hrun,Result.andThen_ok,Sem.run_pure],hv,g⟩
 ·rename_i args ts
  obtain⟨rfl,r,hrun,hv⟩:=qlg (P:=P) (ty:=ty) (args':=args.map ρ') e (by simpa using qaZ hρ args.toList) hr
  exact⟨hh,φ,w,r,by simp only[execOp,resolve,invoke,builtin,Sem.run_bind,hrun,Result.andThen_ok,Sem.run_pure],hv,Goes.refl hr⟩
 ·rename_i args ts
  obtain⟨q,w',r,hrun,hv,g⟩:=qko (P:=P) (ty:=ty) (args':=args.map ρ') e (by simpa using qaZ hρ args.toList) hr
  exact⟨said q hh,φ,w',r,by simp only[execOp,resolve,invoke,builtin,Sem.run_bind,hrun,Result.andThen_ok,Sem.run_pure],hv,g⟩
 ·rename_i t m x ok
  obtain⟨rfl,r,hrun,hv⟩:=qjD (P:=P) e (hρ m) (hρ x) hr
  exact⟨hh,φ,w,r,by simp only[execOp,Sem.run_bind,hrun,Result.andThen_ok,Sem.run_pure],hv,Goes.refl hr⟩
 ·rename_i t x
  obtain⟨q,φ',w',r,hrun,hv,g⟩:=qkX (P:=P) e (hρ x) hr
  exact⟨said q hh,φ',w',r,by simp only[execOp,Sem.run_bind,hrun,Result.andThen_ok,Sem.run_pure],hv,g⟩
 ·rename_i x s
  obtain⟨q,w',r,hrun,hv,g⟩:=qmP (P:=P) (ty:=ty) e hh (hρ x) hr
  exact⟨q,φ,w',r,by simp only[execOp,Sem.run_bind,hrun,Result.andThen_ok,Sem.run_pure],hv,g⟩
 ·rename_i x
  obtain⟨q,s,r,hrun,hv⟩:=qkx (P:=P) e hh (hρ x) hr
  exact⟨q,φ,w,r,by simp only[execOp,Sem.run_bind,hrun,Result.andThen_ok,Sem.run_pure],hv,Goes.of_same hr s rfl rfl rfl rfl⟩
 ·cases e
theorem qkY{P:Program}{op:Op}{ρ:Operand→V}{h h':H}{v:V}(e:qht P op ρ h=some (v,h'))(hh:h'.Holds):h.Holds:=by
 have said:∀{a b:H},b.said=a.said→b.Holds→a.Holds:=fun e hb p hp=>hb p (by rw[e];exact hp)
 unfold qht at e
 split at e
 ·unfold qly at e
  repeat' split at e
  all_goals first|(cases e;done)|(cases e;exact hh)
 ·unfold qit at e
  repeat' split at e
  all_goals first|(cases e;done)|(cases e;exact hh)
 ·unfold qin at e
  repeat' split at e
  all_goals first|(cases e;done)|(cases e;exact said (by rw[H.set_eq]) hh)
 ·unfold qgb at e
  repeat' split at e
  all_goals first|(cases e;done)|(cases e;exact hh)
 ·unfold qi0 at e
  repeat' split at e
  all_goals first|(cases e;done)|(cases e;exact said (by rw[H.push_eq,H.set_eq]) hh)|(cases e;exact said (by rw[H.push_eq]) hh)
 ·unfold qlh at e
  split at e
  ·split at e
   ·split at e
    ·split at e
     ·split at e
      ·rename_i h2 ht
       have hh2:h2.Holds:=by
        split at e
        ·cases e;exact hh
        ·cases e;exact said (by rw[H.set_eq]) hh
        ·cases e
       exact(H.test_holds ht hh2).1
      ·cases e
     ·cases e
    ·cases e
   ·cases e
  ·cases e
 ·unfold qiU at e
  split at e
  ·split at e
   ·split at e
    ·split at e
     ·split at e
      ·rename_i h1 ht1
       split at e
       ·rename_i h2 ht
        cases e
        exact(H.test_holds ht1 (H.test_holds ht hh).1).1
       ·cases e
      ·cases e
     ·cases e
    ·cases e
   ·cases e
  ·cases e
 ·cases e
end Go.Vm

namespace Go.Vm
open Go
def H.Le(h h':H):Prop:=∃l,h'.said=l++h.said
theorem H.Le.refl(h:H):h.Le h:=⟨[],rfl⟩
theorem H.Le.trans{a b c:H}(h:a.Le b)(k:b.Le c):a.Le c:=by
 obtain⟨l,hl⟩:=h
 obtain⟨m,hm⟩:=k
 exact⟨m++l,by rw[hm,hl,List.append_assoc]⟩
theorem H.Le.eq{a b:H}(h:b.said=a.said):a.Le b:=⟨[],h⟩
theorem H.Le.holds{a b:H}(h:a.Le b)(hb:b.Holds):a.Holds:=by
 obtain⟨l,hl⟩:=h
 exact fun p hp=>hb p (by rw[hl];simp[hp])
theorem H.test_le{h h':H}{b d:Bool}(e:h.test b=some (d,h')):h.Le h':=by
 unfold H.test at e
 split at e
 ·cases e;exact .refl _
 ·cases e
 ·cases e;exact⟨[(b,d)],rfl⟩
theorem qqh{P:Program}{op:BinOp}{t:TypeId}{x y:V}{h h':H}{v:V}(e:vbin P op t x y h=some (v,h')):h.Le h':=by
 unfold vbin at e
 repeat' split at e
 all_goals first
  |(cases e;done)
  |(cases e;exact .refl _)
  |(cases e;exact H.test_le ‹_›)
theorem qiP{P:Program}{t:TypeId}{x y:V}{h h':H}{v:V}(e:qbf P t x y h=some (v,h')):h.Le h':=by
 unfold qbf at e
 repeat' split at e
 all_goals first
  |(cases e;done)
  |(cases e;exact H.test_le ‹_›)
theorem qot{P:Program}{t:TypeId}{x y:V}{h h':H}{v:V}(e:qeK P t x y h=some (v,h')):h.Le h':=by
 have hp:∀{t:TypeId}{n:Nat}{cs:List V}{o:Nat}{h h':H}{v:V},qkp P t n cs o h=some (v,h')→h.Le h':=by
  intro t n cs o h h' v e
  unfold qkp at e
  repeat' split at e
  all_goals first
   |(cases e;done)
   |(cases e;exact .refl _)
   |(cases e;exact H.test_le ‹_›)
 unfold qeK at e
 repeat' split at e
 all_goals first
  |(cases e;done)
  |(cases e;exact H.test_le ‹_›)
  |(exact(H.test_le ‹_›).trans (hp e))
theorem qdR{v:Option V}{d t n:Nat}{h h':H}(e:qcI v d t h=some (n,h')):h.Le h':=by
 unfold qcI at e
 repeat' split at e
 all_goals first
  |(cases e;done)
  |(cases e;exact .refl _)
  |(cases e;exact H.test_le ‹_›)
theorem qcn{len:Nat}{cap:Option Nat}{lo hi mx:Option V}{h h':H}{l g:Nat}{m:Option Nat}(e:qbu len cap lo hi mx h=some (l,g,m,h')):h.Le h':=by
 unfold qbu at e
 split at e
 ·split at e
  ·cases e
  ·rename_i e1
   split at e
   ·cases e
   ·split at e
    ·cases e
    ·rename_i e2
     split at e
     ·cases e
     ·rename_i e3
      cases e
      exact(qdR e1).trans ((qdR e2).trans (qdR e3))
 ·split at e
  ·cases e
  ·rename_i e1
   split at e
   ·cases e
   ·rename_i e2
    cases e
    exact(qdR e1).trans (qdR e2)
theorem qjB{a a':VA}{lo:Option V}{l n hg:Nat}{m:Option Nat}{h h':H}(e:qeu a lo l n m hg h=some (a',h')):h.Le h':=by
 unfold qeu at e
 repeat' split at e
 all_goals first
  |(cases e;done)
  |(cases e;exact .refl _)
  |(cases e;exact H.test_le ‹_›)
theorem qjL{mx:Option V}{m:Option Nat}{hg:Nat}{h h':H}{tip:Tip}(e:qc0 mx m hg h=some (tip,h')):h.Le h':=by
 unfold qc0 at e
 repeat' split at e
 all_goals first
  |(cases e;done)
  |(cases e;exact .refl _)
  |(cases e;exact H.test_le ‹_›)
theorem qmI{lo:Option V}{l hg:Nat}{m:Option Nat}{h h':H}{v:V}(e:qft lo l hg m h=some (v,h')):h.Le h':=by
 unfold qft at e
 repeat' split at e
 all_goals first
  |(cases e;done)
  |(cases e;exact H.test_le ‹_›)
theorem qnu{P:Program}{t:TypeId}{x:V}{lo hi mx:Option V}{h h':H}{v:V}(e:qgm P t x lo hi mx h=some (v,h')):h.Le h':=by
 unfold qgm at e
 split at e
 ·split at e
  ·cases e
  ·split at e
   ·cases e
   ·rename_i e1
    split at e
    ·cases e
    ·rename_i e2
     cases e
     exact(qcn e1).trans (qjB e2)
 ·split at e
  ·cases e
  ·split at e
   ·cases e
   ·rename_i e1
    split at e
    ·exact(qcn e1).trans (qmI e)
    ·rename_i e2
     cases e
     exact(qcn e1).trans (qjB e2)
 ·split at e
  ·cases e
  ·split at e
   ·cases e
   ·rename_i e1
    cases e
    exact qcn e1
 ·split at e
  ·cases e
  ·split at e
   ·cases e
   ·split at e
    ·cases e
    ·rename_i e1
     split at e
     ·cases e
     ·rename_i e2
      cases e
      exact(qcn e1).trans (qjL e2)
 ·split at e
  ·cases e
  ·split at e
   ·cases e
   ·rename_i e1
    cases e
    exact qcn e1
 ·cases e
theorem qga{P:Program}{op:Op}{ρ:Operand→V}{h h':H}{v:V}(e:qcA P op ρ h=some (v,h')):h.Le h':=by
 unfold qcA at e
 split at e
 case h_3=>
  repeat' split at e
  all_goals first
   |(cases e;done)
   |(cases e;exact H.test_le ‹_›)
 all_goals first
  |(exact qqh e)
  |(exact qnu e)
  |(exact qiP e)
  |(exact qot e)
  |(cases e;done)
  |(cases e;exact .refl _)
  |(split at e<;>first
    |(cases e;done)
    |(cases e;exact .refl _)
    |(split at e<;>first
     |(cases e;done)
     |(cases e;exact .refl _)))
theorem qdg{h h':H}{x:V}{size:Nat}{r:Rows}(e:elems h x size=some (r,h')):h.Le h':=by
 unfold elems at e
 repeat' split at e
 all_goals first
  |(obtain⟨_,_,rfl⟩:=qed e;exact .refl _)
  |(cases e;done)
  |(cases e;exact .refl _)
  |(cases e;exact H.test_le ‹_›)
  |(cases e;exact(H.test_le (by assumption)).trans (H.test_le (by assumption)))
theorem qhu(s:V)(h:H):(qbk s h).said=h.said:=by
 unfold qbk;split<;>rfl
theorem ql7{P:Program}{elem size:Nat}{s x:V}{l n:Nat}{h h':H}{v:V}(e:qjX P elem size s x l n h=some (v,h')):h.Le h':=by
 unfold qjX at e
 split at e
 ·split at e
  ·rename_i ht
   split at e
   ·cases e
   ·rename_i e1
    split at e
    ·cases e
    ·rename_i e2
     split at e
     ·cases e
      exact(H.test_le ht).trans ((qdg e1).trans ((qdg e2).trans (.eq (qhu _ _))))
     ·cases e
  ·cases e
 ·cases e
theorem qa1{P:Program}{elem size:Nat}{s x:V}{base:Option VA}{l n:Nat}{cap:Option Nat}{h h':H}{v:V}(e:qaK P elem size s x base l cap n h=some (v,h')):h.Le h':=by
 unfold qaK at e
 split at e
 ·split at e
  ·rename_i ht2
   exact(H.test_le ht2).trans (ql7 e)
  ·cases e
 ·split at e
  ·cases e
  ·split at e
   ·exact ql7 e
   ·cases e
theorem qcL{P:Program}{elem:TypeId}{t:Ty}{l:List t.data}{tip:Tip}{x:V}{n:Nat}{h h':H}{v:V}(e:qaD P elem t l tip x n h=some (v,h')):h.Le h':=by
 unfold qaD at e
 split at e
 ·split at e
  ·rename_i ht
   split at e
   ·cases e
   ·rename_i e1
    split at e
    ·rename_i htg
     cases e
     exact(H.test_le ht).trans ((qdg e1).trans (.eq (by rw[H.push_eq];exact(qb2 htg).1)))
    ·cases e
  ·cases e
 ·cases e
theorem qdo{P:Program}{bx:Bool}{elem size:Nat}{s x:V}{base:Option VA}{l n:Nat}{cap:Option Nat}{h h':H}{v:V}(e:qbO P bx elem size s x base l cap n h=some (v,h')):h.Le h':=by
 unfold qbO at e
 split at e
 ·exact qa1 e
 ·split at e
  ·exact qa1 e
  split at e
  ·exact qa1 e
  ·split at e
   ·exact qa1 e
   ·split at e
    ·rename_i hr;cases e;exact qcL hr
    ·exact qa1 e
theorem qnj{α:Type}{f:H→List V→Option (α×List V×List Nat×H)}(hf:∀{h cs d r ns h'},f h cs=some (d,r,ns,h')→h.Le h'):∀{rows:List (List V)}{h h':H}{l:List α}{ns:List Nat},mapH f rows h=some (l,ns,h')→h.Le h'
 |[],h,h',l,ns,e=>by cases e;exact .refl _
 |row::rows,h,h',l,ns,e=>by
  simp only[mapH]at e
  split at e
  ·rename_i e1
   split at e
   ·rename_i e2
    cases e
    exact(hf e1).trans (qnj hf e2)
   ·cases e
  ·cases e
theorem qgd:∀(t:Ty){h cs d r ns h'},qcb t h cs=some (d,r,ns,h')→h.Le h'
 |.int k,h,cs,d,r,ns,h',e=>by
  simp only[qcb]at e
  split at e
  ·split at e
   ·cases e;exact .refl _
   ·cases e
  ·cases e
 |.bool,h,cs,d,r,ns,h',e=>by
  simp only[qcb]at e
  split at e
  ·cases e;exact .refl _
  ·cases e
 |.str,h,cs,d,r,ns,h',e=>by
  simp only[qcb]at e
  split at e
  ·cases e;exact .refl _
  ·cases e
 |.unit,h,cs,d,r,ns,h',e=>by cases e;exact .refl _
 |.pair a b,h,cs,d,r,ns,h',e=>by
  simp only[qcb]at e
  split at e
  ·rename_i e1
   split at e
   ·rename_i e2
    cases e
    exact(qgd a e1).trans (qgd b e2)
   ·cases e
  ·cases e
 |.slice t,h,cs,d,r,ns,h',e=>by
  simp only[qcb]at e
  split at e
  ·split at e
   ·cases e;exact .refl _
   ·cases e
  ·cases e;exact .refl _
  ·split at e
   ·cases e
   ·split at e
    ·rename_i e1
     split at e
     ·rename_i e2
      cases e
      exact(qdg e1).trans (qnj (fun{_ _ _ _ _ _} e=>qgd t e) e2)
     ·cases e
    ·rename_i e1
     split at e
     ·cases e;exact qdg e1
     ·cases e
    ·cases e
  ·cases e
theorem qfl{h h2:H}{u:Ty}{v:V}{d:List u.data}{ns:List Nat}(e:qd1 h u v=some (d,ns,h2)):h.Le h2:=by
 unfold qd1 at e
 split at e
 ·split at e
  ·rename_i hv
   split at e
   ·cases e;exact qgd _ hv
   ·cases e
  ·cases e
 ·cases e
theorem qe3{P:Program}{elem:TypeId}{t:Ty}{l:List t.data}{tip:Tip}{x:V}{h h':H}{v:V}(e:qcp P elem t l tip x h=some (v,h')):h.Le h':=by
 unfold qcp at e
 split at e
 ·rename_i d ns h2 hs
  obtain⟨r,hr⟩:=qcL e
  exact(qfl hs).trans ⟨r,by rw[hr,qa9]⟩
 ·cases e
theorem qmT{P:Program}{bx:Bool}{ts:Array TypeId}{args:List V}{h h':H}{v:V}(e:qgF P bx ts args h=some (v,h')):h.Le h':=by
 unfold qgF at e
 split at e
 ·split at e
  ·split at e
   ·unfold qeR at e
    split at e
    ·rename_i r1 hr1
     cases e
     unfold qdV at hr1
     repeat' split at hr1
     all_goals first
      |(cases hr1;done)
      |exact qcL hr1
      |exact qa1 hr1
    unfold qeg at e
    split at e
    ·split at e
     ·cases e
     ·cases e;exact H.test_le ‹_›
     ·rename_i ht
      refine(H.test_le ht).trans ?_
      split at e
      ·exact qdo e
      ·exact qdo e
      ·split at e
       ·rename_i r1 hr1
        cases e
        unfold qew at hr1
        split at hr1
        ·cases hr1
        ·split at hr1
         ·cases hr1
         ·split at hr1
          ·cases hr1
          ·exact qe3 hr1
       ·exact qdo e
    ·split at e
     ·cases e
     ·split at e
      ·cases e
      ·cases e;exact H.test_le ‹_›
      ·rename_i ht
       refine(H.test_le ht).trans ?_
       split at e
       ·exact qcL e
       ·exact qe3 e
    ·cases e
   ·cases e
  ·cases e
 ·cases e
theorem qgN{h h':H}{a:VA}{cs:List V}(e:vput h a cs=some h'):h'.said=h.said:=by
 unfold vput at e
 repeat' split at e
 all_goals first
  |(cases e;done)
  |(cases e;rfl)
theorem qkO{P:Program}{bx:Bool}{ts:Array TypeId}{args:List V}{h h':H}{v:V}(e:qdr P bx ts args h=some (v,h')):h.Le h':=by
 unfold qdr at e
 split at e
 ·rename_i r hb
  cases e
  exact qmT hb
 ·unfold qgi at e
  split at e
  ·split at e
   ·split at e
    ·split at e
     ·rename_i ht
      cases e
      exact(H.test_le ht).trans (.eq rfl)
     ·cases e
    ·cases e
   ·cases e
  ·cases e
theorem qhz{c:Nat}:∀{f k:Nat}{h h':H}{n:Nat},qfy c f k h=some (n,h')→h.Le h'
 |0,_,_,_,_,e=>by cases e
 |f+1,k,h,h',n,e=>by
  simp only[qfy]at e
  split at e
  ·rename_i h1 ht;cases e;exact H.test_le ht
  ·rename_i h1 ht;exact(H.test_le ht).trans (qhz e)
  ·cases e
theorem qld{h h':H}{a:VA}{e:Nat}{t:Ty}{l:List t.data}{r:Rows}{size c:Nat}(ee:qea h a e t l r size c=some h'):h.Le h':=by
 unfold qea at ee
 split at ee
 ·cases ee
 ·split at ee
  ·rename_i h2 ht
   split at ee
   ·cases ee
    exact(H.test_le ht).trans (.eq (by rw[H.set_eq]))
   ·cases ee
  ·cases ee
theorem qnn{a:VA}{x:V}{size c:Nat}{h h':H}{v:V}(e:qgq a x size c h=some (v,h')):h.Le h':=by
 unfold qgq at e
 split at e
 ·split at e
  ·cases e
  ·rename_i e1
   split at e
   ·rename_i e2
    cases e
    exact(qdg e1).trans (qld e2)
   ·cases e
 ·split at e
  ·cases e
  ·rename_i e0
   split at e
   ·cases e
   ·rename_i e1
    split at e
    ·cases e
    ·split at e
     ·rename_i e2
      cases e
      exact(qhz e0).trans ((qdg e1).trans (.eq (qgN e2)))
     ·cases e
theorem qpf{P:Program}{ts:Array TypeId}{args:List V}{h h':H}{v:V}(e:qkV P ts args h=some (v,h')):h.Le h':=by
 rw[qlV]at e
 split at e
 ·split at e
  ·split at e
   ·split at e
    ·cases e
    ·rename_i ht
     exact(H.test_le ht).trans (qnn e)
   ·cases e
  ·cases e
 ·cases e
theorem qmq{P:Program}{t:TypeId}{o:Nat}{row:List V}{h h':H}{v:V}(e:qey P t o row h=some (v,h')):h.Le h':=by
 have hp:∀{h h':H},qcC P t o row h=some (v,h')→h.Le h':=fun e=>by
  obtain⟨_,rfl⟩:=qcv e;exact .refl _
 unfold qey at e
 split at e
 ·split at e
  ·split at e
   ·cases e;exact H.test_le ‹_›
   ·cases e
  ·exact hp e
 ·split at e
  ·exact hp e
  ·split at e
   ·rename_i ht0
    split at e
    ·split at e
     ·rename_i ht
      cases e;exact(H.test_le ht0).trans (H.test_le ht)
     ·cases e
    ·exact(H.test_le ht0).trans (hp e)
   ·rename_i ht0;exact(H.test_le ht0).trans (hp e)
   ·cases e
theorem qgG{P:Program}{t:TypeId}{x:V}{h h':H}{v:V}(e:qax P t x h=some (v,h')):h.Le h':=by
 unfold qax at e
 repeat' split at e
 all_goals first
  |(cases e;done)
  |(cases e;exact .refl _)
  |(exact qmq e)
  |(cases e;exact H.test_le ‹_›)
theorem qpn{h h':H}{a:VA}{cs:List V}(e:qdE h a cs=some h'):h.Le h':=by
 unfold qdE at e
 split at e
 ·split at e
  ·rename_i ht
   split at e
   ·cases e;exact(H.test_le ht).trans (.eq (by rw[H.set_eq]))
   ·cases e
  ·cases e
 ·split at e
  ·rename_i ht
   split at e
   ·split at e
    ·cases e;exact(H.test_le ht).trans (.eq (by rw[H.set_eq]))
    ·cases e
   ·cases e
  ·cases e
 ·split at e
  ·cases e
  ·split at e
   ·exact .eq (qgN e)
   ·split at e
    ·rename_i ht
     split at e
     ·cases e;exact(H.test_le ht).trans (.eq (by rw[H.set_eq]))
     ·cases e
    ·cases e
 ·exact .eq (qgN e)
theorem qfa{P:Program}{t:TypeId}{m x y:V}{h h':H}{v:V}(e:qcr P t m x y h=some (v,h')):h.Le h':=by
 unfold qcr at e
 repeat' split at e
 all_goals first
  |(cases e;done)
  |(cases e;exact .eq (by rw[H.set_eq]))
theorem qiV{P:Program}{op:Op}{ρ:Operand→V}{h h':H}{v:V}(e:vmem P op ρ h=some (v,h')):h.Le h':=by
 unfold vmem at e
 split at e
 ·split at e
  ·unfold vbox at e
   split at e
   ·cases e;exact .eq rfl
   ·cases e
  ·cases e
 ·unfold vbox at e
  split at e
  ·cases e;exact .eq rfl
  ·cases e
 ·have key:∀{P:Program}{t:TypeId}{n:Nat}{ps:List (Nat×V)}{h h':H}{v:V},qbv P t n ps h=some (v,h')→h.Le h':=by
   intro P t n ps h h' v e
   unfold qbv at e
   repeat' split at e
   all_goals first
    |(cases e;done)
    |(cases e;exact .eq rfl)
  unfold qoM at e
  split at e
  ·rename_i hb
   split at e
   ·split at e
    ·split at e
     ·cases e
      exact(key hb).trans (.eq (qa9 _ _))
     ·exact key e
    ·exact key e
   ·exact key e
  ·exact key e
 ·exact qgG e
 ·split at e
  ·rename_i hs
   cases e
   unfold qbb at hs
   split at hs
   ·split at hs
    ·exact qpn hs
    ·cases hs
   ·cases hs
  ·cases e
 ·unfold qd8 at e
  split at e
  ·split at e
   ·split at e
    ·rename_i ht
     cases e
     exact(H.test_le ht).trans (.eq rfl)
    ·cases e
   ·cases e
  ·cases e
 ·exact qkO e
 ·exact qpf e
 ·have key:∀{t:TypeId}{h h':H}{v:V},qei P t h=some (v,h')→h.Le h':=by
   intro t h h' v e
   unfold qei at e
   repeat' split at e
   all_goals first
    |(cases e;done)
    |(cases e;exact .eq (by rw[H.push_eq]))
  split at e
  ·exact key e
  ·split at e
   ·exact key e
   ·cases e
 ·unfold qih at e
  repeat' split at e
  all_goals first
   |(cases e;done)
   |(cases e;exact .refl _)
 ·exact qfa e
 ·exact qfa e
 ·cases e
end Go.Vm

namespace Go.Vm
open Go
structure S where
 ts:List V
 dfs:List Nat
 h:H
inductive X where
 |normal
 |exit (id:Nat)
 |ret
def X.real:X→Exit
 |.normal=>.normal
 |.exit id=>.exit id
 |.ret=>.ret
inductive Rd where
 |top (f:Nat)
 |free
 |round (l:Nat)
def Rd.l:Rd→Option Nat
 |.round l=>some l
 |_=>none
inductive Part:Code→Code→Prop
 |refl (c:Code):Part c c
 |seqL {c a b:Code} (h:Part c a):Part c (.seq a b)
 |seqR {c a b:Code} (h:Part c b):Part c (.seq a b)
 |thn {c a b:Code} {o:Operand} (h:Part c a):Part c (.cond o a b)
 |els {c a b:Code} {o:Operand} (h:Part c b):Part c (.cond o a b)
 |block {c a:Code} {id:Nat} (h:Part c a):Part c (.block id a)
 |loop {c a:Code} (h:Part c a):Part c (.loop a)
theorem Part.trans{a b:Code}(h:Part a b):∀{c:Code},Part b c→Part a c:=by
 intro c k
 induction k with
 |refl=>exact h
 |seqL _ ih=>exact .seqL ih
 |seqR _ ih=>exact .seqR ih
 |thn _ ih=>exact .thn ih
 |els _ ih=>exact .els ih
 |block _ ih=>exact .block ih
 |loop _ ih=>exact .loop ih
def InB(P:Program)(rd:Rd)(c:Code):Prop:=
 match rd with
 |.top f=>∃fn b,P.funcs[f]?=some fn∧fn.body=some b∧Part c b
 |_=>True
theorem InB.sub{P:Program}{rd:Rd}{a c:Code}(h:InB P rd c)(k:Part a c):InB P rd a:=by
 cases rd with
 |top f=>obtain⟨fn,b,h1,h2,h3⟩:=h;exact⟨fn,b,h1,h2,k.trans h3⟩
 |_=>trivial
structure Lev where
 exec:Rd→Code→S→Option (X×S)
 call:FuncId→List V→H→Option (V×H)
 yield:Nat→List V→H→Option (V×H)
def qmd(L:Lev)(op:Op)(ρ:Operand→V)(h:H):Option (V×H):=
 match op with
 |.call { callee:=.value f,args,.. }=>match ρ f with
  |.func g first captured=>L.call g (first++args.toList.map ρ++captured) h
  |.yield l=>L.yield l (args.toList.map ρ) h
  |_=>none
 |_=>none
def qat:Op→Bool
 |.alloc _|.box ..|.buildSlice ..|.load ..|.store ..|.makeSlice ..=>true
 |.makeMap ..|.lookup ..|.mapUpdate ..|.insert ..|.range ..|.next ..|.entry _=>true
 |.call { callee:=.builtin .append,.. }=>true
 |.call { callee:=.builtin .copy,.. }=>true
 |.call { callee:=.builtin _,.. }=>false
 |.call _=>true
 |_=>false
def qao(L:Lev)(P:Program)(op:Op)(ρ:Operand→V)(h:H):Option (V×H):=
 match op with
 |.call { callee:=.value _,.. }=>qmd L op ρ h
 |_=>vmem P op ρ h
def qau(L:Lev)(P:Program)(op:Op)(ρ:Operand→V)(h:H):Option (V×H):=
 match qat op with
 |true=>qao L P op ρ h
 |false=>qcA P op ρ h
def qiS(L:Lev)(P:Program)(op:Op)(ρ:Operand→V)(h:H):Option (V×H):=
 match qau L P op ρ h with
 |some r=>some r
 |none=>qht P op ρ h
def ql5:Op→Bool
 |.convert ..=>true
 |.call { callee:=.builtin .len,.. }=>true
 |.call { callee:=.builtin .delete,.. }=>true
 |.lookup ..|.range ..|.next ..|.entry _=>true
 |_=>false
theorem qml{P:Program}{op:Op}(e:ql5 op=false)(ρ:Operand→V)(h:H):qht P op ρ h=none:=by
 unfold qht
 split
 ·cases e
 ·cases e
 ·cases e
 ·cases e
 ·cases e
 ·cases e
 ·cases e
 ·rfl
theorem qmn{L:Lev}{P:Program}{op:Op}(e:ql5 op=false)(ρ:Operand→V)(h:H):qiS L P op ρ h=qau L P op ρ h:=by
 unfold qiS
 rw[qml e]
 cases qau L P op ρ h<;>rfl
theorem VRel.skip{φ:Map}:VRel φ (.tuple []) undef:=.tuple [] #[] .nil
def qaL(ops:Array Oper)(o:Oper)(ts:List V)(h:H):Option (Bool×H):=
 match o.guard with
 |none=>some (true,h)
 |some (j,want)=>match(ops[j]?).bind (·.dst)with
  |none=>none
  |some d=>match getT ts d with
   |.bool b=>match h.test b with
    |some (c,h)=>some (c==want,h)
    |none=>none
   |.bot=>none
   |_=>some (false,h)
def qdC(L:Lev)(P:Program)(ops:Array Oper):List Nat→S→Option S
 |[],st=>some st
 |i::rest,{ ts,dfs,h }=>match ops[i]? with
  |none=>none
  |some o=>match qaL ops o ts h with
   |none=>none
   |some (false,h)=>qdC L P ops rest { ts:=putT ts o.dst (.tuple []),dfs:=dfs,h:=h }
   |some (true,h)=>match qiS L P o.op (eval ts) h with
    |none=>none
    |some (v,h)=>qdC L P ops rest { ts:=putT ts o.dst v,dfs:=dfs,h:=h }
theorem qg8(L:Lev)(P:Program)(ops:Array Oper)(i:Nat)(rest:List Nat)(st:S):qdC L P ops (i::rest) st=match ops[i]? with
 |none=>none
 |some o=>match qaL ops o st.ts st.h with
  |none=>none
  |some (false,h)=>qdC L P ops rest { st with ts:=putT st.ts o.dst (.tuple []),h:=h }
  |some (true,h)=>match qiS L P o.op (eval st.ts) h with
   |none=>none
   |some (v,h)=>qdC L P ops rest { st with ts:=putT st.ts o.dst v,h:=h }:=by cases st;rfl
structure Wide(F:Fence):Prop where
 fn:∀f,F.fn f
 depth:F.depth=none
theorem Wide.inRound{F:Fence}(h:Wide F)(l:Nat):Wide (F.inRound l):=⟨h.fn,h.depth⟩
def markD(k:Nat):Deferred:={ target:=.collected k,args:=#[] }
def Spent(φ:Map)(w:World)(k:Nat):Prop:=w.heap[k]?=some (.deferred (some []))∧∀b k',φ b=some k'→k'.1≠k
def MarksGo(φ:Map)(w:World):List Nat→List Deferred→Prop
 |ds,[]=>ds=[]
 |ds,x::xs=>(∃d ds' k,ds=d::ds'∧φ d=some k∧φ.base.2≤k.1∧x=markD k.1∧MarksGo φ w ds' xs) ∨
  (∃k,x=markD k∧φ.base.2≤k∧Spent φ w k∧(∀y∈xs,y≠x)∧MarksGo φ w ds xs)
def MarksRel(φ:Map)(w:World)(ds:List Nat)(xs:List Deferred):Prop:=
 φ.base.2≤w.heap.size∧∃ys,xs=ys++φ.base.1∧MarksGo φ w ds ys
theorem Spent.goes{φ φ':Map}{h h':H}{w w':World}(hr:HRel φ h w)(g:Goes φ h w φ' h' w'){k:Nat}(s:Spent φ w k):Spent φ' w' k:=by
 obtain⟨s1,s2⟩:=s
 have hlt:k<w.heap.size:=(Array.getElem?_eq_some_iff.1 s1).1
 refine⟨?_,fun b k' e=>?_⟩
 ·rw[g.frame k hlt (fun b k' _ e=>s2 b k' e) (fun b e _ hb he hk=>?_)]
  ·exact s1
  ·obtain⟨m,h1,h2⟩:=hr.tip b hb
   rw[he]at h1;cases h1
   obtain⟨_,cs,t,h3,_⟩:=h2 e.1 e.2.1 e.2.2 rfl
   rw[hk,s1]at h3;cases h3
 ·rcases g.fresh b k' e with h1|⟨_,h1|⟨c,k2,_,h2,h3⟩⟩
  ·exact s2 b k' h1
  ·omega
  ·rw[←h3];exact s2 c k2 h2
theorem MarksGo.goes{φ φ':Map}{h h':H}{w w':World}(hr:HRel φ h w)(g:Goes φ h w φ' h' w'):∀{xs:List Deferred}{ds:List Nat},MarksGo φ w ds xs→MarksGo φ' w' ds xs
 |[],_,e=>e
 |x::xs,ds,e=>by
  rcases e with⟨d,ds',k,e1,e2,e3,e4,e5⟩|⟨k,e1,e2,e3,e4,e5⟩
  ·exact .inl ⟨d,ds',k,e1,g.le _ _ e2,by rw[g.le.base];exact e3,e4,e5.goes hr g⟩
  ·exact .inr ⟨k,e1,by rw[g.le.base];exact e2,e3.goes hr g,e4,e5.goes hr g⟩
theorem MarksRel.goes{φ φ':Map}{h h':H}{w w':World}(hr:HRel φ h w)(g:Goes φ h w φ' h' w'){ds:List Nat}{xs:List Deferred}(e:MarksRel φ w ds xs):MarksRel φ' w' ds xs:=by
 obtain⟨e1,ys,e2,e3⟩:=e
 exact⟨by rw[g.le.base];exact Nat.le_trans e1 g.size,ys,by rw[g.le.base];exact e2,e3.goes hr g⟩
def MarksNew(φ:Map):List Nat→List Deferred→Prop
 |[],[]=>True
 |d::ds,x::xs=>(∃k,φ d=some k∧φ.base.2≤k.1∧x=markD k.1)∧MarksNew φ ds xs
 |_,_=>False
theorem MarksNew.mono{φ ψ:Map}(hle:φ.le ψ):∀{ds:List Nat}{xs:List Deferred},MarksNew φ ds xs→MarksNew ψ ds xs
 |[],[],_=>trivial
 |_::_,_::_,⟨⟨k,hk,hb,e⟩,h⟩=>⟨⟨k,hle _ _ hk,by rw[hle.base];exact hb,e⟩,h.mono hle⟩
theorem MarksNew.go{φ:Map}{w:World}:∀{ds es:List Nat}{xs ys:List Deferred},MarksNew φ ds xs→MarksGo φ w es ys→MarksGo φ w (ds++es) (xs++ys)
 |[],_,[],_,_,k=>k
 |_::_,_,_::_,_,⟨⟨k,hk,hb,e⟩,h⟩,g=>.inl ⟨_,_,k,rfl,hk,hb,e,h.go g⟩
theorem MarksNew.append{φ:Map}{w:World}{ds es:List Nat}{xs ys:List Deferred}(h:MarksNew φ ds xs)(k:MarksRel φ w es ys):MarksRel φ w (ds++es) (xs++ys):=by
 obtain⟨k1,zs,k2,k3⟩:=k
 exact⟨k1,xs++zs,by rw[k2,List.append_assoc],h.go k3⟩
def RoundRel(φ:Map):Option Nat→Option Nat→Prop
 |none,none=>True
 |some l,some r=>∃z,φ l=some (r,z)
 |_,_=>False
theorem RoundRel.mono{φ ψ:Map}(hle:φ.le ψ){a b:Option Nat}(h:RoundRel φ a b):RoundRel ψ a b:=by
 cases a<;>cases b<;>simp only[RoundRel]at *
 exact h.imp fun z e=>hle _ _ e
def PostCall(φ:Map)(h:H)(w:World)(v:V)(h':H):Ending→World→Prop:=
 fun e w'=>∃φ' r,e=.returned r∧VRel φ' v r∧Goes φ h w φ' h' w'
def Post(φ:Map)(h:H)(w:World)(x:X)(st':S):Exit→Act→World→Prop:=
 fun e a' w'=>e=x.real∧∃φ',VRels φ' st'.ts a'.tmps.toList∧MarksRel φ' w' st'.dfs a'.defers∧Goes φ h w φ' st'.h w'
structure LevOk(P:Program)(L:Lev):Prop where
 exec:∀rd c st x st',InB P rd c→L.exec rd c st=some (x,st')→st'.h.Holds→st.h.Holds ∧
  ∀(φ:Map)(a:Act)(w:World)(F:Fence)(n:Nat),Wide F→RoundRel φ rd.l F.round→VRels φ st.ts a.tmps.toList→MarksRel φ w st.dfs a.defers→HRel φ st.h w→c.wpIn F n P (Post φ st.h w x st') a w
 call:∀f args h v h',L.call f args h=some (v,h')→h'.Holds→h.Holds ∧
  (∀(args':Array Value)(w:World),(callFunc f args').run P w=.ok (.enter f args') w) ∧
  ∀(φ:Map)(args':Array Value)(w:World)(F:Fence)(n:Nat),Wide F→VRels φ args args'.toList→HRel φ h w→CallsIn F n P f args' w (PostCall φ h w v h')
 yield:∀l args h v h',L.yield l args h=some (v,h')→h'.Holds→h.Holds ∧
  ∀(φ:Map)(args':Array Value)(w:World)(F:Fence)(n:Nat)(k:Nat×Nat×Nat),Wide F→φ l=some k→VRels φ args args'.toList→HRel φ h w →
   ∃f tmps assign body,(Instr.yield k.1 args').run P w=.ok (.round k.1 f tmps assign body) w∧RoundIn F n P k.1 f tmps assign body w (PostCall φ h w v h')
section
variable {P:Program} {L:Lev}
theorem VRels.to_append{φ:Map}{a b:List V}{x y:Array Value}(h:VRels φ a x.toList)(k:VRels φ b y.toList):VRels φ (a++b) (x++y).toList:=by
 simpa using h.append k
theorem qbQ(hL:LevOk P L){o:Oper}{st:S}{h':H}{v:V}(e:qau L P o.op (eval st.ts) st.h=some (v,h'))(hh:h'.Holds):
  st.h.Holds∧∀(φ:Map)(a:Act)(w:World)(F:Fence)(n:Nat),Wide F→VRels φ st.ts a.tmps.toList→HRel φ st.h w →
   ∀(next:Act→World→Prop)(Q:Exit→Act→World→Prop),(∀φ' r w',VRel φ' v r→Goes φ st.h w φ' h' w'→next (a.put o.dst r) w')→o.wpIn F n P a w next Q:=by
 unfold qau at e
 split at e
 ·rename_i hp
  unfold qao at e
  split at e
  ·
   rename_i f args ts hop
   have hnd:∀c,o.op≠.defer c:=fun c=>by rw[hop];simp
   rw[hop]at e
   simp only[qmd]at e
   split at e
   ·rename_i g first captured hf
    obtain⟨h1,h2,h3⟩:=hL.call _ _ _ _ _ e hh
    refine⟨h1,fun φ a w F n hF hts hr next Q hnext=>⟨fun f _=>hF.fn f,?_⟩⟩
    have hfr:=qbp hts f
    rw[hf]at hfr
    generalize hfv:a.eval f=fv at hfr
    cases hfr with
    |func _ _ _ first' captured' hfi hca=>
     have hargs:=qaZ (fun x=>qbp hts x) args.toList
     have hall:VRels φ (first++args.toList.map (eval st.ts)++captured) (first'++args.map a.eval++captured').toList:=by
      have h0:VRels φ (args.toList.map (eval st.ts)) (args.map a.eval).toList:=by simpa using hargs
      exact VRels.to_append (VRels.to_append hfi h0) hca
     have hrun:(execOp a.eval o).run P w=.ok (.enter g (first'++args.map a.eval++captured')) w:=by
      simp only[execOp,hop,resolve,hfv,Deferred.ofValue,Sem.run_bind,Sem.run_pure,Result.andThen_ok,invoke,h2]
     rw[Oper.semAt_eq _ _ _ hnd,hrun,Oper.uponIn_enter]
     refine⟨(fun hd=>by rw[hF.depth]at hd;cases hd),?_⟩
     refine CallsIn.mono (h3 φ _ w F (n-1) hF hall hr) ?_
     rintro e' w' ⟨φ',r,rfl,hv,hg⟩
     exact hnext φ' r w' hv hg
   ·rename_i l hf
    obtain⟨h1,h3⟩:=hL.yield _ _ _ _ _ e hh
    refine⟨h1,fun φ a w F n hF hts hr next Q hnext=>⟨fun f _=>hF.fn f,?_⟩⟩
    have hfr:=qbp hts f
    rw[hf]at hfr
    generalize hfv:a.eval f=fv at hfr
    cases hfr with
    |yield _ k hk=>
     have hargs:=qaZ (fun x=>qbp hts x) args.toList
     have h0:VRels φ (args.toList.map (eval st.ts)) (args.map a.eval).toList:=by simpa using hargs
     obtain⟨f',tmps,assign,body,hy,hround⟩:=h3 φ (args.map a.eval) w F (n-1) k hF hk h0 hr
     have hrun:(execOp a.eval o).run P w=.ok (.round k.1 f' tmps assign body) w:=by
      simp only[execOp,hop,resolve,hfv,Deferred.ofValue,Sem.run_bind,Sem.run_pure,Result.andThen_ok,invoke]
      have he:(#[]:Array Value)++args.map a.eval=args.map a.eval:=by simp
      rw[he];exact hy
     rw[Oper.semAt_eq _ _ _ hnd,hrun,Oper.uponIn_round]
     refine⟨(fun hd=>by rw[hF.depth]at hd;cases hd),?_⟩
     refine RoundIn.mono hround ?_
     rintro e' w' ⟨φ',r,rfl,hv,hg⟩
     exact hnext φ' r w' hv hg
   ·cases e
  ·
   have hnd:∀c,o.op≠.defer c:=fun c hc=>by rw[hc]at e;cases e
   have hholds:st.h.Holds:=(qiV e).holds hh
   refine⟨hholds,fun φ a w F n hF hts hr next Q hnext=>⟨fun f _=>hF.fn f,?_⟩⟩
   obtain⟨_,φ',w',nx,hrun,hv,hg⟩:=qoY (o:=o) e hh (fun x=>qbp hts x) hr
   rw[Oper.semAt_eq _ _ _ hnd,hrun]
   cases nx<;>first|exact hv.elim|skip
   ·exact hnext φ' _ w' hv hg
   ·have:v=.bot:=hv
    subst this
    exact hnext φ' undef w' (.bot _) hg
 ·rename_i hp
  have hnd:∀c,o.op≠.defer c:=fun c hc=>by rw[hc]at e;simp[qcA]at e
  have hholds:st.h.Holds:=(qga e).holds hh
  refine⟨hholds,fun φ a w F n hF hts hr next Q hnext=>⟨fun f _=>hF.fn f,?_⟩⟩
  obtain⟨⟨r,hrun,hv⟩,_,hs⟩:=qgw (o:=o) e hh (fun x=>qbp hts x) w
  rw[Oper.semAt_eq _ _ _ hnd,hrun]
  exact hnext φ r w hv (Goes.of_same hr hs rfl rfl rfl rfl)
theorem qnZ(hL:LevOk P L){o:Oper}{st:S}{h':H}{v:V}(e:qiS L P o.op (eval st.ts) st.h=some (v,h'))(hh:h'.Holds):
  st.h.Holds∧∀(φ:Map)(a:Act)(w:World)(F:Fence)(n:Nat),Wide F→VRels φ st.ts a.tmps.toList→HRel φ st.h w →
   ∀(next:Act→World→Prop)(Q:Exit→Act→World→Prop),(∀φ' r w',VRel φ' v r→Goes φ st.h w φ' h' w'→next (a.put o.dst r) w')→o.wpIn F n P a w next Q:=by
 unfold qiS at e
 split at e
 ·rename_i h0
  cases e
  exact qbQ hL h0 hh
 ·have hnd:∀c,o.op≠.defer c:=fun c hc=>by rw[hc]at e;simp[qht]at e
  have hho:st.h.Holds:=by
   obtain⟨dst,op,ty,pos,after,guard⟩:=o
   exact qkY e hh
  refine⟨hho,fun φ a w F n hF hts hr next Q hnext=>⟨fun f _=>hF.fn f,?_⟩⟩
  obtain⟨_,φ',w',r,hrun,hv,hg⟩:=qn1 (o:=o) e hh (fun x=>qbp hts x) hr
  rw[Oper.semAt_eq _ _ _ hnd,hrun]
  exact hnext φ' r w' hv hg
end
end Go.Vm

namespace Go.Vm
open Go
theorem LetsOut.mono{Q Q':Exit→Act→World→Prop}(h:∀e a w,Q e a w→Q' e a w)(k:LetsOut Q):LetsOut Q':=let⟨a,w,q⟩:=k;⟨a,w,h _ _ _ q⟩
theorem qmQ{F:Fence}{n:Nat}{P:Program}{o:Oper}{a:Act}{w:World}{K K':Act→World→Prop}{Q Q':Exit→Act→World→Prop}(hK:∀a w,K a w→K' a w)(hQ:∀e a w,Q e a w→Q' e a w)
  (hh:o.wpIn F n P a w K Q):o.wpIn F n P a w K' Q':=by
 unfold Oper.wpIn at *
 refine⟨hh.1,?_⟩
 have hh:=hh.2
 generalize(o.semAt F.round a.eval).run P w=r at *
 cases r with
 |ok x w'=>
  cases x<;>simp only[Oper.uponIn]at hh ⊢<;>
   first
    |exact hK _ _ hh
    |exact⟨hh.1,CallsIn.mono hh.2 (fun e w'' he=>by cases e<;>first|exact hK _ _ he|exact hQ _ _ _ he|exact LetsOut.mono hQ he)⟩
    |exact⟨hh.1,_root_.Go.RowsIn.mono hh.2 (fun _ _ he=>hK _ _ he)⟩
    |exact⟨hh.1,RoundIn.mono hh.2 (fun e w'' he=>by cases e<;>first|exact hK _ _ he|exact hQ _ _ _ he|exact LetsOut.mono hQ he)⟩
 |halt x w'=>cases x<;>simp only[Oper.uponIn]at hh ⊢<;>first|exact hQ _ _ _ hh|exact hh
theorem qb0{F:Fence}{n:Nat}{P:Program}{ops:Array Oper}{Q Q':Exit→Act→World→Prop}(h:∀e a w,Q e a w→Q' e a w):∀(l:List Nat){a:Act}{w:World},wpOpsIn F n P ops Q l a w→wpOpsIn F n P ops Q' l a w
 |[],_,_,hh=>h _ _ _ hh
 |i::rest,a,w,hh=>by
  simp only[wpOpsIn]at hh ⊢
  split
  ·rename_i ho;simp only[ho]at hh;exact qb0 h rest hh
  ·rename_i o ho
   simp only[ho]at hh
   split
   ·rename_i hw
    simp only[hw,if_true]at hh
    exact qmQ (fun a w k=>qb0 h rest k) h hh
   ·rename_i hw
    simp only[hw]at hh
    exact⟨hh.1,qb0 h rest hh.2⟩
theorem qon{φ:Map}{ts:List V}{rs:Array Value}(h:VRels φ ts rs.toList){d:Nat}{b:Bool}(e:getT ts d=.bool b):rs[d]?=some (.bool b):=by
 rw[qaQ]at e
 split at e
 ·rename_i v hv
  subst e
  obtain⟨r,hr,hrel⟩:=h.get _ _ hv
  cases hrel
  simpa using hr
 ·cases e
theorem qex{ops:Array Oper}{o:Oper}{ts:List V}{h h':H}{b:Bool}(e:qaL ops o ts h=some (b,h'))(hh:h'.Holds):
  h.Holds∧h.Same h'∧∀(φ:Map)(rs:Array Value),VRels φ ts rs.toList→Region.wanted o (yielded ops rs)=b:=by
 unfold qaL at e
 split at e
 ·rename_i hg
  cases e
  exact⟨hh,H.Same.refl _,fun φ rs _=>by simp[Region.wanted,hg]⟩
 ·rename_i j want hg
  split at e
  ·cases e
  ·rename_i d hd
   have hy:∀rs:Array Value,yielded ops rs j=match rs[d]? with|some (.bool b)=>some b|_=>none:=by
    intro rs;simp only[yielded,hd,Option.bind_some];rfl
   split at e
   ·rename_i t ht
    split at e
    ·rename_i c h2 hte
     cases e
     obtain⟨q1,q2,q3⟩:=H.test_holds hte hh
     refine⟨q1,q3,fun φ rs hrs=>?_⟩
     simp only[Region.wanted,hg,hy,qon hrs ht,q2]
     cases c<;>cases want<;>rfl
    ·cases e
   ·cases e
   ·rename_i hnb hnbot
    cases e
    refine⟨hh,H.Same.refl _,fun φ rs hrs=>?_⟩
    simp only[Region.wanted,hg,hy]
    have hr:=qbD hrs d
    have hne:∀b,rs[d]?≠some (.bool b):=by
     intro b hb
     have hgd:rs.getD d undef=.bool b:=by rw[Array.getD_eq_getD_getElem?,hb];rfl
     rw[hgd]at hr
     generalize getT ts d=v at hr hnb hnbot
     cases hr with
     |bot=>exact hnbot rfl
     |bool=>exact hnb _ rfl
    cases hrd:rs[d]? with
    |none=>rfl
    |some r=>cases r<;>first|rfl|exact absurd hrd (hne _)
theorem qmO{ops:Array Oper}{o:Oper}{ts:List V}{h h':H}{b:Bool}(e:qaL ops o ts h=some (b,h')):h.Le h':=by
 unfold qaL at e
 repeat' split at e
 all_goals first
  |(cases e;done)
  |(cases e;exact .refl _)
  |(cases e;exact H.test_le ‹_›)
section
variable {P:Program} {L:Lev}
theorem qfw(hL:LevOk P L){ops:Array Oper}:∀(l:List Nat)(st st':S),qdC L P ops l st=some st'→st'.h.Holds→st.h.Holds ∧
  ∀(φ:Map)(a:Act)(w:World)(F:Fence)(n:Nat),Wide F→VRels φ st.ts a.tmps.toList→MarksRel φ w st.dfs a.defers→HRel φ st.h w→wpOpsIn F n P ops (Post φ st.h w .normal st') l a w
 |[],st,st',e,hh=>by
  simp only[qdC,Option.some.injEq]at e
  subst e
  exact⟨hh,fun φ a w F n hF hts hm hr=>⟨rfl,φ,hts,hm,Goes.refl hr⟩⟩
 |i::rest,st,st',e,hh=>by
  rw[qg8]at e
  split at e
  ·cases e
  ·rename_i o ho
   split at e
   ·cases e
   ·rename_i h1 hg
    obtain⟨q1,q2⟩:=qfw hL rest _ st' e hh
    obtain⟨p1,p2,p3⟩:=qex hg q1
    refine⟨p1,fun φ a w F n hF hts hm hr=>?_⟩
    have hw:=p3 φ a.tmps hts
    simp only[wpOpsIn,ho,hw,Bool.false_eq_true,if_false]
    refine⟨fun f _=>hF.fn f,?_⟩
    have:=q2 φ (a.put o.dst undef) w F n hF (qch hts VRel.skip o.dst) (by cases o.dst<;>exact hm) (hr.same p2)
    refine qb0 (Q:=_) ?_ rest this
    rintro e' a' w' ⟨he,φ',t1,t2,t3⟩
    exact⟨he,φ',t1,t2,(Goes.of_same hr p2 rfl rfl rfl rfl).trans t3⟩
   ·rename_i h1 hg
    split at e
    ·cases e
    ·rename_i v h2 hop
     obtain⟨q1,q2⟩:=qfw hL rest _ st' e hh
     obtain⟨o1,o2⟩:=qnZ hL (st:={ st with h:=h1 }) hop q1
     obtain⟨p1,p2,p3⟩:=qex hg o1
     refine⟨p1,fun φ a w F n hF hts hm hr=>?_⟩
     have hw:=p3 φ a.tmps hts
     simp only[wpOpsIn,ho,hw,if_true]
     refine o2 φ a w F n hF hts (hr.same p2) _ _ ?_
     intro φ' r w' hv hgo
     have:=q2 φ' (a.put o.dst r) w' F n hF (qch (hts.mono hgo.le) hv o.dst) (by have:=hm.goes (hr.same p2) hgo;cases o.dst<;>exact this) hgo.rel
     refine qb0 (Q:=_) ?_ rest this
     rintro e' a' w'' ⟨he,φ'',t1,t2,t3⟩
     exact⟨he,φ'',t1,t2,((Goes.of_same hr p2 rfl rfl rfl rfl).trans hgo).trans t3⟩
end
end Go.Vm

namespace Go.Vm
open Go
theorem ObRel.weak{φ:Map}{w:Bool}{z:Nat×Nat}{x:Ob}{o:Obj}(h:ObRel φ w z x o):ObRel φ false z x o:=by
 unfold ObRel at h ⊢
 split at h
 ·exact⟨h.1,h.2.1,fun e=>by cases e⟩
 ·exact h
 ·trivial
 ·exact h
 ·exact h
 ·exact h
 ·trivial
 ·exact h.elim
def qbi(lim:Nat):List (Nat×Ob)→List (Nat×Ob)
 |[]=>[]
 |(id,x)::r=>match Nat.ble lim id with
  |true=>qbi lim r
  |false=>(id,x)::r
def qbh(lim:Nat):List (Nat×Ob)→List (Nat×Ob)
 |[]=>[]
 |(id,x)::r=>match Nat.ble lim id with
  |true=>(id,x)::qbh lim r
  |false=>[]
theorem qal(c:Nat)(x:Ob)(r:List (Nat×Ob))(b:Nat):look ((c,x)::r) b=if c=b then some x else if c≤b then none else look r b:=by
 rw[look_eq]
 by_cases h1:c=b
 ·subst h1;rw[Nat.beq_refl];simp
 ·have e1:Nat.beq c b=false:=by
   cases e:Nat.beq c b with
   |false=>rfl
   |true=>exact absurd (Nat.eq_of_beq_eq_true e) h1
  rw[e1]
  by_cases h2:c≤b
  ·rw[Nat.ble_eq_true_of_le h2];simp[h1,h2]
  ·have e2:Nat.ble c b=false:=by
    cases e:Nat.ble c b with
    |false=>rfl
    |true=>exact absurd (Nat.le_of_ble_eq_true e) h2
   rw[e2];simp[h1,h2]
def semi(base:Nat)(h h2:H):H:=H.casesOn h fun _ ro old _ _=>H.casesOn h2 fun next _ objs ask said=>{ next:=next,ro:=ro,objs:=qbh base objs++qbi base old,ask:=ask,said:=said }
theorem qhe(base:Nat)(h h2:H):semi base h h2={ next:=h2.next,ro:=h.ro,objs:=qbh base h2.objs++qbi base h.objs,ask:=h2.ask,said:=h2.said }:=by cases h;cases h2;rfl
def H.upRo(h:H)(n:Nat):H:=H.casesOn h fun next _ objs ask said=>{ next:=next,ro:=n,objs:=objs,ask:=ask,said:=said }
theorem qi9{base:Nat}{m:List (Nat×Ob)}{b:Nat}(hb:b<base):∀l:List (Nat×Ob),look (qbh base l++m) b=look m b
 |[]=>rfl
 |(c,x)::r=>by
  simp only[qbh]
  split
  ·rename_i h
   have h:=Nat.le_of_ble_eq_true h
   rw[List.cons_append,qal,if_neg (by omega),if_neg (by omega)]
   exact qi9 hb r
  ·rfl
theorem qgD{base b:Nat}(hb:b<base):∀l:List (Nat×Ob),look (qbi base l) b=look l b
 |[]=>rfl
 |(c,x)::r=>by
  simp only[qbi]
  split
  ·rename_i h
   have h:=Nat.le_of_ble_eq_true h
   rw[qal,if_neg (by omega),if_neg (by omega)]
   exact qgD hb r
  ·rfl
theorem qdy{base b:Nat}(hb:base≤b):∀l:List (Nat×Ob),look (qbi base l) b=none
 |[]=>rfl
 |(c,x)::r=>by
  simp only[qbi]
  split
  ·exact qdy hb r
  ·rename_i h
   have hc:¬base≤c:=fun h'=>by have:=Nat.ble_eq_true_of_le h';rw[h]at this;cases this
   rw[qal,if_neg (by omega),if_pos (by omega)]
theorem qeL{base b:Nat}{m:List (Nat×Ob)}(hb:base≤b)(hm:look m b=none):∀l:List (Nat×Ob),look (qbh base l++m) b=look l b
 |[]=>hm
 |(c,x)::r=>by
  simp only[qbh]
  split
  ·rw[List.cons_append,qal,qal]
   split
   ·rfl
   ·split
    ·rfl
    ·exact qeL hb hm r
  ·rename_i h
   have hc:¬base≤c:=fun h'=>by have:=Nat.ble_eq_true_of_le h';rw[h]at this;cases this
   rw[List.nil_append,qal,if_neg (by omega),if_pos (by omega),hm]
theorem qaY{base b:Nat}{h h2:H}(hb:b<base):(semi base h h2).get b=h.get b:=by
 simp only[H.get,qhe]
 rw[qi9 hb,qgD hb]
theorem qbZ{base b:Nat}{h h2:H}(hb:base≤b):(semi base h h2).get b=h2.get b:=by
 simp only[H.get,qhe]
 rw[qeL hb (qdy hb _)]
theorem HRel.upRo{φ:Map}{h:H}{w:World}(hr:HRel φ h w){n:Nat}(h1:h.ro≤n)(h2:n≤h.next):HRel φ (h.upRo n) w where
 obj:=fun b x hb hx=>by
  obtain⟨k,o,q1,q2,q3⟩:=hr.obj b x hb hx
  refine⟨k,o,q1,q2,?_⟩
  show ObRel φ (Nat.ble n b) k.2 x o
  cases hn:Nat.ble n b with
  |false=>exact q3.weak
  |true=>
   have:=Nat.le_of_ble_eq_true hn
   have:Nat.ble h.ro b=true:=Nat.ble_eq_true_of_le (by omega)
   rw[this]at q3;exact q3
 inj:=fun b b' x x' k k' hx hx' hro=>hr.inj b b' x x' k k' hx hx' (Nat.le_trans h1 hro)
 dom:=hr.dom
 rle:=h2
 fz:=hr.fz
 own:=hr.own
 tip:=hr.tip
 tinj:=hr.tinj
 tdom:=hr.tdom
structure Sep(base:Nat)(φ:Map)(h:H):Prop where
 nm:∀b x q c q',b<base→h.get b=some x→φ b=some q→base≤c→φ c=some q'→q'.1≠q.1
 tp:∀b e c q',b<base→h.get b=some .tip→φ.tp b=some (some e)→base≤c→φ c=some q'→q'.1≠e.1
theorem qpE{φ:Map}{h:H}{w:World}(hr:HRel φ h w){c:Nat}{e:Nat×Nat×Nat}(hc:h.get c=some .tip)(he:φ.tp c=some (some e)):∃x,φ.fz e.1=some x:=by
 obtain⟨m,q1,q2⟩:=hr.tip c hc
 rw[he]at q1;cases q1
 obtain⟨⟨x,hx,_⟩,_⟩:=q2 e.1 e.2.1 e.2.2 rfl
 exact⟨x,hx⟩
theorem Goes.semi{φ φ':Map}{h h2:H}{w w':World}{base:Nat}(hr:HRel φ h w)(h1:h.ro≤base)(hs:Sep base φ h)(hbn:base≤h.next)
  (g:Goes φ (h.upRo base) w φ' h2 w'):Goes φ h w φ' (semi base h h2) w'∧Sep base φ' (semi base h h2):=by
 have gro:h2.ro=base:=g.ro
 have gnx:h.next≤h2.next:=g.next
 have hnew:=hs.nm
 have hback:∀b q,b<base→φ' b=some q→φ b=some q:=by
  intro b q hb hq
  rcases g.fresh b q hq with e|⟨e,_⟩
  ·exact e
  ·have:h.next≤b:=e;omega
 have htback:∀b m,b<base→φ'.tp b=some m→φ.tp b=some m:=by
  intro b q hb hq
  rcases g.tfresh b q hq with e|⟨e,_⟩
  ·exact e
  ·have:h.next≤b:=e;omega
 have htfz:∀c e,h.get c=some .tip→φ.tp c=some (some e)→∃x,φ.fz e.1=some x:=fun c e hc he=>qpE hr hc he
 have hnew':∀b x q c q',b<base→h.get b=some x→φ b=some q→base≤c→φ' c=some q'→q'.1≠q.1:=by
  intro b x q c q' hb hx hq hc hq'
  rcases g.fresh c q' hq' with e|⟨_,e⟩
  ·exact hnew b x q c q' hb hx hq hc e
  ·rcases e with e|⟨d,k',c1,c2,c3⟩
   ·have:=(hr.dom b q hq).2;omega
   ·rw[←c3];exact hnew b x q d k' hb hx hq c1 c2
 have hnewt':∀b e c q',b<base→h.get b=some .tip→φ.tp b=some (some e)→base≤c→φ' c=some q'→q'.1≠e.1:=by
  intro b e c q' hb hx he hc hq'
  rcases g.fresh c q' hq' with e1|⟨_,e1⟩
  ·exact hs.tp b e c q' hb hx he hc e1
  ·rcases e1 with e1|⟨d,k',c1,c2,c3⟩
   ·obtain⟨y,hy⟩:=htfz b e hx he
    have:=hr.fdom hy;omega
   ·rw[←c3];exact hs.tp b e d k' hb hx he c1 c2
 have hkeep:∀b x q,b<base→h.get b=some x→φ b=some q→w'.heap[q.1]?=w.heap[q.1]?∧φ'.fz q.1=none:=by
  intro b x q hb hx hq
  have hlt:=(hr.dom b q hq).2
  have hown:=hr.own b x q hx hq
  refine⟨g.frame q.1 hlt (fun c k' hc hk' e=>?_) (fun c e hc htip he ee=>?_),?_⟩
  ·exact hnew b x q c k' hb hx hq hc hk' e
  ·obtain⟨y,hy⟩:=htfz c e htip he
   rw[ee,hown]at hy;cases hy
  ·cases e:φ'.fz q.1 with
   |none=>rfl
   |some c=>
    exfalso
    rcases g.ffresh q.1 c e hlt with e1|⟨c',k',c1,c2,c3⟩|⟨c',e',c1,c2,c3,c4⟩
    ·rw[hown]at e1;cases e1
    ·exact hnew b x q c' k' hb hx hq c1 c2 c3
    ·obtain⟨y,hy⟩:=htfz c' e' c2 c3
     rw[c4,hown]at hy;cases hy
 refine⟨{
  le:=g.le
  next:=gnx
  ro:=rfl
  fresh:=fun b k e=>by
   rcases g.fresh b k e with e|⟨e1,e⟩
   ·exact .inl e
   ·refine .inr ⟨e1,e.imp id ?_⟩
    rintro⟨c,k',c1,c2,c3⟩
    have:base≤c:=c1
    exact⟨c,k',by omega,c2,c3⟩
  size:=g.size
  frame:=fun k hk a b=>g.frame k hk (fun c k' hc=>a c k' (Nat.le_trans h1 hc)) (fun c e hc=>b c e (Nat.le_trans h1 hc))
  tfresh:=fun b m e=>by
   rcases g.tfresh b m e with e|⟨e1,e⟩
   ·exact .inl e
   ·refine .inr ⟨e1,fun x hx=>(e x hx).imp id ?_⟩
    rintro⟨c,k',c1,c2,c3,c4⟩
    have:base≤c:=c1
    exact⟨c,k',by omega,c2,c3,c4⟩
  tlive:=fun b m hm hb=>by
   rcases Nat.lt_or_ge b base with hlt|hge
   ·rw[qaY hlt]at hb;exact hb
   ·rw[qbZ hge]at hb;exact g.tlive b m hm hb
  ffresh:=fun k c e hk=>by
   rcases g.ffresh k c e hk with e|⟨b,k',c1,c2,c3⟩|⟨b,e',c1,c2,c3,c4⟩
   ·exact .inl e
   ·exact .inr (.inl ⟨b,k',Nat.le_trans h1 c1,c2,c3⟩)
   ·exact .inr (.inr ⟨b,e',Nat.le_trans h1 c1,c2,c3,c4⟩)
  os:=g.os,tape:=g.tape,output:=g.output
  rel:={
   obj:=fun b x hb hx=>by
    rcases Nat.lt_or_ge b base with hlt|hge
    ·rw[qaY hlt]at hb
     obtain⟨k,o,q1,q2,q3⟩:=hr.obj b x hb hx
     exact⟨k,o,g.le _ _ q1,by rw[(hkeep b x k hlt hb q1).1];exact q2,q3.mono g.le⟩
    ·rw[qbZ hge]at hb
     obtain⟨k,o,q1,q2,q3⟩:=g.rel.obj b x hb hx
     refine⟨k,o,q1,q2,?_⟩
     rw[gro,Nat.ble_eq_true_of_le hge]at q3
     show ObRel φ' (Nat.ble h.ro b) k.2 x o
     rw[Nat.ble_eq_true_of_le (Nat.le_trans h1 hge)]
     exact q3
   inj:=fun b b' x x' k k' hx hx' hro hne hk hk'=>by
    rcases Nat.lt_or_ge b base with hlt|hge
    ·rcases Nat.lt_or_ge b' base with hlt'|hge'
     ·rw[qaY hlt]at hx
      rw[qaY hlt']at hx'
      exact hr.inj b b' x x' k k' hx hx' hro hne (hback _ _ hlt hk) (hback _ _ hlt' hk')
     ·rw[qaY hlt]at hx
      exact(hnew' b x k b' k' hlt hx (hback _ _ hlt hk) hge' hk').symm
    ·rcases Nat.lt_or_ge b' base with hlt'|hge'
     ·rw[qaY hlt']at hx'
      exact hnew' b' x' k' b k hlt' hx' (hback _ _ hlt' hk') hge hk
     ·rw[qbZ hge]at hx
      rw[qbZ hge']at hx'
      exact g.rel.inj b b' x x' k k' hx hx' (by rw[gro];exact hge) hne hk hk'
   dom:=g.rel.dom
   rle:=Nat.le_trans hr.rle gnx
   fz:=g.rel.fz
   own:=fun b x k hb hk=>by
    rcases Nat.lt_or_ge b base with hlt|hge
    ·rw[qaY hlt]at hb
     exact(hkeep b x k hlt hb (hback _ _ hlt hk)).2
    ·rw[qbZ hge]at hb
     exact g.rel.own b x k hb hk
   tip:=fun b hb=>by
    rcases Nat.lt_or_ge b base with hlt|hge
    ·rw[qaY hlt]at hb
     obtain⟨m,q1,q2⟩:=hr.tip b hb
     refine⟨m,g.le.tp b m q1,fun blk en sz em=>?_⟩
     subst em
     obtain⟨⟨c,hc,hcs⟩,cs,t,q5,q6⟩:=q2 blk en sz rfl
     have hlt2:blk<w.heap.size:=hr.fdom hc
     have hnm:∀c k',base≤c→φ c=some k'→k'.1≠blk:=fun c k' hc hk'=>hs.tp b (blk,en,sz) c k' hlt hb q1 hc hk'
     have htp:∀c e,base≤c→h.get c=some .tip→φ.tp c=some (some e)→e.1≠blk:=fun c e hc htip he ee=>
      hr.tinj b c (blk,en,sz) e hb htip (by omega) q1 he ee.symm
     obtain⟨c',hc',_⟩:=g.le.fz blk c hc
     have hc2:φ.fz blk=some c':=by
      rcases g.ffresh blk c' hc' hlt2 with e|⟨d,k',d1,d2,d3⟩|⟨d,e',d1,d2,d3,d4⟩
      ·exact e
      ·exact absurd d3 (hnm d k' d1 d2)
      ·exact absurd d4 (htp d e' d1 d2 d3)
     rw[hc]at hc2;cases hc2
     refine⟨⟨c,hc',hcs⟩,cs,t,?_,q6⟩
     rw[g.frame blk hlt2 (fun c k' hc=>hnm c k' hc) (fun c e hc=>htp c e hc)]
     exact q5
    ·rw[qbZ hge]at hb
     exact g.rel.tip b hb
   tinj:=fun b b' m m' hb hb' hne hm hm'=>by
    have cross:∀b b' m m',b<base→base≤b'→h.get b=some .tip→h2.get b'=some .tip→φ'.tp b=some (some m)→φ'.tp b'=some (some m')→m.1≠m'.1:=by
     intro b b' m m' hlt hge hb hb' hm hm'
     have hm:=htback b _ hlt hm
     obtain⟨y,hy⟩:=htfz b m hb hm
     have hmN:=hr.fdom hy
     rcases g.tfresh b' _ hm' with e|⟨_,e⟩
     ·exact hr.tinj b b' m m' hb (g.tlive b' _ e hb') (by omega) hm e
     ·rcases e m' rfl with e|⟨c,e',c1,c2,c3,c4⟩
      ·omega
      ·have hc1:base≤c:=c1
       rw[←c4]
       exact hr.tinj b c m e' hb c2 (by omega) hm c3
    rcases Nat.lt_or_ge b base with hlt|hge
    ·rw[qaY hlt]at hb
     rcases Nat.lt_or_ge b' base with hlt'|hge'
     ·rw[qaY hlt']at hb'
      exact hr.tinj b b' m m' hb hb' hne (htback _ _ hlt hm) (htback _ _ hlt' hm')
     ·rw[qbZ hge']at hb'
      exact cross b b' m m' hlt hge' hb hb' hm hm'
    ·rw[qbZ hge]at hb
     rcases Nat.lt_or_ge b' base with hlt'|hge'
     ·rw[qaY hlt']at hb'
      exact(cross b' b m' m hlt' hge hb' hb hm' hm).symm
     ·rw[qbZ hge']at hb'
      exact g.rel.tinj b b' m m' hb hb' hne hm hm'
   tdom:=g.rel.tdom } },⟨fun b x q c q' hb hx hq hc hq'=>by
    rw[qaY hb]at hx
    exact hnew' b x q c q' hb hx (hback _ _ hb hq) hc hq',fun b e c q' hb hx he hc hq'=>by
    rw[qaY hb]at hx
    exact hnewt' b e c q' hb hx (htback _ _ hb he) hc hq'⟩⟩
def qn8(lend:Option (Nat×Ob)):List (Nat×Ob):=
 match lend with
 |some p=>[p]
 |none=>[]
def qek(lend:Option (Nat×Ob))(h:H):H:=H.casesOn h fun next ro _ ask said=>{ next:=next,ro:=ro,objs:=qn8 lend,ask:=ask,said:=said }
def qbK(lend:Option (Nat×Ob))(c:Nat):Bool:=
 match lend with
 |some p=>Nat.beq p.1 c
 |none=>false
def Map.lend(φ:Map)(lend:Option (Nat×Ob)):Map:={ φ with nm:=fun c=>if qbK lend c=true then φ c else none }
def qjt(lend:Option (Nat×Ob))(h:H):Prop:=∀p,lend=some p→h.get p.1=some p.2∧h.ro≤p.1∧∃k v l,p.2=.map k v l
def qdW(lend:Option (Nat×Ob))(h h2:H):H:=
 match lend with
 |some p=>match h2.get p.1 with
  |some x=>(semi h.next h h2).set p.1 x
  |none=>(semi h.next h h2).kill p.1
 |none=>semi h.next h h2
theorem qbB(lend:Option (Nat×Ob))(h:H):qek lend h={ h with objs:=qn8 lend }:=by cases h;rfl
theorem qcF{lend:Option (Nat×Ob)}{h:H}{c:Nat}{y:Ob}(e:(qek lend h).get c=some y):∃p,lend=some p∧p.1=c∧p.2=y:=by
 rw[qbB]at e
 have e:=qaS e
 cases lend with
 |none=>cases e
 |some p=>
  obtain⟨b,x⟩:=p
  rcases qc8 e with⟨h1,h2⟩|⟨_,h2⟩
  ·exact⟨_,rfl,h1,h2.symm⟩
  ·cases h2
theorem isLent_iff{lend:Option (Nat×Ob)}{c:Nat}:qbK lend c=true↔∃p,lend=some p∧p.1=c:=by
 cases lend with
 |none=>simp[qbK]
 |some p=>
  simp only[qbK,Option.some.injEq,exists_eq_left']
  exact⟨Nat.eq_of_beq_eq_true,fun h=>by rw[h];exact Nat.beq_refl c⟩
theorem Map.lend_some{φ:Map}{lend:Option (Nat×Ob)}{c:Nat}{q:Nat×Nat×Nat}(e:φ.lend lend c=some q):φ c=some q∧∃p,lend=some p∧p.1=c:=by
 have e:(if qbK lend c=true then φ c else none)=some q:=e
 split at e
 ·rename_i h;exact⟨e,isLent_iff.1 h⟩
 ·cases e
theorem Map.lend_at{φ:Map}{p:Nat×Ob}:φ.lend (some p) p.1=φ p.1:=if_pos (by simp[qbK])
theorem HRel.lend{φ:Map}{lend:Option (Nat×Ob)}{h:H}{w:World}(hr:HRel φ h w)(ok:qjt lend h):HRel (φ.lend lend) (qek lend h) w where
 obj:=fun b x hb hx=>by
  obtain⟨p,hp,rfl,rfl⟩:=qcF hb
  obtain⟨h1,h2,k,v,l,h3⟩:=ok p hp
  obtain⟨q,o,e1,e2,e3⟩:=hr.obj p.1 p.2 h1 hx
  refine⟨q,o,by rw[hp,Map.lend_at];exact e1,e2,?_⟩
  rw[h3]at e3 ⊢
  rw[qbB]
  cases o<;>simp only[ObRel]at e3 ⊢
  exact e3
 inj:=fun b b' x x' k k' hb hb' _ hne=>by
  obtain⟨p,hp,rfl,_⟩:=qcF hb
  obtain⟨p',hp',rfl,_⟩:=qcF hb'
  rw[hp]at hp';cases hp'
  exact absurd rfl hne
 dom:=fun b k e=>by rw[qbB];exact hr.dom b k (Map.lend_some e).1
 rle:=by rw[qbB];exact hr.rle
 fz:=hr.fz
 own:=fun b x k hb hk=>by
  obtain⟨p,hp,rfl,rfl⟩:=qcF hb
  exact hr.own p.1 p.2 k (ok p hp).1 (Map.lend_some hk).1
 tip:=fun b hb=>by
  obtain⟨p,hp,rfl,h2⟩:=qcF hb
  obtain⟨_,_,k,v,l,h3⟩:=ok p hp
  rw[h3]at h2;cases h2
 tinj:=fun b b' m m' hb=>by
  obtain⟨p,hp,rfl,h2⟩:=qcF hb
  obtain⟨_,_,k,v,l,h3⟩:=ok p hp
  rw[h3]at h2;cases h2
 tdom:=fun b m e=>by rw[qbB];exact hr.tdom b m e
theorem qhy(lend:Option (Nat×Ob))(h h2:H):(qdW lend h h2).next=h2.next∧(qdW lend h h2).ro=h.ro∧(qdW lend h h2).said=h2.said:=by
 unfold qdW
 split
 ·split
  ·rw[H.set_eq,qhe];exact⟨rfl,rfl,rfl⟩
  ·rw[H.kill_eq,qhe];exact⟨rfl,rfl,rfl⟩
 ·rw[qhe];exact⟨rfl,rfl,rfl⟩
theorem qnC{lend:Option (Nat×Ob)}{h h2:H}(ok:qjt lend h)(hl:∀p,lend=some p→p.1<h.next){c:Nat}{y:Ob}(e:(qdW lend h h2).get c=some y):
  (h.next≤c∧h2.get c=some y)∨(c<h.next∧qbK lend c=true∧h2.get c=some y)∨(c<h.next∧qbK lend c=false∧h.get c=some y):=by
 have plain:(semi h.next h h2).get c=some y→(h.next≤c∧h2.get c=some y)∨(c<h.next∧h.get c=some y):=by
  intro e
  rcases Nat.lt_or_ge c h.next with hc|hc
  ·exact .inr ⟨hc,by rw[qaY hc]at e;exact e⟩
  ·exact .inl ⟨hc,by rw[qbZ hc]at e;exact e⟩
 unfold qdW at e
 split at e
 ·rename_i p
  have hlt:=hl p rfl
  split at e
  ·rename_i x hx
   have e0:live (if p.1=c then(look (semi h.next h h2).objs c).map (fun _=>x)else look (semi h.next h h2).objs c)=some y:=by
    rw[←qbY];rw[H.set_eq]at e;exact e
   split at e0
   ·rename_i hpc
    cases hk:look (semi h.next h h2).objs c with
    |none=>rw[hk]at e0;cases e0
    |some u=>
     rw[hk]at e0
     have e1:live (some x)=some y:=e0
     have e2:=qaS hx
     have e3:live (some x)=some x:=qk1 hx e2
     rw[e3]at e1;cases e1
     subst hpc
     exact .inr (.inl ⟨hlt,isLent_iff.2 ⟨p,rfl,rfl⟩,hx⟩)
   ·rename_i hpc
    rcases plain e0 with h1|⟨h1,h2⟩
    ·exact .inl h1
    ·exact .inr (.inr ⟨h1,by
      cases hi:qbK (some p) c with
      |false=>rfl
      |true=>obtain⟨p',hp',e'⟩:=isLent_iff.1 hi;cases hp';exact absurd e' hpc,h2⟩)
  ·obtain⟨h1,h2⟩:=H.get_kill e
   rcases plain h2 with h3|⟨h3,h4⟩
   ·exact .inl h3
   ·exact .inr (.inr ⟨h3,by
     cases hi:qbK (some p) c with
     |false=>rfl
     |true=>obtain⟨p',hp',e'⟩:=isLent_iff.1 hi;cases hp';exact absurd e'.symm h1,h4⟩)
 ·rcases plain e with h1|⟨h1,h2⟩
  ·exact .inl h1
  ·exact .inr (.inr ⟨h1,rfl,h2⟩)
theorem Goes.lend{φ φ':Map}{lend:Option (Nat×Ob)}{h h2:H}{w w':World}(hr:HRel φ h w)(ok:qjt lend h)(g:Goes (φ.lend lend) (qek lend h) w φ' h2 w'):
  ∃ψ:Map,φ'.le ψ∧Goes φ h w ψ (qdW lend h h2) w':=by
 have gnx:h.next≤h2.next:=by have:=g.next;rw[qbB]at this;exact this
 have gro:h2.ro=h.ro:=by have:=g.ro;rw[qbB]at this;exact this
 have hlt:∀p,lend=some p→p.1<h.next:=fun p hp=>hr.lt (ok p hp).1
 have notip:∀b,(qek lend h).get b=some .tip→False:=by
  intro b hb
  obtain⟨p,hp,rfl,h2⟩:=qcF hb
  obtain⟨_,_,k,v,l,h3⟩:=ok p hp
  rw[h3]at h2;cases h2
 have hnx:(qek lend h).next=h.next:=by rw[qbB]
 have hro:(qek lend h).ro=h.ro:=by rw[qbB]
 have hback:∀c q,c<h.next→φ' c=some q→φ c=some q∧∃p,lend=some p∧p.1=c:=by
  intro c q hc hq
  rcases g.fresh c q hq with e|⟨e,_⟩
  ·exact Map.lend_some e
  ·rw[hnx]at e;omega
 have hkeepn:∀p q,lend=some p→φ p.1=some q→φ' p.1=some q:=fun p q hp hq=>g.le _ _ (by rw[hp,Map.lend_at];exact hq)
 have htback:∀c m,c<h.next→φ'.tp c=some m→φ.tp c=some m:=by
  intro c m hc hm
  rcases g.tfresh c m hm with e|⟨e,_⟩
  ·exact e
  ·rw[hnx]at e;omega
 have hblk:∀k,k<w.heap.size→(∀p q,lend=some p→φ p.1=some q→q.1≠k)→w'.heap[k]?=w.heap[k]?:=by
  intro k hk hn
  refine g.frame k hk (fun b k' _ hb=>?_) (fun b e _ hb=>(notip b hb).elim)
  obtain⟨h1,p,hp,rfl⟩:=Map.lend_some hb
  exact hn p k' hp h1
 have hfz:∀k c,k<w.heap.size→φ'.fz k=some c→(∀p q,lend=some p→φ p.1=some q→q.1≠k)→φ.fz k=some c:=by
  intro k c hk hc hn
  rcases g.ffresh k c hc hk with e|⟨b,k',c1,c2,c3⟩|⟨b,e',c1,c2,_⟩
  ·exact e
  ·obtain⟨h1,p,hp,rfl⟩:=Map.lend_some c2
   exact absurd c3 (hn p k' hp h1)
  ·exact(notip b c2).elim
 have hother:∀c x k,h.get c=some x→qbK lend c=false→φ c=some k→∀p q,lend=some p→φ p.1=some q→q.1≠k.1:=by
  intro c x k hc hl hk p q hp hq
  obtain⟨h1,h2,_⟩:=ok p hp
  refine hr.inj p.1 c _ x q k h1 hc h2 (fun e=>?_) hq hk
  have:qbK lend c=true:=isLent_iff.2 ⟨p,hp,e⟩
  rw[this]at hl;cases hl
 have htipb:∀c blk en sz,h.get c=some .tip→φ.tp c=some (some (blk,en,sz))→∀p q,lend=some p→φ p.1=some q→q.1≠blk:=by
  intro c blk en sz hc hm p q hp hq e
  obtain⟨m',h1,h2⟩:=hr.tip c hc
  rw[hm]at h1;cases h1
  obtain⟨⟨c0,h3,_⟩,_⟩:=h2 blk en sz rfl
  have:=hr.own p.1 p.2 q (ok p hp).1 hq
  rw[e,h3]at this;cases this
 let ψ:Map:={ φ' with nm:=fun c=>if c<h.next then φ c else φ' c }
 have hψ1:∀c q,c<h.next→ψ c=some q→φ c=some q:=fun c q hc e=>by
  have e:(if c<h.next then φ c else φ' c)=some q:=e
  rw[if_pos hc]at e;exact e
 have hψ2:∀c q,h.next≤c→ψ c=some q→φ' c=some q:=fun c q hc e=>by
  have e:(if c<h.next then φ c else φ' c)=some q:=e
  rw[if_neg (by omega)]at e;exact e
 have hψ3:∀c q,c<h.next→φ c=some q→ψ c=some q:=fun c q hc e=>by
  show(if c<h.next then φ c else φ' c)=some q
  rw[if_pos hc];exact e
 have le1:φ'.le ψ:=⟨fun c q hq=>by
  rcases Nat.lt_or_ge c h.next with hc|hc
  ·exact hψ3 c q hc (hback c q hc hq).1
  ·show(if c<h.next then φ c else φ' c)=some q
   rw[if_neg (by omega)];exact hq,Frozen.le_refl _,fun _ _ e=>e,rfl⟩
 have le2:φ.le ψ:=⟨fun c q hq=>hψ3 c q (hr.dom c q hq).1 hq,g.le.fz,fun c m hm=>g.le.tp c m hm,g.le.base⟩
 obtain⟨b1,b2,b3⟩:=qhy lend h h2
 have hget:∀{c y},(qdW lend h h2).get c=some y→(h.next≤c∧h2.get c=some y)∨(c<h.next∧qbK lend c=true∧h2.get c=some y)∨(c<h.next∧qbK lend c=false∧h.get c=some y):=fun e=>qnC ok hlt e
 have halive:∀c,c<h.next→qbK lend c=true→∃x,h.get c=some x∧h.ro≤c:=by
  intro c _ hl
  obtain⟨p,hp,rfl⟩:=isLent_iff.1 hl
  exact⟨p.2,(ok p hp).1,(ok p hp).2.1⟩
 refine⟨ψ,le1,{
  le:=le2
  next:=by rw[b1];exact gnx
  ro:=b2
  fresh:=fun c q hq=>by
   rcases Nat.lt_or_ge c h.next with hc|hc
   ·exact .inl (hψ1 c q hc hq)
   ·rcases g.fresh c q (hψ2 c q hc hq)with e|⟨_,e⟩
    ·exact .inl (Map.lend_some e).1
    ·refine .inr ⟨hc,e.imp id ?_⟩
     rintro⟨d,k',d1,d2,d3⟩
     exact⟨d,k',by rw[hro]at d1;exact d1,(Map.lend_some d2).1,d3⟩
  size:=g.size
  frame:=fun k hk a _=>hblk k hk fun p q hp hq=>a p.1 q (ok p hp).2.1 hq
  tfresh:=fun c m hm=>by
   rcases g.tfresh c m hm with e|⟨e1,e⟩
   ·exact .inl e
   ·refine .inr ⟨by rw[hnx]at e1;exact e1,fun x hx=>(e x hx).imp id ?_⟩
    rintro⟨d,k',_,d2,_⟩
    exact(notip d d2).elim
  tlive:=fun c m hm hc=>by
   have hcl:=hr.tdom c m hm
   rcases hget hc with⟨h1,_⟩|⟨_,h1,h2'⟩|⟨_,_,h1⟩
   ·omega
   ·exact(notip c (g.tlive c m hm h2')).elim
   ·exact h1
  ffresh:=fun k c e hk=>by
   rcases g.ffresh k c e hk with e|⟨b,k',c1,c2,c3⟩|⟨b,e',c1,c2,_⟩
   ·exact .inl e
   ·exact .inr (.inl ⟨b,k',by rw[hro]at c1;exact c1,(Map.lend_some c2).1,c3⟩)
   ·exact(notip b c2).elim
  os:=g.os,tape:=g.tape,output:=g.output
  rel:={
   obj:=fun c x hc hx=>by
    rcases hget hc with⟨h1,h2'⟩|⟨h1,h1',h2'⟩|⟨h1,h1',h2'⟩
    ·obtain⟨q,o,e1,e2,e3⟩:=g.rel.obj c x h2' hx
     exact⟨q,o,le1 _ _ e1,e2,by rw[b2,←gro];exact e3.mono le1⟩
    ·obtain⟨q,o,e1,e2,e3⟩:=g.rel.obj c x h2' hx
     exact⟨q,o,le1 _ _ e1,e2,by rw[b2,←gro];exact e3.mono le1⟩
    ·obtain⟨q,o,e1,e2,e3⟩:=hr.obj c x h2' hx
     refine⟨q,o,le2 _ _ e1,?_,by rw[b2];exact e3.mono le2⟩
     rw[hblk q.1 (hr.dom c q e1).2 (fun p q' hp hq'=>hother c x q h2' h1' e1 p q' hp hq')]
     exact e2
   inj:=fun c c' x x' q q' hc hc' hcr hne hq hq'=>by
    rw[b2]at hcr
    have old:∀{c x},(qdW lend h h2).get c=some x→c<h.next→∃y,h.get c=some y:=by
     intro c x hc hlt'
     rcases hget hc with⟨h1,_⟩|⟨h1,h1',_⟩|⟨_,_,h1⟩
     ·omega
     ·obtain⟨y,hy,_⟩:=halive c h1 h1';exact⟨y,hy⟩
     ·exact⟨x,h1⟩
    have cross:∀c c' x x' q q',h.next≤c→c'<h.next→(qdW lend h h2).get c=some x→(qdW lend h h2).get c'=some x'→ψ c=some q→ψ c'=some q'→q.1≠q'.1:=by
     intro c c' x x' q q' hge hlt' hc hc' hq hq'
     have hq1:=hψ2 c q hge hq
     have hq1':=hψ1 c' q' hlt' hq'
     have hdom:=(hr.dom c' q' hq1').2
     have hcx:h2.get c=some x:=by
      rcases hget hc with⟨_,h1⟩|⟨h1,_,_⟩|⟨h1,_,_⟩
      ·exact h1
      ·omega
      ·omega
     rcases g.fresh c q hq1 with e|⟨_,e|⟨d,k',d1,d2,d3⟩⟩
     ·obtain⟨e,p,hp,he⟩:=Map.lend_some e
      have:=hlt p hp;omega
     ·omega
     ·obtain⟨e,p,hp,rfl⟩:=Map.lend_some d2
      rw[←d3]
      rcases hget hc' with⟨h1,_⟩|⟨_,h1',h2'⟩|⟨_,h1',h2'⟩
      ·omega
      ·obtain⟨p',hp',rfl⟩:=isLent_iff.1 h1'
       rw[hp]at hp';cases hp'
       rw[d3]
       exact g.rel.inj c p.1 x x' q q' hcx h2' (by rw[gro];exact Nat.le_trans hr.rle hge) (by omega) hq1 (hkeepn p q' hp hq1')
      ·exact hother c' x' q' h2' h1' hq1' p k' hp e
    rcases Nat.lt_or_ge c h.next with h1|h1
    ·rcases Nat.lt_or_ge c' h.next with h2'|h2'
     ·obtain⟨y,hy⟩:=old hc h1
      obtain⟨y',hy'⟩:=old hc' h2'
      exact hr.inj c c' y y' q q' hy hy' hcr hne (hψ1 c q h1 hq) (hψ1 c' q' h2' hq')
     ·exact(cross c' c x' x q' q h2' h1 hc' hc hq' hq).symm
    ·rcases Nat.lt_or_ge c' h.next with h2'|h2'
     ·exact cross c c' x x' q q' h1 h2' hc hc' hq hq'
     ·have e1:h2.get c=some x:=by
       rcases hget hc with⟨_,h3⟩|⟨h3,_,_⟩|⟨h3,_,_⟩
       ·exact h3
       ·omega
       ·omega
      have e2:h2.get c'=some x':=by
       rcases hget hc' with⟨_,h3⟩|⟨h3,_,_⟩|⟨h3,_,_⟩
       ·exact h3
       ·omega
       ·omega
      exact g.rel.inj c c' x x' q q' e1 e2 (by rw[gro];exact hcr) hne (hψ2 c q h1 hq) (hψ2 c' q' h2' hq')
   dom:=fun c q hq=>by
    rw[b1]
    rcases Nat.lt_or_ge c h.next with hc|hc
    ·have:=hr.dom c q (hψ1 c q hc hq)
     have:=g.size
     exact⟨by omega,by omega⟩
    ·exact g.rel.dom c q (hψ2 c q hc hq)
   rle:=by rw[b1,b2];exact Nat.le_trans hr.rle gnx
   fz:=g.rel.fz
   own:=fun c x q hc hq=>by
    rcases hget hc with⟨h1,h2'⟩|⟨h1,h1',h2'⟩|⟨h1,h1',h2'⟩
    ·exact g.rel.own c x q h2' (hψ2 c q h1 hq)
    ·obtain⟨p,hp,rfl⟩:=isLent_iff.1 h1'
     exact g.rel.own p.1 x q h2' (hkeepn p q hp (hψ1 _ q h1 hq))
    ·have hq0:=hψ1 c q h1 hq
     have hno:=hr.own c x q h2' hq0
     cases hf:φ'.fz q.1 with
     |none=>rfl
     |some c0=>
      have:=hfz q.1 c0 (hr.dom c q hq0).2 hf (fun p q' hp hq'=>hother c x q h2' h1' hq0 p q' hp hq')
      rw[hno]at this;cases this
   tip:=fun c hc=>by
    rcases hget hc with⟨h1,h2'⟩|⟨h1,h1',h2'⟩|⟨h1,h1',h2'⟩
    ·exact g.rel.tip c h2'
    ·exact g.rel.tip c h2'
    ·obtain⟨m,e1,e2⟩:=hr.tip c h2'
     refine⟨m,g.le.tp c m e1,fun blk en sz em=>?_⟩
     subst em
     obtain⟨⟨c0,hc0,hcs⟩,cs,t,q5,q6⟩:=e2 blk en sz rfl
     have hlt2:blk<w.heap.size:=hr.fdom hc0
     have hne:=htipb c blk en sz h2' e1
     obtain⟨c',hc',_⟩:=g.le.fz blk c0 hc0
     have hc2:=hfz blk c' hlt2 hc' hne
     rw[hc0]at hc2;cases hc2
     refine⟨⟨c0,hc',hcs⟩,cs,t,?_,q6⟩
     rw[hblk blk hlt2 hne]
     exact q5
   tinj:=fun c c' m m' hc hc' hne hm hm'=>by
    have new:∀{c},(qdW lend h h2).get c=some .tip→h.next≤c→h2.get c=some .tip:=by
     intro c hc h1
     rcases hget hc with⟨_,h3⟩|⟨h3,_,_⟩|⟨h3,_,_⟩
     ·exact h3
     ·omega
     ·omega
    have old:∀{c m},(qdW lend h h2).get c=some .tip→c<h.next→φ'.tp c=some m→h.get c=some .tip:=by
     intro c m hc h1 hm
     rcases hget hc with⟨h3,_⟩|⟨_,h1',h3⟩|⟨_,_,h3⟩
     ·omega
     ·exact(notip c (g.tlive c m (htback c m h1 hm) h3)).elim
     ·exact h3
    have cross:∀c c' m m',h.next≤c→c'<h.next→(qdW lend h h2).get c'=some .tip→φ'.tp c=some (some m)→φ'.tp c'=some (some m')→m.1≠m'.1:=by
     intro c c' m m' hge hlt' hc' hm hm'
     have ho:=old hc' hlt' hm'
     have hm0:=htback c' _ hlt' hm'
     obtain⟨mm,e1,e2⟩:=hr.tip c' ho
     rw[hm0]at e1;cases e1
     obtain⟨⟨c0,hc0,_⟩,_⟩:=e2 m'.1 m'.2.1 m'.2.2 rfl
     have:=hr.fdom hc0
     rcases g.tfresh c _ hm with e|⟨_,e⟩
     ·have:=hr.tdom c _ e;omega
     ·rcases e m rfl with e|⟨d,e',_,d2,_⟩
      ·omega
      ·exact(notip d d2).elim
    rcases Nat.lt_or_ge c h.next with h1|h1
    ·rcases Nat.lt_or_ge c' h.next with h2'|h2'
     ·exact hr.tinj c c' m m' (old hc h1 hm) (old hc' h2' hm') hne (htback c _ h1 hm) (htback c' _ h2' hm')
     ·exact(cross c' c m' m h2' h1 hc hm' hm).symm
    ·rcases Nat.lt_or_ge c' h.next with h2'|h2'
     ·exact cross c c' m m' h1 h2' hc' hm hm'
     ·exact g.rel.tinj c c' m m' (new hc h1) (new hc' h2') hne hm hm'
   tdom:=fun c m hm=>by rw[b1];exact g.rel.tdom c m hm } }⟩
end Go.Vm

namespace Go.Vm
open Go
abbrev Draw:=Lev→Array Oper→S→Option S
abbrev COrc:=FuncId→List V→H→Option (V×H)
abbrev LOrc:=Nat→Nat→S→Option (X×S)
structure Orc where
 call:COrc
 loop:LOrc
def iter(L:Lev)(rd:Rd)(body:Code):Nat→S→Option (X×S)
 |0,_=>none
 |m+1,st=>match L.exec rd body st with
  |some (.normal,st)=>iter L rd body m st
  |r=>r
def qcN:X→Option Code
 |.normal=>none
 |.ret=>some .ret
 |.exit id=>some (.exit id)
def qox:Option Code→Option X
 |none=>some .normal
 |some .ret=>some .ret
 |some (.exit id)=>some (.exit id)
 |_=>none
def qlG(rd:Option Nat)(ts:List V)(params:Array Tmp)(assign body:Code)(h:H):Option (Nat×List Nat×H):=
 match rd with
 |none=>
  let h1:=h.push .deferred
  some (h1.next,[h.next],h1.push (.loop { state:=.ready,pending:=none,tmps:=ts,params,assign,body,defers:=h.next }))
 |some l=>match h.get l with
  |some (.loop r)=>some (h.next,[],h.push (.loop { state:=.ready,pending:=none,tmps:=ts,params,assign,body,defers:=r.defers }))
  |_=>none
def qrw:LoopState→Bool
 |.busy=>true
 |_=>false
def qkE:LoopState→Bool
 |.ready=>true
 |_=>false
def qgc(id:Nat)(r:Option (X×S)):Option (X×S):=
 match r with
 |some (.exit i,st)=>match Nat.beq i id with
  |true=>some (.normal,st)
  |false=>some (.exit i,st)
 |r=>r
def qcl(orc:Orc)(rd:Rd)(id:Nat)(st:S):Option (X×S):=
 match rd with
 |.top f=>orc.loop f id st
 |_=>none
def qas(dr:Draw)(orc:Orc)(P:Program)(L:Lev)(rd:Rd)(c:Code)(st:S):Option (X×S):=
 match c with
 |.skip=>some (.normal,st)
 |.label _=>some (.normal,st)
 |.seq a b=>match L.exec rd a st with
  |some (.normal,st)=>L.exec rd b st
  |r=>r
 |.cond c a b=>match st with
  |{ ts,dfs,h }=>match eval ts c with
   |.bool t=>match h.test t with
    |some (true,h)=>L.exec rd a { ts:=ts,dfs:=dfs,h:=h }
    |some (false,h)=>L.exec rd b { ts:=ts,dfs:=dfs,h:=h }
    |none=>none
   |_=>none
 |.block id body=>match qcl orc rd id st with
  |some r=>some r
  |none=>qgc id (L.exec rd body st)
 |.loop body=>iter L rd body 1000000 st
 |.exit id=>some (.exit id,st)
 |.ret=>some (.ret,st)
 |.region _ ops false=>match qdC L P ops (List.range ops.size) st with
  |some st=>some (.normal,st)
  |none=>none
 |.region _ ops true=>match dr L ops st with
  |some st=>some (.normal,st)
  |none=>none
 |.rangeFunc f params assign body=>
  match qlG rd.l st.ts params assign body st.h with
  |none=>none
  |some (l,ds,h)=>match eval st.ts f with
   |.func g first captured=>match L.call g (first++[.yield l]++captured) h with
    |none=>none
    |some (_,h)=>match h.get l with
     |some (.loop r)=>match qrw r.state,Nat.ble h.ro l,qox r.pending with
      |false,true,some x=>some (x,{ st with dfs:=ds++st.dfs,h:=h.set l (.loop { r with state:=.exhausted }) })
      |_,_,_=>none
     |_=>none
   |_=>none
 |_=>none
def qdd:List Nat→H→Option H
 |[],h=>some h
 |d::ds,h=>match h.get d with
  |some .deferred=>match Nat.ble h.ro d with
   |true=>qdd ds (h.kill d)
   |false=>none
  |_=>none
def qcP(P:Program):List ResultVar→List V→H→Option (List V)
 |[],_,_=>some []
 |.tmp t::rs,ts,h=>match qcP P rs ts h with
  |some vs=>some (getT ts t::vs)
  |none=>none
 |.cell a t::rs,ts,h=>match qjP P t (getT ts a) h,qcP P rs ts h with
  |some v,some vs=>some (v::vs)
  |_,_=>none
def qcg:Nat→V→Bool
 |0,_=>false
 |n+1,v=>match v with
  |.bot|.int ..|.bool _|.str _|.flt ..|.cpx ..|.ptr none|.sl none _ _|.nilFunc|.nilIface=>true
  |.agg cs=>cs.all (qcg n)
  |.tuple cs=>cs.all (qcg n)
  |.iface _ v=>qcg n v
  |_=>false
def qnK:Nat→V→Bool
 |0,_=>false
 |n+1,v=>match v with
  |.bot|.int ..|.bool _|.str _|.flt ..|.cpx ..|.ptr none|.sl ..|.nilFunc|.nilIface|.vs ..|.fp _|.map _=>true
  |.agg cs=>cs.all (qnK n)
  |.tuple cs=>cs.all (qnK n)
  |.iface _ v=>qnK n v
  |_=>false
def qjZ:Nat→V→List Nat→List Nat
 |0,_,acc=>acc
 |n+1,v,acc=>match v with
  |.ptr (some a)=>a.b::acc
  |.sl (some a) _ _=>a.b::acc
  |.agg cs=>cs.foldr (qjZ n) acc
  |.tuple cs=>cs.foldr (qjZ n) acc
  |.iface _ v=>qjZ n v acc
  |.func _ xs ys=>xs.foldr (qjZ n) (ys.foldr (qjZ n) acc)
  |.yield l=>l::acc
  |.vs _ _ (.name b)=>b::acc
  |.vs _ _ (.own b)=>b::acc
  |.map (some b)=>b::acc
  |_=>acc
def qkG(b:Nat):List Nat→List Nat
 |[]=>[b]
 |c::r=>match Nat.ble c b with
  |true=>b::c::r
  |false=>c::qkG b r
def qmg(objs:List (Nat×Ob))(lim:Nat):Nat→List Nat→List Nat→List Nat
 |0,_,seen=>seen
 |n+1,todo,seen=>match todo with
  |[]=>seen
  |b::todo=>match Nat.ble lim b&&!seen.any (Nat.beq b)with
   |false=>qmg objs lim n todo seen
   |true=>match look objs b with
    |some (.box _ (.list rows))=>qmg objs lim n (rows.foldr (fun row acc=>row.foldr (qjZ 6) acc) todo) (qkG b seen)
    |some _=>qmg objs lim n todo (qkG b seen)
    |none=>qmg objs lim n todo seen
def qok(objs:List (Nat×Ob))(ids:List Nat):List (Nat×Ob):=
 ids.filterMap fun b=>(look objs b).map fun x=>(b,x)
def tidy(args:List V)(v:V)(lim:Nat)(h:H):H:=
 match args.all (qnK 4)with
 |false=>h
 |true=>H.casesOn h fun next ro objs ask said=>{ next:=next,ro:=ro,objs:=qok objs (qmg objs lim 1000 (qjZ 6 v []) [])++qbi lim objs,ask:=ask,said:=said }
theorem qoh(args:List V)(v:V)(lim:Nat)(h:H):tidy args v lim h=match args.all (qnK 4)with
 |false=>h
 |true=>{ h with objs:=qok h.objs (qmg h.objs lim 1000 (qjZ 6 v []) [])++qbi lim h.objs }:=by cases h;rfl
def oneOf:List V→V
 |[v]=>v
 |vs=>.tuple vs
def qjs(P:Program)(fn:Func)(args:List V)(lim:Nat)(st:S):Option (V×H):=
 match qdd st.dfs st.h with
 |none=>none
 |some h=>match qcP P fn.results.toList st.ts h with
  |none=>none
  |some vs=>some (oneOf vs,tidy args (oneOf vs) lim h)
def qpS(P:Program)(o:Oper):Bool:=
 match o.op with
 |.call { callee:=.value (.func g),args,.. }=>match P.funcs[g]? with
  |some fn=>match fn.results.toList,args.toList with
   |[],[_]=>true
   |_,_=>false
  |none=>false
 |_=>false
def qkI:Code→Option (Array Oper)
 |.region _ ops _=>some ops
 |.seq a _=>qkI a
 |_=>none
def qqC(P:Program):Code→Bool
 |.seq _ b=>match qkI b with
  |some ops=>match ops.toList.any (qpS P)with
   |true=>true
   |false=>qqC P b
  |none=>qqC P b
 |_=>false
def qqw(ts:List V):List Operand→Option Nat
 |[]=>none
 |x::xs=>match x with
  |.tmp t=>match getT ts t with
   |.vs (.int _) _ (.own _)=>some t
   |_=>qqw ts xs
  |_=>qqw ts xs
def qrt(ts:List V):List Oper→Option Nat
 |[]=>none
 |o::os=>match qqw ts o.op.operands.toList with
  |some t=>some t
  |none=>qrt ts os
def qgj(v:V):V:=
 match qcg 8 v with
 |true=>v
 |false=>.bot
def qil(lend:Option (Nat×Ob))(h:H):List (Nat×Ob):=
 match lend with
 |some p=>match h.get p.1 with
  |some (.map k v l)=>[(p.1,.map k v l)]
  |_=>[]
 |none=>[]
def qoL(lend:Option (Nat×Ob))(lim:Nat)(t:Nat)(st:S):Option S:=
 match st with
 |{ ts,dfs,h }=>match dfs,getT ts t with
  |[],.vs (.int k) l (.own b)=>match Nat.ble lim b,h.get b with
   |true,some .tip=>match h.test (Nat.ble 1 l.length)with
    |some (true,h1)=>H.casesOn h1 fun next ro objs ask said=>some { ts:=(ts.map qgj).set t (.sl (some ⟨next,1,0,0⟩) l.length none),dfs:=[],h:={ next:=next+1,ro:=ro,objs:=(next,.box 1 (.ty (.int k) l))::qil lend { next:=next,ro:=ro,objs:=objs,ask:=ask,said:=said },ask:=ask,said:=said } }
    |some (false,h1)=>some { ts:=ts,dfs:=[],h:=h1 }
    |none=>none
   |_,_=>some { ts:=ts,dfs:=[],h:=h }
  |dfs,_=>some { ts:=ts,dfs:=dfs,h:=h }
def qgP(P:Program)(lend:Option (Nat×Ob))(lim:Nat)(c:Code)(st:S):Option S:=
 match qkI c with
 |some ops=>match ops.toList.any (qpS P)with
  |true=>match qrt st.ts ops.toList with
   |some t=>qoL lend lim t st
   |none=>some st
  |false=>some st
 |none=>some st
def qkm(P:Program)(L:Lev)(rd:Rd)(lend:Option (Nat×Ob))(lim:Nat):Code→S→Option (X×S)
 |.seq a b,st=>match L.exec rd a st with
  |some (.normal,st1)=>match qgP P lend lim b st1 with
   |some st2=>qkm P L rd lend lim b st2
   |none=>none
  |r=>r
 |c,st=>L.exec rd c st
def qkb:List V→Option Nat→Option (Option Nat)
 |[],r=>some r
 |v::vs,r=>match qcg 8 v with
  |true=>qkb vs r
  |false=>match v,r with
   |.map (some b),none=>qkb vs (some b)
   |_,_=>none
def qe5(h:H)(args:List V):Option (Option (Nat×Ob)):=
 match qkb args none with
 |none=>none
 |some none=>some none
 |some (some b)=>match Nat.ble h.ro b,h.get b with
  |true,some (.map k v l)=>some (some (b,.map k v l))
  |_,_=>none
def qii(P:Program)(c:Code)(h:H)(args:List V):Option (Option (Nat×Ob)):=
 match qqC P c with
 |true=>qe5 h args
 |false=>none
def qgX(v:V)(h:H):Option (V×H):=
 match v with
 |.sl (some a) n none=>match h.get a.b with
  |some (.box _ (.ty u _))=>match qd1 h u (.sl (some a) n none)with
   |some (d,ns,h3)=>some (.vs u d .no,qaw ns h3)
   |none=>none
  |_=>some (v,h)
 |_=>some (v,h)
def qhV(P:Program)(fn:Func)(args:List V)(lend:Option (Nat×Ob))(h:H)(st:S):Option (V×H):=
 match qjs P fn args h.next st with
 |some (v,h2)=>match qgX v h2 with
  |some (v,h2)=>some (v,qdW lend h h2)
  |none=>none
 |none=>none
def qeT(orc:Orc)(P:Program)(L:Lev)(f:FuncId)(args:List V)(h:H):Option (V×H):=
 match orc.call f args h with
 |some r=>some r
 |none=>match P.funcs[f]? with
  |none=>none
  |some fn=>match fn.body with
   |none=>none
   |some c=>match qii P c h args with
    |none=>match L.exec (.top f) c { ts:=args++List.replicate (fn.ntmps-args.length) .bot,dfs:=[],h:=h }with
     |some (.normal,st)=>qjs P fn args h.next st
     |some (.ret,st)=>qjs P fn args h.next st
     |_=>none
    |some lend=>match qkm P L (.top f) lend h.next c { ts:=args++List.replicate (fn.ntmps-args.length) .bot,dfs:=[],h:=qek lend h }with
     |some (.normal,st)=>qhV P fn args lend h st
     |some (.ret,st)=>qhV P fn args lend h st
     |_=>none
def qa6:List Tmp→List V→List V→List V
 |t::ps,v::vs,ts=>qa6 ps vs (ts.set t v)
 |_,_,ts=>ts
def qdK(L:Lev)(l:Nat)(args:List V)(h:H):Option (V×H):=
 match h.get l with
 |some (.loop r)=>
  match Nat.beq args.length r.params.size,Nat.ble h.ro l with
  |true,true=>match L.exec (.round l) r.assign { ts:=qa6 r.params.toList args r.tmps,dfs:=[],h:=h }with
   |some (.normal,st)=>match st.h.get l with
    |some (.loop r1)=>match qkE r1.state with
     |true=>match L.exec (.round l) r.body { st with h:=st.h.set l (.loop { r1 with state:=.busy }) }with
      |some (x,st3)=>match st3.h.get l with
       |some (.loop r3)=>some (.bool (qcN x).isNone,st3.h.set l (.loop { r3 with state:=if(qcN x).isNone then .ready else .done,pending:=qcN x }))
       |_=>none
      |none=>none
     |false=>none
    |_=>none
   |_=>none
  |_,_=>none
 |_=>none
def qj9(dr:Draw)(orc:Orc)(P:Program):Nat→Lev
 |0=>{ exec:=fun _ _ _=>none,call:=fun _ _ _=>none,yield:=fun _ _ _=>none }
 |n+1=>{ exec:=fun rd c st=>qas dr orc P (qj9 dr orc P n) rd c st,call:=fun f args h=>qeT orc P (qj9 dr orc P n) f args h,yield:=fun l args h=>qdK (qj9 dr orc P n) l args h }
section
variable {P:Program} {L:Lev}
theorem qd2{F:Fence}{n:Nat}{c:Code}{φ:Map}{h:H}{w:World}{x:X}{st':S}{a:Act}{Q:Exit→Act→World→Prop}(hw:c.wpIn F n P (Post φ h w x st') a w)
  (hq:∀φ' a' w',VRels φ' st'.ts a'.tmps.toList→MarksRel φ' w' st'.dfs a'.defers→Goes φ h w φ' st'.h w'→Q x.real a' w'):c.wpIn F n P Q a w:=
 wpIn_mono hw (by rintro e a' w' ⟨rfl,φ',h1,h2,h3⟩;exact hq φ' a' w' h1 h2 h3)
theorem qlA(hL:LevOk P L){rd:Rd}{body:Code}(hin:InB P rd body):∀(m:Nat)(st:S)(x:X)(st':S),iter L rd body m st=some (x,st')→st'.h.Holds→st.h.Holds ∧
  ∀(φ:Map)(a:Act)(w:World)(F:Fence)(n:Nat),Wide F→RoundRel φ rd.l F.round→VRels φ st.ts a.tmps.toList→MarksRel φ w st.dfs a.defers→HRel φ st.h w→Code.roundsIn F n P body (Post φ st.h w x st') m a w
 |0,_,_,_,e,_=>by cases e
 |m+1,st,x,st',e,hh=>by
  simp only[iter]at e
  split at e
  ·rename_i st1 h1
   obtain⟨q1,q2⟩:=qlA hL hin m _ _ _ e hh
   obtain⟨p1,p2⟩:=hL.exec _ _ _ _ _ hin h1 q1
   refine⟨p1,fun φ a w F n hF hrd hts hm hr=>?_⟩
   rw[roundsIn_succ]
   refine qd2 (p2 φ a w F n hF hrd hts hm hr) ?_
   intro φ' a' w' t1 t2 t3
   have hrest:=q2 φ' a' w' F n hF (hrd.mono t3.le) t1 t2 t3.rel
   show Code.roundsIn F n P body _ m a' w'
   have hmono:∀(m:Nat)(a:Act)(w0:World),Code.roundsIn F n P body (Post φ' st1.h w' x st') m a w0→Code.roundsIn F n P body (Post φ st.h w x st') m a w0:=by
    intro m
    induction m with
    |zero=>exact fun _ _ h=>h
    |succ m ih=>
     intro a w0 h
     rw[roundsIn_succ]at h ⊢
     refine wpIn_mono h ?_
     intro e a2 w2 he
     cases e with
     |normal=>exact ih _ _ he
     |_=>obtain⟨k1,φ'',k2,k3,k4⟩:=he;exact⟨k1,φ'',k2,k3,t3.trans k4⟩
   exact hmono m a' w' hrest
  ·rename_i hne
   obtain⟨p1,p2⟩:=hL.exec _ _ _ _ _ hin e hh
   refine⟨p1,fun φ a w F n hF hrd hts hm hr=>?_⟩
   rw[roundsIn_succ]
   refine wpIn_mono (p2 φ a w F n hF hrd hts hm hr) ?_
   rintro e' a' w' ⟨he,k⟩
   cases x with
   |normal=>exact absurd e (hne _)
   |exit id=>subst he;exact⟨rfl,k⟩
   |ret=>subst he;exact⟨rfl,k⟩
end
end Go.Vm

namespace Go.Vm
open Go
def qgA(P:Program)(dr:Draw):Prop:=∀L,LevOk P L→∀ops st st',dr L ops st=some st'→st'.h.Holds→st.h.Holds ∧
 ∀(φ:Map)(a:Act)(w:World)(F:Fence)(n id:Nat),Wide F→VRels φ st.ts a.tmps.toList→MarksRel φ w st.dfs a.defers→HRel φ st.h w→(Code.region id ops true).wpIn F n P (Post φ st.h w .normal st') a w
def COrcOk(P:Program)(orc:COrc):Prop:=∀f args h v h',orc f args h=some (v,h')→h'.Holds→h.Holds ∧
 (∀(args':Array Value)(w:World),(callFunc f args').run P w=.ok (.enter f args') w) ∧
 ∀(φ:Map)(args':Array Value)(w:World)(F:Fence)(n:Nat),Wide F→VRels φ args args'.toList→HRel φ h w→CallsIn F n P f args' w (PostCall φ h w v h')
theorem COrcOk.none(P:Program):COrcOk P (fun _ _ _=>none):=fun _ _ _ _ _ e=>by cases e
def qgt(id:Nat):Code→Prop
 |.block i _=>i=id
 |_=>False
def LOrcOk(P:Program)(lo:LOrc):Prop:=∀f id c st x st',qgt id c→InB P (.top f) c→lo f id st=some (x,st')→st'.h.Holds→st.h.Holds ∧
 ∀(φ:Map)(a:Act)(w:World)(F:Fence)(n:Nat),Wide F→RoundRel φ .none F.round→VRels φ st.ts a.tmps.toList→MarksRel φ w st.dfs a.defers→HRel φ st.h w→c.wpIn F n P (Post φ st.h w x st') a w
structure OrcOk(P:Program)(orc:Orc):Prop where
 call:COrcOk P orc.call
 loop:LOrcOk P orc.loop
theorem LOrcOk.none(P:Program):LOrcOk P (fun _ _ _=>.none):=fun _ _ _ _ _ _ _ _ e=>by cases e
section
variable {P:Program} {L:Lev}
theorem Post.from{φ φ1:Map}{h h1:H}{w w1:World}(g:Goes φ h w φ1 h1 w1){x:X}{st':S}{e:Exit}{a:Act}{w':World}(p:Post φ1 h1 w1 x st' e a w'):Post φ h w x st' e a w':=by
 obtain⟨he,φ',k1,k2,k3⟩:=p
 exact⟨he,φ',k1,k2,g.trans k3⟩
theorem run_getLoop{w:World}{k:Nat}{r:Loop}(h:w.heap[k]?=some (.loop r)):(Instr.getLoop k).run P w=.ok r w:=by
 simp[Instr.getLoop,getObj,Sem.run,h]
theorem run_setObj_loop{w:World}{k:Nat}{r r':Loop}(h:w.heap[k]?=some (.loop r)):(setObj k (.loop r')).run P w=.ok () { w with heap:=w.heap.setIfInBounds k (.loop r') }:=by
 simp[setObj,Sem.run,h]
theorem lt_of_heap{w:World}{k:Nat}{o:Obj}(h:w.heap[k]?=some o):k<w.heap.size:=by
 rcases Nat.lt_or_ge k w.heap.size with h'|h'
 ·exact h'
 ·rw[Array.getElem?_eq_none h']at h;cases h
theorem qdJ{φ:Map}{h:H}{w:World}(hr:HRel φ h w){l:Nat}{r r2:VLoop}{k:Nat×Nat×Nat}{q q2:Loop}(hg:h.get l=some (.loop r))(hro:h.ro≤l)(hk:φ l=some k)(hh:w.heap[k.1]?=some (.loop q))(hq:LoopRel φ r2 q2):
  Goes φ h w φ (h.set l (.loop r2)) { w with heap:=w.heap.setIfInBounds k.1 (.loop q2) }:=by
 refine Goes.write hr hg hro hk (o:=.loop q2) ?_ (by simp) ?_ rfl rfl rfl hq
 ·simp[lt_of_heap hh]
 ·intro j hj
  simp only[Array.getElem?_setIfInBounds]
  rw[if_neg (fun e=>hj e.symm)]
theorem qg3{φ:Map}{h:H}{w:World}(hr:HRel φ h w){l:Nat}{r:VLoop}(hg:h.get l=some (.loop r)):∃k q,φ l=some k∧w.heap[k.1]?=some (.loop q)∧LoopRel φ r q:=by
 obtain⟨k,o,hk,ho,hrel⟩:=hr.obj _ _ hg (by simp)
 cases o with
 |loop q=>exact⟨k,q,hk,ho,hrel⟩
 |_=>exact hrel.elim
theorem qhN{rd ro:Option Nat}{ts:List V}{tmps:Array Value}{ps:Array Tmp}{assign body:Code}{h h':H}{l:Nat}{ds:List Nat}(e:qlG rd ts ps assign body h=some (l,ds,h')):
  h'.said=h.said∧∀(φ:Map)(w:World)(fn:FuncId),RoundRel φ rd ro→VRels φ ts tmps.toList→HRel φ h w→φ.base.2≤w.heap.size →
   ∃φ' w' k mark,(Instr.enterLoop fn tmps ps assign body ro).run P w=.ok (k.1,mark) w'∧φ' l=some k∧MarksNew φ' ds mark∧Goes φ h w φ' h' w':=by
 cases rd with
 |none=>
  simp only[qlG,Option.some.injEq,Prod.mk.injEq]at e
  obtain⟨rfl,rfl,rfl⟩:=e
  refine⟨rfl,fun φ w fn hrd hts hr hbs=>?_⟩
  cases ro with
  |some _=>exact hrd.elim
  |none=>
   obtain⟨g1,k1⟩:=Goes.push hr (w':=w.alloc (.deferred (some []))) .deferred _ (0,0) rfl rfl rfl rfl trivial
   obtain⟨g2,k2⟩:=Goes.push g1.rel (w':=(w.alloc (.deferred (some []))).alloc (.loop { state:=.ready,pending:=none,fn,tmps,params:=ps,assign,body,defers:=w.heap.size }))
    (.loop { state:=.ready,pending:=none,tmps:=ts,params:=ps,assign,body,defers:=h.next }) _ (0,0) rfl rfl rfl rfl
    ⟨rfl,rfl,hts.mono g1.le,rfl,rfl,rfl,⟨(0,0),k1⟩⟩
   refine⟨_,_,_,[{ target:=.collected w.heap.size,args:=#[] }],?_,k2,⟨⟨(w.heap.size,0,0),g2.le _ _ k1,by rw[(g1.trans g2).le.base];exact hbs,rfl⟩,trivial⟩,g1.trans g2⟩
   simp[Instr.enterLoop]
 |some l0=>
  simp only[qlG]at e
  split at e
  ·rename_i r hg
   cases e
   refine⟨rfl,fun φ w fn hrd hts hr hbs=>?_⟩
   cases ro with
   |none=>exact hrd.elim
   |some r0=>
    obtain⟨z,hz⟩:=hrd
    obtain⟨k,q,hk,hq,hrel⟩:=qg3 hr hg
    rw[hz]at hk;cases hk
    obtain⟨g2,k2⟩:=Goes.push hr (w':=w.alloc (.loop { state:=.ready,pending:=none,fn,tmps,params:=ps,assign,body,defers:=q.defers }))
     (.loop { state:=.ready,pending:=none,tmps:=ts,params:=ps,assign,body,defers:=r.defers }) _ (0,0) rfl rfl rfl rfl
     ⟨rfl,rfl,hts,rfl,rfl,rfl,hrel.defers⟩
    refine⟨_,_,_,[],?_,k2,trivial,g2⟩
    simp[Instr.enterLoop,run_getLoop hq]
  ·cases e
theorem qoI{F:Fence}{n:Nat}{p:Option Code}{x:X}(hj:qox p=some x){Q:Exit→Act→World→Prop}{a:Act}{w:World}(h:∀e0,e0=x.real→Q e0 a w):
    (match (generalizing := false) p with
       |none=>Q .normal a w
       |some c=>c.wpIn F n P Q a w):=by
  unfold qox at hj
  split at hj<;>first|(cases hj;done)|cases hj
  · exact h _ rfl
  · exact wpIn_ret (h _ rfl)
  · exact wpIn_exit (h _ rfl)
theorem qiQ(hL:LevOk P L){dr:Draw}{orc:Orc}{rd:Rd}{f:Operand}{ps:Array Tmp}{assign body:Code}{st st':S}{x:X}(e:qas dr orc P L rd (.rangeFunc f ps assign body) st=some (x,st'))(hh:st'.h.Holds):
  st.h.Holds∧∀(φ:Map)(a:Act)(w:World)(F:Fence)(n:Nat),Wide F→RoundRel φ rd.l F.round→VRels φ st.ts a.tmps.toList→MarksRel φ w st.dfs a.defers→HRel φ st.h w →
   (Code.rangeFunc f ps assign body).wpIn F n P (Post φ st.h w x st') a w:=by
 simp only[qas]at e
 split at e
 ·cases e
 ·rename_i l ds h1 he
  split at e
  ·rename_i g first captured hf
   split at e
   ·cases e
   ·rename_i v h2 hcall
    split at e
    ·rename_i r hg
     split at e
     ·rename_i x' hb hro hj
      cases e
      have hh2:h2.Holds:=hh
      obtain⟨c1,c2,c3⟩:=hL.call _ _ _ _ _ hcall hh2
      have hsaid:=(qhN (P:=P) (ro:=none) (tmps:=#[]) he).1
      refine⟨fun p hp=>c1 p (by rw[hsaid];exact hp),fun φ a w F n hF hrd hts hm hr=>?_⟩
      refine wpIn_rangeFunc fun fn _=>?_
      obtain⟨φ1,w1,k,mark,hrun,hk,hmk,hg1⟩:=(qhN (P:=P) he).2 φ w fn hrd hts hr hm.1
      have hfr:=qbp hts f
      rw[hf]at hfr
      generalize hfv:a.eval f=fv at hfr
      cases hfr with
      |func _ _ _ first' captured' hfi hca=>
       have hall:VRels φ1 (first++[.yield l]++captured) (first'++#[Value.func (.yield k.1) #[] #[]]++captured').toList:=
        VRels.to_append (VRels.to_append (hfi.mono hg1.le) (.cons (.yield l k hk) .nil)) (hca.mono hg1.le)
       refine⟨k.1,mark,w1,{ target:=.fn (.func g) captured',args:=first'++#[Value.func (.yield k.1) #[] #[]] },w1,g,first'++#[Value.func (.yield k.1) #[] #[]]++captured',w1,hrun,?_,fun f' _=>hF.fn f',?_,(fun hd=>by rw[hF.depth]at hd;cases hd),?_⟩
       ·simp[rangeCall,resolve,Act.eval,Deferred.ofValue]
        have:a.eval f=.func (.func g) first' captured':=hfv
        cases f<;>simp_all [Act.eval]
       ·simp only[invoke,c2]
       ·refine CallsIn.mono (c3 φ1 _ w1 F (n-1) hF hall hg1.rel) ?_
        rintro e' w2 ⟨φ2,rv,rfl,hv,hg2⟩
        obtain⟨k',q,hk',hq,hrel⟩:=qg3 hg2.rel hg
        have:k'=k:=by have:=hg2.le _ _ hk;rw[hk']at this;cases this;rfl
        subst this
        have hst:(q.state==.busy)=false:=by
         rw[hrel.state];revert hb;cases r.state<;>intro hb<;>first|rfl|cases hb
        have hg3:=qdJ hg2.rel (r2:={ r with state:=.exhausted }) (q2:={ q with state:=.exhausted }) hg (Nat.le_of_ble_eq_true hro) hk' hq { hrel with state:=rfl }
        have hgo:Goes φ st.h w φ2 (h2.set l (.loop { r with state:=.exhausted })) _:=(hg1.trans hg2).trans hg3
        have hend:(Instr.endLoop k'.1).run P w2=.ok r.pending { w2 with heap:=w2.heap.setIfInBounds k'.1 (.loop { q with state:=.exhausted }) }:=by
         simp only[Instr.endLoop,Sem.run_bind,run_getLoop hq,Result.andThen_ok,hst,Bool.false_eq_true,if_false,Sem.run_pure,run_setObj_loop hq,hrel.pending]
        have hpost:∀e0,e0=x.real→Post φ st.h w x { st with dfs:=ds++st.dfs,h:=h2.set l (.loop { r with state:=.exhausted }) } e0 { a with defers:=mark++a.defers } { w2 with heap:=w2.heap.setIfInBounds k'.1 (.loop { q with state:=.exhausted }) }:=by
         intro e0 he0
         exact⟨he0,φ2,hts.mono hgo.le,(hmk.mono (hg2.trans hg3).le).append (hm.goes hr hgo),hgo⟩
        exact⟨r.pending,_,hend,qoI hj hpost⟩
     ·cases e
    ·cases e
  ·cases e
theorem qka(hL:LevOk P L){dr:Draw}(hdr:qgA P dr){orc:Orc}(ho:OrcOk P orc){rd:Rd}{c:Code}{st st':S}{x:X}(hin:InB P rd c)(e:qas dr orc P L rd c st=some (x,st'))(hh:st'.h.Holds):
  st.h.Holds∧∀(φ:Map)(a:Act)(w:World)(F:Fence)(n:Nat),Wide F→RoundRel φ rd.l F.round→VRels φ st.ts a.tmps.toList→MarksRel φ w st.dfs a.defers→HRel φ st.h w→c.wpIn F n P (Post φ st.h w x st') a w:=by
 cases c with
 |skip=>
  simp only[qas,Option.some.injEq,Prod.mk.injEq]at e
  obtain⟨rfl,rfl⟩:=e
  exact⟨hh,fun φ a w F n hF hrd hts hm hr=>wpIn_skip ⟨rfl,φ,hts,hm,Goes.refl hr⟩⟩
 |label l=>
  simp only[qas,Option.some.injEq,Prod.mk.injEq]at e
  obtain⟨rfl,rfl⟩:=e
  exact⟨hh,fun φ a w F n hF hrd hts hm hr=>wpIn_label ⟨rfl,φ,hts,hm,Goes.refl hr⟩⟩
 |exit id=>
  simp only[qas,Option.some.injEq,Prod.mk.injEq]at e
  obtain⟨rfl,rfl⟩:=e
  exact⟨hh,fun φ a w F n hF hrd hts hm hr=>wpIn_exit ⟨rfl,φ,hts,hm,Goes.refl hr⟩⟩
 |ret=>
  simp only[qas,Option.some.injEq,Prod.mk.injEq]at e
  obtain⟨rfl,rfl⟩:=e
  exact⟨hh,fun φ a w F n hF hrd hts hm hr=>wpIn_ret ⟨rfl,φ,hts,hm,Goes.refl hr⟩⟩
 |seq c1 c2=>
  simp only[qas]at e
  split at e
  ·rename_i st1 h1
   obtain⟨q1,q2⟩:=hL.exec _ _ _ _ _ (hin.sub (.seqR (.refl _))) e hh
   obtain⟨p1,p2⟩:=hL.exec _ _ _ _ _ (hin.sub (.seqL (.refl _))) h1 q1
   refine⟨p1,fun φ a w F n hF hrd hts hm hr=>wpIn_seq (qd2 (p2 φ a w F n hF hrd hts hm hr) ?_)⟩
   intro φ' a' w' t1 t2 t3
   exact wpIn_mono (q2 φ' a' w' F n hF (hrd.mono t3.le) t1 t2 t3.rel) (fun _ _ _ p=>p.from t3)
  ·rename_i hne
   obtain⟨p1,p2⟩:=hL.exec _ _ _ _ _ (hin.sub (.seqL (.refl _))) e hh
   refine⟨p1,fun φ a w F n hF hrd hts hm hr=>wpIn_seq (wpIn_mono (p2 φ a w F n hF hrd hts hm hr) ?_)⟩
   rintro e' a' w' ⟨he,k⟩
   cases x with
   |normal=>exact absurd e (hne _)
   |exit id=>subst he;exact⟨rfl,k⟩
   |ret=>subst he;exact⟨rfl,k⟩
 |cond o c1 c2=>
  simp only[qas]at e
  split at e
  ·rename_i t ht
   have hev:∀(φ:Map)(a:Act),VRels φ st.ts a.tmps.toList→a.eval o=.bool t:=by
    intro φ a hts
    have:=qbp hts o
    rw[ht]at this
    generalize a.eval o=v at this
    cases this;rfl
   split at e
   ·rename_i h1 hte
    obtain⟨p1,p2⟩:=hL.exec _ _ _ _ _ (hin.sub (.thn (.refl _))) e hh
    obtain⟨q1,q2,q3⟩:=H.test_holds hte p1
    have q3:st.h.Same h1:=q3
    subst q2
    exact⟨q1,fun φ a w F n hF hrd hts hm hr=>wpIn_cond_true (hev φ a hts) (wpIn_mono (p2 φ a w F n hF hrd hts hm (hr.same q3)) (fun _ _ _ p=>p.from (Goes.of_same hr q3 rfl rfl rfl rfl)))⟩
   ·rename_i h1 hte
    obtain⟨p1,p2⟩:=hL.exec _ _ _ _ _ (hin.sub (.els (.refl _))) e hh
    obtain⟨q1,q2,q3⟩:=H.test_holds hte p1
    have q3:st.h.Same h1:=q3
    subst q2
    exact⟨q1,fun φ a w F n hF hrd hts hm hr=>wpIn_cond_false (hev φ a hts) (wpIn_mono (p2 φ a w F n hF hrd hts hm (hr.same q3)) (fun _ _ _ p=>p.from (Goes.of_same hr q3 rfl rfl rfl rfl)))⟩
   ·cases e
  ·cases e
 |block id c1=>
  simp only[qas]at e
  split at e
  ·rename_i r hk
   cases e
   unfold qcl at hk
   split at hk
   ·exact ho.loop _ _ _ _ _ _ rfl hin hk hh
   ·cases hk
  ·unfold qgc at e
   split at e
   ·rename_i i st1 h1
    split at e
    ·rename_i hi
     cases e
     have hi':=Nat.eq_of_beq_eq_true hi
     obtain⟨p1,p2⟩:=hL.exec _ _ _ _ _ (hin.sub (.block (.refl _))) h1 hh
     refine⟨p1,fun φ a w F n hF hrd hts hm hr=>wpIn_block (wpIn_mono (p2 φ a w F n hF hrd hts hm hr) ?_)⟩
     rintro e' a' w' ⟨he,k⟩
     subst he
     simp only[X.real,Exit.inBlock,hi',if_true]
     exact⟨rfl,k⟩
    ·rename_i hi
     cases e
     have hi':=Nat.ne_of_beq_eq_false hi
     obtain⟨p1,p2⟩:=hL.exec _ _ _ _ _ (hin.sub (.block (.refl _))) h1 hh
     refine⟨p1,fun φ a w F n hF hrd hts hm hr=>wpIn_block (wpIn_mono (p2 φ a w F n hF hrd hts hm hr) ?_)⟩
     rintro e' a' w' ⟨he,k⟩
     subst he
     simp only[X.real,Exit.inBlock,if_neg hi']
     exact⟨rfl,k⟩
   ·rename_i hne
    obtain⟨p1,p2⟩:=hL.exec _ _ _ _ _ (hin.sub (.block (.refl _))) e hh
    refine⟨p1,fun φ a w F n hF hrd hts hm hr=>wpIn_block (wpIn_mono (p2 φ a w F n hF hrd hts hm hr) ?_)⟩
    rintro e' a' w' ⟨he,k⟩
    cases x with
    |exit id=>exact absurd e (hne _ _)
    |normal=>subst he;exact⟨rfl,k⟩
    |ret=>subst he;exact⟨rfl,k⟩
 |loop c1=>
  simp only[qas]at e
  obtain⟨p1,p2⟩:=qlA hL (hin.sub (.loop (.refl _))) _ _ _ _ e hh
  exact⟨p1,fun φ a w F n hF hrd hts hm hr=>wpIn_loop_rounds _ (p2 φ a w F n hF hrd hts hm hr)⟩
 |region id ops draw=>
  cases draw with
  |false=>
   simp only[qas]at e
   split at e
   ·rename_i st1 h1
    cases e
    obtain⟨p1,p2⟩:=qfw hL _ _ _ h1 hh
    exact⟨p1,fun φ a w F n hF hrd hts hm hr=>wpIn_region (p2 φ a w F n hF hts hm hr)⟩
   ·cases e
  |true=>
   simp only[qas]at e
   split at e
   ·rename_i st1 h1
    cases e
    obtain⟨p1,p2⟩:=hdr L hL _ _ _ h1 hh
    exact⟨p1,fun φ a w F n hF hrd hts hm hr=>p2 φ a w F n id hF hts hm hr⟩
   ·cases e
 |rangeFunc f ps assign body=>exact qiQ hL e hh
 |scope c=>simp[qas]at e
 |goto l=>simp[qas]at e
 |refuse why=>simp[qas]at e
end
end Go.Vm
