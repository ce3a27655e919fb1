import Derived.Test.YtlaojojnembodaaGreatA5
import Derived.KernelRfl
import Derived.Test.YtlaojojnembodaaGreatProg
import Derived.Test.YtlaojojnembodaaGreatRsFa
set_option linter.unusedVariables false
set_option linter.unusedSimpArgs false

namespace Go.Vm.Mo
open Go
set_option linter.unusedVariables false
abbrev as108:List Ty:=[(.pair (.pair (.int .i64) (.pair (.int .i64) (.pair .bool .unit))) (.pair (.pair (.int .i64) (.pair .bool .unit)) (.pair (.int .i64) .unit))),(.int .i64)]
abbrev rs108:List Ty:=[(.pair (.pair (.int .i64) (.pair (.int .i64) (.pair .bool .unit))) (.pair (.pair (.int .i64) (.pair .bool .unit)) (.pair (.int .i64) .unit)))]
def t108 (x0_:Int) (x0_':Int) (x0_'':Bool) (x0'_:Int) (x0'_':Bool) (x0'':Int) (x1:Int):Tr (Tys.data rs108) :=
  Tr.test (Option.isSome (f113 (((x0_,(x0_',(x0_'',()))),((x0'_,(x0'_',())),(x1,()))),())))
    (Tr.test (x0'_')
      (Tr.fin ((((x0_,(x0_',(x0_'',()))),((x0'_,(x0'_',())),(x1,()))),())))
      (let r0:=g113 (((x0_,(x0_',(x0_'',()))),((x0'_,(x0'_',())),(x1,()))),());
      Tr.test (Option.isSome (f44 (x0_',(([r0.1]:List Int),()))))
        (let r1:=g44 (x0_',(([r0.1]:List Int),()));
        Tr.test ((!r1.1:Bool))
          (Tr.fin ((((x0_,(x0_',(x0_'',()))),((x0'_,(x0'_',())),(x1,()))),())))
          (Tr.test (x0_'')
            (Tr.fin ((((x0_,(x0_',(x0_'',()))),(((0:Int),((true:Bool),())),(x1,()))),())))
            (Tr.test ((!leF r0.1 0:Bool))
              (Tr.fin ((((x0_,(x0_',(x0_'',()))),(((wrap64 (x1 - x0_'):Int),(x0'_',())),(x1,()))),())))
              (Tr.fin ((((x0_,(x0_',(x0_'',()))),(((wrap64 (x1 + x0_'):Int),(x0'_',())),(x1,()))),()))))))
        (Tr.stop)))
    (Tr.stop)
def f108 (d:Tys.data as108):Option (Tys.data rs108):=(t108 d.1.1.1 d.1.1.2.1 d.1.1.2.2.1 d.1.2.1.1 d.1.2.1.2.1 d.1.2.2.1 d.2.1).val
def g108 (d:Tys.data as108):Tys.data rs108:=(f108 d).getD (Tys.dflt rs108)
def p108:PureC:=pcOf as108 rs108 f108 g108
theorem wk108 (x0_:Int) (x0_':Int) (x0_'':Bool) (x0'_:Int) (x0'_':Bool) (x0'':Int) (x1:Int):Walks (runPure (kf95 Proofs.Tryz.prog).orc Proofs.Tryz.prog 400 108 as108 rs108 (((x0_,x0_',x0_'',()),(x0'_,x0'_',()),x0'',()),x1,())) (t108 x0_ x0_' x0_'' x0'_ x0'_' x0'' x1) [(bl 2 3,[1,2,2,2,2,2,2,2,2,4]),(bl 4 13,[2,6,6,4,6,6,6,6,6,6,8]),(bl 5 21,[2,4,8,8,6,8,8,8,8,8,8,10]),(bl 6 37,[2,4,6,10,10,8,10,10,10,10,10,10,12]),(bl 6 5,[2,4,6,10,10,8,10,10,10,10,10,10,12])] :=
  ⟨by kernel_rfl,by kernel_rfl,by kernel_rfl,by kernel_rfl,by kernel_rfl,trivial⟩
theorem ok108_t (x0_:Int) (x0_':Int) (x0_'':Bool) (x0'_:Int) (x0'_':Bool) (x0'':Int) (x1:Int):TrOk (PureRuns Proofs.Tryz.prog (kf95 Proofs.Tryz.prog).orc 108 as108 rs108 (((x0_,x0_',x0_'',()),(x0'_,x0'_',()),x0'',()),x1,())) (t108 x0_ x0_' x0_'' x0'_ x0'_' x0'' x1) :=
  Walks.ok (fun _ _ _=>PureRuns.of) (wk108 x0_ x0_' x0_'' x0'_ x0'_' x0'' x1) (by kernel_rfl)
theorem ok108:PureOk Proofs.Tryz.prog 108 p108:=qab kf95_ok.base (T:=fun (d:Tys.data as108)=>t108 d.1.1.1 d.1.1.2.1 d.1.1.2.2.1 d.1.2.1.1 d.1.2.1.2.1 d.1.2.2.1 d.2.1) (by kernel_rfl) (fun (d:Tys.data as108)=>ok108_t d.1.1.1 d.1.1.2.1 d.1.1.2.2.1 d.1.2.1.1 d.1.2.1.2.1 d.1.2.2.1 d.2.1)
def kf108 (P:Go.Program):Known:=(kf95 P).func 108 p108
theorem kf108_ok:KnownOk Proofs.Tryz.prog (kf108 Proofs.Tryz.prog):=kf95_ok.func ok108
theorem sc74_0:qav Proofs.Tryz.prog 74 0 = true:=qc4 (by kernel_rfl)
abbrev sh109_0_1 (P:Go.Program):Sh:={ n:=28,slots:=[0,1,7,8,9],pats:=[.yld 0,.ptr 1 3 0,.ty (.slice (.pair (.int .i64) (.pair .bool .unit))),.ty (.int .i64),.ty (.int .i64)],boxes:=[.lp (lpOf P 74 0 .ready none 27 [3,5] 2) [.ptr 3 1 0,.ptr 4 3 0],.row [.ty (.slice (.pair (.int .i64) (.pair (.int .i64) (.pair .bool .unit)))),.ty (.int .i64),.ty (.slice (.pair (.int .i64) (.pair .bool .unit)))],.dfr,.row [.ty (.int .i64)],.row [.ty (.slice (.pair (.int .i64) (.pair (.int .i64) (.pair .bool .unit)))),.ty (.int .i64),.acc (.pair (.int .i64) (.pair .bool .unit))]] }
abbrev shb109_0_1 (P:Go.Program):Sh:={ n:=28,slots:=[],pats:=[],boxes:=[.lp (lpOf P 74 0 .ready none 27 [3,5] 2) [.ptr 3 1 0,.ptr 4 3 0],.row [.ty (.slice (.pair (.int .i64) (.pair (.int .i64) (.pair .bool .unit)))),.ty (.int .i64),.ty (.slice (.pair (.int .i64) (.pair .bool .unit)))],.dfr,.row [.ty (.int .i64)],.row [.ty (.slice (.pair (.int .i64) (.pair (.int .i64) (.pair .bool .unit)))),.ty (.int .i64),.acc (.pair (.int .i64) (.pair .bool .unit))]] }
abbrev shr109_0_1 (P:Go.Program):Sh:={ n:=28,slots:=[],pats:=[],boxes:=[.lp (lpOf P 74 0 .ready none 27 [3,5] 2) [.ptr 3 1 0,.ptr 4 3 0],.row [.ty (.slice (.pair (.int .i64) (.pair (.int .i64) (.pair .bool .unit)))),.ty (.int .i64),.ty (.slice (.pair (.int .i64) (.pair .bool .unit)))],.dfr,.row [.ty (.int .i64)],.row [.ty (.slice (.pair (.int .i64) (.pair (.int .i64) (.pair .bool .unit)))),.ty (.int .i64),.acc (.pair (.int .i64) (.pair .bool .unit))]] }
abbrev dt109_0_1:Type:=(List (Int×Bool×PUnit)×Int×Int×PUnit)×PUnit×(List (Int×Int×Bool×PUnit)×Int×List (Int×Bool×PUnit)×PUnit)×(Int×PUnit)×(List (Int×Int×Bool×PUnit)×Int×List (Int×Bool×PUnit)×PUnit)×PUnit
abbrev db109_0_1:Type:=PUnit×PUnit×(List (Int×Int×Bool×PUnit)×Int×List (Int×Bool×PUnit)×PUnit)×(Int×PUnit)×(List (Int×Int×Bool×PUnit)×Int×List (Int×Bool×PUnit)×PUnit)×PUnit
abbrev dr109_0_1:Type:=PUnit×PUnit×(List (Int×Int×Bool×PUnit)×Int×List (Int×Bool×PUnit)×PUnit)×(Int×PUnit)×(List (Int×Int×Bool×PUnit)×Int×List (Int×Bool×PUnit)×PUnit)×PUnit
def t109_0_1 (x2:(List (Int×(Bool×Unit)))) (x3:Int) (x4:Int) (b1_0:(List (Int×(Int×(Bool×Unit))))) (b1_1:Int) (b1_2:(List (Int×(Bool×Unit)))) (b3_0:Int) (b4_0:(List (Int×(Int×(Bool×Unit))))) (b4_1:Int) (b4_2:(List (Int×(Bool×Unit)))):Tr (Out dt109_0_1 db109_0_1 dr109_0_1) :=
  Tr.test ((!leF x3 x4:Bool))
    (Tr.test (decide ((0:Int) ≤ x4) && decide (x4 < (↑(List.length x2):Int)))
      (Tr.test ((decide ((0:Int) ≤ x4) && decide (x4 < (↑(List.length b1_0):Int)):Bool))
        (Tr.test (Option.isSome (f108 (((((List.getD b1_0 (Int.toNat x4) ((0:Int),(0:Int),false,())).1:Int),(((List.getD b1_0 (Int.toNat x4) ((0:Int),(0:Int),false,())).2.1:Int),(((List.getD b1_0 (Int.toNat x4) ((0:Int),(0:Int),false,())).2.2.1:Bool),()))),((((List.getD x2 (Int.toNat x4) ((0:Int),false,())).1:Int),(((List.getD x2 (Int.toNat x4) ((0:Int),false,())).2.1:Bool),())),(b1_1,()))),(b3_0,()))))
          (Tr.test ((Nat.ble (((2:Nat) * (List.length b4_2 + (1:Nat)) + (192:Nat)) * (16:Nat)) (281474976710656:Nat) && Nat.ble (List.length b4_2 + (1:Nat)) (281474976710656:Nat):Bool))
            (let r0:=g108 (((((List.getD b1_0 (Int.toNat x4) ((0:Int),(0:Int),false,())).1:Int),(((List.getD b1_0 (Int.toNat x4) ((0:Int),(0:Int),false,())).2.1:Int),(((List.getD b1_0 (Int.toNat x4) ((0:Int),(0:Int),false,())).2.2.1:Bool),()))),((((List.getD x2 (Int.toNat x4) ((0:Int),false,())).1:Int),(((List.getD x2 (Int.toNat x4) ((0:Int),false,())).2.1:Bool),())),(b1_1,()))),(b3_0,()));
            Tr.fin (.again ((x2,(x3,((wrap64 (x4 + (1:Int)):Int),()))),((),((b1_0,(b1_1,(b1_2,()))),((b3_0,()),((b4_0,(b4_1,((b4_2++[(r0.1.2.1.1,r0.1.2.1.2.1,())]:List (Int×Bool×PUnit)),()))),())))))))
            (Tr.stop))
          (Tr.stop))
        (Tr.stop))
      (Tr.stop))
    (Tr.fin (.brk ((),((),((b1_0,(b1_1,(b1_2,()))),((b3_0,()),((b4_0,(b4_1,(b4_2,()))),())))))))
def s109_0_1 (d:dt109_0_1):Option (Out dt109_0_1 db109_0_1 dr109_0_1):=(t109_0_1 d.1.1 d.1.2.1 d.1.2.2.1 d.2.2.1.1 d.2.2.1.2.1 d.2.2.1.2.2.1 d.2.2.2.1.1 d.2.2.2.2.1.1 d.2.2.2.2.1.2.1 d.2.2.2.2.1.2.2.1).val
def l109_0_1 (d:dt109_0_1):Option (db109_0_1 ⊕ dr109_0_1):=itr s109_0_1 rounds d
def b109_0_1 (d:dt109_0_1):db109_0_1:=outB (((),((),((([]:List (Int×Int×Bool×PUnit)),((0:Int),(([]:List (Int×Bool×PUnit)),()))),(((0:Int),()),((([]:List (Int×Int×Bool×PUnit)),((0:Int),(([]:List (Int×Bool×PUnit)),()))),())))))) (l109_0_1 d)
def lc109_0_1 (P:Go.Program):LoopC:=lcB (sh109_0_1 P) (shb109_0_1 P) (shr109_0_1 P) l109_0_1 b109_0_1
theorem e109_0_1_0 (x2:(List (Int×(Bool×Unit)))) (x3:Int) (x4:Int) (b1_0:(List (Int×(Int×(Bool×Unit))))) (b1_1:Int) (b1_2:(List (Int×(Bool×Unit)))) (b3_0:Int) (b4_0:(List (Int×(Int×(Bool×Unit))))) (b4_1:Int) (b4_2:(List (Int×(Bool×Unit)))):qak (kf108 Proofs.Tryz.prog).orc Proofs.Tryz.prog 400 109 0 (sh109_0_1 Proofs.Tryz.prog) (shb109_0_1 Proofs.Tryz.prog) (shr109_0_1 Proofs.Tryz.prog) ((x2,x3,x4,()),(),(b1_0,b1_1,b1_2,()),(b3_0,()),(b4_0,b4_1,b4_2,()),()) [tt,tt,tt,tt,tt,ff] =
    (let r0:=g108 (((((List.getD b1_0 (Int.toNat x4) ((0:Int),(0:Int),false,())).1:Int),(((List.getD b1_0 (Int.toNat x4) ((0:Int),(0:Int),false,())).2.1:Int),((List.getD b1_0 (Int.toNat x4) ((0:Int),(0:Int),false,())).2.2.1,()))),((((List.getD x2 (Int.toNat x4) ((0:Int),false,())).1:Int),((List.getD x2 (Int.toNat x4) ((0:Int),false,())).2.1,())),(b1_1,()))),(b3_0,())); some (.again ((x2,(x3,((wrap64 (x4 + (1:Int)):Int),()))),((),((b1_0,(b1_1,(b1_2,()))),((b3_0,()),((b4_0,(b4_1,((b4_2++[(r0.1.2.1.1,r0.1.2.1.2.1,())]:List (Int×Bool×PUnit)),()))),()))))),[(qav Proofs.Tryz.prog (nat_lit 74) (nat_lit 0),true),(false,false),(Nat.ble (((2:Nat) * (List.length b4_2 + (1:Nat)) + (192:Nat)) * (16:Nat)) (281474976710656:Nat) && Nat.ble (List.length b4_2 + (1:Nat)) (281474976710656:Nat),true),(Option.isSome (f108 (((((List.getD b1_0 (Int.toNat x4) ((0:Int),(0:Int),false,())).1:Int),(((List.getD b1_0 (Int.toNat x4) ((0:Int),(0:Int),false,())).2.1:Int),((List.getD b1_0 (Int.toNat x4) ((0:Int),(0:Int),false,())).2.2.1,()))),((((List.getD x2 (Int.toNat x4) ((0:Int),false,())).1:Int),((List.getD x2 (Int.toNat x4) ((0:Int),false,())).2.1,())),(b1_1,()))),(b3_0,()))),true),(decide ((0:Int) ≤ x4) && decide (x4 < (↑(List.length b1_0):Int)),true),(decide ((0:Int) ≤ x4) && decide (x4 < (↑(List.length x2):Int)),true),(!leF x3 x4,true)])):=by kernel_rfl
theorem e109_0_1_4 (x2:(List (Int×(Bool×Unit)))) (x3:Int) (x4:Int) (b1_0:(List (Int×(Int×(Bool×Unit))))) (b1_1:Int) (b1_2:(List (Int×(Bool×Unit)))) (b3_0:Int) (b4_0:(List (Int×(Int×(Bool×Unit))))) (b4_1:Int) (b4_2:(List (Int×(Bool×Unit)))):qak (kf108 Proofs.Tryz.prog).orc Proofs.Tryz.prog 400 109 0 (sh109_0_1 Proofs.Tryz.prog) (shb109_0_1 Proofs.Tryz.prog) (shr109_0_1 Proofs.Tryz.prog) ((x2,x3,x4,()),(),(b1_0,b1_1,b1_2,()),(b3_0,()),(b4_0,b4_1,b4_2,()),()) [ff] =
    (some (.brk ((),((),((b1_0,(b1_1,(b1_2,()))),((b3_0,()),((b4_0,(b4_1,(b4_2,()))),()))))),[(qav Proofs.Tryz.prog (nat_lit 74) (nat_lit 0),true),(!leF x3 x4,false)])):=by kernel_rfl
theorem ok109_0_1_t (x2:(List (Int×(Bool×Unit)))) (x3:Int) (x4:Int) (b1_0:(List (Int×(Int×(Bool×Unit))))) (b1_1:Int) (b1_2:(List (Int×(Bool×Unit)))) (b3_0:Int) (b4_0:(List (Int×(Int×(Bool×Unit))))) (b4_1:Int) (b4_2:(List (Int×(Bool×Unit)))):TrOk (BodyRuns Proofs.Tryz.prog (kf108 Proofs.Tryz.prog).orc 109 0 (sh109_0_1 Proofs.Tryz.prog) (shb109_0_1 Proofs.Tryz.prog) (shr109_0_1 Proofs.Tryz.prog) ((x2,x3,x4,()),(),(b1_0,b1_1,b1_2,()),(b3_0,()),(b4_0,b4_1,b4_2,()),())) (t109_0_1 x2 x3 x4 b1_0 b1_1 b1_2 b3_0 b4_0 b4_1 b4_2) :=
  TrOk.ofTest (fun h0=>TrOk.ofTest (fun h1=>TrOk.ofTest (fun h2=>TrOk.ofTest (fun h3=>TrOk.ofTest (fun h4=>TrOk.ofFin (BodyRuns.of (e109_0_1_0 x2 x3 x4 b1_0 b1_1 b1_2 b3_0 b4_0 b4_1 b4_2) (ac (sc74_0) (ac rfl (ac h4 (ac h3 (ac h2 (ac h1 (ac h0 All.nil))))))))) (fun h4=>TrOk.ofStop)) (fun h3=>TrOk.ofStop)) (fun h2=>TrOk.ofStop)) (fun h1=>TrOk.ofStop)) (fun h0=>TrOk.ofFin (BodyRuns.of (e109_0_1_4 x2 x3 x4 b1_0 b1_1 b1_2 b3_0 b4_0 b4_1 b4_2) (ac (sc74_0) (ac h0 All.nil))))
theorem ok109_0_1:qaw Proofs.Tryz.prog 109 0 (lc109_0_1 Proofs.Tryz.prog):=qaZ (sh:=(sh109_0_1 Proofs.Tryz.prog)) (shB:=(shb109_0_1 Proofs.Tryz.prog)) (shR:=(shr109_0_1 Proofs.Tryz.prog)) kf108_ok.base (T:=fun (d:dt109_0_1)=>t109_0_1 d.1.1 d.1.2.1 d.1.2.2.1 d.2.2.1.1 d.2.2.1.2.1 d.2.2.1.2.2.1 d.2.2.2.1.1 d.2.2.2.2.1.1 d.2.2.2.2.1.2.1 d.2.2.2.2.1.2.2.1) (by kernel_rfl) rfl (fun (d:dt109_0_1)=>ok109_0_1_t d.1.1 d.1.2.1 d.1.2.2.1 d.2.2.1.1 d.2.2.1.2.1 d.2.2.1.2.2.1 d.2.2.2.1.1 d.2.2.2.2.1.1 d.2.2.2.2.1.2.1 d.2.2.2.2.1.2.2.1) (fun _=>rfl)
def kl109_0_1 (P:Go.Program):Known:=(kf108 P).loop 109 0 (lc109_0_1 P)
theorem kl109_0_1_ok:KnownOk Proofs.Tryz.prog (kl109_0_1 Proofs.Tryz.prog):=kf108_ok.loop ok109_0_1
abbrev as74:List Ty:=[(.pair (.slice (.pair (.int .i64) (.pair (.int .i64) (.pair .bool .unit)))) (.pair (.pair (.int .i64) (.pair (.slice (.pair (.int .i64) (.pair .bool .unit))) .unit)) .unit)),(.int .i64)]
abbrev rs74:List Ty:=[(.pair (.slice (.pair (.int .i64) (.pair (.int .i64) (.pair .bool .unit)))) (.pair (.pair (.int .i64) (.pair (.slice (.pair (.int .i64) (.pair .bool .unit))) .unit)) .unit))]
def t74 (x0:(List (Int×(Int×(Bool×Unit))))) (x0'_:Int) (x0'_':(List (Int×(Bool×Unit)))) (x1:Int):Tr (Tys.data rs74) :=
  Tr.test (qbI (l109_0_1 ((x0'_',((↑(List.length x0'_'):Int),((0:Int),()))),((),((x0,(x0'_,(x0'_',()))),((x1,()),((x0,(x1,(([]:List (Int×Bool×PUnit)),()))),())))))))
    (let r0:=b109_0_1 ((x0'_',((↑(List.length x0'_'):Int),((0:Int),()))),((),((x0,(x0'_,(x0'_',()))),((x1,()),((x0,(x1,(([]:List (Int×Bool×PUnit)),()))),())))));
    Tr.fin (((r0.2.2.2.2.1.1,((r0.2.2.2.2.1.2.1,(r0.2.2.2.2.1.2.2.1,())),())),())))
    (Tr.stop)
def f74 (d:Tys.data as74):Option (Tys.data rs74):=(t74 d.1.1 d.1.2.1.1 d.1.2.1.2.1 d.2.1).val
def g74 (d:Tys.data as74):Tys.data rs74:=(f74 d).getD (Tys.dflt rs74)
def p74:PureC:=pcOf as74 rs74 f74 g74
theorem e74_0 (x0:(List (Int×(Int×(Bool×Unit))))) (x0'_:Int) (x0'_':(List (Int×(Bool×Unit)))) (x1:Int):runPure (kl109_0_1 Proofs.Tryz.prog).orc Proofs.Tryz.prog 400 74 as74 rs74 ((x0,(x0'_,x0'_',()),()),x1,()) [tt,tt,tt] =
    (let r0:=b109_0_1 ((x0'_',((↑(List.length x0'_'):Int),((0:Int),()))),((),((x0,(x0'_,(x0'_',()))),((x1,()),((x0,(x1,(([]:List (Int×Bool×PUnit)),()))),()))))); some (((r0.2.2.2.2.1.1,((r0.2.2.2.2.1.2.1,(r0.2.2.2.2.1.2.2.1,())),())),()),[(true,true),(qbI (l109_0_1 ((x0'_',((↑(List.length x0'_'):Int),((0:Int),()))),((),((x0,(x0'_,(x0'_',()))),((x1,()),((x0,(x1,(([]:List (Int×Bool×PUnit)),()))),())))))),true),(qav Proofs.Tryz.prog (nat_lit 74) (nat_lit 0),true)])):=by kernel_rfl
theorem ok74_t (x0:(List (Int×(Int×(Bool×Unit))))) (x0'_:Int) (x0'_':(List (Int×(Bool×Unit)))) (x1:Int):TrOk (PureRuns Proofs.Tryz.prog (kl109_0_1 Proofs.Tryz.prog).orc 74 as74 rs74 ((x0,(x0'_,x0'_',()),()),x1,())) (t74 x0 x0'_ x0'_' x1) :=
  TrOk.ofTest (fun h1=>TrOk.ofFin (PureRuns.of (e74_0 x0 x0'_ x0'_' x1) (ac rfl (ac h1 (ac (sc74_0) All.nil))))) (fun h1=>TrOk.ofStop)
theorem ok74:PureOk Proofs.Tryz.prog 74 p74:=qab kl109_0_1_ok.base (T:=fun (d:Tys.data as74)=>t74 d.1.1 d.1.2.1.1 d.1.2.1.2.1 d.2.1) (by kernel_rfl) (fun (d:Tys.data as74)=>ok74_t d.1.1 d.1.2.1.1 d.1.2.1.2.1 d.2.1)
def kf74 (P:Go.Program):Known:=(kl109_0_1 P).func 74 p74
theorem kf74_ok:KnownOk Proofs.Tryz.prog (kf74 Proofs.Tryz.prog):=kl109_0_1_ok.func ok74
theorem sc47_0:qav Proofs.Tryz.prog 47 0 = true:=qc4 (by kernel_rfl)
abbrev sh93_0 (P:Go.Program):Sh:={ n:=70,slots:=[0,1,2,15,16,17],pats:=[.yld 0,.ptr 1 4 0,.ptr 2 1 0,.ty (.slice (.pair (.int .i64) (.pair (.int .i64) (.pair (.slice (.pair (.int .i64) (.pair (.int .i64) (.pair .bool .unit)))) .unit)))),.ty (.int .i64),.ty (.int .i64)],boxes:=[.lp (lpOf P 47 0 .ready none 59 [6] 3) [.ptr 4 3 0],.row [.ty (.slice (.pair (.int .i64) (.pair (.int .i64) (.pair (.slice (.pair (.int .i64) (.pair (.int .i64) (.pair .bool .unit)))) .unit)))),.ty (.slice (.int .i64)),.ty (.slice (.int .i64)),.ty (.slice (.pair (.int .i64) (.pair (.slice (.pair (.int .i64) (.pair .bool .unit))) .unit)))],.row [.ty (.int .i64)],.dfr,.row [.acc (.int .i64),.ty (.slice (.int .i64)),.nil]] }
abbrev shb93_0 (P:Go.Program):Sh:={ n:=70,slots:=[],pats:=[],boxes:=[.lp (lpOf P 47 0 .ready none 59 [6] 3) [.ptr 4 3 0],.row [.ty (.slice (.pair (.int .i64) (.pair (.int .i64) (.pair (.slice (.pair (.int .i64) (.pair (.int .i64) (.pair .bool .unit)))) .unit)))),.ty (.slice (.int .i64)),.ty (.slice (.int .i64)),.ty (.slice (.pair (.int .i64) (.pair (.slice (.pair (.int .i64) (.pair .bool .unit))) .unit)))],.row [.ty (.int .i64)],.dfr,.row [.acc (.int .i64),.ty (.slice (.int .i64)),.nil]] }
abbrev shr93_0 (P:Go.Program):Sh:={ n:=70,slots:=[],pats:=[],boxes:=[.lp (lpOf P 47 0 .ready none 59 [6] 3) [.ptr 4 3 0],.row [.ty (.slice (.pair (.int .i64) (.pair (.int .i64) (.pair (.slice (.pair (.int .i64) (.pair (.int .i64) (.pair .bool .unit)))) .unit)))),.ty (.slice (.int .i64)),.ty (.slice (.int .i64)),.ty (.slice (.pair (.int .i64) (.pair (.slice (.pair (.int .i64) (.pair .bool .unit))) .unit)))],.row [.ty (.int .i64)],.dfr,.row [.acc (.int .i64),.ty (.slice (.int .i64)),.nil]] }
abbrev dt93_0:Type:=(List (Int×Int×List (Int×Int×Bool×PUnit)×PUnit)×Int×Int×PUnit)×PUnit×(List (Int×Int×List (Int×Int×Bool×PUnit)×PUnit)×List Int×List Int×List (Int×List (Int×Bool×PUnit)×PUnit)×PUnit)×(Int×PUnit)×(List Int×List Int×PUnit)×PUnit
abbrev db93_0:Type:=PUnit×PUnit×(List (Int×Int×List (Int×Int×Bool×PUnit)×PUnit)×List Int×List Int×List (Int×List (Int×Bool×PUnit)×PUnit)×PUnit)×(Int×PUnit)×(List Int×List Int×PUnit)×PUnit
abbrev dr93_0:Type:=PUnit×PUnit×(List (Int×Int×List (Int×Int×Bool×PUnit)×PUnit)×List Int×List Int×List (Int×List (Int×Bool×PUnit)×PUnit)×PUnit)×(Int×PUnit)×(List Int×List Int×PUnit)×PUnit
def t93_0 (x3:(List (Int×(Int×((List (Int×(Int×(Bool×Unit))))×Unit))))) (x4:Int) (x5:Int) (b1_0:(List (Int×(Int×((List (Int×(Int×(Bool×Unit))))×Unit))))) (b1_1:(List Int)) (b1_2:(List Int)) (b1_3:(List (Int×((List (Int×(Bool×Unit)))×Unit)))) (b2_0:Int) (b4_0:(List Int)) (b4_1:(List Int)):Tr (Out dt93_0 db93_0 dr93_0) :=
  Tr.test ((!leF x4 x5:Bool))
    (Tr.test (decide ((0:Int) ≤ x5) && decide (x5 < (↑(List.length x3):Int)))
      (Tr.test ((decide ((0:Int) ≤ x5) && decide (x5 < (↑(List.length b1_2):Int)):Bool))
        (Tr.test ((decide ((0:Int) ≤ x5) && decide (x5 < (↑(List.length b1_1):Int)):Bool))
          (Tr.test (Option.isSome (f94 ((((b1_0,()),()),((b1_1,(b1_2,(b1_3,()))),())),((wrap64 (x5 + (1:Int)):Int),()))))
            (Tr.test (Option.isSome (f94 ((((b1_0,()),()),((b1_1,(b1_2,(b1_3,()))),())),(x5,()))))
              (let r0:=g94 ((((b1_0,()),()),((b1_1,(b1_2,(b1_3,()))),())),((wrap64 (x5 + (1:Int)):Int),()));
              let r1:=g94 ((((b1_0,()),()),((b1_1,(b1_2,(b1_3,()))),())),(x5,()));
              Tr.test (Option.isSome (f95 ((wrap64 (r0.1 - r1.1):Int),(((List.getD x3 (Int.toNat x5) ((0:Int),(0:Int),[],())).1:Int),()))))
                (Tr.test ((Nat.ble (((2:Nat) * (List.length b4_0 + (1:Nat)) + (192:Nat)) * (8:Nat)) (281474976710656:Nat) && Nat.ble (List.length b4_0 + (1:Nat)) (281474976710656:Nat):Bool))
                  (let r2:=g95 ((wrap64 (r0.1 - r1.1):Int),(((List.getD x3 (Int.toNat x5) ((0:Int),(0:Int),[],())).1:Int),()));
                  Tr.fin (.again ((x3,(x4,((wrap64 (x5 + (1:Int)):Int),()))),((),((b1_0,(b1_1,(b1_2,(b1_3,())))),((b2_0,()),(((b4_0++[wrap64 (wrap64 (wrap64 (wrap64 ((2:Int) * List.getD b1_1 (Int.toNat x5) (0:Int)) - List.getD b1_2 (Int.toNat x5) (0:Int)) + r2.1) - b2_0)]:List Int),(b4_1,())),())))))))
                  (Tr.stop))
                (Tr.stop))
              (Tr.stop))
            (Tr.stop))
          (Tr.stop))
        (Tr.stop))
      (Tr.stop))
    (Tr.fin (.brk ((),((),((b1_0,(b1_1,(b1_2,(b1_3,())))),((b2_0,()),((b4_0,(b4_1,())),())))))))
def s93_0 (d:dt93_0):Option (Out dt93_0 db93_0 dr93_0):=(t93_0 d.1.1 d.1.2.1 d.1.2.2.1 d.2.2.1.1 d.2.2.1.2.1 d.2.2.1.2.2.1 d.2.2.1.2.2.2.1 d.2.2.2.1.1 d.2.2.2.2.1.1 d.2.2.2.2.1.2.1).val
def l93_0 (d:dt93_0):Option (db93_0 ⊕ dr93_0):=itr s93_0 rounds d
def b93_0 (d:dt93_0):db93_0:=outB (((),((),((([]:List (Int×Int×List (Int×Int×Bool×PUnit)×PUnit)),(([]:List Int),(([]:List Int),(([]:List (Int×List (Int×Bool×PUnit)×PUnit)),())))),(((0:Int),()),((([]:List Int),(([]:List Int),())),())))))) (l93_0 d)
def lc93_0 (P:Go.Program):LoopC:=lcB (sh93_0 P) (shb93_0 P) (shr93_0 P) l93_0 b93_0
theorem e93_0_0 (x3:(List (Int×(Int×((List (Int×(Int×(Bool×Unit))))×Unit))))) (x4:Int) (x5:Int) (b1_0:(List (Int×(Int×((List (Int×(Int×(Bool×Unit))))×Unit))))) (b1_1:(List Int)) (b1_2:(List Int)) (b1_3:(List (Int×((List (Int×(Bool×Unit)))×Unit)))) (b2_0:Int) (b4_0:(List Int)) (b4_1:(List Int)):qak (kf74 Proofs.Tryz.prog).orc Proofs.Tryz.prog 400 93 0 (sh93_0 Proofs.Tryz.prog) (shb93_0 Proofs.Tryz.prog) (shr93_0 Proofs.Tryz.prog) ((x3,x4,x5,()),(),(b1_0,b1_1,b1_2,b1_3,()),(b2_0,()),(b4_0,b4_1,()),()) [tt,tt,tt,tt,tt,tt,tt,tt,tt,ff] =
    (let r0:=g94 ((((b1_0,()),()),((b1_1,(b1_2,(b1_3,()))),())),((wrap64 (x5 + (1:Int)):Int),()));let r1:=g94 ((((b1_0,()),()),((b1_1,(b1_2,(b1_3,()))),())),(x5,()));let r2:=g95 ((wrap64 (r0.1 - r1.1):Int),(((List.getD x3 (Int.toNat x5) ((0:Int),(0:Int),[],())).1:Int),())); some (.again ((x3,(x4,((wrap64 (x5 + (1:Int)):Int),()))),((),((b1_0,(b1_1,(b1_2,(b1_3,())))),((b2_0,()),(((b4_0++[wrap64 (wrap64 (wrap64 (wrap64 ((2:Int) * List.getD b1_1 (Int.toNat x5) (0:Int)) - List.getD b1_2 (Int.toNat x5) (0:Int)) + r2.1) - b2_0)]:List Int),(b4_1,())),()))))),[(qav Proofs.Tryz.prog (nat_lit 47) (nat_lit 0),true),(false,false),(Nat.ble (((2:Nat) * (List.length b4_0 + (1:Nat)) + (192:Nat)) * (8:Nat)) (281474976710656:Nat) && Nat.ble (List.length b4_0 + (1:Nat)) (281474976710656:Nat),true),(true,true),(Option.isSome (f95 ((wrap64 (r0.1 - r1.1):Int),(((List.getD x3 (Int.toNat x5) ((0:Int),(0:Int),[],())).1:Int),()))),true),(Option.isSome (f94 ((((b1_0,()),()),((b1_1,(b1_2,(b1_3,()))),())),(x5,()))),true),(Option.isSome (f94 ((((b1_0,()),()),((b1_1,(b1_2,(b1_3,()))),())),((wrap64 (x5 + (1:Int)):Int),()))),true),(decide ((0:Int) ≤ x5) && decide (x5 < (↑(List.length b1_1):Int)),true),(decide ((0:Int) ≤ x5) && decide (x5 < (↑(List.length b1_2):Int)),true),(decide ((0:Int) ≤ x5) && decide (x5 < (↑(List.length x3):Int)),true),(!leF x4 x5,true)])):=by kernel_rfl
theorem e93_0_5 (x3:(List (Int×(Int×((List (Int×(Int×(Bool×Unit))))×Unit))))) (x4:Int) (x5:Int) (b1_0:(List (Int×(Int×((List (Int×(Int×(Bool×Unit))))×Unit))))) (b1_1:(List Int)) (b1_2:(List Int)) (b1_3:(List (Int×((List (Int×(Bool×Unit)))×Unit)))) (b2_0:Int) (b4_0:(List Int)) (b4_1:(List Int)):qak (kf74 Proofs.Tryz.prog).orc Proofs.Tryz.prog 400 93 0 (sh93_0 Proofs.Tryz.prog) (shb93_0 Proofs.Tryz.prog) (shr93_0 Proofs.Tryz.prog) ((x3,x4,x5,()),(),(b1_0,b1_1,b1_2,b1_3,()),(b2_0,()),(b4_0,b4_1,()),()) [ff] =
    (some (.brk ((),((),((b1_0,(b1_1,(b1_2,(b1_3,())))),((b2_0,()),((b4_0,(b4_1,())),()))))),[(qav Proofs.Tryz.prog (nat_lit 47) (nat_lit 0),true),(!leF x4 x5,false)])):=by kernel_rfl
theorem ok93_0_t (x3:(List (Int×(Int×((List (Int×(Int×(Bool×Unit))))×Unit))))) (x4:Int) (x5:Int) (b1_0:(List (Int×(Int×((List (Int×(Int×(Bool×Unit))))×Unit))))) (b1_1:(List Int)) (b1_2:(List Int)) (b1_3:(List (Int×((List (Int×(Bool×Unit)))×Unit)))) (b2_0:Int) (b4_0:(List Int)) (b4_1:(List Int)):TrOk (BodyRuns Proofs.Tryz.prog (kf74 Proofs.Tryz.prog).orc 93 0 (sh93_0 Proofs.Tryz.prog) (shb93_0 Proofs.Tryz.prog) (shr93_0 Proofs.Tryz.prog) ((x3,x4,x5,()),(),(b1_0,b1_1,b1_2,b1_3,()),(b2_0,()),(b4_0,b4_1,()),())) (t93_0 x3 x4 x5 b1_0 b1_1 b1_2 b1_3 b2_0 b4_0 b4_1) :=
  TrOk.ofTest (fun h0=>TrOk.ofTest (fun h1=>TrOk.ofTest (fun h2=>TrOk.ofTest (fun h3=>TrOk.ofTest (fun h4=>TrOk.ofTest (fun h5=>TrOk.ofTest (fun h6=>TrOk.ofTest (fun h8=>TrOk.ofFin (BodyRuns.of (e93_0_0 x3 x4 x5 b1_0 b1_1 b1_2 b1_3 b2_0 b4_0 b4_1) (ac (sc47_0) (ac rfl (ac h8 (ac rfl (ac h6 (ac h5 (ac h4 (ac h3 (ac h2 (ac h1 (ac h0 All.nil))))))))))))) (fun h8=>TrOk.ofStop)) (fun h6=>TrOk.ofStop)) (fun h5=>TrOk.ofStop)) (fun h4=>TrOk.ofStop)) (fun h3=>TrOk.ofStop)) (fun h2=>TrOk.ofStop)) (fun h1=>TrOk.ofStop)) (fun h0=>TrOk.ofFin (BodyRuns.of (e93_0_5 x3 x4 x5 b1_0 b1_1 b1_2 b1_3 b2_0 b4_0 b4_1) (ac (sc47_0) (ac h0 All.nil))))
theorem ok93_0:qaw Proofs.Tryz.prog 93 0 (lc93_0 Proofs.Tryz.prog):=qaZ (sh:=(sh93_0 Proofs.Tryz.prog)) (shB:=(shb93_0 Proofs.Tryz.prog)) (shR:=(shr93_0 Proofs.Tryz.prog)) kf74_ok.base (T:=fun (d:dt93_0)=>t93_0 d.1.1 d.1.2.1 d.1.2.2.1 d.2.2.1.1 d.2.2.1.2.1 d.2.2.1.2.2.1 d.2.2.1.2.2.2.1 d.2.2.2.1.1 d.2.2.2.2.1.1 d.2.2.2.2.1.2.1) (by kernel_rfl) rfl (fun (d:dt93_0)=>ok93_0_t d.1.1 d.1.2.1 d.1.2.2.1 d.2.2.1.1 d.2.2.1.2.1 d.2.2.1.2.2.1 d.2.2.1.2.2.2.1 d.2.2.2.1.1 d.2.2.2.2.1.1 d.2.2.2.2.1.2.1) (fun _=>rfl)
def kl93_0 (P:Go.Program):Known:=(kf74 P).loop 93 0 (lc93_0 P)
theorem kl93_0_ok:KnownOk Proofs.Tryz.prog (kl93_0 Proofs.Tryz.prog):=kf74_ok.loop ok93_0
theorem sc47_1:qav Proofs.Tryz.prog 47 1 = true:=qc4 (by kernel_rfl)
abbrev sh87_0 (P:Go.Program):Sh:={ n:=22,slots:=[0,3,6,7,8],pats:=[.yld 0,.ty (.int .i64),.ty (.slice (.int .i64)),.ty (.int .i64),.ty (.int .i64)],boxes:=[.lp (lpOf P 47 1 .ready none 59 [2,4,5,6] 1) [.ptr 2 4 0,.ptr 3 4 0,.ptr 4 1 0,.ptr 5 3 0],.dfr,.row [.ty (.slice (.pair (.int .i64) (.pair (.int .i64) (.pair (.slice (.pair (.int .i64) (.pair (.int .i64) (.pair .bool .unit)))) .unit)))),.ty (.slice (.int .i64)),.ty (.slice (.int .i64)),.ty (.slice (.pair (.int .i64) (.pair (.slice (.pair (.int .i64) (.pair .bool .unit))) .unit)))],.row [.nil,.nil,.nil,.nil],.row [.ty (.int .i64)],.row [.acc (.int .i64),.ty (.slice (.int .i64)),.acc (.pair (.int .i64) (.pair (.slice (.pair (.int .i64) (.pair .bool .unit))) .unit))]] }
abbrev shb87_0 (P:Go.Program):Sh:={ n:=22,slots:=[],pats:=[],boxes:=[.lp (lpOf P 47 1 .ready none 59 [2,4,5,6] 1) [.ptr 2 4 0,.ptr 3 4 0,.ptr 4 1 0,.ptr 5 3 0],.dfr,.row [.ty (.slice (.pair (.int .i64) (.pair (.int .i64) (.pair (.slice (.pair (.int .i64) (.pair (.int .i64) (.pair .bool .unit)))) .unit)))),.ty (.slice (.int .i64)),.ty (.slice (.int .i64)),.ty (.slice (.pair (.int .i64) (.pair (.slice (.pair (.int .i64) (.pair .bool .unit))) .unit)))],.row [.nil,.nil,.nil,.nil],.row [.ty (.int .i64)],.row [.acc (.int .i64),.ty (.slice (.int .i64)),.acc (.pair (.int .i64) (.pair (.slice (.pair (.int .i64) (.pair .bool .unit))) .unit))]] }
abbrev shr87_0 (P:Go.Program):Sh:={ n:=22,slots:=[],pats:=[],boxes:=[.lp (lpOf P 47 1 .done (some none) 59 [2,4,5,6] 1) [.ptr 2 4 0,.ptr 3 4 0,.ptr 4 1 0,.ptr 5 3 0],.dfr,.row [.ty (.slice (.pair (.int .i64) (.pair (.int .i64) (.pair (.slice (.pair (.int .i64) (.pair (.int .i64) (.pair .bool .unit)))) .unit)))),.ty (.slice (.int .i64)),.ty (.slice (.int .i64)),.ty (.slice (.pair (.int .i64) (.pair (.slice (.pair (.int .i64) (.pair .bool .unit))) .unit)))],.row [.nil,.nil,.nil,.nil],.row [.ty (.int .i64)],.row [.acc (.int .i64),.ty (.slice (.int .i64)),.acc (.pair (.int .i64) (.pair (.slice (.pair (.int .i64) (.pair .bool .unit))) .unit))]] }
abbrev dt87_0:Type:=(Int×List Int×Int×Int×PUnit)×PUnit×(List (Int×Int×List (Int×Int×Bool×PUnit)×PUnit)×List Int×List Int×List (Int×List (Int×Bool×PUnit)×PUnit)×PUnit)×PUnit×(Int×PUnit)×(List Int×List Int×List (Int×List (Int×Bool×PUnit)×PUnit)×PUnit)×PUnit
abbrev db87_0:Type:=PUnit×PUnit×(List (Int×Int×List (Int×Int×Bool×PUnit)×PUnit)×List Int×List Int×List (Int×List (Int×Bool×PUnit)×PUnit)×PUnit)×PUnit×(Int×PUnit)×(List Int×List Int×List (Int×List (Int×Bool×PUnit)×PUnit)×PUnit)×PUnit
abbrev dr87_0:Type:=PUnit×PUnit×(List (Int×Int×List (Int×Int×Bool×PUnit)×PUnit)×List Int×List Int×List (Int×List (Int×Bool×PUnit)×PUnit)×PUnit)×PUnit×(Int×PUnit)×(List Int×List Int×List (Int×List (Int×Bool×PUnit)×PUnit)×PUnit)×PUnit
def t87_0 (x1:Int) (x2:(List Int)) (x3:Int) (x4:Int) (b2_0:(List (Int×(Int×((List (Int×(Int×(Bool×Unit))))×Unit))))) (b2_1:(List Int)) (b2_2:(List Int)) (b2_3:(List (Int×((List (Int×(Bool×Unit)))×Unit)))) (b4_0:Int) (b5_0:(List Int)) (b5_1:(List Int)) (b5_2:(List (Int×((List (Int×(Bool×Unit)))×Unit)))):Tr (Out dt87_0 db87_0 dr87_0) :=
  Tr.test ((!leF x3 x4:Bool))
    (Tr.test (decide ((0:Int) ≤ x4) && decide (x4 < (↑(List.length x2):Int)))
      (Tr.test ((decide ((0:Int) ≤ x4) && decide (x4 < (↑(List.length b2_0):Int)):Bool))
        (Tr.test (Option.isSome (f44 (((List.getD b2_0 (Int.toNat x4) ((0:Int),(0:Int),[],())).2.1:Int),(([wrap64 (List.getD x2 (Int.toNat x4) (0:Int) - x1)]:List Int),()))))
          (let r0:=g44 (((List.getD b2_0 (Int.toNat x4) ((0:Int),(0:Int),[],())).2.1:Int),(([wrap64 (List.getD x2 (Int.toNat x4) (0:Int) - x1)]:List Int),()));
          Tr.test (r0.1)
            (Tr.fin (.ret ((),((),((b2_0,(b2_1,(b2_2,(b2_3,())))),((),((x4,()),((b5_0,(b5_1,(b5_2,()))),()))))))))
            (Tr.test (Option.isSome (f92 ((((b2_0,()),()),((b2_1,(b2_2,(b2_3,()))),())),(x4,()))))
              (let r1:=g92 ((((b2_0,()),()),((b2_1,(b2_2,(b2_3,()))),())),(x4,()));
              Tr.test (Option.isSome (f74 ((r1.1.1,((r1.1.2.1.1,(r1.1.2.1.2.1,())),())),((wrap64 (List.getD x2 (Int.toNat x4) (0:Int) - x1):Int),()))))
                (Tr.test ((Nat.ble (((2:Nat) * (List.length b5_2 + (1:Nat)) + (192:Nat)) * (32:Nat)) (281474976710656:Nat) && Nat.ble (List.length b5_2 + (1:Nat)) (281474976710656:Nat):Bool))
                  (let r2:=g74 ((r1.1.1,((r1.1.2.1.1,(r1.1.2.1.2.1,())),())),((wrap64 (List.getD x2 (Int.toNat x4) (0:Int) - x1):Int),()));
                  Tr.fin (.again (((List.getD x2 (Int.toNat x4) (0:Int):Int),(x2,(x3,((wrap64 (x4 + (1:Int)):Int),())))),((),((b2_0,(b2_1,(b2_2,(b2_3,())))),((),((b4_0,()),((b5_0,(b5_1,((b5_2++[(r2.1.2.1.1,r2.1.2.1.2.1,())]:List (Int×List (Int×Bool×PUnit)×PUnit)),()))),()))))))))
                  (Tr.stop))
                (Tr.stop))
              (Tr.stop)))
          (Tr.stop))
        (Tr.stop))
      (Tr.stop))
    (Tr.fin (.brk ((),((),((b2_0,(b2_1,(b2_2,(b2_3,())))),((),((b4_0,()),((b5_0,(b5_1,(b5_2,()))),()))))))))
def s87_0 (d:dt87_0):Option (Out dt87_0 db87_0 dr87_0):=(t87_0 d.1.1 d.1.2.1 d.1.2.2.1 d.1.2.2.2.1 d.2.2.1.1 d.2.2.1.2.1 d.2.2.1.2.2.1 d.2.2.1.2.2.2.1 d.2.2.2.2.1.1 d.2.2.2.2.2.1.1 d.2.2.2.2.2.1.2.1 d.2.2.2.2.2.1.2.2.1).val
def l87_0 (d:dt87_0):Option (db87_0 ⊕ dr87_0):=itr s87_0 rounds d
def b87_0 (d:dt87_0):db87_0:=outB (((),((),((([]:List (Int×Int×List (Int×Int×Bool×PUnit)×PUnit)),(([]:List Int),(([]:List Int),(([]:List (Int×List (Int×Bool×PUnit)×PUnit)),())))),((),(((0:Int),()),((([]:List Int),(([]:List Int),(([]:List (Int×List (Int×Bool×PUnit)×PUnit)),()))),()))))))) (l87_0 d)
def r87_0 (d:dt87_0):dr87_0:=outR (((),((),((([]:List (Int×Int×List (Int×Int×Bool×PUnit)×PUnit)),(([]:List Int),(([]:List Int),(([]:List (Int×List (Int×Bool×PUnit)×PUnit)),())))),((),(((0:Int),()),((([]:List Int),(([]:List Int),(([]:List (Int×List (Int×Bool×PUnit)×PUnit)),()))),()))))))) (l87_0 d)
def lc87_0 (P:Go.Program):LoopC:=lcOf (sh87_0 P) (shb87_0 P) (shr87_0 P) l87_0 b87_0 r87_0
theorem e87_0_0 (x1:Int) (x2:(List Int)) (x3:Int) (x4:Int) (b2_0:(List (Int×(Int×((List (Int×(Int×(Bool×Unit))))×Unit))))) (b2_1:(List Int)) (b2_2:(List Int)) (b2_3:(List (Int×((List (Int×(Bool×Unit)))×Unit)))) (b4_0:Int) (b5_0:(List Int)) (b5_1:(List Int)) (b5_2:(List (Int×((List (Int×(Bool×Unit)))×Unit)))):qak (kl93_0 Proofs.Tryz.prog).orc Proofs.Tryz.prog 400 87 0 (sh87_0 Proofs.Tryz.prog) (shb87_0 Proofs.Tryz.prog) (shr87_0 Proofs.Tryz.prog) ((x1,x2,x3,x4,()),(),(b2_0,b2_1,b2_2,b2_3,()),(),(b4_0,()),(b5_0,b5_1,b5_2,()),()) [tt,tt,tt,tt,tt,tt] =
    (let r0:=g44 (((List.getD b2_0 (Int.toNat x4) ((0:Int),(0:Int),[],())).2.1:Int),(([wrap64 (List.getD x2 (Int.toNat x4) (0:Int) - x1)]:List Int),())); some (.ret ((),((),((b2_0,(b2_1,(b2_2,(b2_3,())))),((),((x4,()),((b5_0,(b5_1,(b5_2,()))),())))))),[(qav Proofs.Tryz.prog (nat_lit 47) (nat_lit 1),true),(true,true),(r0.1,true),(Option.isSome (f44 (((List.getD b2_0 (Int.toNat x4) ((0:Int),(0:Int),[],())).2.1:Int),(([wrap64 (List.getD x2 (Int.toNat x4) (0:Int) - x1)]:List Int),()))),true),(decide ((0:Int) ≤ x4) && decide (x4 < (↑(List.length b2_0):Int)),true),(decide ((0:Int) ≤ x4) && decide (x4 < (↑(List.length x2):Int)),true),(!leF x3 x4,true)])):=by kernel_rfl
theorem e87_0_1 (x1:Int) (x2:(List Int)) (x3:Int) (x4:Int) (b2_0:(List (Int×(Int×((List (Int×(Int×(Bool×Unit))))×Unit))))) (b2_1:(List Int)) (b2_2:(List Int)) (b2_3:(List (Int×((List (Int×(Bool×Unit)))×Unit)))) (b4_0:Int) (b5_0:(List Int)) (b5_1:(List Int)) (b5_2:(List (Int×((List (Int×(Bool×Unit)))×Unit)))):qak (kl93_0 Proofs.Tryz.prog).orc Proofs.Tryz.prog 400 87 0 (sh87_0 Proofs.Tryz.prog) (shb87_0 Proofs.Tryz.prog) (shr87_0 Proofs.Tryz.prog) ((x1,x2,x3,x4,()),(),(b2_0,b2_1,b2_2,b2_3,()),(),(b4_0,()),(b5_0,b5_1,b5_2,()),()) [tt,tt,tt,tt,ff,tt,tt,tt,ff] =
    (let r0:=g44 (((List.getD b2_0 (Int.toNat x4) ((0:Int),(0:Int),[],())).2.1:Int),(([wrap64 (List.getD x2 (Int.toNat x4) (0:Int) - x1)]:List Int),()));let r1:=g92 ((((b2_0,()),()),((b2_1,(b2_2,(b2_3,()))),())),(x4,()));let r2:=g74 ((r1.1.1,((r1.1.2.1.1,(r1.1.2.1.2.1,())),())),((wrap64 (List.getD x2 (Int.toNat x4) (0:Int) - x1):Int),())); some (.again (((List.getD x2 (Int.toNat x4) (0:Int):Int),(x2,(x3,((wrap64 (x4 + (1:Int)):Int),())))),((),((b2_0,(b2_1,(b2_2,(b2_3,())))),((),((b4_0,()),((b5_0,(b5_1,((b5_2++[(r2.1.2.1.1,r2.1.2.1.2.1,())]:List (Int×List (Int×Bool×PUnit)×PUnit)),()))),())))))),[(qav Proofs.Tryz.prog (nat_lit 47) (nat_lit 1),true),(false,false),(Nat.ble (((2:Nat) * (List.length b5_2 + (1:Nat)) + (192:Nat)) * (32:Nat)) (281474976710656:Nat) && Nat.ble (List.length b5_2 + (1:Nat)) (281474976710656:Nat),true),(Option.isSome (f74 ((r1.1.1,((r1.1.2.1.1,(r1.1.2.1.2.1,())),())),((wrap64 (List.getD x2 (Int.toNat x4) (0:Int) - x1):Int),()))),true),(Option.isSome (f92 ((((b2_0,()),()),((b2_1,(b2_2,(b2_3,()))),())),(x4,()))),true),(r0.1,false),(Option.isSome (f44 (((List.getD b2_0 (Int.toNat x4) ((0:Int),(0:Int),[],())).2.1:Int),(([wrap64 (List.getD x2 (Int.toNat x4) (0:Int) - x1)]:List Int),()))),true),(decide ((0:Int) ≤ x4) && decide (x4 < (↑(List.length b2_0):Int)),true),(decide ((0:Int) ≤ x4) && decide (x4 < (↑(List.length x2):Int)),true),(!leF x3 x4,true)])):=by kernel_rfl
theorem e87_0_5 (x1:Int) (x2:(List Int)) (x3:Int) (x4:Int) (b2_0:(List (Int×(Int×((List (Int×(Int×(Bool×Unit))))×Unit))))) (b2_1:(List Int)) (b2_2:(List Int)) (b2_3:(List (Int×((List (Int×(Bool×Unit)))×Unit)))) (b4_0:Int) (b5_0:(List Int)) (b5_1:(List Int)) (b5_2:(List (Int×((List (Int×(Bool×Unit)))×Unit)))):qak (kl93_0 Proofs.Tryz.prog).orc Proofs.Tryz.prog 400 87 0 (sh87_0 Proofs.Tryz.prog) (shb87_0 Proofs.Tryz.prog) (shr87_0 Proofs.Tryz.prog) ((x1,x2,x3,x4,()),(),(b2_0,b2_1,b2_2,b2_3,()),(),(b4_0,()),(b5_0,b5_1,b5_2,()),()) [ff] =
    (some (.brk ((),((),((b2_0,(b2_1,(b2_2,(b2_3,())))),((),((b4_0,()),((b5_0,(b5_1,(b5_2,()))),())))))),[(qav Proofs.Tryz.prog (nat_lit 47) (nat_lit 1),true),(!leF x3 x4,false)])):=by kernel_rfl
theorem ok87_0_t (x1:Int) (x2:(List Int)) (x3:Int) (x4:Int) (b2_0:(List (Int×(Int×((List (Int×(Int×(Bool×Unit))))×Unit))))) (b2_1:(List Int)) (b2_2:(List Int)) (b2_3:(List (Int×((List (Int×(Bool×Unit)))×Unit)))) (b4_0:Int) (b5_0:(List Int)) (b5_1:(List Int)) (b5_2:(List (Int×((List (Int×(Bool×Unit)))×Unit)))):TrOk (BodyRuns Proofs.Tryz.prog (kl93_0 Proofs.Tryz.prog).orc 87 0 (sh87_0 Proofs.Tryz.prog) (shb87_0 Proofs.Tryz.prog) (shr87_0 Proofs.Tryz.prog) ((x1,x2,x3,x4,()),(),(b2_0,b2_1,b2_2,b2_3,()),(),(b4_0,()),(b5_0,b5_1,b5_2,()),())) (t87_0 x1 x2 x3 x4 b2_0 b2_1 b2_2 b2_3 b4_0 b5_0 b5_1 b5_2) :=
  TrOk.ofTest (fun h0=>TrOk.ofTest (fun h1=>TrOk.ofTest (fun h2=>TrOk.ofTest (fun h3=>TrOk.ofTest (fun h4=>TrOk.ofFin (BodyRuns.of (e87_0_0 x1 x2 x3 x4 b2_0 b2_1 b2_2 b2_3 b4_0 b5_0 b5_1 b5_2) (ac (sc47_1) (ac rfl (ac h4 (ac h3 (ac h2 (ac h1 (ac h0 All.nil))))))))) (fun h4=>TrOk.ofTest (fun h5=>TrOk.ofTest (fun h6=>TrOk.ofTest (fun h7=>TrOk.ofFin (BodyRuns.of (e87_0_1 x1 x2 x3 x4 b2_0 b2_1 b2_2 b2_3 b4_0 b5_0 b5_1 b5_2) (ac (sc47_1) (ac rfl (ac h7 (ac h6 (ac h5 (ac h4 (ac h3 (ac h2 (ac h1 (ac h0 All.nil)))))))))))) (fun h7=>TrOk.ofStop)) (fun h6=>TrOk.ofStop)) (fun h5=>TrOk.ofStop))) (fun h3=>TrOk.ofStop)) (fun h2=>TrOk.ofStop)) (fun h1=>TrOk.ofStop)) (fun h0=>TrOk.ofFin (BodyRuns.of (e87_0_5 x1 x2 x3 x4 b2_0 b2_1 b2_2 b2_3 b4_0 b5_0 b5_1 b5_2) (ac (sc47_1) (ac h0 All.nil))))
theorem ok87_0:qaw Proofs.Tryz.prog 87 0 (lc87_0 Proofs.Tryz.prog):=qas (sh:=(sh87_0 Proofs.Tryz.prog)) (shB:=(shb87_0 Proofs.Tryz.prog)) (shR:=(shr87_0 Proofs.Tryz.prog)) kl93_0_ok.base (T:=fun (d:dt87_0)=>t87_0 d.1.1 d.1.2.1 d.1.2.2.1 d.1.2.2.2.1 d.2.2.1.1 d.2.2.1.2.1 d.2.2.1.2.2.1 d.2.2.1.2.2.2.1 d.2.2.2.2.1.1 d.2.2.2.2.2.1.1 d.2.2.2.2.2.1.2.1 d.2.2.2.2.2.1.2.2.1) (by kernel_rfl) rfl (fun (d:dt87_0)=>ok87_0_t d.1.1 d.1.2.1 d.1.2.2.1 d.1.2.2.2.1 d.2.2.1.1 d.2.2.1.2.1 d.2.2.1.2.2.1 d.2.2.1.2.2.2.1 d.2.2.2.2.1.1 d.2.2.2.2.2.1.1 d.2.2.2.2.2.1.2.1 d.2.2.2.2.2.1.2.2.1) (fun _=>rfl)
def kl87_0 (P:Go.Program):Known:=(kl93_0 P).loop 87 0 (lc87_0 P)
theorem kl87_0_ok:KnownOk Proofs.Tryz.prog (kl87_0 Proofs.Tryz.prog):=kl93_0_ok.loop ok87_0
abbrev as47:List Ty:=[(.pair (.pair (.pair (.slice (.pair (.int .i64) (.pair (.int .i64) (.pair (.slice (.pair (.int .i64) (.pair (.int .i64) (.pair .bool .unit)))) .unit)))) .unit) .unit) (.pair (.pair (.slice (.int .i64)) (.pair (.slice (.int .i64)) (.pair (.slice (.pair (.int .i64) (.pair (.slice (.pair (.int .i64) (.pair .bool .unit))) .unit))) .unit))) .unit)),(.int .i64)]
abbrev rs47:List Ty:=[(.pair (.pair (.pair (.slice (.pair (.int .i64) (.pair (.int .i64) (.pair (.slice (.pair (.int .i64) (.pair (.int .i64) (.pair .bool .unit)))) .unit)))) .unit) .unit) (.pair (.pair (.slice (.int .i64)) (.pair (.slice (.int .i64)) (.pair (.slice (.pair (.int .i64) (.pair (.slice (.pair (.int .i64) (.pair .bool .unit))) .unit))) .unit))) .unit)),(.int .i64)]
def t47 (x0__:(List (Int×(Int×((List (Int×(Int×(Bool×Unit))))×Unit))))) (x0'_:(List Int)) (x0'_':(List Int)) (x0'_'':(List (Int×((List (Int×(Bool×Unit)))×Unit)))) (x1:Int):Tr (Tys.data rs47) :=
  Tr.test (Option.isSome (f91 (x0'_,())))
    (let r0:=g91 (x0'_,());
    Tr.test (qbI (l93_0 ((x0__,((↑(List.length x0__):Int),((0:Int),()))),((),((x0__,(x0'_,(x0'_',(x0'_'',())))),((x1,()),((([]:List Int),(r0.1,())),())))))))
      (let r1:=b93_0 ((x0__,((↑(List.length x0__):Int),((0:Int),()))),((),((x0__,(x0'_,(x0'_',(x0'_'',())))),((x1,()),((([]:List Int),(r0.1,())),())))));
      Tr.test (Option.isSome (l87_0 (((0:Int),(r1.2.2.2.2.1.1,((↑(List.length r1.2.2.2.2.1.1):Int),((0:Int),())))),((),((x0__,(x0'_,(x0'_',(x0'_'',())))),((),(((0:Int),()),((r1.2.2.2.2.1.1,(r1.2.2.2.2.1.2.1,(([]:List (Int×List (Int×Bool×PUnit)×PUnit)),()))),()))))))))
        (Tr.test (qaA (l87_0 (((0:Int),(r1.2.2.2.2.1.1,((↑(List.length r1.2.2.2.2.1.1):Int),((0:Int),())))),((),((x0__,(x0'_,(x0'_',(x0'_'',())))),((),(((0:Int),()),((r1.2.2.2.2.1.1,(r1.2.2.2.2.1.2.1,(([]:List (Int×List (Int×Bool×PUnit)×PUnit)),()))),()))))))))
          (let r2:=r87_0 (((0:Int),(r1.2.2.2.2.1.1,((↑(List.length r1.2.2.2.2.1.1):Int),((0:Int),())))),((),((x0__,(x0'_,(x0'_',(x0'_'',())))),((),(((0:Int),()),((r1.2.2.2.2.1.1,(r1.2.2.2.2.1.2.1,(([]:List (Int×List (Int×Bool×PUnit)×PUnit)),()))),()))))));
          Tr.fin (((((([]:List (Int×Int×List (Int×Int×Bool×PUnit)×PUnit)),()),()),((([]:List Int),(([]:List Int),(([]:List (Int×List (Int×Bool×PUnit)×PUnit)),()))),())),(r2.2.2.2.2.1.1,()))))
          (let r3:=b87_0 (((0:Int),(r1.2.2.2.2.1.1,((↑(List.length r1.2.2.2.2.1.1):Int),((0:Int),())))),((),((x0__,(x0'_,(x0'_',(x0'_'',())))),((),(((0:Int),()),((r1.2.2.2.2.1.1,(r1.2.2.2.2.1.2.1,(([]:List (Int×List (Int×Bool×PUnit)×PUnit)),()))),()))))));
          Tr.fin ((((((r3.2.2.1.1:List (Int×Int×List (Int×Int×Bool×PUnit)×PUnit)),()),()),((r3.2.2.2.2.2.1.1,(r3.2.2.2.2.2.1.2.1,((r3.2.2.2.2.2.1.2.2.1:List (Int×List (Int×Bool×PUnit)×PUnit)),()))),())),((-1:Int),())))))
        (Tr.stop))
      (Tr.stop))
    (Tr.stop)
def f47 (d:Tys.data as47):Option (Tys.data rs47):=(t47 d.1.1.1.1 d.1.2.1.1 d.1.2.1.2.1 d.1.2.1.2.2.1 d.2.1).val
def g47 (d:Tys.data as47):Tys.data rs47:=(f47 d).getD (Tys.dflt rs47)
def p47:PureC:=pcOf as47 rs47 f47 g47
theorem e47_0 (x0__:(List (Int×(Int×((List (Int×(Int×(Bool×Unit))))×Unit))))) (x0'_:(List Int)) (x0'_':(List Int)) (x0'_'':(List (Int×((List (Int×(Bool×Unit)))×Unit)))) (x1:Int):runPure (kl87_0 Proofs.Tryz.prog).orc Proofs.Tryz.prog 400 47 as47 rs47 ((((x0__,()),()),(x0'_,x0'_',x0'_'',()),()),x1,()) [tt,tt,tt,tt,tt,tt,tt] =
    (let r0:=g91 (x0'_,());let r1:=b93_0 ((x0__,((↑(List.length x0__):Int),((0:Int),()))),((),((x0__,(x0'_,(x0'_',(x0'_'',())))),((x1,()),((([]:List Int),(r0.1,())),())))));let r2:=r87_0 (((0:Int),(r1.2.2.2.2.1.1,((↑(List.length r1.2.2.2.2.1.1):Int),((0:Int),())))),((),((x0__,(x0'_,(x0'_',(x0'_'',())))),((),(((0:Int),()),((r1.2.2.2.2.1.1,(r1.2.2.2.2.1.2.1,(([]:List (Int×List (Int×Bool×PUnit)×PUnit)),()))),())))))); some (((((([]:List (Int×Int×List (Int×Int×Bool×PUnit)×PUnit)),()),()),((([]:List Int),(([]:List Int),(([]:List (Int×List (Int×Bool×PUnit)×PUnit)),()))),())),(r2.2.2.2.2.1.1,())),[(qaA (l87_0 (((0:Int),(r1.2.2.2.2.1.1,((↑(List.length r1.2.2.2.2.1.1):Int),((0:Int),())))),((),((x0__,(x0'_,(x0'_',(x0'_'',())))),((),(((0:Int),()),((r1.2.2.2.2.1.1,(r1.2.2.2.2.1.2.1,(([]:List (Int×List (Int×Bool×PUnit)×PUnit)),()))),()))))))),true),(Option.isSome (l87_0 (((0:Int),(r1.2.2.2.2.1.1,((↑(List.length r1.2.2.2.2.1.1):Int),((0:Int),())))),((),((x0__,(x0'_,(x0'_',(x0'_'',())))),((),(((0:Int),()),((r1.2.2.2.2.1.1,(r1.2.2.2.2.1.2.1,(([]:List (Int×List (Int×Bool×PUnit)×PUnit)),()))),()))))))),true),(qav Proofs.Tryz.prog (nat_lit 47) (nat_lit 1),true),(true,true),(qbI (l93_0 ((x0__,((↑(List.length x0__):Int),((0:Int),()))),((),((x0__,(x0'_,(x0'_',(x0'_'',())))),((x1,()),((([]:List Int),(r0.1,())),())))))),true),(qav Proofs.Tryz.prog (nat_lit 47) (nat_lit 0),true),(Option.isSome (f91 (x0'_,())),true)])):=by kernel_rfl
theorem e47_1 (x0__:(List (Int×(Int×((List (Int×(Int×(Bool×Unit))))×Unit))))) (x0'_:(List Int)) (x0'_':(List Int)) (x0'_'':(List (Int×((List (Int×(Bool×Unit)))×Unit)))) (x1:Int):runPure (kl87_0 Proofs.Tryz.prog).orc Proofs.Tryz.prog 400 47 as47 rs47 ((((x0__,()),()),(x0'_,x0'_',x0'_'',()),()),x1,()) [tt,tt,tt,tt,tt,tt,ff] =
    (let r0:=g91 (x0'_,());let r1:=b93_0 ((x0__,((↑(List.length x0__):Int),((0:Int),()))),((),((x0__,(x0'_,(x0'_',(x0'_'',())))),((x1,()),((([]:List Int),(r0.1,())),())))));let r3:=b87_0 (((0:Int),(r1.2.2.2.2.1.1,((↑(List.length r1.2.2.2.2.1.1):Int),((0:Int),())))),((),((x0__,(x0'_,(x0'_',(x0'_'',())))),((),(((0:Int),()),((r1.2.2.2.2.1.1,(r1.2.2.2.2.1.2.1,(([]:List (Int×List (Int×Bool×PUnit)×PUnit)),()))),())))))); some ((((((r3.2.2.1.1:List (Int×Int×List (Int×Int×Bool×PUnit)×PUnit)),()),()),((r3.2.2.2.2.2.1.1,(r3.2.2.2.2.2.1.2.1,((r3.2.2.2.2.2.1.2.2.1:List (Int×List (Int×Bool×PUnit)×PUnit)),()))),())),((-1:Int),())),[(qaA (l87_0 (((0:Int),(r1.2.2.2.2.1.1,((↑(List.length r1.2.2.2.2.1.1):Int),((0:Int),())))),((),((x0__,(x0'_,(x0'_',(x0'_'',())))),((),(((0:Int),()),((r1.2.2.2.2.1.1,(r1.2.2.2.2.1.2.1,(([]:List (Int×List (Int×Bool×PUnit)×PUnit)),()))),()))))))),false),(Option.isSome (l87_0 (((0:Int),(r1.2.2.2.2.1.1,((↑(List.length r1.2.2.2.2.1.1):Int),((0:Int),())))),((),((x0__,(x0'_,(x0'_',(x0'_'',())))),((),(((0:Int),()),((r1.2.2.2.2.1.1,(r1.2.2.2.2.1.2.1,(([]:List (Int×List (Int×Bool×PUnit)×PUnit)),()))),()))))))),true),(qav Proofs.Tryz.prog (nat_lit 47) (nat_lit 1),true),(true,true),(qbI (l93_0 ((x0__,((↑(List.length x0__):Int),((0:Int),()))),((),((x0__,(x0'_,(x0'_',(x0'_'',())))),((x1,()),((([]:List Int),(r0.1,())),())))))),true),(qav Proofs.Tryz.prog (nat_lit 47) (nat_lit 0),true),(Option.isSome (f91 (x0'_,())),true)])):=by kernel_rfl
theorem ok47_t (x0__:(List (Int×(Int×((List (Int×(Int×(Bool×Unit))))×Unit))))) (x0'_:(List Int)) (x0'_':(List Int)) (x0'_'':(List (Int×((List (Int×(Bool×Unit)))×Unit)))) (x1:Int):TrOk (PureRuns Proofs.Tryz.prog (kl87_0 Proofs.Tryz.prog).orc 47 as47 rs47 ((((x0__,()),()),(x0'_,x0'_',x0'_'',()),()),x1,())) (t47 x0__ x0'_ x0'_' x0'_'' x1) :=
  TrOk.ofTest (fun h0=>TrOk.ofTest (fun h2=>TrOk.ofTest (fun h5=>TrOk.ofTest (fun h6=>TrOk.ofFin (PureRuns.of (e47_0 x0__ x0'_ x0'_' x0'_'' x1) (ac h6 (ac h5 (ac (sc47_1) (ac rfl (ac h2 (ac (sc47_0) (ac h0 All.nil))))))))) (fun h6=>TrOk.ofFin (PureRuns.of (e47_1 x0__ x0'_ x0'_' x0'_'' x1) (ac h6 (ac h5 (ac (sc47_1) (ac rfl (ac h2 (ac (sc47_0) (ac h0 All.nil)))))))))) (fun h5=>TrOk.ofStop)) (fun h2=>TrOk.ofStop)) (fun h0=>TrOk.ofStop)
theorem ok47:PureOk Proofs.Tryz.prog 47 p47:=qab kl87_0_ok.base (T:=fun (d:Tys.data as47)=>t47 d.1.1.1.1 d.1.2.1.1 d.1.2.1.2.1 d.1.2.1.2.2.1 d.2.1) (by kernel_rfl) (fun (d:Tys.data as47)=>ok47_t d.1.1.1.1 d.1.2.1.1 d.1.2.1.2.1 d.1.2.1.2.2.1 d.2.1)
def kf47 (P:Go.Program):Known:=(kl87_0 P).func 47 p47
theorem kf47_ok:KnownOk Proofs.Tryz.prog (kf47 Proofs.Tryz.prog):=kl87_0_ok.func ok47
abbrev sh20_0:Sh:={ n:=55,slots:=[9,10,31,32,33],pats:=[.ptr 0 4 0,.acc (.pair (.slice (.int .i64)) (.pair (.slice (.int .i64)) (.pair (.slice (.pair (.int .i64) (.pair (.slice (.pair (.int .i64) (.pair .bool .unit))) .unit))) .unit))),.ty (.slice (.int .i64)),.ty (.int .i64),.ty (.int .i64)],boxes:=[.row [.ty (.slice (.pair (.int .i64) (.pair (.int .i64) (.pair (.slice (.pair (.int .i64) (.pair (.int .i64) (.pair .bool .unit)))) .unit)))),.ty (.slice (.int .i64)),.ty (.slice (.int .i64)),.ty (.slice (.pair (.int .i64) (.pair (.slice (.pair (.int .i64) (.pair .bool .unit))) .unit)))]] }
abbrev shb20_0:Sh:={ n:=55,slots:=[10],pats:=[.acc (.pair (.slice (.int .i64)) (.pair (.slice (.int .i64)) (.pair (.slice (.pair (.int .i64) (.pair (.slice (.pair (.int .i64) (.pair .bool .unit))) .unit))) .unit)))],boxes:=[.row [.ty (.slice (.pair (.int .i64) (.pair (.int .i64) (.pair (.slice (.pair (.int .i64) (.pair (.int .i64) (.pair .bool .unit)))) .unit)))),.ty (.slice (.int .i64)),.ty (.slice (.int .i64)),.ty (.slice (.pair (.int .i64) (.pair (.slice (.pair (.int .i64) (.pair .bool .unit))) .unit)))]] }
abbrev shr20_0:Sh:={ n:=55,slots:=[4,5,6],pats:=[.acc (.pair (.slice (.int .i64)) (.pair (.slice (.int .i64)) (.pair (.slice (.pair (.int .i64) (.pair (.slice (.pair (.int .i64) (.pair .bool .unit))) .unit))) .unit))),.ty (.int .i64),.ty (.int .i64)],boxes:=[.row [.ty (.slice (.pair (.int .i64) (.pair (.int .i64) (.pair (.slice (.pair (.int .i64) (.pair (.int .i64) (.pair .bool .unit)))) .unit)))),.ty (.slice (.int .i64)),.ty (.slice (.int .i64)),.ty (.slice (.pair (.int .i64) (.pair (.slice (.pair (.int .i64) (.pair .bool .unit))) .unit)))]] }
def t20_0 (x1:(List ((List Int)×((List Int)×((List (Int×((List (Int×(Bool×Unit)))×Unit)))×Unit))))) (x2:(List Int)) (x3:Int) (x4:Int) (b0_0:(List (Int×(Int×((List (Int×(Int×(Bool×Unit))))×Unit))))) (b0_1:(List Int)) (b0_2:(List Int)) (b0_3:(List (Int×((List (Int×(Bool×Unit)))×Unit)))):Tr (Out sh20_0.data shb20_0.data shr20_0.data) :=
  Tr.test ((!leF x3 x4:Bool))
    (Tr.test (decide ((0:Int) ≤ x4) && decide (x4 < (↑(List.length x2):Int)))
      (Tr.test (Option.isSome (f47 ((((b0_0,()),()),((b0_1,(b0_2,(b0_3,()))),())),((List.getD x2 (Int.toNat x4) (0:Int):Int),()))))
        (let r0:=g47 ((((b0_0,()),()),((b0_1,(b0_2,(b0_3,()))),())),((List.getD x2 (Int.toNat x4) (0:Int):Int),()));
        Tr.test ((!eqF r0.2.1 (-1):Bool))
          (Tr.fin (.ret ((x1,(r0.2.1,((0:Int),()))),((b0_0,(b0_1,(b0_2,(b0_3,())))),()))))
          (Tr.test ((Nat.ble (((2:Nat) * (List.length x1 + (1:Nat)) + (192:Nat)) * (72:Nat)) (281474976710656:Nat) && Nat.ble (List.length x1 + (1:Nat)) (281474976710656:Nat):Bool))
            (Tr.fin (.again (((x1++[(r0.1.2.1.1,r0.1.2.1.2.1,r0.1.2.1.2.2.1,())]:List (List Int×List Int×List (Int×List (Int×Bool×PUnit)×PUnit)×PUnit)),(x2,(x3,((wrap64 (x4 + (1:Int)):Int),())))),(((r0.1.1.1.1:List (Int×Int×List (Int×Int×Bool×PUnit)×PUnit)),(r0.1.2.1.1,(r0.1.2.1.2.1,((r0.1.2.1.2.2.1:List (Int×List (Int×Bool×PUnit)×PUnit)),())))),()))))
            (Tr.stop)))
        (Tr.stop))
      (Tr.stop))
    (Tr.fin (.brk ((x1,()),((b0_0,(b0_1,(b0_2,(b0_3,())))),()))))
def s20_0 (d:sh20_0.data):Option (Out sh20_0.data shb20_0.data shr20_0.data):=(t20_0 d.1.1 d.1.2.1 d.1.2.2.1 d.1.2.2.2.1 d.2.1.1 d.2.1.2.1 d.2.1.2.2.1 d.2.1.2.2.2.1).val
def l20_0 (d:sh20_0.data):Option (shb20_0.data ⊕ shr20_0.data):=itr s20_0 rounds d
def b20_0 (d:sh20_0.data):shb20_0.data:=outB shb20_0.dflt (l20_0 d)
def r20_0 (d:sh20_0.data):shr20_0.data:=outR shr20_0.dflt (l20_0 d)
def lc20_0:LoopC:=lcOf sh20_0 shb20_0 shr20_0 l20_0 b20_0 r20_0
theorem wk20_0 (x1:(List ((List Int)×((List Int)×((List (Int×((List (Int×(Bool×Unit)))×Unit)))×Unit))))) (x2:(List Int)) (x3:Int) (x4:Int) (b0_0:(List (Int×(Int×((List (Int×(Int×(Bool×Unit))))×Unit))))) (b0_1:(List Int)) (b0_2:(List Int)) (b0_3:(List (Int×((List (Int×(Bool×Unit)))×Unit)))):Walks (qak (kf47 Proofs.Tryz.prog).orc Proofs.Tryz.prog 400 20 0 sh20_0 shb20_0 shr20_0 ((x1,x2,x3,x4,()),(b0_0,b0_1,b0_2,b0_3,()),())) (t20_0 x1 x2 x3 x4 b0_0 b0_1 b0_2 b0_3) [(bl 4 15,[2,4,6,8]),(bl 5 23,[2,4,6,8,10]),(bl 1 0,[2])] :=
  ⟨by kernel_rfl,by kernel_rfl,by kernel_rfl,trivial⟩
theorem ok20_0_t (x1:(List ((List Int)×((List Int)×((List (Int×((List (Int×(Bool×Unit)))×Unit)))×Unit))))) (x2:(List Int)) (x3:Int) (x4:Int) (b0_0:(List (Int×(Int×((List (Int×(Int×(Bool×Unit))))×Unit))))) (b0_1:(List Int)) (b0_2:(List Int)) (b0_3:(List (Int×((List (Int×(Bool×Unit)))×Unit)))):TrOk (BodyRuns Proofs.Tryz.prog (kf47 Proofs.Tryz.prog).orc 20 0 sh20_0 shb20_0 shr20_0 ((x1,x2,x3,x4,()),(b0_0,b0_1,b0_2,b0_3,()),())) (t20_0 x1 x2 x3 x4 b0_0 b0_1 b0_2 b0_3) :=
  Walks.ok (fun _ _ _=>BodyRuns.of) (wk20_0 x1 x2 x3 x4 b0_0 b0_1 b0_2 b0_3) (by kernel_rfl)
theorem ok20_0:qaw Proofs.Tryz.prog 20 0 lc20_0:=qas (sh:=sh20_0) (shB:=shb20_0) (shR:=shr20_0) kf47_ok.base (T:=fun (d:sh20_0.data)=>t20_0 d.1.1 d.1.2.1 d.1.2.2.1 d.1.2.2.2.1 d.2.1.1 d.2.1.2.1 d.2.1.2.2.1 d.2.1.2.2.2.1) (by kernel_rfl) rfl (fun (d:sh20_0.data)=>ok20_0_t d.1.1 d.1.2.1 d.1.2.2.1 d.1.2.2.2.1 d.2.1.1 d.2.1.2.1 d.2.1.2.2.1 d.2.1.2.2.2.1) (fun _=>rfl)
def kl20_0 (P:Go.Program):Known:=(kf47 P).loop 20 0 lc20_0
theorem kl20_0_ok:KnownOk Proofs.Tryz.prog (kl20_0 Proofs.Tryz.prog):=kf47_ok.loop ok20_0
abbrev as20:List Ty:=[(.pair (.slice (.pair (.int .i64) (.pair (.int .i64) (.pair (.slice (.pair (.int .i64) (.pair (.int .i64) (.pair .bool .unit)))) .unit)))) .unit),(.slice (.int .i64))]
abbrev rs20:List Ty:=[(.slice (.pair (.slice (.int .i64)) (.pair (.slice (.int .i64)) (.pair (.slice (.pair (.int .i64) (.pair (.slice (.pair (.int .i64) (.pair .bool .unit))) .unit))) .unit)))),(.int .i64),(.int .i64)]
def t20 (x0:(List (Int×(Int×((List (Int×(Int×(Bool×Unit))))×Unit))))) (x1:(List Int)):Tr (Tys.data rs20) :=
  Tr.test (Option.isSome (f65 (x1,())))
    (let r0:=g65 (x1,());
    Tr.test (Option.isSome (f64 ((x0,()),(([r0.1]:List Int),()))))
      (let r1:=g64 ((x0,()),(([r0.1]:List Int),()));
      Tr.test ((!eqF r1.2.1 0:Bool))
        (Tr.fin ((([]:List (List Int×List Int×List (Int×List (Int×Bool×PUnit)×PUnit)×PUnit)),((0:Int),(r1.2.1,())))))
        (Tr.test (Option.isSome (f66 ((((r1.1.1.1:List (Int×Int×List (Int×Int×Bool×PUnit)×PUnit)),()),()),())))
          (let r2:=g66 ((((r1.1.1.1:List (Int×Int×List (Int×Int×Bool×PUnit)×PUnit)),()),()),());
          Tr.test (Option.isSome (l20_0 ((([(r2.1.2.1.1,r2.1.2.1.2.1,r2.1.2.1.2.2.1,())]:List (List Int×List Int×List (Int×List (Int×Bool×PUnit)×PUnit)×PUnit)),(x1,((↑(List.length x1):Int),((0:Int),())))),(((r2.1.1.1.1:List (Int×Int×List (Int×Int×Bool×PUnit)×PUnit)),(r2.1.2.1.1,(r2.1.2.1.2.1,((r2.1.2.1.2.2.1:List (Int×List (Int×Bool×PUnit)×PUnit)),())))),()))))
            (Tr.test (qaA (l20_0 ((([(r2.1.2.1.1,r2.1.2.1.2.1,r2.1.2.1.2.2.1,())]:List (List Int×List Int×List (Int×List (Int×Bool×PUnit)×PUnit)×PUnit)),(x1,((↑(List.length x1):Int),((0:Int),())))),(((r2.1.1.1.1:List (Int×Int×List (Int×Int×Bool×PUnit)×PUnit)),(r2.1.2.1.1,(r2.1.2.1.2.1,((r2.1.2.1.2.2.1:List (Int×List (Int×Bool×PUnit)×PUnit)),())))),()))))
              (let r3:=r20_0 ((([(r2.1.2.1.1,r2.1.2.1.2.1,r2.1.2.1.2.2.1,())]:List (List Int×List Int×List (Int×List (Int×Bool×PUnit)×PUnit)×PUnit)),(x1,((↑(List.length x1):Int),((0:Int),())))),(((r2.1.1.1.1:List (Int×Int×List (Int×Int×Bool×PUnit)×PUnit)),(r2.1.2.1.1,(r2.1.2.1.2.1,((r2.1.2.1.2.2.1:List (Int×List (Int×Bool×PUnit)×PUnit)),())))),()));
              Tr.fin (((r3.1.1:List (List Int×List Int×List (Int×List (Int×Bool×PUnit)×PUnit)×PUnit)),(r3.1.2.1,(r3.1.2.2.1,())))))
              (let r4:=b20_0 ((([(r2.1.2.1.1,r2.1.2.1.2.1,r2.1.2.1.2.2.1,())]:List (List Int×List Int×List (Int×List (Int×Bool×PUnit)×PUnit)×PUnit)),(x1,((↑(List.length x1):Int),((0:Int),())))),(((r2.1.1.1.1:List (Int×Int×List (Int×Int×Bool×PUnit)×PUnit)),(r2.1.2.1.1,(r2.1.2.1.2.1,((r2.1.2.1.2.2.1:List (Int×List (Int×Bool×PUnit)×PUnit)),())))),()));
              Tr.fin (((r4.1.1:List (List Int×List Int×List (Int×List (Int×Bool×PUnit)×PUnit)×PUnit)),((-1:Int),((0:Int),()))))))
            (Tr.stop))
          (Tr.stop)))
      (Tr.stop))
    (Tr.stop)
def f20 (d:Tys.data as20):Option (Tys.data rs20):=(t20 d.1.1 d.2.1).val
def g20 (d:Tys.data as20):Tys.data rs20:=(f20 d).getD (Tys.dflt rs20)
def p20:PureC:=pcOf as20 rs20 f20 g20
theorem wk20 (x0:(List (Int×(Int×((List (Int×(Int×(Bool×Unit))))×Unit))))) (x1:(List Int)):Walks (runPure (kl20_0 Proofs.Tryz.prog).orc Proofs.Tryz.prog 400 20 as20 rs20 ((x0,()),x1,())) (t20 x0 x1) [(bl 3 7,[2,4,6]),(bl 6 59,[2,4,6,8,10,12]),(bl 6 27,[2,4,6,8,10,12])] :=
  ⟨by kernel_rfl,by kernel_rfl,by kernel_rfl,trivial⟩
theorem ok20_t (x0:(List (Int×(Int×((List (Int×(Int×(Bool×Unit))))×Unit))))) (x1:(List Int)):TrOk (PureRuns Proofs.Tryz.prog (kl20_0 Proofs.Tryz.prog).orc 20 as20 rs20 ((x0,()),x1,())) (t20 x0 x1) :=
  Walks.ok (fun _ _ _=>PureRuns.of) (wk20 x0 x1) (by kernel_rfl)
theorem ok20:PureOk Proofs.Tryz.prog 20 p20:=qab kl20_0_ok.base (T:=fun (d:Tys.data as20)=>t20 d.1.1 d.2.1) (by kernel_rfl) (fun (d:Tys.data as20)=>ok20_t d.1.1 d.2.1)
def kf20 (P:Go.Program):Known:=(kl20_0 P).func 20 p20
theorem kf20_ok:KnownOk Proofs.Tryz.prog (kf20 Proofs.Tryz.prog):=kl20_0_ok.func ok20
abbrev as56:List Ty:=[(.int .i64)]
abbrev rs56:List Ty:=[(.int .i64)]
def t56 (x0:Int):Tr (Tys.data rs56) :=
  Tr.test (Option.isSome (f54 (x0,((-10000:Int),((10000:Int),())))))
    (let r0:=g54 (x0,((-10000:Int),((10000:Int),())));
    Tr.test ((!r0.1:Bool))
      (Tr.fin (((2:Int),())))
      (Tr.fin (((0:Int),()))))
    (Tr.stop)
def f56 (d:Tys.data as56):Option (Tys.data rs56):=(t56 d.1).val
def g56 (d:Tys.data as56):Tys.data rs56:=(f56 d).getD (Tys.dflt rs56)
def p56:PureC:=pcOf as56 rs56 f56 g56
theorem wk56 (x0:Int):Walks (runPure (kf20 Proofs.Tryz.prog).orc Proofs.Tryz.prog 400 56 as56 rs56 (x0,())) (t56 x0) [(bl 2 3,[2,4]),(bl 2 1,[2,4])] :=
  ⟨by kernel_rfl,by kernel_rfl,trivial⟩
theorem ok56_t (x0:Int):TrOk (PureRuns Proofs.Tryz.prog (kf20 Proofs.Tryz.prog).orc 56 as56 rs56 (x0,())) (t56 x0) :=
  Walks.ok (fun _ _ _=>PureRuns.of) (wk56 x0) (by kernel_rfl)
theorem ok56:PureOk Proofs.Tryz.prog 56 p56:=qab kf20_ok.base (T:=fun (d:Tys.data as56)=>t56 d.1) (by kernel_rfl) (fun (d:Tys.data as56)=>ok56_t d.1)
def kf56 (P:Go.Program):Known:=(kf20 P).func 56 p56
theorem kf56_ok:KnownOk Proofs.Tryz.prog (kf56 Proofs.Tryz.prog):=kf20_ok.func ok56
abbrev as59:List Ty:=[(.int .i64)]
abbrev rs59:List Ty:=[(.int .i64)]
def t59 (x0:Int):Tr (Tys.data rs59) :=
  Tr.fin (((if x0 < Go.IntKind.wrap Go.IntKind.i64 ((0:Int) - x0) then Go.IntKind.wrap Go.IntKind.i64 ((0:Int) - x0) else x0:Int),()))
def f59 (d:Tys.data as59):Option (Tys.data rs59):=(t59 d.1).val
def g59 (d:Tys.data as59):Tys.data rs59:=(f59 d).getD (Tys.dflt rs59)
def p59:PureC:=pcOf as59 rs59 f59 g59
theorem wk59 (x0:Int):Walks (runPure (kf56 Proofs.Tryz.prog).orc Proofs.Tryz.prog 400 59 as59 rs59 (x0,())) (t59 x0) [(bl 0 0,[])] :=
  ⟨by kernel_rfl,trivial⟩
theorem ok59_t (x0:Int):TrOk (PureRuns Proofs.Tryz.prog (kf56 Proofs.Tryz.prog).orc 59 as59 rs59 (x0,())) (t59 x0) :=
  Walks.ok (fun _ _ _=>PureRuns.of) (wk59 x0) (by kernel_rfl)
theorem ok59:PureOk Proofs.Tryz.prog 59 p59:=qab kf56_ok.base (T:=fun (d:Tys.data as59)=>t59 d.1) (by kernel_rfl) (fun (d:Tys.data as59)=>ok59_t d.1)
def kf59 (P:Go.Program):Known:=(kf56 P).func 59 p59
theorem kf59_ok:KnownOk Proofs.Tryz.prog (kf59 Proofs.Tryz.prog):=kf56_ok.func ok59
abbrev sh98_0:Sh:={ n:=90,slots:=[0,3,7],pats:=[.ty (.slice (.pair (.int .i64) (.pair (.int .i64) (.pair .bool .unit)))),.ptr 0 2 0,.ty (.int .i64)],boxes:=[.row [.ty (.int .i64),.ty (.slice (.pair (.int .i64) (.pair .bool .unit)))]] }
abbrev shb98_0:Sh:={ n:=90,slots:=[],pats:=[],boxes:=[.row [.ty (.int .i64),.ty (.slice (.pair (.int .i64) (.pair .bool .unit)))]] }
abbrev shr98_0:Sh:={ n:=90,slots:=[4,5],pats:=[.ty (.int .i64),.ty (.int .i64)],boxes:=[.row [.ty (.int .i64),.ty (.slice (.pair (.int .i64) (.pair .bool .unit)))]] }
def t98_0 (x0:(List (Int×(Int×(Bool×Unit))))) (x2:Int) (b0_0:Int) (b0_1:(List (Int×(Bool×Unit)))):Tr (Out sh98_0.data shb98_0.data shr98_0.data) :=
  Tr.test ((!leF (↑(List.length x0):Int) x2:Bool))
    (Tr.test (decide ((0:Int) ≤ x2) && decide (x2 < (↑(List.length b0_1):Int)))
      (Tr.test (Option.isSome (f56 (((List.getD b0_1 (Int.toNat x2) ((0:Int),false,())).1:Int),())))
        (let r0:=g56 (((List.getD b0_1 (Int.toNat x2) ((0:Int),false,())).1:Int),());
        Tr.test ((!eqF r0.1 0:Bool))
          (Tr.fin (.ret ((x2,(r0.1,())),((b0_0,(b0_1,())),()))))
          (Tr.test (((List.getD b0_1 (Int.toNat x2) ((0:Int),false,())).2.1:Bool))
            (Tr.test ((decide ((0:Int) ≤ x2) && decide (x2 < (↑(List.length x0):Int)):Bool))
              (Tr.test (((List.getD x0 (Int.toNat x2) ((0:Int),(0:Int),false,())).2.2.1:Bool))
                (Tr.test ((!eqF (List.getD b0_1 (Int.toNat x2) ((0:Int),false,())).1 (0:Int):Bool))
                  (Tr.fin (.ret ((x2,((3:Int),())),((b0_0,(b0_1,())),()))))
                  (Tr.fin (.again ((x0,((wrap64 (x2 + (1:Int)):Int),())),((b0_0,(b0_1,())),())))))
                (Tr.fin (.ret ((x2,((3:Int),())),((b0_0,(b0_1,())),())))))
              (Tr.stop))
            (Tr.test ((decide ((0:Int) ≤ x2) && decide (x2 < (↑(List.length x0):Int)):Bool))
              (Tr.test (((List.getD x0 (Int.toNat x2) ((0:Int),(0:Int),false,())).2.2.1:Bool))
                (Tr.test ((!eqF (List.getD b0_1 (Int.toNat x2) ((0:Int),false,())).1 (0:Int):Bool))
                  (Tr.fin (.ret ((x2,((3:Int),())),((b0_0,(b0_1,())),()))))
                  (Tr.test (Option.isSome (f59 ((wrap64 (b0_0 - (List.getD b0_1 (Int.toNat x2) ((0:Int),false,())).1):Int),())))
                    (let r1:=g59 ((wrap64 (b0_0 - (List.getD b0_1 (Int.toNat x2) ((0:Int),false,())).1):Int),());
                    Tr.test ((!leF r1.1 (List.getD x0 (Int.toNat x2) ((0:Int),(0:Int),false,())).2.1:Bool))
                      (Tr.fin (.ret ((x2,((22:Int),())),((b0_0,(b0_1,())),()))))
                      (Tr.fin (.again ((x0,((wrap64 (x2 + (1:Int)):Int),())),((b0_0,(b0_1,())),())))))
                    (Tr.stop)))
                (Tr.test (Option.isSome (f59 ((wrap64 (b0_0 - (List.getD b0_1 (Int.toNat x2) ((0:Int),false,())).1):Int),())))
                  (let r1:=g59 ((wrap64 (b0_0 - (List.getD b0_1 (Int.toNat x2) ((0:Int),false,())).1):Int),());
                  Tr.test ((!leF r1.1 (List.getD x0 (Int.toNat x2) ((0:Int),(0:Int),false,())).2.1:Bool))
                    (Tr.fin (.ret ((x2,((22:Int),())),((b0_0,(b0_1,())),()))))
                    (Tr.fin (.again ((x0,((wrap64 (x2 + (1:Int)):Int),())),((b0_0,(b0_1,())),())))))
                  (Tr.stop)))
              (Tr.stop))))
        (Tr.stop))
      (Tr.stop))
    (Tr.fin (.brk ((),((b0_0,(b0_1,())),()))))
def s98_0 (d:sh98_0.data):Option (Out sh98_0.data shb98_0.data shr98_0.data):=(t98_0 d.1.1 d.1.2.1 d.2.1.1 d.2.1.2.1).val
def l98_0 (d:sh98_0.data):Option (shb98_0.data ⊕ shr98_0.data):=itr s98_0 rounds d
def b98_0 (d:sh98_0.data):shb98_0.data:=outB shb98_0.dflt (l98_0 d)
def r98_0 (d:sh98_0.data):shr98_0.data:=outR shr98_0.dflt (l98_0 d)
def lc98_0:LoopC:=lcOf sh98_0 shb98_0 shr98_0 l98_0 b98_0 r98_0
theorem wk98_0 (x0:(List (Int×(Int×(Bool×Unit))))) (x2:Int) (b0_0:Int) (b0_1:(List (Int×(Bool×Unit)))):Walks (qak (kf59 Proofs.Tryz.prog).orc Proofs.Tryz.prog 400 98 0 sh98_0 shb98_0 shr98_0 ((x0,x2,()),(b0_0,b0_1,()),())) (t98_0 x0 x2 b0_0 b0_1) [(bl 4 15,[2,4,6,8]),(bl 8 247,[1,2,2,2,2,2,5,4,5,4,4,4,5,5,5,6,5,5,5,8,8,8,8,6,8,8,8,10,12,14,16]),(bl 8 119,[0,9,9,9,9,9,9,9,9,9,9,9,9,9,2,2,8,2,8,8,8,2,2,2,5,4,5,4,4,4,5,5,5,6,5,5,5,8,8,8,8,6,8,8,8,10,12,14,16]),(bl 7 55,[1,1,1,1,1,1,3,3,3,3,3,3,3,3,6,6,6,6,4,6,6,6,8,10,12,14]),(bl 8 231,[1,2,2,2,2,2,0,4,0,4,4,4,0,0,0,6,0,0,0,8,8,8,8,8,8,8,10,12,14,16]),(bl 10 871,[2,13,13,13,13,10,13,13,13,4,13,13,13,13,13,13,0,6,12,6,12,12,12,6,6,6,0,8,0,8,8,8,0,0,0,10,0,0,0,12,12,12,12,12,12,12,14,16,18,20]),(bl 10 359,[2,13,13,13,13,10,13,13,13,4,13,13,13,13,13,13,0,6,12,6,12,12,12,6,6,6,0,8,0,8,8,8,0,0,0,10,0,0,0,12,12,12,12,12,12,12,14,16,18,20]),(bl 9 423,[2,11,11,11,11,8,11,11,11,4,11,11,11,11,11,11,0,0,10,0,10,10,10,0,0,0,0,6,0,6,6,6,0,0,0,8,0,0,0,10,10,10,10,10,10,10,12,14,16,18]),(bl 9 167,[2,11,11,11,11,8,11,11,11,4,11,11,11,11,11,11,0,0,10,0,10,10,10,0,0,0,0,6,0,6,6,6,0,0,0,8,0,0,0,10,10,10,10,10,10,10,12,14,16,18]),(bl 1 0,[2])] :=
  ⟨by kernel_rfl,by kernel_rfl,by kernel_rfl,by kernel_rfl,by kernel_rfl,by kernel_rfl,by kernel_rfl,by kernel_rfl,by kernel_rfl,by kernel_rfl,trivial⟩
theorem ok98_0_t (x0:(List (Int×(Int×(Bool×Unit))))) (x2:Int) (b0_0:Int) (b0_1:(List (Int×(Bool×Unit)))):TrOk (BodyRuns Proofs.Tryz.prog (kf59 Proofs.Tryz.prog).orc 98 0 sh98_0 shb98_0 shr98_0 ((x0,x2,()),(b0_0,b0_1,()),())) (t98_0 x0 x2 b0_0 b0_1) :=
  Walks.ok (fun _ _ _=>BodyRuns.of) (wk98_0 x0 x2 b0_0 b0_1) (by kernel_rfl)
theorem ok98_0:qaw Proofs.Tryz.prog 98 0 lc98_0:=qas (sh:=sh98_0) (shB:=shb98_0) (shR:=shr98_0) kf59_ok.base (T:=fun (d:sh98_0.data)=>t98_0 d.1.1 d.1.2.1 d.2.1.1 d.2.1.2.1) (by kernel_rfl) rfl (fun (d:sh98_0.data)=>ok98_0_t d.1.1 d.1.2.1 d.2.1.1 d.2.1.2.1) (fun _=>rfl)
def kl98_0 (P:Go.Program):Known:=(kf59 P).loop 98 0 lc98_0
theorem kl98_0_ok:KnownOk Proofs.Tryz.prog (kl98_0 Proofs.Tryz.prog):=kf59_ok.loop ok98_0
abbrev as98:List Ty:=[(.slice (.pair (.int .i64) (.pair (.int .i64) (.pair .bool .unit)))),(.pair (.int .i64) (.pair (.slice (.pair (.int .i64) (.pair .bool .unit))) .unit))]
abbrev rs98:List Ty:=[(.int .i64),(.int .i64)]
def t98 (x0:(List (Int×(Int×(Bool×Unit))))) (x1:Int) (x1':(List (Int×(Bool×Unit)))):Tr (Tys.data rs98) :=
  Tr.test (Option.isSome (f56 (x1,())))
    (let r0:=g56 (x1,());
    Tr.test ((!eqF r0.1 0:Bool))
      (Tr.fin (((0:Int),(r0.1,()))))
      (Tr.test ((!eqF (↑(List.length x1'):Int) (↑(List.length x0):Int):Bool))
        (Tr.fin (((0:Int),((10:Int),()))))
        (Tr.test (Option.isSome (l98_0 ((x0,((0:Int),())),((x1,(x1',())),()))))
          (Tr.test (qaA (l98_0 ((x0,((0:Int),())),((x1,(x1',())),()))))
            (let r1:=r98_0 ((x0,((0:Int),())),((x1,(x1',())),()));
            Tr.fin ((r1.1.1,(r1.1.2.1,()))))
            (Tr.fin (((0:Int),((0:Int),())))))
          (Tr.stop))))
    (Tr.stop)
def f98 (d:Tys.data as98):Option (Tys.data rs98):=(t98 d.1 d.2.1.1 d.2.1.2.1).val
def g98 (d:Tys.data as98):Tys.data rs98:=(f98 d).getD (Tys.dflt rs98)
def p98:PureC:=pcOf as98 rs98 f98 g98
theorem wk98 (x0:(List (Int×(Int×(Bool×Unit))))) (x1:Int) (x1':(List (Int×(Bool×Unit)))):Walks (runPure (kl98_0 Proofs.Tryz.prog).orc Proofs.Tryz.prog 400 98 as98 rs98 (x0,(x1,x1',()),())) (t98 x0 x1 x1') [(bl 2 3,[2,4]),(bl 3 5,[2,4,6]),(bl 5 25,[2,4,6,8,10]),(bl 5 9,[2,4,6,8,10])] :=
  ⟨by kernel_rfl,by kernel_rfl,by kernel_rfl,by kernel_rfl,trivial⟩
theorem ok98_t (x0:(List (Int×(Int×(Bool×Unit))))) (x1:Int) (x1':(List (Int×(Bool×Unit)))):TrOk (PureRuns Proofs.Tryz.prog (kl98_0 Proofs.Tryz.prog).orc 98 as98 rs98 (x0,(x1,x1',()),())) (t98 x0 x1 x1') :=
  Walks.ok (fun _ _ _=>PureRuns.of) (wk98 x0 x1 x1') (by kernel_rfl)
theorem ok98:PureOk Proofs.Tryz.prog 98 p98:=qab kl98_0_ok.base (T:=fun (d:Tys.data as98)=>t98 d.1 d.2.1.1 d.2.1.2.1) (by kernel_rfl) (fun (d:Tys.data as98)=>ok98_t d.1 d.2.1.1 d.2.1.2.1)
def kf98 (P:Go.Program):Known:=(kl98_0 P).func 98 p98
theorem kf98_ok:KnownOk Proofs.Tryz.prog (kf98 Proofs.Tryz.prog):=kl98_0_ok.func ok98
abbrev as57:List Ty:=[(.slice (.pair (.int .i64) (.pair (.int .i64) (.pair .bool .unit)))),(.pair (.int .i64) (.pair (.slice (.pair (.int .i64) (.pair .bool .unit))) .unit))]
abbrev rs57:List Ty:=[(.int .i64)]
def t57 (x0:(List (Int×(Int×(Bool×Unit))))) (x1:Int) (x1':(List (Int×(Bool×Unit)))):Tr (Tys.data rs57) :=
  Tr.test (Option.isSome (f98 (x0,((x1,(x1',())),()))))
    (let r0:=g98 (x0,((x1,(x1',())),()));
    Tr.fin ((r0.2.1,())))
    (Tr.stop)
def f57 (d:Tys.data as57):Option (Tys.data rs57):=(t57 d.1 d.2.1.1 d.2.1.2.1).val
def g57 (d:Tys.data as57):Tys.data rs57:=(f57 d).getD (Tys.dflt rs57)
def p57:PureC:=pcOf as57 rs57 f57 g57
theorem wk57 (x0:(List (Int×(Int×(Bool×Unit))))) (x1:Int) (x1':(List (Int×(Bool×Unit)))):Walks (runPure (kf98 Proofs.Tryz.prog).orc Proofs.Tryz.prog 400 57 as57 rs57 (x0,(x1,x1',()),())) (t57 x0 x1 x1') [(bl 1 1,[2])] :=
  ⟨by kernel_rfl,trivial⟩
theorem ok57_t (x0:(List (Int×(Int×(Bool×Unit))))) (x1:Int) (x1':(List (Int×(Bool×Unit)))):TrOk (PureRuns Proofs.Tryz.prog (kf98 Proofs.Tryz.prog).orc 57 as57 rs57 (x0,(x1,x1',()),())) (t57 x0 x1 x1') :=
  Walks.ok (fun _ _ _=>PureRuns.of) (wk57 x0 x1 x1') (by kernel_rfl)
theorem ok57:PureOk Proofs.Tryz.prog 57 p57:=qab kf98_ok.base (T:=fun (d:Tys.data as57)=>t57 d.1 d.2.1.1 d.2.1.2.1) (by kernel_rfl) (fun (d:Tys.data as57)=>ok57_t d.1 d.2.1.1 d.2.1.2.1)
def kf57 (P:Go.Program):Known:=(kf98 P).func 57 p57
theorem kf57_ok:KnownOk Proofs.Tryz.prog (kf57 Proofs.Tryz.prog):=kf98_ok.func ok57
abbrev as58:List Ty:=[(.slice (.int .i64)),(.int .i64)]
abbrev rs58:List Ty:=[(.int .i64)]
def t58 (x0:(List Int)) (x1:Int):Tr (Tys.data rs58) :=
  Tr.test ((eqF x1 0:Bool))
    (Tr.test (true && decide ((0:Int) < (↑(List.length x0):Int)))
      (Tr.fin (((List.getD x0 (0:Nat) (0:Int):Int),())))
      (Tr.stop))
    (Tr.test (decide ((0:Int) ≤ x1) && decide (x1 < (↑(List.length x0):Int)))
      (Tr.test ((decide ((0:Int) ≤ wrap64 (x1 - (1:Int))) && decide (wrap64 (x1 - (1:Int)) < (↑(List.length x0):Int)):Bool))
        (Tr.fin (((wrap64 (List.getD x0 (Int.toNat x1) (0:Int) - List.getD x0 (Int.toNat (wrap64 (x1 - (1:Int)))) (0:Int)):Int),())))
        (Tr.stop))
      (Tr.stop))
def f58 (d:Tys.data as58):Option (Tys.data rs58):=(t58 d.1 d.2.1).val
def g58 (d:Tys.data as58):Tys.data rs58:=(f58 d).getD (Tys.dflt rs58)
def p58:PureC:=pcOf as58 rs58 f58 g58
theorem wk58 (x0:(List Int)) (x1:Int):Walks (runPure (kf57 Proofs.Tryz.prog).orc Proofs.Tryz.prog 400 58 as58 rs58 (x0,x1,())) (t58 x0 x1) [(bl 2 3,[2,4]),(bl 3 6,[2,4,6])] :=
  ⟨by kernel_rfl,by kernel_rfl,trivial⟩
theorem ok58_t (x0:(List Int)) (x1:Int):TrOk (PureRuns Proofs.Tryz.prog (kf57 Proofs.Tryz.prog).orc 58 as58 rs58 (x0,x1,())) (t58 x0 x1) :=
  Walks.ok (fun _ _ _=>PureRuns.of) (wk58 x0 x1) (by kernel_rfl)
theorem ok58:PureOk Proofs.Tryz.prog 58 p58:=qab kf57_ok.base (T:=fun (d:Tys.data as58)=>t58 d.1 d.2.1) (by kernel_rfl) (fun (d:Tys.data as58)=>ok58_t d.1 d.2.1)
def kf58 (P:Go.Program):Known:=(kf57 P).func 58 p58
theorem kf58_ok:KnownOk Proofs.Tryz.prog (kf58 Proofs.Tryz.prog):=kf57_ok.func ok58
abbrev sh13_0:Sh:={ n:=94,slots:=[2,3,6,7],pats:=[.ptr 0 1 0,.ptr 1 3 0,.ty (.int .i64),.ty (.int .i64)],boxes:=[.row [.ty (.slice (.pair (.int .i64) (.pair (.int .i64) (.pair (.slice (.pair (.int .i64) (.pair (.int .i64) (.pair .bool .unit)))) .unit))))],.row [.ty (.slice (.int .i64)),.ty (.slice (.int .i64)),.ty (.slice (.pair (.int .i64) (.pair (.slice (.pair (.int .i64) (.pair .bool .unit))) .unit)))]] }
abbrev shb13_0:Sh:={ n:=94,slots:=[],pats:=[],boxes:=[.row [.ty (.slice (.pair (.int .i64) (.pair (.int .i64) (.pair (.slice (.pair (.int .i64) (.pair (.int .i64) (.pair .bool .unit)))) .unit))))],.row [.ty (.slice (.int .i64)),.ty (.slice (.int .i64)),.ty (.slice (.pair (.int .i64) (.pair (.slice (.pair (.int .i64) (.pair .bool .unit))) .unit)))]] }
abbrev shr13_0:Sh:={ n:=94,slots:=[4,5],pats:=[.ty (.int .i64),.ty (.int .i64)],boxes:=[.row [.ty (.slice (.pair (.int .i64) (.pair (.int .i64) (.pair (.slice (.pair (.int .i64) (.pair (.int .i64) (.pair .bool .unit)))) .unit))))],.row [.ty (.slice (.int .i64)),.ty (.slice (.int .i64)),.ty (.slice (.pair (.int .i64) (.pair (.slice (.pair (.int .i64) (.pair .bool .unit))) .unit)))]] }
def t13_0 (x2:Int) (x3:Int) (b0_0:(List (Int×(Int×((List (Int×(Int×(Bool×Unit))))×Unit))))) (b1_0:(List Int)) (b1_1:(List Int)) (b1_2:(List (Int×((List (Int×(Bool×Unit)))×Unit)))):Tr (Out sh13_0.data shb13_0.data shr13_0.data) :=
  Tr.test ((!leF x2 x3:Bool))
    (Tr.test (decide ((0:Int) ≤ x3) && decide (x3 < (↑(List.length b1_0):Int)))
      (Tr.test (Option.isSome (f56 ((List.getD b1_0 (Int.toNat x3) (0:Int):Int),())))
        (let r0:=g56 ((List.getD b1_0 (Int.toNat x3) (0:Int):Int),());
        Tr.test ((!eqF r0.1 0:Bool))
          (Tr.fin (.ret ((x3,((2:Int),())),((b0_0,()),((b1_0,(b1_1,(b1_2,()))),())))))
          (Tr.test ((decide ((0:Int) ≤ x3) && decide (x3 < (↑(List.length b1_1):Int)):Bool))
            (Tr.test (Option.isSome (f56 ((List.getD b1_1 (Int.toNat x3) (0:Int):Int),())))
              (let r1:=g56 ((List.getD b1_1 (Int.toNat x3) (0:Int):Int),());
              Tr.test ((!eqF r1.1 0:Bool))
                (Tr.fin (.ret ((x3,((2:Int),())),((b0_0,()),((b1_0,(b1_1,(b1_2,()))),())))))
                (Tr.test ((decide ((0:Int) ≤ x3) && decide (x3 < (↑(List.length b0_0):Int)):Bool))
                  (Tr.test ((decide ((0:Int) ≤ x3) && decide (x3 < (↑(List.length b1_2):Int)):Bool))
                    (Tr.test (Option.isSome (f57 (((List.getD b0_0 (Int.toNat x3) ((0:Int),(0:Int),[],())).2.2.1:List (Int×Int×Bool×PUnit)),((((List.getD b1_2 (Int.toNat x3) ((0:Int),[],())).1:Int),(((List.getD b1_2 (Int.toNat x3) ((0:Int),[],())).2.1:List (Int×Bool×PUnit)),())),()))))
                      (let r2:=g57 (((List.getD b0_0 (Int.toNat x3) ((0:Int),(0:Int),[],())).2.2.1:List (Int×Int×Bool×PUnit)),((((List.getD b1_2 (Int.toNat x3) ((0:Int),[],())).1:Int),(((List.getD b1_2 (Int.toNat x3) ((0:Int),[],())).2.1:List (Int×Bool×PUnit)),())),()));
                      Tr.test ((!eqF r2.1 0:Bool))
                        (Tr.fin (.ret ((x3,(r2.1,())),((b0_0,()),((b1_0,(b1_1,(b1_2,()))),())))))
                        (Tr.test (Option.isSome (f58 (b1_0,(x3,()))))
                          (let r3:=g58 (b1_0,(x3,()));
                          Tr.test ((!eqF (List.getD b1_2 (Int.toNat x3) ((0:Int),[],())).1 r3.1:Bool))
                            (Tr.fin (.ret ((x3,((13:Int),())),((b0_0,()),((b1_0,(b1_1,(b1_2,()))),())))))
                            (Tr.test (Option.isSome (f59 (r3.1,())))
                              (let r4:=g59 (r3.1,());
                              Tr.test ((!leF r4.1 (List.getD b0_0 (Int.toNat x3) ((0:Int),(0:Int),[],())).2.1:Bool))
                                (Tr.fin (.ret ((x3,((22:Int),())),((b0_0,()),((b1_0,(b1_1,(b1_2,()))),())))))
                                (Tr.fin (.again ((x2,((wrap64 (x3 + (1:Int)):Int),())),((b0_0,()),((b1_0,(b1_1,(b1_2,()))),()))))))
                              (Tr.stop)))
                          (Tr.stop)))
                      (Tr.stop))
                    (Tr.stop))
                  (Tr.stop)))
              (Tr.stop))
            (Tr.stop)))
        (Tr.stop))
      (Tr.stop))
    (Tr.fin (.brk ((),((b0_0,()),((b1_0,(b1_1,(b1_2,()))),())))))
def s13_0 (d:sh13_0.data):Option (Out sh13_0.data shb13_0.data shr13_0.data):=(t13_0 d.1.1 d.1.2.1 d.2.1.1 d.2.2.1.1 d.2.2.1.2.1 d.2.2.1.2.2.1).val
def l13_0 (d:sh13_0.data):Option (shb13_0.data ⊕ shr13_0.data):=itr s13_0 rounds d
def b13_0 (d:sh13_0.data):shb13_0.data:=outB shb13_0.dflt (l13_0 d)
def r13_0 (d:sh13_0.data):shr13_0.data:=outR shr13_0.dflt (l13_0 d)
def lc13_0:LoopC:=lcOf sh13_0 shb13_0 shr13_0 l13_0 b13_0 r13_0
theorem wk13_0 (x2:Int) (x3:Int) (b0_0:(List (Int×(Int×((List (Int×(Int×(Bool×Unit))))×Unit))))) (b1_0:(List Int)) (b1_1:(List Int)) (b1_2:(List (Int×((List (Int×(Bool×Unit)))×Unit)))):Walks (qak (kf58 Proofs.Tryz.prog).orc Proofs.Tryz.prog 400 13 0 sh13_0 shb13_0 shr13_0 ((x2,x3,()),(b0_0,()),(b1_0,b1_1,b1_2,()),())) (t13_0 x2 x3 b0_0 b1_0 b1_1 b1_2) [(bl 4 15,[1,2,2,2,2,2,2,2,2,4,6,8]),(bl 7 119,[2,8,8,4,8,8,6,8,8,8,8,10,12,14]),(bl 11 1975,[2,4,6,8,10,16,16,12,16,16,14,16,16,16,16,18,20,22]),(bl 13 7095,[2,4,10,6,8,10,12,14,20,20,16,20,20,18,20,20,20,20,22,24,26]),(bl 15 27575,[2,16,4,8,6,8,14,10,12,14,16,18,24,24,20,24,24,22,24,24,24,24,26,28,30]),(bl 15 11191,[2,16,4,8,6,8,14,10,12,14,16,18,24,24,20,24,24,22,24,24,24,24,26,28,30]),(bl 1 0,[2])] :=
  ⟨by kernel_rfl,by kernel_rfl,by kernel_rfl,by kernel_rfl,by kernel_rfl,by kernel_rfl,by kernel_rfl,trivial⟩
theorem ok13_0_t (x2:Int) (x3:Int) (b0_0:(List (Int×(Int×((List (Int×(Int×(Bool×Unit))))×Unit))))) (b1_0:(List Int)) (b1_1:(List Int)) (b1_2:(List (Int×((List (Int×(Bool×Unit)))×Unit)))):TrOk (BodyRuns Proofs.Tryz.prog (kf58 Proofs.Tryz.prog).orc 13 0 sh13_0 shb13_0 shr13_0 ((x2,x3,()),(b0_0,()),(b1_0,b1_1,b1_2,()),())) (t13_0 x2 x3 b0_0 b1_0 b1_1 b1_2) :=
  Walks.ok (fun _ _ _=>BodyRuns.of) (wk13_0 x2 x3 b0_0 b1_0 b1_1 b1_2) (by kernel_rfl)
theorem ok13_0:qaw Proofs.Tryz.prog 13 0 lc13_0:=qas (sh:=sh13_0) (shB:=shb13_0) (shR:=shr13_0) kf58_ok.base (T:=fun (d:sh13_0.data)=>t13_0 d.1.1 d.1.2.1 d.2.1.1 d.2.2.1.1 d.2.2.1.2.1 d.2.2.1.2.2.1) (by kernel_rfl) rfl (fun (d:sh13_0.data)=>ok13_0_t d.1.1 d.1.2.1 d.2.1.1 d.2.2.1.1 d.2.2.1.2.1 d.2.2.1.2.2.1) (fun _=>rfl)
def kl13_0 (P:Go.Program):Known:=(kf58 P).loop 13 0 lc13_0
theorem kl13_0_ok:KnownOk Proofs.Tryz.prog (kl13_0 Proofs.Tryz.prog):=kf58_ok.loop ok13_0
abbrev as13:List Ty:=[(.pair (.slice (.pair (.int .i64) (.pair (.int .i64) (.pair (.slice (.pair (.int .i64) (.pair (.int .i64) (.pair .bool .unit)))) .unit)))) .unit),(.pair (.slice (.int .i64)) (.pair (.slice (.int .i64)) (.pair (.slice (.pair (.int .i64) (.pair (.slice (.pair (.int .i64) (.pair .bool .unit))) .unit))) .unit)))]
abbrev rs13:List Ty:=[(.int .i64),(.int .i64)]
def t13 (x0:(List (Int×(Int×((List (Int×(Int×(Bool×Unit))))×Unit))))) (x1:(List Int)) (x1':(List Int)) (x1'':(List (Int×((List (Int×(Bool×Unit)))×Unit)))):Tr (Tys.data rs13) :=
  Tr.test ((!eqF (↑(List.length x1):Int) (↑(List.length x0):Int):Bool))
    (Tr.fin (((0:Int),((10:Int),()))))
    (Tr.test (!eqF (↑(List.length x1'):Int) (↑(List.length x0):Int))
      (Tr.fin (((0:Int),((10:Int),()))))
      (Tr.test ((!eqF (↑(List.length x1''):Int) (↑(List.length x0):Int):Bool))
        (Tr.fin (((0:Int),((10:Int),()))))
        (Tr.test (Option.isSome (l13_0 (((↑(List.length x0):Int),((0:Int),())),((x0,()),((x1,(x1',(x1'',()))),())))))
          (Tr.test (qaA (l13_0 (((↑(List.length x0):Int),((0:Int),())),((x0,()),((x1,(x1',(x1'',()))),())))))
            (let r0:=r13_0 (((↑(List.length x0):Int),((0:Int),())),((x0,()),((x1,(x1',(x1'',()))),())));
            Tr.fin ((r0.1.1,(r0.1.2.1,()))))
            (Tr.fin (((0:Int),((0:Int),())))))
          (Tr.stop))))
def f13 (d:Tys.data as13):Option (Tys.data rs13):=(t13 d.1.1 d.2.1.1 d.2.1.2.1 d.2.1.2.2.1).val
def g13 (d:Tys.data as13):Tys.data rs13:=(f13 d).getD (Tys.dflt rs13)
def p13:PureC:=pcOf as13 rs13 f13 g13
theorem wk13 (x0:(List (Int×(Int×((List (Int×(Int×(Bool×Unit))))×Unit))))) (x1:(List Int)) (x1':(List Int)) (x1'':(List (Int×((List (Int×(Bool×Unit)))×Unit)))):Walks (runPure (kl13_0 Proofs.Tryz.prog).orc Proofs.Tryz.prog 400 13 as13 rs13 ((x0,()),(x1,x1',x1'',()),())) (t13 x0 x1 x1' x1'') [(bl 1 1,[1,1,1,1,1,1,1,2,2,2,2,2,2]),(bl 2 2,[1,2,2,2,2,2,2,4,4,4,4,4,4]),(bl 3 4,[2,4,4,4,4,4,4,6,6,6,6,6,6]),(bl 5 24,[2,4,6,8,8,8,8,8,8,10,10,10,10,10,10]),(bl 5 8,[2,4,6,8,8,8,8,8,8,10,10,10,10,10,10])] :=
  ⟨by kernel_rfl,by kernel_rfl,by kernel_rfl,by kernel_rfl,by kernel_rfl,trivial⟩
theorem ok13_t (x0:(List (Int×(Int×((List (Int×(Int×(Bool×Unit))))×Unit))))) (x1:(List Int)) (x1':(List Int)) (x1'':(List (Int×((List (Int×(Bool×Unit)))×Unit)))):TrOk (PureRuns Proofs.Tryz.prog (kl13_0 Proofs.Tryz.prog).orc 13 as13 rs13 ((x0,()),(x1,x1',x1'',()),())) (t13 x0 x1 x1' x1'') :=
  Walks.ok (fun _ _ _=>PureRuns.of) (wk13 x0 x1 x1' x1'') (by kernel_rfl)
theorem ok13:PureOk Proofs.Tryz.prog 13 p13:=qab kl13_0_ok.base (T:=fun (d:Tys.data as13)=>t13 d.1.1 d.2.1.1 d.2.1.2.1 d.2.1.2.2.1) (by kernel_rfl) (fun (d:Tys.data as13)=>ok13_t d.1.1 d.2.1.1 d.2.1.2.1 d.2.1.2.2.1)
def kf13 (P:Go.Program):Known:=(kl13_0 P).func 13 p13
theorem kf13_ok:KnownOk Proofs.Tryz.prog (kf13 Proofs.Tryz.prog):=kl13_0_ok.func ok13
abbrev as22:List Ty:=[(.pair (.slice (.pair (.int .i64) (.pair (.int .i64) (.pair (.slice (.pair (.int .i64) (.pair (.int .i64) (.pair .bool .unit)))) .unit)))) .unit),(.pair (.slice (.int .i64)) (.pair (.slice (.int .i64)) (.pair (.slice (.pair (.int .i64) (.pair (.slice (.pair (.int .i64) (.pair .bool .unit))) .unit))) .unit)))]
abbrev rs22:List Ty:=[(.int .i64)]
def t22 (x0:(List (Int×(Int×((List (Int×(Int×(Bool×Unit))))×Unit))))) (x1:(List Int)) (x1':(List Int)) (x1'':(List (Int×((List (Int×(Bool×Unit)))×Unit)))):Tr (Tys.data rs22) :=
  Tr.test (Option.isSome (f13 ((x0,()),((x1,(x1',(x1'',()))),()))))
    (let r0:=g13 ((x0,()),((x1,(x1',(x1'',()))),()));
    Tr.fin ((r0.2.1,())))
    (Tr.stop)
def f22 (d:Tys.data as22):Option (Tys.data rs22):=(t22 d.1.1 d.2.1.1 d.2.1.2.1 d.2.1.2.2.1).val
def g22 (d:Tys.data as22):Tys.data rs22:=(f22 d).getD (Tys.dflt rs22)
def p22:PureC:=pcOf as22 rs22 f22 g22
theorem wk22 (x0:(List (Int×(Int×((List (Int×(Int×(Bool×Unit))))×Unit))))) (x1:(List Int)) (x1':(List Int)) (x1'':(List (Int×((List (Int×(Bool×Unit)))×Unit)))):Walks (runPure (kf13 Proofs.Tryz.prog).orc Proofs.Tryz.prog 400 22 as22 rs22 ((x0,()),(x1,x1',x1'',()),())) (t22 x0 x1 x1' x1'') [(bl 1 1,[2])] :=
  ⟨by kernel_rfl,trivial⟩
theorem ok22_t (x0:(List (Int×(Int×((List (Int×(Int×(Bool×Unit))))×Unit))))) (x1:(List Int)) (x1':(List Int)) (x1'':(List (Int×((List (Int×(Bool×Unit)))×Unit)))):TrOk (PureRuns Proofs.Tryz.prog (kf13 Proofs.Tryz.prog).orc 22 as22 rs22 ((x0,()),(x1,x1',x1'',()),())) (t22 x0 x1 x1' x1'') :=
  Walks.ok (fun _ _ _=>PureRuns.of) (wk22 x0 x1 x1' x1'') (by kernel_rfl)
theorem ok22:PureOk Proofs.Tryz.prog 22 p22:=qab kf13_ok.base (T:=fun (d:Tys.data as22)=>t22 d.1.1 d.2.1.1 d.2.1.2.1 d.2.1.2.2.1) (by kernel_rfl) (fun (d:Tys.data as22)=>ok22_t d.1.1 d.2.1.1 d.2.1.2.1 d.2.1.2.2.1)
def kf22 (P:Go.Program):Known:=(kf13 P).func 22 p22
theorem kf22_ok:KnownOk Proofs.Tryz.prog (kf22 Proofs.Tryz.prog):=kf13_ok.func ok22
abbrev as26:List Ty:=[(.pair (.int .i64) (.pair (.slice (.pair (.int .i64) (.pair .bool .unit))) .unit))]
abbrev rs26:List Ty:=[(.pair (.int .i64) (.pair (.slice (.pair (.int .i64) (.pair .bool .unit))) .unit))]
def t26 (x0:Int) (x0':(List (Int×(Bool×Unit)))):Tr (Tys.data rs26) :=
  Tr.test ((Nat.ble (((2:Nat) * ((0:Nat) + List.length x0') + (192:Nat)) * (16:Nat)) (281474976710656:Nat) && Nat.ble ((0:Nat) + List.length x0') (281474976710656:Nat):Bool))
    (Tr.fin (((x0,(([]++x0':List (Int×Bool×PUnit)),())),())))
    (Tr.test (Nat.ble ((0:Nat) + List.length x0') (0:Nat))
      (Tr.stop)
      (Tr.stop))
def f26 (d:Tys.data as26):Option (Tys.data rs26):=(t26 d.1.1 d.1.2.1).val
def g26 (d:Tys.data as26):Tys.data rs26:=(f26 d).getD (Tys.dflt rs26)
def p26:PureC:=pcOf as26 rs26 f26 g26
theorem wk26 (x0:Int) (x0':(List (Int×(Bool×Unit)))):Walks (runPure (kf22 Proofs.Tryz.prog).orc Proofs.Tryz.prog 400 26 as26 rs26 ((x0,x0',()),())) (t26 x0 x0') [(bl 1 1,[2])] :=
  ⟨by kernel_rfl,trivial⟩
theorem ok26_t (x0:Int) (x0':(List (Int×(Bool×Unit)))):TrOk (PureRuns Proofs.Tryz.prog (kf22 Proofs.Tryz.prog).orc 26 as26 rs26 ((x0,x0',()),())) (t26 x0 x0') :=
  Walks.ok (fun _ _ _=>PureRuns.of) (wk26 x0 x0') (by kernel_rfl)
theorem ok26:PureOk Proofs.Tryz.prog 26 p26:=qab kf22_ok.base (T:=fun (d:Tys.data as26)=>t26 d.1.1 d.1.2.1) (by kernel_rfl) (fun (d:Tys.data as26)=>ok26_t d.1.1 d.1.2.1)
def kf26 (P:Go.Program):Known:=(kf22 P).func 26 p26
theorem kf26_ok:KnownOk Proofs.Tryz.prog (kf26 Proofs.Tryz.prog):=kf22_ok.func ok26
abbrev sh9_0:Sh:={ n:=31,slots:=[1,2,3,4],pats:=[.ptr 0 3 0,.ptr 1 3 0,.ptr 2 3 0,.ty (.int .i64)],boxes:=[.row [.ty (.slice (.int .i64)),.ty (.slice (.int .i64)),.ty (.slice (.pair (.int .i64) (.pair (.slice (.pair (.int .i64) (.pair .bool .unit))) .unit)))],.row [.nil,.nil,.nil],.row [.acc (.int .i64),.acc (.int .i64),.acc (.pair (.int .i64) (.pair (.slice (.pair (.int .i64) (.pair .bool .unit))) .unit))]] }
abbrev shb9_0:Sh:={ n:=31,slots:=[2,3],pats:=[.ptr 1 3 0,.ptr 2 3 0],boxes:=[.row [.ty (.slice (.int .i64)),.ty (.slice (.int .i64)),.ty (.slice (.pair (.int .i64) (.pair (.slice (.pair (.int .i64) (.pair .bool .unit))) .unit)))],.row [.nil,.nil,.nil],.row [.acc (.int .i64),.acc (.int .i64),.acc (.pair (.int .i64) (.pair (.slice (.pair (.int .i64) (.pair .bool .unit))) .unit))]] }
abbrev shr9_0:Sh:={ n:=31,slots:=[],pats:=[],boxes:=[.row [.ty (.slice (.int .i64)),.ty (.slice (.int .i64)),.ty (.slice (.pair (.int .i64) (.pair (.slice (.pair (.int .i64) (.pair .bool .unit))) .unit)))],.row [.nil,.nil,.nil],.row [.acc (.int .i64),.acc (.int .i64),.acc (.pair (.int .i64) (.pair (.slice (.pair (.int .i64) (.pair .bool .unit))) .unit))]] }
def t9_0 (x3:Int) (b0_0:(List Int)) (b0_1:(List Int)) (b0_2:(List (Int×((List (Int×(Bool×Unit)))×Unit)))) (b2_0:(List Int)) (b2_1:(List Int)) (b2_2:(List (Int×((List (Int×(Bool×Unit)))×Unit)))):Tr (Out sh9_0.data shb9_0.data shr9_0.data) :=
  Tr.test ((!leF (↑(List.length b0_2):Int) x3:Bool))
    (Tr.test (decide ((0:Int) ≤ x3) && decide (x3 < (↑(List.length b0_2):Int)))
      (Tr.test (Option.isSome (f26 ((((List.getD b0_2 (Int.toNat x3) ((0:Int),[],())).1:Int),(((List.getD b0_2 (Int.toNat x3) ((0:Int),[],())).2.1:List (Int×Bool×PUnit)),())),())))
        (Tr.test ((Nat.ble (((2:Nat) * (List.length b2_2 + (1:Nat)) + (192:Nat)) * (32:Nat)) (281474976710656:Nat) && Nat.ble (List.length b2_2 + (1:Nat)) (281474976710656:Nat):Bool))
          (let r0:=g26 ((((List.getD b0_2 (Int.toNat x3) ((0:Int),[],())).1:Int),(((List.getD b0_2 (Int.toNat x3) ((0:Int),[],())).2.1:List (Int×Bool×PUnit)),())),());
          Tr.fin (.again (((wrap64 (x3 + (1:Int)):Int),()),((b0_0,(b0_1,(b0_2,()))),((),((b2_0,(b2_1,((b2_2++[(r0.1.1,r0.1.2.1,())]:List (Int×List (Int×Bool×PUnit)×PUnit)),()))),()))))))
          (Tr.stop))
        (Tr.stop))
      (Tr.stop))
    (Tr.fin (.brk ((),((b0_0,(b0_1,(b0_2,()))),((),((b2_0,(b2_1,(b2_2,()))),()))))))
def s9_0 (d:sh9_0.data):Option (Out sh9_0.data shb9_0.data shr9_0.data):=(t9_0 d.1.1 d.2.1.1 d.2.1.2.1 d.2.1.2.2.1 d.2.2.2.1.1 d.2.2.2.1.2.1 d.2.2.2.1.2.2.1).val
def l9_0 (d:sh9_0.data):Option (shb9_0.data ⊕ shr9_0.data):=itr s9_0 rounds d
def b9_0 (d:sh9_0.data):shb9_0.data:=outB shb9_0.dflt (l9_0 d)
def lc9_0:LoopC:=lcB sh9_0 shb9_0 shr9_0 l9_0 b9_0
theorem wk9_0 (x3:Int) (b0_0:(List Int)) (b0_1:(List Int)) (b0_2:(List (Int×((List (Int×(Bool×Unit)))×Unit)))) (b2_0:(List Int)) (b2_1:(List Int)) (b2_2:(List (Int×((List (Int×(Bool×Unit)))×Unit)))):Walks (qak (kf26 Proofs.Tryz.prog).orc Proofs.Tryz.prog 400 9 0 sh9_0 shb9_0 shr9_0 ((x3,()),(b0_0,b0_1,b0_2,()),(),(b2_0,b2_1,b2_2,()),())) (t9_0 x3 b0_0 b0_1 b0_2 b2_0 b2_1 b2_2) [(bl 4 15,[2,4,6,8]),(bl 1 0,[2])] :=
  ⟨by kernel_rfl,by kernel_rfl,trivial⟩
theorem ok9_0_t (x3:Int) (b0_0:(List Int)) (b0_1:(List Int)) (b0_2:(List (Int×((List (Int×(Bool×Unit)))×Unit)))) (b2_0:(List Int)) (b2_1:(List Int)) (b2_2:(List (Int×((List (Int×(Bool×Unit)))×Unit)))):TrOk (BodyRuns Proofs.Tryz.prog (kf26 Proofs.Tryz.prog).orc 9 0 sh9_0 shb9_0 shr9_0 ((x3,()),(b0_0,b0_1,b0_2,()),(),(b2_0,b2_1,b2_2,()),())) (t9_0 x3 b0_0 b0_1 b0_2 b2_0 b2_1 b2_2) :=
  Walks.ok (fun _ _ _=>BodyRuns.of) (wk9_0 x3 b0_0 b0_1 b0_2 b2_0 b2_1 b2_2) (by kernel_rfl)
theorem ok9_0:qaw Proofs.Tryz.prog 9 0 lc9_0:=qaZ (sh:=sh9_0) (shB:=shb9_0) (shR:=shr9_0) kf26_ok.base (T:=fun (d:sh9_0.data)=>t9_0 d.1.1 d.2.1.1 d.2.1.2.1 d.2.1.2.2.1 d.2.2.2.1.1 d.2.2.2.1.2.1 d.2.2.2.1.2.2.1) (by kernel_rfl) rfl (fun (d:sh9_0.data)=>ok9_0_t d.1.1 d.2.1.1 d.2.1.2.1 d.2.1.2.2.1 d.2.2.2.1.1 d.2.2.2.1.2.1 d.2.2.2.1.2.2.1) (fun _=>rfl)
def kl9_0 (P:Go.Program):Known:=(kf26 P).loop 9 0 lc9_0
theorem kl9_0_ok:KnownOk Proofs.Tryz.prog (kl9_0 Proofs.Tryz.prog):=kf26_ok.loop ok9_0
abbrev as9:List Ty:=[(.pair (.slice (.int .i64)) (.pair (.slice (.int .i64)) (.pair (.slice (.pair (.int .i64) (.pair (.slice (.pair (.int .i64) (.pair .bool .unit))) .unit))) .unit)))]
abbrev rs9:List Ty:=[(.pair (.slice (.int .i64)) (.pair (.slice (.int .i64)) (.pair (.slice (.pair (.int .i64) (.pair (.slice (.pair (.int .i64) (.pair .bool .unit))) .unit))) .unit)))]
def t9 (x0:(List Int)) (x0':(List Int)) (x0'':(List (Int×((List (Int×(Bool×Unit)))×Unit)))):Tr (Tys.data rs9) :=
  Tr.test ((Nat.ble (((2:Nat) * ((0:Nat) + List.length x0) + (192:Nat)) * (8:Nat)) (281474976710656:Nat) && Nat.ble ((0:Nat) + List.length x0) (281474976710656:Nat):Bool))
    (Tr.test (Nat.ble (((2:Nat) * ((0:Nat) + List.length x0') + (192:Nat)) * (8:Nat)) (281474976710656:Nat) && Nat.ble ((0:Nat) + List.length x0') (281474976710656:Nat))
      (Tr.test (qbI (l9_0 (((0:Int),()),((x0,(x0',(x0'',()))),((),((([]++x0:List Int),(([]++x0':List Int),(([]:List (Int×List (Int×Bool×PUnit)×PUnit)),()))),()))))))
        (let r0:=b9_0 (((0:Int),()),((x0,(x0',(x0'',()))),((),((([]++x0:List Int),(([]++x0':List Int),(([]:List (Int×List (Int×Bool×PUnit)×PUnit)),()))),()))));
        Tr.fin (((r0.2.2.2.1.1,(r0.2.2.2.1.2.1,((r0.2.2.2.1.2.2.1:List (Int×List (Int×Bool×PUnit)×PUnit)),()))),())))
        (Tr.stop))
      (Tr.test ((Nat.ble ((0:Nat) + List.length x0') (0:Nat):Bool))
        (Tr.stop)
        (Tr.stop)))
    (Tr.test (Nat.ble ((0:Nat) + List.length x0) (0:Nat))
      (Tr.stop)
      (Tr.stop))
def f9 (d:Tys.data as9):Option (Tys.data rs9):=(t9 d.1.1 d.1.2.1 d.1.2.2.1).val
def g9 (d:Tys.data as9):Tys.data rs9:=(f9 d).getD (Tys.dflt rs9)
def p9:PureC:=pcOf as9 rs9 f9 g9
theorem wk9 (x0:(List Int)) (x0':(List Int)) (x0'':(List (Int×((List (Int×(Bool×Unit)))×Unit)))):Walks (runPure (kl9_0 Proofs.Tryz.prog).orc Proofs.Tryz.prog 400 9 as9 rs9 ((x0,x0',x0'',()),())) (t9 x0 x0' x0'') [(bl 3 7,[1,2,4,6])] :=
  ⟨by kernel_rfl,trivial⟩
theorem ok9_t (x0:(List Int)) (x0':(List Int)) (x0'':(List (Int×((List (Int×(Bool×Unit)))×Unit)))):TrOk (PureRuns Proofs.Tryz.prog (kl9_0 Proofs.Tryz.prog).orc 9 as9 rs9 ((x0,x0',x0'',()),())) (t9 x0 x0' x0'') :=
  Walks.ok (fun _ _ _=>PureRuns.of) (wk9 x0 x0' x0'') (by kernel_rfl)
theorem ok9:PureOk Proofs.Tryz.prog 9 p9:=qab kl9_0_ok.base (T:=fun (d:Tys.data as9)=>t9 d.1.1 d.1.2.1 d.1.2.2.1) (by kernel_rfl) (fun (d:Tys.data as9)=>ok9_t d.1.1 d.1.2.1 d.1.2.2.1)
def kf9 (P:Go.Program):Known:=(kl9_0 P).func 9 p9
theorem kf9_ok:KnownOk Proofs.Tryz.prog (kf9 Proofs.Tryz.prog):=kl9_0_ok.func ok9
abbrev as46:List Ty:=[(.int .i64)]
abbrev rs46:List Ty:=[(.int .i64)]
def t46 (x0:Int):Tr (Tys.data rs46) :=
  Tr.test (Option.isSome (f42 ((100:Int),(([x0]:List Int),()))))
    (let r0:=g42 ((100:Int),(([x0]:List Int),()));
    Tr.fin ((r0.1,())))
    (Tr.stop)
def f46 (d:Tys.data as46):Option (Tys.data rs46):=(t46 d.1).val
def g46 (d:Tys.data as46):Tys.data rs46:=(f46 d).getD (Tys.dflt rs46)
def p46:PureC:=pcOf as46 rs46 f46 g46
theorem wk46 (x0:Int):Walks (runPure (kf9 Proofs.Tryz.prog).orc Proofs.Tryz.prog 400 46 as46 rs46 (x0,())) (t46 x0) [(bl 1 1,[2])] :=
  ⟨by kernel_rfl,trivial⟩
theorem ok46_t (x0:Int):TrOk (PureRuns Proofs.Tryz.prog (kf9 Proofs.Tryz.prog).orc 46 as46 rs46 (x0,())) (t46 x0) :=
  Walks.ok (fun _ _ _=>PureRuns.of) (wk46 x0) (by kernel_rfl)
theorem ok46:PureOk Proofs.Tryz.prog 46 p46:=qab kf9_ok.base (T:=fun (d:Tys.data as46)=>t46 d.1) (by kernel_rfl) (fun (d:Tys.data as46)=>ok46_t d.1)
def kf46 (P:Go.Program):Known:=(kf9 P).func 46 p46
theorem kf46_ok:KnownOk Proofs.Tryz.prog (kf46 Proofs.Tryz.prog):=kf9_ok.func ok46
abbrev as73:List Ty:=[(.int .i64)]
abbrev rs73:List Ty:=[(.int .i64)]
def t73 (x0:Int):Tr (Tys.data rs73) :=
  Tr.test (Option.isSome (f42 ((10000:Int),(([x0]:List Int),()))))
    (let r0:=g42 ((10000:Int),(([x0]:List Int),()));
    Tr.fin ((r0.1,())))
    (Tr.stop)
def f73 (d:Tys.data as73):Option (Tys.data rs73):=(t73 d.1).val
def g73 (d:Tys.data as73):Tys.data rs73:=(f73 d).getD (Tys.dflt rs73)
def p73:PureC:=pcOf as73 rs73 f73 g73
theorem wk73 (x0:Int):Walks (runPure (kf46 Proofs.Tryz.prog).orc Proofs.Tryz.prog 400 73 as73 rs73 (x0,())) (t73 x0) [(bl 1 1,[2])] :=
  ⟨by kernel_rfl,trivial⟩
theorem ok73_t (x0:Int):TrOk (PureRuns Proofs.Tryz.prog (kf46 Proofs.Tryz.prog).orc 73 as73 rs73 (x0,())) (t73 x0) :=
  Walks.ok (fun _ _ _=>PureRuns.of) (wk73 x0) (by kernel_rfl)
theorem ok73:PureOk Proofs.Tryz.prog 73 p73:=qab kf46_ok.base (T:=fun (d:Tys.data as73)=>t73 d.1) (by kernel_rfl) (fun (d:Tys.data as73)=>ok73_t d.1)
def kf73 (P:Go.Program):Known:=(kf46 P).func 73 p73
theorem kf73_ok:KnownOk Proofs.Tryz.prog (kf73 Proofs.Tryz.prog):=kf46_ok.func ok73
end Go.Vm.Mo
