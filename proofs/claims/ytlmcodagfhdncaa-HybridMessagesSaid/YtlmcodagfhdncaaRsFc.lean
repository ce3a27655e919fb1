import Derived.Test.YtlmcodagfhdncaaA4
import Derived.KernelRfl
import Derived.Test.YtlmcodagfhdncaaProg
import Derived.Test.YtlmcodagfhdncaaRsFb
set_option linter.unusedVariables false
set_option linter.unusedSimpArgs false

namespace Go.Vm.Mo
open Go
set_option linter.unusedVariables false

/-! ductility/hybrid.HeldAt -/

abbrev as43:List Ty:=[(.slice (.pair (.int .i64) (.pair (.int .i64) (.pair (.int .i64) .unit)))),(.pair (.int .i64) (.pair (.int .i64) .unit))]
abbrev rs43:List Ty:=[(.int .i64),(.int .i64)]

def t43 (x0:(List (Int×(Int×(Int×Unit))))) (x1:Int) (x1':Int):Tr (Tys.data rs43) :=
  Tr.test (Option.isSome (f85 (x0,((x1,(x1',())),()))))
    (let r0:=g85 (x0,((x1,(x1',())),()));
    Tr.test ((!eqF r0.2.1 0:Bool))
      (Tr.fin (((0:Int),(r0.2.1,()))))
      (Tr.test (Option.isSome (l104_0_1 ((r0.1.2.1,((↑(List.length r0.1.2.1):Int),((0:Int),()))),((),((r0.1.1.1,(r0.1.1.2.1,(r0.1.2.1,()))),((x1,(x1',())),(((0:Int),()),(((0:Int),()),((r0.1.1.1,(r0.1.1.2.1,(r0.1.2.1,()))),())))))))))
        (Tr.test (isRet (l104_0_1 ((r0.1.2.1,((↑(List.length r0.1.2.1):Int),((0:Int),()))),((),((r0.1.1.1,(r0.1.1.2.1,(r0.1.2.1,()))),((x1,(x1',())),(((0:Int),()),(((0:Int),()),((r0.1.1.1,(r0.1.1.2.1,(r0.1.2.1,()))),())))))))))
          (let r1:=r104_0_1 ((r0.1.2.1,((↑(List.length r0.1.2.1):Int),((0:Int),()))),((),((r0.1.1.1,(r0.1.1.2.1,(r0.1.2.1,()))),((x1,(x1',())),(((0:Int),()),(((0:Int),()),((r0.1.1.1,(r0.1.1.2.1,(r0.1.2.1,()))),())))))));
          Tr.fin ((r1.2.2.2.2.1.1,(r1.2.2.2.2.2.1.1,()))))
          (Tr.fin (((0:Int),((12:Int),())))))
        (Tr.stop)))
    (Tr.stop)

def f43 (d:Tys.data as43):Option (Tys.data rs43):=(t43 d.1 d.2.1.1 d.2.1.2.1).val
def g43 (d:Tys.data as43):Tys.data rs43:=(f43 d).getD (Tys.dflt rs43)
def p43:PureC:=pcOf as43 rs43 f43 g43

theorem e43_0 (x0:(List (Int×(Int×(Int×Unit))))) (x1:Int) (x1':Int):runPure (kl104_0_1 Go.Proofs.Try.prog).orc Go.Proofs.Try.prog 400 43 as43 rs43 (x0,(x1,x1',()),()) [tt,tt] =
    (let r0:=g85 (x0,((x1,(x1',())),())); some (((0:Int),(r0.2.1,())),[(!eqF r0.2.1 0,true),(Option.isSome (f85 (x0,((x1,(x1',())),()))),true)])):=by kernel_rfl
theorem e43_1 (x0:(List (Int×(Int×(Int×Unit))))) (x1:Int) (x1':Int):runPure (kl104_0_1 Go.Proofs.Try.prog).orc Go.Proofs.Try.prog 400 43 as43 rs43 (x0,(x1,x1',()),()) [tt,ff,tt,tt,tt] =
    (let r0:=g85 (x0,((x1,(x1',())),()));let r1:=r104_0_1 ((r0.1.2.1,((↑(List.length r0.1.2.1):Int),((0:Int),()))),((),((r0.1.1.1,(r0.1.1.2.1,(r0.1.2.1,()))),((x1,(x1',())),(((0:Int),()),(((0:Int),()),((r0.1.1.1,(r0.1.1.2.1,(r0.1.2.1,()))),()))))))); some ((r1.2.2.2.2.1.1,(r1.2.2.2.2.2.1.1,())),[(isRet (l104_0_1 ((r0.1.2.1,((↑(List.length r0.1.2.1):Int),((0:Int),()))),((),((r0.1.1.1,(r0.1.1.2.1,(r0.1.2.1,()))),((x1,(x1',())),(((0:Int),()),(((0:Int),()),((r0.1.1.1,(r0.1.1.2.1,(r0.1.2.1,()))),())))))))),true),(Option.isSome (l104_0_1 ((r0.1.2.1,((↑(List.length r0.1.2.1):Int),((0:Int),()))),((),((r0.1.1.1,(r0.1.1.2.1,(r0.1.2.1,()))),((x1,(x1',())),(((0:Int),()),(((0:Int),()),((r0.1.1.1,(r0.1.1.2.1,(r0.1.2.1,()))),())))))))),true),(sameRf Go.Proofs.Try.prog (nat_lit 43) (nat_lit 0),true),(!eqF r0.2.1 0,false),(Option.isSome (f85 (x0,((x1,(x1',())),()))),true)])):=by kernel_rfl
theorem e43_2 (x0:(List (Int×(Int×(Int×Unit))))) (x1:Int) (x1':Int):runPure (kl104_0_1 Go.Proofs.Try.prog).orc Go.Proofs.Try.prog 400 43 as43 rs43 (x0,(x1,x1',()),()) [tt,ff,tt,tt,ff] =
    (let r0:=g85 (x0,((x1,(x1',())),())); some (((0:Int),((12:Int),())),[(isRet (l104_0_1 ((r0.1.2.1,((↑(List.length r0.1.2.1):Int),((0:Int),()))),((),((r0.1.1.1,(r0.1.1.2.1,(r0.1.2.1,()))),((x1,(x1',())),(((0:Int),()),(((0:Int),()),((r0.1.1.1,(r0.1.1.2.1,(r0.1.2.1,()))),())))))))),false),(Option.isSome (l104_0_1 ((r0.1.2.1,((↑(List.length r0.1.2.1):Int),((0:Int),()))),((),((r0.1.1.1,(r0.1.1.2.1,(r0.1.2.1,()))),((x1,(x1',())),(((0:Int),()),(((0:Int),()),((r0.1.1.1,(r0.1.1.2.1,(r0.1.2.1,()))),())))))))),true),(sameRf Go.Proofs.Try.prog (nat_lit 43) (nat_lit 0),true),(!eqF r0.2.1 0,false),(Option.isSome (f85 (x0,((x1,(x1',())),()))),true)])):=by kernel_rfl

theorem ok43_t (x0:(List (Int×(Int×(Int×Unit))))) (x1:Int) (x1':Int):TrOk (PureRuns Go.Proofs.Try.prog (kl104_0_1 Go.Proofs.Try.prog).orc 43 as43 rs43 (x0,(x1,x1',()),())) (t43 x0 x1 x1') :=
  TrOk.ofTest (fun h0=>TrOk.ofTest (fun h1=>TrOk.ofFin (PureRuns.of (e43_0 x0 x1 x1') (ac h1 (ac h0 All.nil)))) (fun h1=>TrOk.ofTest (fun h3=>TrOk.ofTest (fun h4=>TrOk.ofFin (PureRuns.of (e43_1 x0 x1 x1') (ac h4 (ac h3 (ac (sc43_0) (ac h1 (ac h0 All.nil))))))) (fun h4=>TrOk.ofFin (PureRuns.of (e43_2 x0 x1 x1') (ac h4 (ac h3 (ac (sc43_0) (ac h1 (ac h0 All.nil)))))))) (fun h3=>TrOk.ofStop))) (fun h0=>TrOk.ofStop)

theorem ok43:PureOk Go.Proofs.Try.prog 43 p43:=pureOk_of kl104_0_1_ok.base (T:=fun (d:Tys.data as43)=>t43 d.1 d.2.1.1 d.2.1.2.1) (by kernel_rfl) (fun (d:Tys.data as43)=>ok43_t d.1 d.2.1.1 d.2.1.2.1)
def kf43 (P:Go.Program):Known:=(kl104_0_1 P).func 43 p43
theorem kf43_ok:KnownOk Go.Proofs.Try.prog (kf43 Go.Proofs.Try.prog):=kl104_0_1_ok.func ok43

theorem sc44_0:sameRf Go.Proofs.Try.prog 44 0 = true:=sameRf_ok (by kernel_rfl)

/-! loop 0 of (ductility/hybrid.exchange).waits$1 -/

abbrev sh104_0_2 (P:Go.Program):Sh:={ n:=47,slots:=[0,1,8,9,10],pats:=[.yld 0,.ptr 1 3 0,.ty (.slice (.pair (.int .i64) (.pair (.int .i64) (.pair (.int .i64) .unit)))),.ty (.int .i64),.ty (.int .i64)],boxes:=[.lp (lpOf P 44 0 .ready none 35 [6,8] 2) [.ptr 3 3 0,.ptr 4 1 0],.row [.ty (.int .i64),.ty (.int .i64),.ty (.slice (.pair (.int .i64) (.pair (.int .i64) (.pair (.int .i64) .unit))))],.dfr,.row [.ty (.int .i64),.ty (.int .i64),.ty (.slice (.pair (.int .i64) (.pair (.int .i64) (.pair (.int .i64) .unit))))],.row [.ty (.int .i64)]] }
abbrev shb104_0_2 (P:Go.Program):Sh:={ n:=47,slots:=[],pats:=[],boxes:=[.lp (lpOf P 44 0 .ready none 35 [6,8] 2) [.ptr 3 3 0,.ptr 4 1 0],.row [.ty (.int .i64),.ty (.int .i64),.ty (.slice (.pair (.int .i64) (.pair (.int .i64) (.pair (.int .i64) .unit))))],.dfr,.row [.ty (.int .i64),.ty (.int .i64),.ty (.slice (.pair (.int .i64) (.pair (.int .i64) (.pair (.int .i64) .unit))))],.row [.ty (.int .i64)]] }
abbrev shr104_0_2 (P:Go.Program):Sh:={ n:=47,slots:=[],pats:=[],boxes:=[.lp (lpOf P 44 0 .done (some (some 0)) 35 [6,8] 2) [.ptr 3 3 0,.ptr 4 1 0],.row [.ty (.int .i64),.ty (.int .i64),.ty (.slice (.pair (.int .i64) (.pair (.int .i64) (.pair (.int .i64) .unit))))],.dfr,.row [.ty (.int .i64),.ty (.int .i64),.ty (.slice (.pair (.int .i64) (.pair (.int .i64) (.pair (.int .i64) .unit))))],.row [.ty (.int .i64)]] }

abbrev dt104_0_2:Type:=(List (Int×Int×Int×PUnit)×Int×Int×PUnit)×PUnit×(Int×Int×List (Int×Int×Int×PUnit)×PUnit)×(Int×Int×List (Int×Int×Int×PUnit)×PUnit)×(Int×PUnit)×PUnit
abbrev db104_0_2:Type:=PUnit×PUnit×(Int×Int×List (Int×Int×Int×PUnit)×PUnit)×(Int×Int×List (Int×Int×Int×PUnit)×PUnit)×(Int×PUnit)×PUnit
abbrev dr104_0_2:Type:=PUnit×PUnit×(Int×Int×List (Int×Int×Int×PUnit)×PUnit)×(Int×Int×List (Int×Int×Int×PUnit)×PUnit)×(Int×PUnit)×PUnit

def t104_0_2 (x2:(List (Int×(Int×(Int×Unit))))) (x3:Int) (x4:Int) (b1_0:Int) (b1_1:Int) (b1_2:(List (Int×(Int×(Int×Unit))))) (b3_0:Int) (b3_1:Int) (b3_2:(List (Int×(Int×(Int×Unit))))) (b4_0:Int):Tr (Out dt104_0_2 db104_0_2 dr104_0_2) :=
  Tr.test ((!leF x3 x4:Bool))
    (Tr.test (decide ((0:Int) ≤ x4) && decide (x4 < (↑(List.length x2):Int)))
      (Tr.test ((!eqF (List.getD x2 (Int.toNat x4) ((0:Int),(0:Int),(0:Int),())).1 (0:Int):Bool))
        (Tr.fin (.again ((x2,(x3,((wrap64 (x4 + (1:Int)):Int),()))),((),((b1_0,(b1_1,(b1_2,()))),((b3_0,(b3_1,(b3_2,()))),((b4_0,()),())))))))
        (Tr.test ((!leF (↑(List.length b1_2):Int) (wrap64 (x4 + (1:Int))):Bool))
          (Tr.test ((decide ((0:Int) ≤ wrap64 (x4 + (1:Int))) && decide (wrap64 (x4 + (1:Int)) < (↑(List.length b1_2):Int)):Bool))
            (Tr.test (Option.isSome (f87 (((b3_0,(b3_1,())),(b3_2,())),((((List.getD x2 (Int.toNat x4) ((0:Int),(0:Int),(0:Int),())).2.2.1:Int),(((List.getD b1_2 (Int.toNat (wrap64 (x4 + (1:Int)))) ((0:Int),(0:Int),(0:Int),())).2.2.1:Int),((true:Bool),()))),()))))
              (let r0:=g87 (((b3_0,(b3_1,())),(b3_2,())),((((List.getD x2 (Int.toNat x4) ((0:Int),(0:Int),(0:Int),())).2.2.1:Int),(((List.getD b1_2 (Int.toNat (wrap64 (x4 + (1:Int)))) ((0:Int),(0:Int),(0:Int),())).2.2.1:Int),((true:Bool),()))),()));
              Tr.test (r0.1)
                (Tr.fin (.ret ((),((),((b1_0,(b1_1,(b1_2,()))),((b3_0,(b3_1,(b3_2,()))),((b4_0,()),())))))))
                (Tr.fin (.again ((x2,(x3,((wrap64 (x4 + (1:Int)):Int),()))),((),((b1_0,(b1_1,(b1_2,()))),((b3_0,(b3_1,(b3_2,()))),(((wrap64 (b4_0 + (1:Int)):Int),()),()))))))))
              (Tr.stop))
            (Tr.stop))
          (Tr.test (Option.isSome (f87 (((b3_0,(b3_1,())),(b3_2,())),((((List.getD x2 (Int.toNat x4) ((0:Int),(0:Int),(0:Int),())).2.2.1:Int),(b1_1,((false:Bool),()))),()))))
            (let r1:=g87 (((b3_0,(b3_1,())),(b3_2,())),((((List.getD x2 (Int.toNat x4) ((0:Int),(0:Int),(0:Int),())).2.2.1:Int),(b1_1,((false:Bool),()))),()));
            Tr.test (r1.1)
              (Tr.fin (.ret ((),((),((b1_0,(b1_1,(b1_2,()))),((b3_0,(b3_1,(b3_2,()))),((b4_0,()),())))))))
              (Tr.fin (.ret ((),((),((b1_0,(b1_1,(b1_2,()))),((b3_0,(b3_1,(b3_2,()))),((b4_0,()),()))))))))
            (Tr.stop))))
      (Tr.stop))
    (Tr.fin (.brk ((),((),((b1_0,(b1_1,(b1_2,()))),((b3_0,(b3_1,(b3_2,()))),((b4_0,()),())))))))

def s104_0_2 (d:dt104_0_2):Option (Out dt104_0_2 db104_0_2 dr104_0_2):=(t104_0_2 d.1.1 d.1.2.1 d.1.2.2.1 d.2.2.1.1 d.2.2.1.2.1 d.2.2.1.2.2.1 d.2.2.2.1.1 d.2.2.2.1.2.1 d.2.2.2.1.2.2.1 d.2.2.2.2.1.1).val
def l104_0_2 (d:dt104_0_2):Option (db104_0_2 ⊕ dr104_0_2):=itr s104_0_2 rounds d
def b104_0_2 (d:dt104_0_2):db104_0_2:=outB (((),((),(((0:Int),((0:Int),(([]:List (Int×Int×Int×PUnit)),()))),(((0:Int),((0:Int),(([]:List (Int×Int×Int×PUnit)),()))),(((0:Int),()),())))))) (l104_0_2 d)
def r104_0_2 (d:dt104_0_2):dr104_0_2:=outR (((),((),(((0:Int),((0:Int),(([]:List (Int×Int×Int×PUnit)),()))),(((0:Int),((0:Int),(([]:List (Int×Int×Int×PUnit)),()))),(((0:Int),()),())))))) (l104_0_2 d)
def lc104_0_2 (P:Go.Program):LoopC:=lcOf (sh104_0_2 P) (shb104_0_2 P) (shr104_0_2 P) l104_0_2 b104_0_2 r104_0_2

theorem e104_0_2_0 (x2:(List (Int×(Int×(Int×Unit))))) (x3:Int) (x4:Int) (b1_0:Int) (b1_1:Int) (b1_2:(List (Int×(Int×(Int×Unit))))) (b3_0:Int) (b3_1:Int) (b3_2:(List (Int×(Int×(Int×Unit))))) (b4_0:Int):runBody (kf43 Go.Proofs.Try.prog).orc Go.Proofs.Try.prog 400 104 0 (sh104_0_2 Go.Proofs.Try.prog) (shb104_0_2 Go.Proofs.Try.prog) (shr104_0_2 Go.Proofs.Try.prog) ((x2,x3,x4,()),(),(b1_0,b1_1,b1_2,()),(b3_0,b3_1,b3_2,()),(b4_0,()),()) [tt,tt,tt] =
    (some (.again ((x2,(x3,((wrap64 (x4 + (1:Int)):Int),()))),((),((b1_0,(b1_1,(b1_2,()))),((b3_0,(b3_1,(b3_2,()))),((b4_0,()),()))))),[(sameRf Go.Proofs.Try.prog (nat_lit 44) (nat_lit 0),true),(!eqF (List.getD x2 (Int.toNat x4) ((0:Int),(0:Int),(0:Int),())).1 (0:Int),true),(decide ((0:Int) ≤ x4) && decide (x4 < (↑(List.length x2):Int)),true),(!leF x3 x4,true)])):=by kernel_rfl
theorem e104_0_2_1 (x2:(List (Int×(Int×(Int×Unit))))) (x3:Int) (x4:Int) (b1_0:Int) (b1_1:Int) (b1_2:(List (Int×(Int×(Int×Unit))))) (b3_0:Int) (b3_1:Int) (b3_2:(List (Int×(Int×(Int×Unit))))) (b4_0:Int):runBody (kf43 Go.Proofs.Try.prog).orc Go.Proofs.Try.prog 400 104 0 (sh104_0_2 Go.Proofs.Try.prog) (shb104_0_2 Go.Proofs.Try.prog) (shr104_0_2 Go.Proofs.Try.prog) ((x2,x3,x4,()),(),(b1_0,b1_1,b1_2,()),(b3_0,b3_1,b3_2,()),(b4_0,()),()) [tt,tt,ff,tt,tt,tt,tt,tt,tt,tt,tt,tt] =
    (let r0:=g87 (((b3_0,(b3_1,())),(b3_2,())),((((List.getD x2 (Int.toNat x4) ((0:Int),(0:Int),(0:Int),())).2.2.1:Int),(((List.getD b1_2 (Int.toNat (wrap64 (x4 + (1:Int)))) ((0:Int),(0:Int),(0:Int),())).2.2.1:Int),(true,()))),())); some (.ret ((),((),((b1_0,(b1_1,(b1_2,()))),((b3_0,(b3_1,(b3_2,()))),((b4_0,()),()))))),[(sameRf Go.Proofs.Try.prog (nat_lit 44) (nat_lit 0),true),(true,true),(true,true),(r0.1,true),(r0.1,true),(r0.1,true),(r0.1,true),(Option.isSome (f87 (((b3_0,(b3_1,())),(b3_2,())),((((List.getD x2 (Int.toNat x4) ((0:Int),(0:Int),(0:Int),())).2.2.1:Int),(((List.getD b1_2 (Int.toNat (wrap64 (x4 + (1:Int)))) ((0:Int),(0:Int),(0:Int),())).2.2.1:Int),(true,()))),()))),true),(decide ((0:Int) ≤ wrap64 (x4 + (1:Int))) && decide (wrap64 (x4 + (1:Int)) < (↑(List.length b1_2):Int)),true),(!leF (↑(List.length b1_2):Int) (wrap64 (x4 + (1:Int))),true),(!eqF (List.getD x2 (Int.toNat x4) ((0:Int),(0:Int),(0:Int),())).1 (0:Int),false),(decide ((0:Int) ≤ x4) && decide (x4 < (↑(List.length x2):Int)),true),(!leF x3 x4,true)])):=by kernel_rfl
theorem e104_0_2_2 (x2:(List (Int×(Int×(Int×Unit))))) (x3:Int) (x4:Int) (b1_0:Int) (b1_1:Int) (b1_2:(List (Int×(Int×(Int×Unit))))) (b3_0:Int) (b3_1:Int) (b3_2:(List (Int×(Int×(Int×Unit))))) (b4_0:Int):runBody (kf43 Go.Proofs.Try.prog).orc Go.Proofs.Try.prog 400 104 0 (sh104_0_2 Go.Proofs.Try.prog) (shb104_0_2 Go.Proofs.Try.prog) (shr104_0_2 Go.Proofs.Try.prog) ((x2,x3,x4,()),(),(b1_0,b1_1,b1_2,()),(b3_0,b3_1,b3_2,()),(b4_0,()),()) [tt,tt,ff,tt,tt,tt,ff,ff,ff,ff,ff,ff] =
    (let r0:=g87 (((b3_0,(b3_1,())),(b3_2,())),((((List.getD x2 (Int.toNat x4) ((0:Int),(0:Int),(0:Int),())).2.2.1:Int),(((List.getD b1_2 (Int.toNat (wrap64 (x4 + (1:Int)))) ((0:Int),(0:Int),(0:Int),())).2.2.1:Int),(true,()))),())); some (.again ((x2,(x3,((wrap64 (x4 + (1:Int)):Int),()))),((),((b1_0,(b1_1,(b1_2,()))),((b3_0,(b3_1,(b3_2,()))),(((wrap64 (b4_0 + (1:Int)):Int),()),()))))),[(sameRf Go.Proofs.Try.prog (nat_lit 44) (nat_lit 0),true),(false,false),(false,false),(r0.1,false),(r0.1,false),(r0.1,false),(r0.1,false),(Option.isSome (f87 (((b3_0,(b3_1,())),(b3_2,())),((((List.getD x2 (Int.toNat x4) ((0:Int),(0:Int),(0:Int),())).2.2.1:Int),(((List.getD b1_2 (Int.toNat (wrap64 (x4 + (1:Int)))) ((0:Int),(0:Int),(0:Int),())).2.2.1:Int),(true,()))),()))),true),(decide ((0:Int) ≤ wrap64 (x4 + (1:Int))) && decide (wrap64 (x4 + (1:Int)) < (↑(List.length b1_2):Int)),true),(!leF (↑(List.length b1_2):Int) (wrap64 (x4 + (1:Int))),true),(!eqF (List.getD x2 (Int.toNat x4) ((0:Int),(0:Int),(0:Int),())).1 (0:Int),false),(decide ((0:Int) ≤ x4) && decide (x4 < (↑(List.length x2):Int)),true),(!leF x3 x4,true)])):=by kernel_rfl
theorem e104_0_2_4 (x2:(List (Int×(Int×(Int×Unit))))) (x3:Int) (x4:Int) (b1_0:Int) (b1_1:Int) (b1_2:(List (Int×(Int×(Int×Unit))))) (b3_0:Int) (b3_1:Int) (b3_2:(List (Int×(Int×(Int×Unit))))) (b4_0:Int):runBody (kf43 Go.Proofs.Try.prog).orc Go.Proofs.Try.prog 400 104 0 (sh104_0_2 Go.Proofs.Try.prog) (shb104_0_2 Go.Proofs.Try.prog) (shr104_0_2 Go.Proofs.Try.prog) ((x2,x3,x4,()),(),(b1_0,b1_1,b1_2,()),(b3_0,b3_1,b3_2,()),(b4_0,()),()) [tt,tt,ff,ff,tt,tt,tt,tt,tt,tt,tt] =
    (let r1:=g87 (((b3_0,(b3_1,())),(b3_2,())),((((List.getD x2 (Int.toNat x4) ((0:Int),(0:Int),(0:Int),())).2.2.1:Int),(b1_1,(false,()))),())); some (.ret ((),((),((b1_0,(b1_1,(b1_2,()))),((b3_0,(b3_1,(b3_2,()))),((b4_0,()),()))))),[(sameRf Go.Proofs.Try.prog (nat_lit 44) (nat_lit 0),true),(true,true),(true,true),(r1.1,true),(r1.1,true),(r1.1,true),(r1.1,true),(Option.isSome (f87 (((b3_0,(b3_1,())),(b3_2,())),((((List.getD x2 (Int.toNat x4) ((0:Int),(0:Int),(0:Int),())).2.2.1:Int),(b1_1,(false,()))),()))),true),(!leF (↑(List.length b1_2):Int) (wrap64 (x4 + (1:Int))),false),(!eqF (List.getD x2 (Int.toNat x4) ((0:Int),(0:Int),(0:Int),())).1 (0:Int),false),(decide ((0:Int) ≤ x4) && decide (x4 < (↑(List.length x2):Int)),true),(!leF x3 x4,true)])):=by kernel_rfl
theorem e104_0_2_5 (x2:(List (Int×(Int×(Int×Unit))))) (x3:Int) (x4:Int) (b1_0:Int) (b1_1:Int) (b1_2:(List (Int×(Int×(Int×Unit))))) (b3_0:Int) (b3_1:Int) (b3_2:(List (Int×(Int×(Int×Unit))))) (b4_0:Int):runBody (kf43 Go.Proofs.Try.prog).orc Go.Proofs.Try.prog 400 104 0 (sh104_0_2 Go.Proofs.Try.prog) (shb104_0_2 Go.Proofs.Try.prog) (shr104_0_2 Go.Proofs.Try.prog) ((x2,x3,x4,()),(),(b1_0,b1_1,b1_2,()),(b3_0,b3_1,b3_2,()),(b4_0,()),()) [tt,tt,ff,ff,tt,ff,ff,ff,ff,tt,tt] =
    (let r1:=g87 (((b3_0,(b3_1,())),(b3_2,())),((((List.getD x2 (Int.toNat x4) ((0:Int),(0:Int),(0:Int),())).2.2.1:Int),(b1_1,(false,()))),())); some (.ret ((),((),((b1_0,(b1_1,(b1_2,()))),((b3_0,(b3_1,(b3_2,()))),((b4_0,()),()))))),[(sameRf Go.Proofs.Try.prog (nat_lit 44) (nat_lit 0),true),(true,true),(true,true),(r1.1,false),(r1.1,false),(r1.1,false),(r1.1,false),(Option.isSome (f87 (((b3_0,(b3_1,())),(b3_2,())),((((List.getD x2 (Int.toNat x4) ((0:Int),(0:Int),(0:Int),())).2.2.1:Int),(b1_1,(false,()))),()))),true),(!leF (↑(List.length b1_2):Int) (wrap64 (x4 + (1:Int))),false),(!eqF (List.getD x2 (Int.toNat x4) ((0:Int),(0:Int),(0:Int),())).1 (0:Int),false),(decide ((0:Int) ≤ x4) && decide (x4 < (↑(List.length x2):Int)),true),(!leF x3 x4,true)])):=by kernel_rfl
theorem e104_0_2_7 (x2:(List (Int×(Int×(Int×Unit))))) (x3:Int) (x4:Int) (b1_0:Int) (b1_1:Int) (b1_2:(List (Int×(Int×(Int×Unit))))) (b3_0:Int) (b3_1:Int) (b3_2:(List (Int×(Int×(Int×Unit))))) (b4_0:Int):runBody (kf43 Go.Proofs.Try.prog).orc Go.Proofs.Try.prog 400 104 0 (sh104_0_2 Go.Proofs.Try.prog) (shb104_0_2 Go.Proofs.Try.prog) (shr104_0_2 Go.Proofs.Try.prog) ((x2,x3,x4,()),(),(b1_0,b1_1,b1_2,()),(b3_0,b3_1,b3_2,()),(b4_0,()),()) [ff] =
    (some (.brk ((),((),((b1_0,(b1_1,(b1_2,()))),((b3_0,(b3_1,(b3_2,()))),((b4_0,()),()))))),[(sameRf Go.Proofs.Try.prog (nat_lit 44) (nat_lit 0),true),(!leF x3 x4,false)])):=by kernel_rfl

theorem ok104_0_2_t (x2:(List (Int×(Int×(Int×Unit))))) (x3:Int) (x4:Int) (b1_0:Int) (b1_1:Int) (b1_2:(List (Int×(Int×(Int×Unit))))) (b3_0:Int) (b3_1:Int) (b3_2:(List (Int×(Int×(Int×Unit))))) (b4_0:Int):TrOk (BodyRuns Go.Proofs.Try.prog (kf43 Go.Proofs.Try.prog).orc 104 0 (sh104_0_2 Go.Proofs.Try.prog) (shb104_0_2 Go.Proofs.Try.prog) (shr104_0_2 Go.Proofs.Try.prog) ((x2,x3,x4,()),(),(b1_0,b1_1,b1_2,()),(b3_0,b3_1,b3_2,()),(b4_0,()),())) (t104_0_2 x2 x3 x4 b1_0 b1_1 b1_2 b3_0 b3_1 b3_2 b4_0) :=
  TrOk.ofTest (fun h0=>TrOk.ofTest (fun h1=>TrOk.ofTest (fun h2=>TrOk.ofFin (BodyRuns.of (e104_0_2_0 x2 x3 x4 b1_0 b1_1 b1_2 b3_0 b3_1 b3_2 b4_0) (ac (sc44_0) (ac h2 (ac h1 (ac h0 All.nil)))))) (fun h2=>TrOk.ofTest (fun h3=>TrOk.ofTest (fun h4=>TrOk.ofTest (fun h5=>TrOk.ofTest (fun h6=>TrOk.ofFin (BodyRuns.of (e104_0_2_1 x2 x3 x4 b1_0 b1_1 b1_2 b3_0 b3_1 b3_2 b4_0) (ac (sc44_0) (ac rfl (ac rfl (ac h6 (ac h6 (ac h6 (ac h6 (ac h5 (ac h4 (ac h3 (ac h2 (ac h1 (ac h0 All.nil))))))))))))))) (fun h6=>TrOk.ofFin (BodyRuns.of (e104_0_2_2 x2 x3 x4 b1_0 b1_1 b1_2 b3_0 b3_1 b3_2 b4_0) (ac (sc44_0) (ac rfl (ac rfl (ac h6 (ac h6 (ac h6 (ac h6 (ac h5 (ac h4 (ac h3 (ac h2 (ac h1 (ac h0 All.nil)))))))))))))))) (fun h5=>TrOk.ofStop)) (fun h4=>TrOk.ofStop)) (fun h3=>TrOk.ofTest (fun h4=>TrOk.ofTest (fun h5=>TrOk.ofFin (BodyRuns.of (e104_0_2_4 x2 x3 x4 b1_0 b1_1 b1_2 b3_0 b3_1 b3_2 b4_0) (ac (sc44_0) (ac rfl (ac rfl (ac h5 (ac h5 (ac h5 (ac h5 (ac h4 (ac h3 (ac h2 (ac h1 (ac h0 All.nil)))))))))))))) (fun h5=>TrOk.ofFin (BodyRuns.of (e104_0_2_5 x2 x3 x4 b1_0 b1_1 b1_2 b3_0 b3_1 b3_2 b4_0) (ac (sc44_0) (ac rfl (ac rfl (ac h5 (ac h5 (ac h5 (ac h5 (ac h4 (ac h3 (ac h2 (ac h1 (ac h0 All.nil))))))))))))))) (fun h4=>TrOk.ofStop)))) (fun h1=>TrOk.ofStop)) (fun h0=>TrOk.ofFin (BodyRuns.of (e104_0_2_7 x2 x3 x4 b1_0 b1_1 b1_2 b3_0 b3_1 b3_2 b4_0) (ac (sc44_0) (ac h0 All.nil))))

theorem ok104_0_2:LoopOk Go.Proofs.Try.prog 104 0 (lc104_0_2 Go.Proofs.Try.prog):=loopOk_of (sh:=(sh104_0_2 Go.Proofs.Try.prog)) (shB:=(shb104_0_2 Go.Proofs.Try.prog)) (shR:=(shr104_0_2 Go.Proofs.Try.prog)) kf43_ok.base (T:=fun (d:dt104_0_2)=>t104_0_2 d.1.1 d.1.2.1 d.1.2.2.1 d.2.2.1.1 d.2.2.1.2.1 d.2.2.1.2.2.1 d.2.2.2.1.1 d.2.2.2.1.2.1 d.2.2.2.1.2.2.1 d.2.2.2.2.1.1) (by kernel_rfl) rfl (fun (d:dt104_0_2)=>ok104_0_2_t d.1.1 d.1.2.1 d.1.2.2.1 d.2.2.1.1 d.2.2.1.2.1 d.2.2.1.2.2.1 d.2.2.2.1.1 d.2.2.2.1.2.1 d.2.2.2.1.2.2.1 d.2.2.2.2.1.1) (fun _=>rfl)
def kl104_0_2 (P:Go.Program):Known:=(kf43 P).loop 104 0 (lc104_0_2 P)
theorem kl104_0_2_ok:KnownOk Go.Proofs.Try.prog (kl104_0_2 Go.Proofs.Try.prog):=kf43_ok.loop ok104_0_2

/-! ductility/hybrid.CountIn -/

abbrev as44:List Ty:=[(.slice (.pair (.int .i64) (.pair (.int .i64) (.pair (.int .i64) .unit)))),(.pair (.int .i64) (.pair (.int .i64) .unit))]
abbrev rs44:List Ty:=[(.int .i64),(.int .i64)]

def t44 (x0:(List (Int×(Int×(Int×Unit))))) (x1:Int) (x1':Int):Tr (Tys.data rs44) :=
  Tr.test (Option.isSome (f85 (x0,((x1,(x1',())),()))))
    (let r0:=g85 (x0,((x1,(x1',())),()));
    Tr.test ((!eqF r0.2.1 0:Bool))
      (Tr.fin (((0:Int),(r0.2.1,()))))
      (Tr.test (Option.isSome (l104_0_2 ((r0.1.2.1,((↑(List.length r0.1.2.1):Int),((0:Int),()))),((),((r0.1.1.1,(r0.1.1.2.1,(r0.1.2.1,()))),((r0.1.1.1,(r0.1.1.2.1,(r0.1.2.1,()))),(((0:Int),()),())))))))
        (Tr.test (isRet (l104_0_2 ((r0.1.2.1,((↑(List.length r0.1.2.1):Int),((0:Int),()))),((),((r0.1.1.1,(r0.1.1.2.1,(r0.1.2.1,()))),((r0.1.1.1,(r0.1.1.2.1,(r0.1.2.1,()))),(((0:Int),()),())))))))
          (let r1:=r104_0_2 ((r0.1.2.1,((↑(List.length r0.1.2.1):Int),((0:Int),()))),((),((r0.1.1.1,(r0.1.1.2.1,(r0.1.2.1,()))),((r0.1.1.1,(r0.1.1.2.1,(r0.1.2.1,()))),(((0:Int),()),())))));
          Tr.fin ((r1.2.2.2.2.1.1,((0:Int),()))))
          (let r2:=b104_0_2 ((r0.1.2.1,((↑(List.length r0.1.2.1):Int),((0:Int),()))),((),((r0.1.1.1,(r0.1.1.2.1,(r0.1.2.1,()))),((r0.1.1.1,(r0.1.1.2.1,(r0.1.2.1,()))),(((0:Int),()),())))));
          Tr.fin ((r2.2.2.2.2.1.1,((0:Int),())))))
        (Tr.stop)))
    (Tr.stop)

def f44 (d:Tys.data as44):Option (Tys.data rs44):=(t44 d.1 d.2.1.1 d.2.1.2.1).val
def g44 (d:Tys.data as44):Tys.data rs44:=(f44 d).getD (Tys.dflt rs44)
def p44:PureC:=pcOf as44 rs44 f44 g44

theorem e44_0 (x0:(List (Int×(Int×(Int×Unit))))) (x1:Int) (x1':Int):runPure (kl104_0_2 Go.Proofs.Try.prog).orc Go.Proofs.Try.prog 400 44 as44 rs44 (x0,(x1,x1',()),()) [tt,tt] =
    (let r0:=g85 (x0,((x1,(x1',())),())); some (((0:Int),(r0.2.1,())),[(!eqF r0.2.1 0,true),(Option.isSome (f85 (x0,((x1,(x1',())),()))),true)])):=by kernel_rfl
theorem e44_1 (x0:(List (Int×(Int×(Int×Unit))))) (x1:Int) (x1':Int):runPure (kl104_0_2 Go.Proofs.Try.prog).orc Go.Proofs.Try.prog 400 44 as44 rs44 (x0,(x1,x1',()),()) [tt,ff,tt,tt,tt] =
    (let r0:=g85 (x0,((x1,(x1',())),()));let r1:=r104_0_2 ((r0.1.2.1,((↑(List.length r0.1.2.1):Int),((0:Int),()))),((),((r0.1.1.1,(r0.1.1.2.1,(r0.1.2.1,()))),((r0.1.1.1,(r0.1.1.2.1,(r0.1.2.1,()))),(((0:Int),()),()))))); some ((r1.2.2.2.2.1.1,((0:Int),())),[(isRet (l104_0_2 ((r0.1.2.1,((↑(List.length r0.1.2.1):Int),((0:Int),()))),((),((r0.1.1.1,(r0.1.1.2.1,(r0.1.2.1,()))),((r0.1.1.1,(r0.1.1.2.1,(r0.1.2.1,()))),(((0:Int),()),())))))),true),(Option.isSome (l104_0_2 ((r0.1.2.1,((↑(List.length r0.1.2.1):Int),((0:Int),()))),((),((r0.1.1.1,(r0.1.1.2.1,(r0.1.2.1,()))),((r0.1.1.1,(r0.1.1.2.1,(r0.1.2.1,()))),(((0:Int),()),())))))),true),(sameRf Go.Proofs.Try.prog (nat_lit 44) (nat_lit 0),true),(!eqF r0.2.1 0,false),(Option.isSome (f85 (x0,((x1,(x1',())),()))),true)])):=by kernel_rfl
theorem e44_2 (x0:(List (Int×(Int×(Int×Unit))))) (x1:Int) (x1':Int):runPure (kl104_0_2 Go.Proofs.Try.prog).orc Go.Proofs.Try.prog 400 44 as44 rs44 (x0,(x1,x1',()),()) [tt,ff,tt,tt,ff] =
    (let r0:=g85 (x0,((x1,(x1',())),()));let r2:=b104_0_2 ((r0.1.2.1,((↑(List.length r0.1.2.1):Int),((0:Int),()))),((),((r0.1.1.1,(r0.1.1.2.1,(r0.1.2.1,()))),((r0.1.1.1,(r0.1.1.2.1,(r0.1.2.1,()))),(((0:Int),()),()))))); some ((r2.2.2.2.2.1.1,((0:Int),())),[(isRet (l104_0_2 ((r0.1.2.1,((↑(List.length r0.1.2.1):Int),((0:Int),()))),((),((r0.1.1.1,(r0.1.1.2.1,(r0.1.2.1,()))),((r0.1.1.1,(r0.1.1.2.1,(r0.1.2.1,()))),(((0:Int),()),())))))),false),(Option.isSome (l104_0_2 ((r0.1.2.1,((↑(List.length r0.1.2.1):Int),((0:Int),()))),((),((r0.1.1.1,(r0.1.1.2.1,(r0.1.2.1,()))),((r0.1.1.1,(r0.1.1.2.1,(r0.1.2.1,()))),(((0:Int),()),())))))),true),(sameRf Go.Proofs.Try.prog (nat_lit 44) (nat_lit 0),true),(!eqF r0.2.1 0,false),(Option.isSome (f85 (x0,((x1,(x1',())),()))),true)])):=by kernel_rfl

theorem ok44_t (x0:(List (Int×(Int×(Int×Unit))))) (x1:Int) (x1':Int):TrOk (PureRuns Go.Proofs.Try.prog (kl104_0_2 Go.Proofs.Try.prog).orc 44 as44 rs44 (x0,(x1,x1',()),())) (t44 x0 x1 x1') :=
  TrOk.ofTest (fun h0=>TrOk.ofTest (fun h1=>TrOk.ofFin (PureRuns.of (e44_0 x0 x1 x1') (ac h1 (ac h0 All.nil)))) (fun h1=>TrOk.ofTest (fun h3=>TrOk.ofTest (fun h4=>TrOk.ofFin (PureRuns.of (e44_1 x0 x1 x1') (ac h4 (ac h3 (ac (sc44_0) (ac h1 (ac h0 All.nil))))))) (fun h4=>TrOk.ofFin (PureRuns.of (e44_2 x0 x1 x1') (ac h4 (ac h3 (ac (sc44_0) (ac h1 (ac h0 All.nil)))))))) (fun h3=>TrOk.ofStop))) (fun h0=>TrOk.ofStop)

theorem ok44:PureOk Go.Proofs.Try.prog 44 p44:=pureOk_of kl104_0_2_ok.base (T:=fun (d:Tys.data as44)=>t44 d.1 d.2.1.1 d.2.1.2.1) (by kernel_rfl) (fun (d:Tys.data as44)=>ok44_t d.1 d.2.1.1 d.2.1.2.1)
def kf44 (P:Go.Program):Known:=(kl104_0_2 P).func 44 p44
theorem kf44_ok:KnownOk Go.Proofs.Try.prog (kf44 Go.Proofs.Try.prog):=kl104_0_2_ok.func ok44

/-! ductility/ductilitybase.Within -/

abbrev as39:List Ty:=[(.int .i64),(.int .i64),(.int .i64)]
abbrev rs39:List Ty:=[.bool]

def t39 (x0:Int) (x1:Int) (x2:Int):Tr (Tys.data rs39) :=
  Tr.test ((leF x1 x0:Bool))
    (Tr.fin ((leF x0 x2,())))
    (Tr.fin ((false,())))

def f39 (d:Tys.data as39):Option (Tys.data rs39):=(t39 d.1 d.2.1 d.2.2.1).val
def g39 (d:Tys.data as39):Tys.data rs39:=(f39 d).getD (Tys.dflt rs39)
def p39:PureC:=pcOf as39 rs39 f39 g39

theorem wk39 (x0:Int) (x1:Int) (x2:Int):Walks (runPure (kf44 Go.Proofs.Try.prog).orc Go.Proofs.Try.prog 400 39 as39 rs39 (x0,x1,x2,())) (t39 x0 x1 x2) [([tt],[2,2,2,2]),([ff],[2,2,2,2])] :=
  ⟨by kernel_rfl,by kernel_rfl,trivial⟩

theorem ok39_t (x0:Int) (x1:Int) (x2:Int):TrOk (PureRuns Go.Proofs.Try.prog (kf44 Go.Proofs.Try.prog).orc 39 as39 rs39 (x0,x1,x2,())) (t39 x0 x1 x2) :=
  Walks.ok (fun _ _ _=>PureRuns.of) (wk39 x0 x1 x2) (by kernel_rfl)

theorem ok39:PureOk Go.Proofs.Try.prog 39 p39:=pureOk_of kf44_ok.base (T:=fun (d:Tys.data as39)=>t39 d.1 d.2.1 d.2.2.1) (by kernel_rfl) (fun (d:Tys.data as39)=>ok39_t d.1 d.2.1 d.2.2.1)
def kf39 (P:Go.Program):Known:=(kf44 P).func 39 p39
theorem kf39_ok:KnownOk Go.Proofs.Try.prog (kf39 Go.Proofs.Try.prog):=kf44_ok.func ok39

/-! ductility/ductilitybase.IsTick -/

abbrev as88:List Ty:=[(.int .i64)]
abbrev rs88:List Ty:=[.bool]

def t88 (x0:Int):Tr (Tys.data rs88) :=
  Tr.test (Option.isSome (f39 (x0,((0:Int),((1000000000000:Int),())))))
    (let r0:=g39 (x0,((0:Int),((1000000000000:Int),())));
    Tr.fin ((r0.1,())))
    (Tr.stop)

def f88 (d:Tys.data as88):Option (Tys.data rs88):=(t88 d.1).val
def g88 (d:Tys.data as88):Tys.data rs88:=(f88 d).getD (Tys.dflt rs88)
def p88:PureC:=pcOf as88 rs88 f88 g88

theorem wk88 (x0:Int):Walks (runPure (kf39 Go.Proofs.Try.prog).orc Go.Proofs.Try.prog 400 88 as88 rs88 (x0,())) (t88 x0) [([tt],[2])] :=
  ⟨by kernel_rfl,trivial⟩

theorem ok88_t (x0:Int):TrOk (PureRuns Go.Proofs.Try.prog (kf39 Go.Proofs.Try.prog).orc 88 as88 rs88 (x0,())) (t88 x0) :=
  Walks.ok (fun _ _ _=>PureRuns.of) (wk88 x0) (by kernel_rfl)

theorem ok88:PureOk Go.Proofs.Try.prog 88 p88:=pureOk_of kf39_ok.base (T:=fun (d:Tys.data as88)=>t88 d.1) (by kernel_rfl) (fun (d:Tys.data as88)=>ok88_t d.1)
def kf88 (P:Go.Program):Known:=(kf39 P).func 88 p88
theorem kf88_ok:KnownOk Go.Proofs.Try.prog (kf88 Go.Proofs.Try.prog):=kf39_ok.func ok88

/-! loop 0 of ductility/ductilityref08.CheckMessages -/

abbrev sh45_0:Sh:={ n:=65,slots:=[0,4],pats:=[.ty (.slice (.pair (.int .i64) (.pair (.int .i64) (.pair (.int .i64) .unit)))),.ty (.int .i64)],boxes:=[] }
abbrev shb45_0:Sh:={ n:=65,slots:=[],pats:=[],boxes:=[] }
abbrev shr45_0:Sh:={ n:=65,slots:=[2,3],pats:=[.ty (.int .i64),.ty (.int .i64)],boxes:=[] }

def t45_0 (x0:(List (Int×(Int×(Int×Unit))))) (x1:Int):Tr (Out sh45_0.data shb45_0.data shr45_0.data) :=
  Tr.test ((!leF (↑(List.length x0):Int) x1:Bool))
    (Tr.test (decide ((0:Int) ≤ x1) && decide (x1 < (↑(List.length x0):Int)))
      (Tr.test (Option.isSome (f39 (((List.getD x0 (Int.toNat x1) ((0:Int),(0:Int),(0:Int),())).1:Int),((0:Int),((1:Int),())))))
        (let r0:=g39 (((List.getD x0 (Int.toNat x1) ((0:Int),(0:Int),(0:Int),())).1:Int),((0:Int),((1:Int),())));
        Tr.test ((!r0.1:Bool))
          (Tr.fin (.ret ((x1,((15:Int),())),())))
          (Tr.test (Option.isSome (f39 (((List.getD x0 (Int.toNat x1) ((0:Int),(0:Int),(0:Int),())).2.1:Int),((0:Int),((60:Int),())))))
            (let r1:=g39 (((List.getD x0 (Int.toNat x1) ((0:Int),(0:Int),(0:Int),())).2.1:Int),((0:Int),((60:Int),())));
            Tr.test ((!r1.1:Bool))
              (Tr.fin (.ret ((x1,((2:Int),())),())))
              (Tr.test (Option.isSome (f88 (((List.getD x0 (Int.toNat x1) ((0:Int),(0:Int),(0:Int),())).2.2.1:Int),())))
                (let r2:=g88 (((List.getD x0 (Int.toNat x1) ((0:Int),(0:Int),(0:Int),())).2.2.1:Int),());
                Tr.test ((!r2.1:Bool))
                  (Tr.fin (.ret ((x1,((2:Int),())),())))
                  (Tr.test ((!leF x1 0:Bool))
                    (Tr.test ((decide ((0:Int) ≤ wrap64 (x1 - (1:Int))) && decide (wrap64 (x1 - (1:Int)) < (↑(List.length x0):Int)):Bool))
                      (Tr.test ((!leF (List.getD x0 (Int.toNat (wrap64 (x1 - (1:Int)))) ((0:Int),(0:Int),(0:Int),())).2.2.1 (List.getD x0 (Int.toNat x1) ((0:Int),(0:Int),(0:Int),())).2.2.1:Bool))
                        (Tr.fin (.ret ((x1,((9:Int),())),())))
                        (Tr.test ((eqF (Int.tmod x1 (2:Int)) (1:Int):Bool))
                          (Tr.test ((!eqF (List.getD x0 (Int.toNat x1) ((0:Int),(0:Int),(0:Int),())).2.1 (Go.IntKind.wrap Go.IntKind.i64 (Int.tdiv x1 (2:Int))):Bool))
                            (Tr.fin (.ret ((x1,((14:Int),())),())))
                            (Tr.test ((!eqF (List.getD x0 (Int.toNat x1) ((0:Int),(0:Int),(0:Int),())).1 (1:Int):Bool))
                              (Tr.fin (.ret ((x1,((14:Int),())),())))
                              (Tr.fin (.again ((x0,((wrap64 (x1 + (1:Int)):Int),())),())))))
                          (Tr.test ((!eqF (List.getD x0 (Int.toNat x1) ((0:Int),(0:Int),(0:Int),())).2.1 (Go.IntKind.wrap Go.IntKind.i64 (Int.tdiv x1 (2:Int))):Bool))
                            (Tr.fin (.ret ((x1,((14:Int),())),())))
                            (Tr.test ((!eqF (List.getD x0 (Int.toNat x1) ((0:Int),(0:Int),(0:Int),())).1 (0:Int):Bool))
                              (Tr.fin (.ret ((x1,((14:Int),())),())))
                              (Tr.fin (.again ((x0,((wrap64 (x1 + (1:Int)):Int),())),())))))))
                      (Tr.stop))
                    (Tr.test ((eqF (Int.tmod x1 (2:Int)) (1:Int):Bool))
                      (Tr.test ((!eqF (List.getD x0 (Int.toNat x1) ((0:Int),(0:Int),(0:Int),())).2.1 (Go.IntKind.wrap Go.IntKind.i64 (Int.tdiv x1 (2:Int))):Bool))
                        (Tr.fin (.ret ((x1,((14:Int),())),())))
                        (Tr.test ((!eqF (List.getD x0 (Int.toNat x1) ((0:Int),(0:Int),(0:Int),())).1 (1:Int):Bool))
                          (Tr.fin (.ret ((x1,((14:Int),())),())))
                          (Tr.fin (.again ((x0,((wrap64 (x1 + (1:Int)):Int),())),())))))
                      (Tr.test ((!eqF (List.getD x0 (Int.toNat x1) ((0:Int),(0:Int),(0:Int),())).2.1 (Go.IntKind.wrap Go.IntKind.i64 (Int.tdiv x1 (2:Int))):Bool))
                        (Tr.fin (.ret ((x1,((14:Int),())),())))
                        (Tr.test ((!eqF (List.getD x0 (Int.toNat x1) ((0:Int),(0:Int),(0:Int),())).1 (0:Int):Bool))
                          (Tr.fin (.ret ((x1,((14:Int),())),())))
                          (Tr.fin (.again ((x0,((wrap64 (x1 + (1:Int)):Int),())),()))))))))
                (Tr.stop)))
            (Tr.stop)))
        (Tr.stop))
      (Tr.stop))
    (Tr.fin (.brk ((),())))

def s45_0 (d:sh45_0.data):Option (Out sh45_0.data shb45_0.data shr45_0.data):=(t45_0 d.1.1 d.1.2.1).val
def l45_0 (d:sh45_0.data):Option (shb45_0.data ⊕ shr45_0.data):=itr s45_0 rounds d
def b45_0 (d:sh45_0.data):shb45_0.data:=outB shb45_0.dflt (l45_0 d)
def r45_0 (d:sh45_0.data):shr45_0.data:=outR shr45_0.dflt (l45_0 d)
def lc45_0:LoopC:=lcOf sh45_0 shb45_0 shr45_0 l45_0 b45_0 r45_0

theorem wk45_0 (x0:(List (Int×(Int×(Int×Unit))))) (x1:Int):Walks (runBody (kf88 Go.Proofs.Try.prog).orc Go.Proofs.Try.prog 400 45 0 sh45_0 shb45_0 shr45_0 ((x0,x1,()),())) (t45_0 x0 x1) [([true,true,true,true],[2,4,6,8]),([true,true,true,false,true,true],[1,2,2,2,2,2,4,6,8,10,12]),([true,true,true,false,true,false,true,true],[2,6,6,4,6,6,6,8,10,12,14,16]),([true,true,true,false,true,false,true,false,true,true,true],[2,6,6,6,6,4,6,6,6,6,6,6,8,12,12,10,12,12,12,14,16,18,20,22]),([true,true,true,false,true,false,true,false,true,true,false,true,true],[1,2,2,2,2,2,0,4,0,6,10,10,10,10,8,10,10,10,10,10,10,12,16,16,14,16,16,16,18,20,22,24,26]),([true,true,true,false,true,false,true,false,true,true,false,true,false,true],[2,4,4,4,4,4,0,6,0,8,12,12,12,12,10,12,12,12,12,12,12,14,18,18,16,18,18,18,20,22,24,26,28]),([true,true,true,false,true,false,true,false,true,true,false,true,false,false],[2,4,4,4,4,4,0,6,0,8,12,12,12,12,10,12,12,12,12,12,12,14,18,18,16,18,18,18,20,22,24,26,28]),([true,true,true,false,true,false,true,false,true,true,false,false,true],[1,2,2,2,2,2,0,4,0,6,10,10,10,10,8,10,10,10,10,10,10,12,16,16,14,16,16,16,18,20,22,24,26]),([true,true,true,false,true,false,true,false,true,true,false,false,false,true],[2,4,4,4,4,4,0,6,0,8,12,12,12,12,10,12,12,12,12,12,12,14,18,18,16,18,18,18,20,22,24,26,28]),([true,true,true,false,true,false,true,false,true,true,false,false,false,false],[2,4,4,4,4,4,0,6,0,8,12,12,12,12,10,12,12,12,12,12,12,14,18,18,16,18,18,18,20,22,24,26,28]),([true,true,true,false,true,false,true,false,false,true,true],[1,2,2,2,2,2,0,4,0,0,6,6,6,6,6,6,6,6,6,6,8,12,12,10,12,12,12,14,16,18,20,22]),([true,true,true,false,true,false,true,false,false,true,false,true],[2,4,4,4,4,4,0,6,0,0,8,8,8,8,8,8,8,8,8,8,10,14,14,12,14,14,14,16,18,20,22,24]),([true,true,true,false,true,false,true,false,false,true,false,false],[2,4,4,4,4,4,0,6,0,0,8,8,8,8,8,8,8,8,8,8,10,14,14,12,14,14,14,16,18,20,22,24]),([true,true,true,false,true,false,true,false,false,false,true],[1,2,2,2,2,2,0,4,0,0,6,6,6,6,6,6,6,6,6,6,8,12,12,10,12,12,12,14,16,18,20,22]),([true,true,true,false,true,false,true,false,false,false,false,true],[2,4,4,4,4,4,0,6,0,0,8,8,8,8,8,8,8,8,8,8,10,14,14,12,14,14,14,16,18,20,22,24]),([true,true,true,false,true,false,true,false,false,false,false,false],[2,4,4,4,4,4,0,6,0,0,8,8,8,8,8,8,8,8,8,8,10,14,14,12,14,14,14,16,18,20,22,24]),([ff],[2])] :=
  ⟨by kernel_rfl,by kernel_rfl,by kernel_rfl,by kernel_rfl,by kernel_rfl,by kernel_rfl,by kernel_rfl,by kernel_rfl,by kernel_rfl,by kernel_rfl,by kernel_rfl,by kernel_rfl,by kernel_rfl,by kernel_rfl,by kernel_rfl,by kernel_rfl,by kernel_rfl,trivial⟩

theorem ok45_0_t (x0:(List (Int×(Int×(Int×Unit))))) (x1:Int):TrOk (BodyRuns Go.Proofs.Try.prog (kf88 Go.Proofs.Try.prog).orc 45 0 sh45_0 shb45_0 shr45_0 ((x0,x1,()),())) (t45_0 x0 x1) :=
  Walks.ok (fun _ _ _=>BodyRuns.of) (wk45_0 x0 x1) (by kernel_rfl)

theorem ok45_0:LoopOk Go.Proofs.Try.prog 45 0 lc45_0:=loopOk_of (sh:=sh45_0) (shB:=shb45_0) (shR:=shr45_0) kf88_ok.base (T:=fun (d:sh45_0.data)=>t45_0 d.1.1 d.1.2.1) (by kernel_rfl) rfl (fun (d:sh45_0.data)=>ok45_0_t d.1.1 d.1.2.1) (fun _=>rfl)
def kl45_0 (P:Go.Program):Known:=(kf88 P).loop 45 0 lc45_0
theorem kl45_0_ok:KnownOk Go.Proofs.Try.prog (kl45_0 Go.Proofs.Try.prog):=kf88_ok.loop ok45_0

/-! ductility/ductilityref08.CheckMessages -/

abbrev as45:List Ty:=[(.slice (.pair (.int .i64) (.pair (.int .i64) (.pair (.int .i64) .unit))))]
abbrev rs45:List Ty:=[(.int .i64),(.int .i64)]

def t45 (x0:(List (Int×(Int×(Int×Unit))))):Tr (Tys.data rs45) :=
  Tr.test ((!leF (↑(List.length x0):Int) (60:Int):Bool))
    (Tr.fin (((0:Int),((8:Int),()))))
    (Tr.test (Option.isSome (l45_0 ((x0,((0:Int),())),())))
      (Tr.test (isRet (l45_0 ((x0,((0:Int),())),())))
        (let r0:=r45_0 ((x0,((0:Int),())),());
        Tr.fin ((r0.1.1,(r0.1.2.1,()))))
        (Tr.fin (((0:Int),((0:Int),())))))
      (Tr.stop))

def f45 (d:Tys.data as45):Option (Tys.data rs45):=(t45 d.1).val
def g45 (d:Tys.data as45):Tys.data rs45:=(f45 d).getD (Tys.dflt rs45)
def p45:PureC:=pcOf as45 rs45 f45 g45

theorem wk45 (x0:(List (Int×(Int×(Int×Unit))))):Walks (runPure (kl45_0 Go.Proofs.Try.prog).orc Go.Proofs.Try.prog 400 45 as45 rs45 (x0,())) (t45 x0) [([tt],[2]),([false,true,true],[2,4,6]),([false,true,false],[2,4,6])] :=
  ⟨by kernel_rfl,by kernel_rfl,by kernel_rfl,trivial⟩

theorem ok45_t (x0:(List (Int×(Int×(Int×Unit))))):TrOk (PureRuns Go.Proofs.Try.prog (kl45_0 Go.Proofs.Try.prog).orc 45 as45 rs45 (x0,())) (t45 x0) :=
  Walks.ok (fun _ _ _=>PureRuns.of) (wk45 x0) (by kernel_rfl)

theorem ok45:PureOk Go.Proofs.Try.prog 45 p45:=pureOk_of kl45_0_ok.base (T:=fun (d:Tys.data as45)=>t45 d.1) (by kernel_rfl) (fun (d:Tys.data as45)=>ok45_t d.1)
def kf45 (P:Go.Program):Known:=(kl45_0 P).func 45 p45
theorem kf45_ok:KnownOk Go.Proofs.Try.prog (kf45 Go.Proofs.Try.prog):=kl45_0_ok.func ok45

/-! ductility/ductilityref08.ClockErr -/

abbrev as46:List Ty:=[(.slice (.pair (.int .i64) (.pair (.int .i64) (.pair (.int .i64) .unit)))),(.pair (.int .i64) (.pair (.int .i64) .unit))]
abbrev rs46:List Ty:=[(.int .i64)]

def t46 (x0:(List (Int×(Int×(Int×Unit))))) (x1:Int) (x1':Int):Tr (Tys.data rs46) :=
  Tr.test (Option.isSome (f39 (x1,((0:Int),((100000:Int),())))))
    (let r0:=g39 (x1,((0:Int),((100000:Int),())));
    Tr.test ((!r0.1:Bool))
      (Tr.fin (((2:Int),())))
      (Tr.test (Option.isSome (f88 (x1',())))
        (let r1:=g88 (x1',());
        Tr.test ((!r1.1:Bool))
          (Tr.fin (((2:Int),())))
          (Tr.test ((!leF (↑(List.length x0):Int) (0:Int):Bool))
            (Tr.test ((decide ((0:Int) ≤ wrap64 ((↑(List.length x0):Int) - (1:Int))) && decide (wrap64 ((↑(List.length x0):Int) - (1:Int)) < (↑(List.length x0):Int)):Bool))
              (Tr.test ((!leF (List.getD x0 (Int.toNat (wrap64 ((↑(List.length x0):Int) - (1:Int)))) ((0:Int),(0:Int),(0:Int),())).2.2.1 x1':Bool))
                (Tr.fin (((22:Int),())))
                (Tr.fin (((0:Int),()))))
              (Tr.stop))
            (Tr.fin (((0:Int),())))))
        (Tr.stop)))
    (Tr.stop)

def f46 (d:Tys.data as46):Option (Tys.data rs46):=(t46 d.1 d.2.1.1 d.2.1.2.1).val
def g46 (d:Tys.data as46):Tys.data rs46:=(f46 d).getD (Tys.dflt rs46)
def p46:PureC:=pcOf as46 rs46 f46 g46

theorem wk46 (x0:(List (Int×(Int×(Int×Unit))))) (x1:Int) (x1':Int):Walks (runPure (kf45 Go.Proofs.Try.prog).orc Go.Proofs.Try.prog 400 46 as46 rs46 (x0,(x1,x1',()),())) (t46 x0 x1 x1') [([true,true],[1,2,2,2,2,2,4]),([true,false,true,true],[2,6,6,4,6,6,6,8]),([true,false,true,false,true,true,true],[2,6,6,6,6,4,6,6,6,6,6,6,6,8,12,12,10,12,12,12,14]),([true,false,true,false,true,true,false],[2,6,6,6,6,4,6,6,6,6,6,6,6,8,12,12,10,12,12,12,14]),([true,false,true,false,false],[0,2,2,2,2,2,2,2,2,2,2,2,4,8,8,6,8,8,8,10])] :=
  ⟨by kernel_rfl,by kernel_rfl,by kernel_rfl,by kernel_rfl,by kernel_rfl,trivial⟩

theorem ok46_t (x0:(List (Int×(Int×(Int×Unit))))) (x1:Int) (x1':Int):TrOk (PureRuns Go.Proofs.Try.prog (kf45 Go.Proofs.Try.prog).orc 46 as46 rs46 (x0,(x1,x1',()),())) (t46 x0 x1 x1') :=
  Walks.ok (fun _ _ _=>PureRuns.of) (wk46 x0 x1 x1') (by kernel_rfl)

theorem ok46:PureOk Go.Proofs.Try.prog 46 p46:=pureOk_of kf45_ok.base (T:=fun (d:Tys.data as46)=>t46 d.1 d.2.1.1 d.2.1.2.1) (by kernel_rfl) (fun (d:Tys.data as46)=>ok46_t d.1 d.2.1.1 d.2.1.2.1)
def kf46 (P:Go.Program):Known:=(kf45 P).func 46 p46
theorem kf46_ok:KnownOk Go.Proofs.Try.prog (kf46 Go.Proofs.Try.prog):=kf45_ok.func ok46

/-! loop 0 of ductility/ductilityref08.Late -/

abbrev sh48_0:Sh:={ n:=43,slots:=[0,3,5,6],pats:=[.ty (.slice (.pair (.int .i64) (.pair (.int .i64) (.pair (.int .i64) .unit)))),.ptr 0 2 0,.acc (.int .i64),.ty (.int .i64)],boxes:=[.row [.ty (.int .i64),.ty (.int .i64)]] }
abbrev shb48_0:Sh:={ n:=43,slots:=[5],pats:=[.acc (.int .i64)],boxes:=[.row [.ty (.int .i64),.ty (.int .i64)]] }
abbrev shr48_0:Sh:={ n:=43,slots:=[],pats:=[],boxes:=[.row [.ty (.int .i64),.ty (.int .i64)]] }

def t48_0 (x0:(List (Int×(Int×(Int×Unit))))) (x2:(List Int)) (x3:Int) (b0_0:Int) (b0_1:Int):Tr (Out sh48_0.data shb48_0.data shr48_0.data) :=
  Tr.test ((!leF (↑(List.length x0):Int) x3:Bool))
    (Tr.test (!leF (↑(List.length x0):Int) (wrap64 (x3 + (1:Int))))
      (Tr.test ((decide ((0:Int) ≤ wrap64 (x3 + (1:Int))) && decide (wrap64 (x3 + (1:Int)) < (↑(List.length x0):Int)):Bool))
        (Tr.test ((decide ((0:Int) ≤ x3) && decide (x3 < (↑(List.length x0):Int)):Bool))
          (Tr.test ((!leF (wrap64 ((List.getD x0 (Int.toNat (wrap64 (x3 + (1:Int)))) ((0:Int),(0:Int),(0:Int),())).2.2.1 - (List.getD x0 (Int.toNat x3) ((0:Int),(0:Int),(0:Int),())).2.2.1)) b0_0:Bool))
            (Tr.test ((Nat.ble (((2:Nat) * (List.length x2 + (1:Nat)) + (192:Nat)) * (8:Nat)) (281474976710656:Nat) && Nat.ble (List.length x2 + (1:Nat)) (281474976710656:Nat):Bool))
              (Tr.fin (.again ((x0,((x2++[Go.IntKind.wrap Go.IntKind.i64 (Int.tdiv x3 (2:Int))]:List Int),((wrap64 (x3 + (2:Int)):Int),()))),((b0_0,(b0_1,())),()))))
              (Tr.stop))
            (Tr.fin (.again ((x0,(x2,((wrap64 (x3 + (2:Int)):Int),()))),((b0_0,(b0_1,())),())))))
          (Tr.stop))
        (Tr.stop))
      (Tr.test ((decide ((0:Int) ≤ x3) && decide (x3 < (↑(List.length x0):Int)):Bool))
        (Tr.test ((!leF (wrap64 (b0_1 - (List.getD x0 (Int.toNat x3) ((0:Int),(0:Int),(0:Int),())).2.2.1)) b0_0:Bool))
          (Tr.test ((Nat.ble (((2:Nat) * (List.length x2 + (1:Nat)) + (192:Nat)) * (8:Nat)) (281474976710656:Nat) && Nat.ble (List.length x2 + (1:Nat)) (281474976710656:Nat):Bool))
            (Tr.fin (.again ((x0,((x2++[Go.IntKind.wrap Go.IntKind.i64 (Int.tdiv x3 (2:Int))]:List Int),((wrap64 (x3 + (2:Int)):Int),()))),((b0_0,(b0_1,())),()))))
            (Tr.stop))
          (Tr.fin (.again ((x0,(x2,((wrap64 (x3 + (2:Int)):Int),()))),((b0_0,(b0_1,())),())))))
        (Tr.stop)))
    (Tr.fin (.brk ((x2,()),((b0_0,(b0_1,())),()))))

def s48_0 (d:sh48_0.data):Option (Out sh48_0.data shb48_0.data shr48_0.data):=(t48_0 d.1.1 d.1.2.1 d.1.2.2.1 d.2.1.1 d.2.1.2.1).val
def l48_0 (d:sh48_0.data):Option (shb48_0.data ⊕ shr48_0.data):=itr s48_0 rounds d
def b48_0 (d:sh48_0.data):shb48_0.data:=outB shb48_0.dflt (l48_0 d)
def lc48_0:LoopC:=lcB sh48_0 shb48_0 shr48_0 l48_0 b48_0

theorem wk48_0 (x0:(List (Int×(Int×(Int×Unit))))) (x2:(List Int)) (x3:Int) (b0_0:Int) (b0_1:Int):Walks (runBody (kf46 Go.Proofs.Try.prog).orc Go.Proofs.Try.prog 400 48 0 sh48_0 shb48_0 shr48_0 ((x0,x2,x3,()),(b0_0,b0_1,()),())) (t48_0 x0 x2 x3 b0_0 b0_1) [([true,true,true,true,true,true],[2,0,0,4,6,8,10,12]),([true,true,true,true,false],[2,4,6,8,10]),([true,false,true,true,true],[2,0,0,4,6,8,10]),([true,false,true,false],[2,4,6,8]),([ff],[2])] :=
  ⟨by kernel_rfl,by kernel_rfl,by kernel_rfl,by kernel_rfl,by kernel_rfl,trivial⟩

theorem ok48_0_t (x0:(List (Int×(Int×(Int×Unit))))) (x2:(List Int)) (x3:Int) (b0_0:Int) (b0_1:Int):TrOk (BodyRuns Go.Proofs.Try.prog (kf46 Go.Proofs.Try.prog).orc 48 0 sh48_0 shb48_0 shr48_0 ((x0,x2,x3,()),(b0_0,b0_1,()),())) (t48_0 x0 x2 x3 b0_0 b0_1) :=
  Walks.ok (fun _ _ _=>BodyRuns.of) (wk48_0 x0 x2 x3 b0_0 b0_1) (by kernel_rfl)

theorem ok48_0:LoopOk Go.Proofs.Try.prog 48 0 lc48_0:=loopOk_ofB (sh:=sh48_0) (shB:=shb48_0) (shR:=shr48_0) kf46_ok.base (T:=fun (d:sh48_0.data)=>t48_0 d.1.1 d.1.2.1 d.1.2.2.1 d.2.1.1 d.2.1.2.1) (by kernel_rfl) rfl (fun (d:sh48_0.data)=>ok48_0_t d.1.1 d.1.2.1 d.1.2.2.1 d.2.1.1 d.2.1.2.1) (fun _=>rfl)
def kl48_0 (P:Go.Program):Known:=(kf46 P).loop 48 0 lc48_0
theorem kl48_0_ok:KnownOk Go.Proofs.Try.prog (kl48_0 Go.Proofs.Try.prog):=kf46_ok.loop ok48_0

/-! ductility/ductilityref08.Late -/

abbrev as48:List Ty:=[(.slice (.pair (.int .i64) (.pair (.int .i64) (.pair (.int .i64) .unit)))),(.pair (.int .i64) (.pair (.int .i64) .unit))]
abbrev rs48:List Ty:=[(.slice (.int .i64))]

def t48 (x0:(List (Int×(Int×(Int×Unit))))) (x1:Int) (x1':Int):Tr (Tys.data rs48) :=
  Tr.test (isBrk (l48_0 ((x0,(([]:List Int),((0:Int),()))),((x1,(x1',())),()))))
    (let r0:=b48_0 ((x0,(([]:List Int),((0:Int),()))),((x1,(x1',())),()));
    Tr.fin ((r0.1.1,())))
    (Tr.stop)

def f48 (d:Tys.data as48):Option (Tys.data rs48):=(t48 d.1 d.2.1.1 d.2.1.2.1).val
def g48 (d:Tys.data as48):Tys.data rs48:=(f48 d).getD (Tys.dflt rs48)
def p48:PureC:=pcOf as48 rs48 f48 g48

theorem wk48 (x0:(List (Int×(Int×(Int×Unit))))) (x1:Int) (x1':Int):Walks (runPure (kl48_0 Go.Proofs.Try.prog).orc Go.Proofs.Try.prog 400 48 as48 rs48 (x0,(x1,x1',()),())) (t48 x0 x1 x1') [([tt],[1,2])] :=
  ⟨by kernel_rfl,trivial⟩

theorem ok48_t (x0:(List (Int×(Int×(Int×Unit))))) (x1:Int) (x1':Int):TrOk (PureRuns Go.Proofs.Try.prog (kl48_0 Go.Proofs.Try.prog).orc 48 as48 rs48 (x0,(x1,x1',()),())) (t48 x0 x1 x1') :=
  Walks.ok (fun _ _ _=>PureRuns.of) (wk48 x0 x1 x1') (by kernel_rfl)

theorem ok48:PureOk Go.Proofs.Try.prog 48 p48:=pureOk_of kl48_0_ok.base (T:=fun (d:Tys.data as48)=>t48 d.1 d.2.1.1 d.2.1.2.1) (by kernel_rfl) (fun (d:Tys.data as48)=>ok48_t d.1 d.2.1.1 d.2.1.2.1)
def kf48 (P:Go.Program):Known:=(kl48_0 P).func 48 p48
theorem kf48_ok:KnownOk Go.Proofs.Try.prog (kf48 Go.Proofs.Try.prog):=kl48_0_ok.func ok48

/-! ductility/ductilityref08.Held -/

abbrev as47:List Ty:=[(.slice (.pair (.int .i64) (.pair (.int .i64) (.pair (.int .i64) .unit)))),(.pair (.int .i64) (.pair (.int .i64) .unit))]
abbrev rs47:List Ty:=[(.int .i64),.bool]

def t47 (x0:(List (Int×(Int×(Int×Unit))))) (x1:Int) (x1':Int):Tr (Tys.data rs47) :=
  Tr.test (Option.isSome (f48 (x0,((x1,(x1',())),()))))
    (let r0:=g48 (x0,((x1,(x1',())),()));
    Tr.test ((eqF (↑(List.length r0.1):Int) (0:Int):Bool))
      (Tr.fin (((0:Int),((false:Bool),()))))
      (Tr.test ((true && decide ((0:Int) < (↑(List.length r0.1):Int)):Bool))
        (Tr.test ((decide ((0:Int) ≤ wrap64 ((2:Int) * List.getD r0.1 (0:Nat) (0:Int))) && decide (wrap64 ((2:Int) * List.getD r0.1 (0:Nat) (0:Int)) < (↑(List.length x0):Int)):Bool))
          (Tr.fin (((wrap64 (wrap64 ((List.getD x0 (Int.toNat (wrap64 ((2:Int) * List.getD r0.1 (0:Nat) (0:Int)))) ((0:Int),(0:Int),(0:Int),())).2.2.1 + x1) + (1:Int)):Int),((true:Bool),()))))
          (Tr.stop))
        (Tr.stop)))
    (Tr.stop)

def f47 (d:Tys.data as47):Option (Tys.data rs47):=(t47 d.1 d.2.1.1 d.2.1.2.1).val
def g47 (d:Tys.data as47):Tys.data rs47:=(f47 d).getD (Tys.dflt rs47)
def p47:PureC:=pcOf as47 rs47 f47 g47

theorem wk47 (x0:(List (Int×(Int×(Int×Unit))))) (x1:Int) (x1':Int):Walks (runPure (kf48 Go.Proofs.Try.prog).orc Go.Proofs.Try.prog 400 47 as47 rs47 (x0,(x1,x1',()),())) (t47 x0 x1 x1') [([true,true],[2,4]),([true,false,true,true],[2,4,6,8])] :=
  ⟨by kernel_rfl,by kernel_rfl,trivial⟩

theorem ok47_t (x0:(List (Int×(Int×(Int×Unit))))) (x1:Int) (x1':Int):TrOk (PureRuns Go.Proofs.Try.prog (kf48 Go.Proofs.Try.prog).orc 47 as47 rs47 (x0,(x1,x1',()),())) (t47 x0 x1 x1') :=
  Walks.ok (fun _ _ _=>PureRuns.of) (wk47 x0 x1 x1') (by kernel_rfl)

theorem ok47:PureOk Go.Proofs.Try.prog 47 p47:=pureOk_of kf48_ok.base (T:=fun (d:Tys.data as47)=>t47 d.1 d.2.1.1 d.2.1.2.1) (by kernel_rfl) (fun (d:Tys.data as47)=>ok47_t d.1 d.2.1.1 d.2.1.2.1)
def kf47 (P:Go.Program):Known:=(kf48 P).func 47 p47
theorem kf47_ok:KnownOk Go.Proofs.Try.prog (kf47 Go.Proofs.Try.prog):=kf48_ok.func ok47

/-! loop 0 of ductility/ductilityref08.Count -/

abbrev sh49_0:Sh:={ n:=34,slots:=[0,3,5],pats:=[.ty (.slice (.pair (.int .i64) (.pair (.int .i64) (.pair (.int .i64) .unit)))),.ptr 0 2 0,.ty (.int .i64)],boxes:=[.row [.ty (.int .i64),.ty (.int .i64)]] }
abbrev shb49_0:Sh:={ n:=34,slots:=[5],pats:=[.ty (.int .i64)],boxes:=[.row [.ty (.int .i64),.ty (.int .i64)]] }
abbrev shr49_0:Sh:={ n:=34,slots:=[],pats:=[],boxes:=[.row [.ty (.int .i64),.ty (.int .i64)]] }

def t49_0 (x0:(List (Int×(Int×(Int×Unit))))) (x2:Int) (b0_0:Int) (b0_1:Int):Tr (Out sh49_0.data shb49_0.data shr49_0.data) :=
  Tr.test ((!leF (↑(List.length x0):Int) (wrap64 (wrap64 ((2:Int) * x2) + (1:Int))):Bool))
    (Tr.test (decide ((0:Int) ≤ wrap64 (wrap64 ((2:Int) * x2) + (1:Int))) && decide (wrap64 (wrap64 ((2:Int) * x2) + (1:Int)) < (↑(List.length x0):Int)))
      (Tr.test ((decide ((0:Int) ≤ wrap64 ((2:Int) * x2)) && decide (wrap64 ((2:Int) * x2) < (↑(List.length x0):Int)):Bool))
        (Tr.test ((leF (wrap64 ((List.getD x0 (Int.toNat (wrap64 (wrap64 ((2:Int) * x2) + (1:Int)))) ((0:Int),(0:Int),(0:Int),())).2.2.1 - (List.getD x0 (Int.toNat (wrap64 ((2:Int) * x2))) ((0:Int),(0:Int),(0:Int),())).2.2.1)) b0_0:Bool))
          (Tr.fin (.again ((x0,((wrap64 (x2 + (1:Int)):Int),())),((b0_0,(b0_1,())),()))))
          (Tr.fin (.brk ((x2,()),((b0_0,(b0_1,())),())))))
        (Tr.stop))
      (Tr.stop))
    (Tr.fin (.brk ((x2,()),((b0_0,(b0_1,())),()))))

def s49_0 (d:sh49_0.data):Option (Out sh49_0.data shb49_0.data shr49_0.data):=(t49_0 d.1.1 d.1.2.1 d.2.1.1 d.2.1.2.1).val
def l49_0 (d:sh49_0.data):Option (shb49_0.data ⊕ shr49_0.data):=itr s49_0 rounds d
def b49_0 (d:sh49_0.data):shb49_0.data:=outB shb49_0.dflt (l49_0 d)
def lc49_0:LoopC:=lcB sh49_0 shb49_0 shr49_0 l49_0 b49_0

theorem wk49_0 (x0:(List (Int×(Int×(Int×Unit))))) (x2:Int) (b0_0:Int) (b0_1:Int):Walks (runBody (kf47 Go.Proofs.Try.prog).orc Go.Proofs.Try.prog 400 49 0 sh49_0 shb49_0 shr49_0 ((x0,x2,()),(b0_0,b0_1,()),())) (t49_0 x0 x2 b0_0 b0_1) [([true,true,true,true],[2,8,8,8,8,8,8,8,4,8,8,8,8,8,8,6,8,8,8,8,8]),([true,true,true,false],[2,8,8,8,8,8,8,8,4,8,8,8,8,8,8,6,8,8,8,8,8]),([ff],[0,2,2,2,2,2,2,2,2,2,2,2,2,2,2,2,2,2,2])] :=
  ⟨by kernel_rfl,by kernel_rfl,by kernel_rfl,trivial⟩

theorem ok49_0_t (x0:(List (Int×(Int×(Int×Unit))))) (x2:Int) (b0_0:Int) (b0_1:Int):TrOk (BodyRuns Go.Proofs.Try.prog (kf47 Go.Proofs.Try.prog).orc 49 0 sh49_0 shb49_0 shr49_0 ((x0,x2,()),(b0_0,b0_1,()),())) (t49_0 x0 x2 b0_0 b0_1) :=
  Walks.ok (fun _ _ _=>BodyRuns.of) (wk49_0 x0 x2 b0_0 b0_1) (by kernel_rfl)

theorem ok49_0:LoopOk Go.Proofs.Try.prog 49 0 lc49_0:=loopOk_ofB (sh:=sh49_0) (shB:=shb49_0) (shR:=shr49_0) kf47_ok.base (T:=fun (d:sh49_0.data)=>t49_0 d.1.1 d.1.2.1 d.2.1.1 d.2.1.2.1) (by kernel_rfl) rfl (fun (d:sh49_0.data)=>ok49_0_t d.1.1 d.1.2.1 d.2.1.1 d.2.1.2.1) (fun _=>rfl)
def kl49_0 (P:Go.Program):Known:=(kf47 P).loop 49 0 lc49_0
theorem kl49_0_ok:KnownOk Go.Proofs.Try.prog (kl49_0 Go.Proofs.Try.prog):=kf47_ok.loop ok49_0

/-! ductility/ductilityref08.Count -/

abbrev as49:List Ty:=[(.slice (.pair (.int .i64) (.pair (.int .i64) (.pair (.int .i64) .unit)))),(.pair (.int .i64) (.pair (.int .i64) .unit))]
abbrev rs49:List Ty:=[(.int .i64)]

def t49 (x0:(List (Int×(Int×(Int×Unit))))) (x1:Int) (x1':Int):Tr (Tys.data rs49) :=
  Tr.test (isBrk (l49_0 ((x0,((0:Int),())),((x1,(x1',())),()))))
    (let r0:=b49_0 ((x0,((0:Int),())),((x1,(x1',())),()));
    Tr.fin ((r0.1.1,())))
    (Tr.stop)

def f49 (d:Tys.data as49):Option (Tys.data rs49):=(t49 d.1 d.2.1.1 d.2.1.2.1).val
def g49 (d:Tys.data as49):Tys.data rs49:=(f49 d).getD (Tys.dflt rs49)
def p49:PureC:=pcOf as49 rs49 f49 g49

theorem wk49 (x0:(List (Int×(Int×(Int×Unit))))) (x1:Int) (x1':Int):Walks (runPure (kl49_0 Go.Proofs.Try.prog).orc Go.Proofs.Try.prog 400 49 as49 rs49 (x0,(x1,x1',()),())) (t49 x0 x1 x1') [([tt],[1,2])] :=
  ⟨by kernel_rfl,trivial⟩

theorem ok49_t (x0:(List (Int×(Int×(Int×Unit))))) (x1:Int) (x1':Int):TrOk (PureRuns Go.Proofs.Try.prog (kl49_0 Go.Proofs.Try.prog).orc 49 as49 rs49 (x0,(x1,x1',()),())) (t49 x0 x1 x1') :=
  Walks.ok (fun _ _ _=>PureRuns.of) (wk49 x0 x1 x1') (by kernel_rfl)

theorem ok49:PureOk Go.Proofs.Try.prog 49 p49:=pureOk_of kl49_0_ok.base (T:=fun (d:Tys.data as49)=>t49 d.1 d.2.1.1 d.2.1.2.1) (by kernel_rfl) (fun (d:Tys.data as49)=>ok49_t d.1 d.2.1.1 d.2.1.2.1)
def kf49 (P:Go.Program):Known:=(kl49_0 P).func 49 p49
theorem kf49_ok:KnownOk Go.Proofs.Try.prog (kf49 Go.Proofs.Try.prog):=kl49_0_ok.func ok49

/-! ductility/ductilitylaw08.HybridMessages -/

abbrev as7:List Ty:=[(.slice (.pair (.int .i64) (.pair (.int .i64) (.pair (.int .i64) .unit)))),(.pair (.int .i64) (.pair (.int .i64) .unit))]
abbrev rs7:List Ty:=[.bool]

def t7 (x0:(List (Int×(Int×(Int×Unit))))) (x1:Int) (x1':Int):Tr (Tys.data rs7) :=
  Tr.test ((!leF (↑(List.length x0):Int) (62:Int):Bool))
    (Tr.fin ((true,())))
    (Tr.test (Option.isSome (f41 (x0,())))
      (let r0:=g41 (x0,());
      Tr.test (Option.isSome (f40 (r0.1,())))
        (Tr.test (Option.isSome (f42 (r0.1,((x1,(x1',())),()))))
          (Tr.test (Option.isSome (f43 (r0.1,((x1,(x1',())),()))))
            (Tr.test (Option.isSome (f44 (r0.1,((x1,(x1',())),()))))
              (Tr.test (Option.isSome (f45 (x0,())))
                (let r1:=g40 (r0.1,());
                let r5:=g45 (x0,());
                Tr.test ((!eqF r1.2.1 r5.2.1:Bool))
                  (Tr.fin (((false:Bool),())))
                  (Tr.test ((!eqF r1.1 r5.1:Bool))
                    (Tr.fin (((false:Bool),())))
                    (Tr.test ((eqF r5.2.1 0:Bool))
                      (Tr.test (Option.isSome (f46 (x0,((x1,(x1',())),()))))
                        (let r6:=g46 (x0,((x1,(x1',())),()));
                        Tr.test ((!eqF r6.1 0:Bool))
                          (let r2:=g42 (r0.1,((x1,(x1',())),()));
                          Tr.test ((eqF r2.2.1 r6.1:Bool))
                            (let r3:=g43 (r0.1,((x1,(x1',())),()));
                            Tr.test ((eqF r3.2.1 r6.1:Bool))
                              (let r4:=g44 (r0.1,((x1,(x1',())),()));
                              Tr.test ((eqF r4.2.1 r6.1:Bool))
                                (Tr.test ((eqF (↑(List.length r2.1):Int) (0:Int):Bool))
                                  (Tr.test ((eqF r3.1 0:Bool))
                                    (Tr.fin (((eqF r4.1 0:Bool),())))
                                    (Tr.fin (((false:Bool),()))))
                                  (Tr.fin (((false:Bool),()))))
                                (Tr.fin (((false:Bool),()))))
                              (Tr.fin (((false:Bool),()))))
                            (Tr.fin (((false:Bool),()))))
                          (Tr.test (Option.isSome (f47 (x0,((x1,(x1',())),()))))
                            (let r2:=g42 (r0.1,((x1,(x1',())),()));
                            Tr.test ((eqF r2.2.1 0:Bool))
                              (Tr.test (Option.isSome (f48 (x0,((x1,(x1',())),()))))
                                (let r8:=g48 (x0,((x1,(x1',())),()));
                                Tr.test (Option.isSome (f24 (r2.1,(r8.1,()))))
                                  (let r9:=g24 (r2.1,(r8.1,()));
                                  Tr.test (r9.1)
                                    (let r4:=g44 (r0.1,((x1,(x1',())),()));
                                    Tr.test ((eqF r4.2.1 0:Bool))
                                      (Tr.test (Option.isSome (f49 (x0,((x1,(x1',())),()))))
                                        (let r10:=g49 (x0,((x1,(x1',())),()));
                                        Tr.test ((eqF r4.1 r10.1:Bool))
                                          (let r7:=g47 (x0,((x1,(x1',())),()));
                                          Tr.test (r7.2.1)
                                            (let r3:=g43 (r0.1,((x1,(x1',())),()));
                                            Tr.test ((eqF r3.2.1 0:Bool))
                                              (Tr.test ((eqF r3.1 r7.1:Bool))
                                                (Tr.fin (((true:Bool),())))
                                                (Tr.fin (((false:Bool),()))))
                                              (Tr.fin (((false:Bool),()))))
                                            (let r3:=g43 (r0.1,((x1,(x1',())),()));
                                            Tr.test ((eqF r3.2.1 12:Bool))
                                              (Tr.fin (((eqF r3.1 0:Bool),())))
                                              (Tr.fin (((false:Bool),())))))
                                          (Tr.fin (((false:Bool),()))))
                                        (Tr.stop))
                                      (Tr.fin (((false:Bool),()))))
                                    (Tr.fin (((false:Bool),()))))
                                  (Tr.stop))
                                (Tr.stop))
                              (Tr.fin (((false:Bool),()))))
                            (Tr.stop)))
                        (Tr.stop))
                      (let r2:=g42 (r0.1,((x1,(x1',())),()));
                      Tr.test ((eqF r2.2.1 r5.2.1:Bool))
                        (let r3:=g43 (r0.1,((x1,(x1',())),()));
                        Tr.test ((eqF r3.2.1 r5.2.1:Bool))
                          (let r4:=g44 (r0.1,((x1,(x1',())),()));
                          Tr.test ((eqF r4.2.1 r5.2.1:Bool))
                            (Tr.test ((eqF (↑(List.length r2.1):Int) (0:Int):Bool))
                              (Tr.test ((eqF r3.1 0:Bool))
                                (Tr.fin (((eqF r4.1 0:Bool),())))
                                (Tr.fin (((false:Bool),()))))
                              (Tr.fin (((false:Bool),()))))
                            (Tr.fin (((false:Bool),()))))
                          (Tr.fin (((false:Bool),()))))
                        (Tr.fin (((false:Bool),())))))))
                (Tr.stop))
              (Tr.stop))
            (Tr.stop))
          (Tr.stop))
        (Tr.stop))
      (Tr.stop))

def f7 (d:Tys.data as7):Option (Tys.data rs7):=(t7 d.1 d.2.1.1 d.2.1.2.1).val
def g7 (d:Tys.data as7):Tys.data rs7:=(f7 d).getD (Tys.dflt rs7)
def p7:PureC:=pcOf as7 rs7 f7 g7

theorem wk7 (x0:(List (Int×(Int×(Int×Unit))))) (x1:Int) (x1':Int):Walks (runPure (kf49 Go.Proofs.Try.prog).orc Go.Proofs.Try.prog 400 7 as7 rs7 (x0,(x1,x1',()),())) (t7 x0 x1 x1') [([tt],[2,0,1]),([false,true,true,true,true,true,true,true],[1,2,2,2,2,4,6,14,8,14,10,14,12,14,16,0,1]),([false,true,true,true,true,true,true,false,true],[2,4,4,4,4,6,8,16,10,16,12,16,14,16,18,0,1]),([false,true,true,true,true,true,true,false,false,true,true,true,true,true,true,true,true],[2,2,2,4,4,4,6,6,6,6,8,8,8,8,10,10,10,10,12,14,16,18,20,20,20,20,22,24,32,26,32,28,32,30,32,34,0,1]),([false,true,true,true,true,true,true,false,false,true,true,true,true,true,true,true,false],[2,2,2,4,4,4,6,6,6,6,8,8,8,8,10,10,10,10,12,14,16,18,20,20,20,20,22,24,32,26,32,28,32,30,32,34,0,1]),([false,true,true,true,true,true,true,false,false,true,true,true,true,true,true,false],[0,0,0,2,2,2,4,4,4,4,6,6,6,6,8,8,8,8,10,12,14,16,18,18,18,18,20,22,30,24,30,26,30,28,30,32,0,1]),([false,true,true,true,true,true,true,false,false,true,true,true,true,true,false],[0,0,0,0,0,0,2,2,2,2,4,4,4,4,6,6,6,6,8,10,12,14,16,16,16,16,18,20,28,22,28,24,28,26,28,30,0,1]),([false,true,true,true,true,true,true,false,false,true,true,true,true,false],[0,0,0,0,0,0,0,0,0,0,2,2,2,2,4,4,4,4,6,8,10,12,14,14,14,14,16,18,26,20,26,22,26,24,26,28,0,1]),([false,true,true,true,true,true,true,false,false,true,true,true,false],[0,0,0,0,0,0,0,0,0,0,0,0,0,0,2,2,2,2,4,6,8,10,12,12,12,12,14,16,24,18,24,20,24,22,24,26,0,1]),([false,true,true,true,true,true,true,false,false,true,true,false,true,true,true,true,true,true,true,true,true,true,true],[8,2,8,2,2,2,2,2,2,8,4,8,4,4,4,8,6,8,6,6,8,8,12,12,10,12,12,12,12,14,14,14,20,16,20,18,20,20,20,20,22,24,26,28,30,32,32,32,32,34,36,44,38,44,40,44,42,44,46,0,1]),([false,true,true,true,true,true,true,false,false,true,true,false,true,true,true,true,true,true,true,true,true,true,false],[8,2,8,0,2,0,0,2,7,2,7,7,2,2,2,8,4,8,4,4,4,8,6,8,6,6,8,8,12,12,10,12,12,12,12,14,14,14,20,16,20,18,20,20,20,20,22,24,26,28,30,32,32,32,32,34,36,44,38,44,40,44,42,44,46,0,1]),([false,true,true,true,true,true,true,false,false,true,true,false,true,true,true,true,true,true,true,true,true,false],[6,0,6,0,0,0,0,0,5,0,5,5,0,0,0,6,2,6,2,2,2,6,4,6,4,4,6,6,10,10,8,10,10,10,10,12,12,12,18,14,18,16,18,18,18,18,20,22,24,26,28,30,30,30,30,32,34,42,36,42,38,42,40,42,44,0,1]),([false,true,true,true,true,true,true,false,false,true,true,false,true,true,true,true,true,true,true,true,false,true],[6,0,6,2,0,2,2,0,5,0,5,5,0,0,0,6,0,6,0,0,0,6,4,6,4,4,6,6,10,10,8,10,10,10,10,12,12,12,18,14,18,16,18,18,18,18,20,22,24,26,28,30,30,30,30,32,34,42,36,42,38,42,40,42,44,0,1]),([false,true,true,true,true,true,true,false,false,true,true,false,true,true,true,true,true,true,true,true,false,false],[6,0,6,2,0,2,2,0,5,0,5,5,0,0,0,6,0,6,0,0,0,6,4,6,4,4,6,6,10,10,8,10,10,10,10,12,12,12,18,14,18,16,18,18,18,18,20,22,24,26,28,30,30,30,30,32,34,42,36,42,38,42,40,42,44,0,1]),([false,true,true,true,true,true,true,false,false,true,true,false,true,true,true,true,true,true,true,false],[2,2,2,2,2,2,2,2,6,6,4,6,6,6,6,8,8,8,14,10,14,12,14,14,14,14,16,18,20,22,24,26,26,26,26,28,30,38,32,38,34,38,36,38,40,0,1]),([false,true,true,true,true,true,true,false,false,true,true,false,true,true,true,true,true,false],[0,0,0,0,0,0,0,0,2,2,2,2,2,2,4,4,4,10,6,10,8,10,10,10,10,12,14,16,18,20,22,22,22,22,24,26,34,28,34,30,34,32,34,36,0,1]),([false,true,true,true,true,true,true,false,false,true,true,false,true,true,true,true,false],[0,0,0,0,0,0,0,0,0,0,0,0,0,0,2,2,2,8,4,8,6,8,8,8,8,10,12,14,16,18,20,20,20,20,22,24,32,26,32,28,32,30,32,34,0,1]),([false,true,true,true,true,true,true,false,false,true,true,false,true,false],[0,0,0,0,0,0,0,0,0,0,0,0,0,0,0,0,0,2,2,2,2,2,2,4,6,8,10,12,14,14,14,14,16,18,26,20,26,22,26,24,26,28,0,1]),([false,true,true,true,true,true,true,false,false,false,true,true,true,true,true],[2,2,2,4,4,4,6,6,6,6,8,8,8,8,10,10,10,10,13,12,14,16,16,16,16,18,20,28,22,28,24,28,26,28,30,0,1]),([false,true,true,true,true,true,true,false,false,false,true,true,true,true,false],[2,2,2,4,4,4,6,6,6,6,8,8,8,8,10,10,10,10,13,12,14,16,16,16,16,18,20,28,22,28,24,28,26,28,30,0,1]),([false,true,true,true,true,true,true,false,false,false,true,true,true,false],[0,0,0,2,2,2,4,4,4,4,6,6,6,6,8,8,8,8,11,10,12,14,14,14,14,16,18,26,20,26,22,26,24,26,28,0,1]),([false,true,true,true,true,true,true,false,false,false,true,true,false],[0,0,0,0,0,0,2,2,2,2,4,4,4,4,6,6,6,6,9,8,10,12,12,12,12,14,16,24,18,24,20,24,22,24,26,0,1]),([false,true,true,true,true,true,true,false,false,false,true,false],[0,0,0,0,0,0,0,0,0,0,2,2,2,2,4,4,4,4,7,6,8,10,10,10,10,12,14,22,16,22,18,22,20,22,24,0,1]),([false,true,true,true,true,true,true,false,false,false,false],[0,0,0,0,0,0,0,0,0,0,0,0,0,0,2,2,2,2,5,4,6,8,8,8,8,10,12,20,14,20,16,20,18,20,22,0,1])] :=
  ⟨by kernel_rfl,by kernel_rfl,by kernel_rfl,by kernel_rfl,by kernel_rfl,by kernel_rfl,by kernel_rfl,by kernel_rfl,by kernel_rfl,by kernel_rfl,by kernel_rfl,by kernel_rfl,by kernel_rfl,by kernel_rfl,by kernel_rfl,by kernel_rfl,by kernel_rfl,by kernel_rfl,by kernel_rfl,by kernel_rfl,by kernel_rfl,by kernel_rfl,by kernel_rfl,by kernel_rfl,trivial⟩

theorem ok7_t (x0:(List (Int×(Int×(Int×Unit))))) (x1:Int) (x1':Int):TrOk (PureRuns Go.Proofs.Try.prog (kf49 Go.Proofs.Try.prog).orc 7 as7 rs7 (x0,(x1,x1',()),())) (t7 x0 x1 x1') :=
  Walks.ok (fun _ _ _=>PureRuns.of) (wk7 x0 x1 x1') (by kernel_rfl)

theorem ok7:PureOk Go.Proofs.Try.prog 7 p7:=pureOk_of kf49_ok.base (T:=fun (d:Tys.data as7)=>t7 d.1 d.2.1.1 d.2.1.2.1) (by kernel_rfl) (fun (d:Tys.data as7)=>ok7_t d.1 d.2.1.1 d.2.1.2.1)

end Go.Vm.Mo
