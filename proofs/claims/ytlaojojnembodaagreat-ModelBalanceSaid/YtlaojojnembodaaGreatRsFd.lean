import Derived.Test.YtlaojojnembodaaGreatA5
import Derived.KernelRfl
import Derived.Test.YtlaojojnembodaaGreatProg
import Derived.Test.YtlaojojnembodaaGreatRsFc
set_option linter.unusedVariables false
set_option linter.unusedSimpArgs false

namespace Go.Vm.Mo
open Go
set_option linter.unusedVariables false
abbrev sh93_0_4 (P:Go.Program):Sh:={ n:=70,slots:=[0,1,2,15,16,17],pats:=[.yld 0,.ptr 1 4 0,.ptr 2 1 0,.ty (.slice (.pair (.int .i64) (.pair (.int .i64) (.pair (.slice (.pair (.int .i64) (.pair (.int .i64) (.pair .bool .unit)))) .unit)))),.ty (.int .i64),.ty (.int .i64)],boxes:=[.lp (lpOf P 49 0 .ready none 15 [3,5] 3) [.ptr 4 1 0,.ptr 5 1 0],.row [.ty (.slice (.pair (.int .i64) (.pair (.int .i64) (.pair (.slice (.pair (.int .i64) (.pair (.int .i64) (.pair .bool .unit)))) .unit)))),.ty (.slice (.int .i64)),.ty (.slice (.int .i64)),.ty (.slice (.pair (.int .i64) (.pair (.slice (.pair (.int .i64) (.pair .bool .unit))) .unit)))],.row [.ty (.int .i64)],.dfr,.row [.fn 53 []],.row [.ty (.int .i64)]] }
abbrev shb93_0_4 (P:Go.Program):Sh:={ n:=70,slots:=[],pats:=[],boxes:=[.lp (lpOf P 49 0 .ready none 15 [3,5] 3) [.ptr 4 1 0,.ptr 5 1 0],.row [.ty (.slice (.pair (.int .i64) (.pair (.int .i64) (.pair (.slice (.pair (.int .i64) (.pair (.int .i64) (.pair .bool .unit)))) .unit)))),.ty (.slice (.int .i64)),.ty (.slice (.int .i64)),.ty (.slice (.pair (.int .i64) (.pair (.slice (.pair (.int .i64) (.pair .bool .unit))) .unit)))],.row [.ty (.int .i64)],.dfr,.row [.fn 53 []],.row [.ty (.int .i64)]] }
abbrev shr93_0_4 (P:Go.Program):Sh:={ n:=70,slots:=[],pats:=[],boxes:=[.lp (lpOf P 49 0 .ready none 15 [3,5] 3) [.ptr 4 1 0,.ptr 5 1 0],.row [.ty (.slice (.pair (.int .i64) (.pair (.int .i64) (.pair (.slice (.pair (.int .i64) (.pair (.int .i64) (.pair .bool .unit)))) .unit)))),.ty (.slice (.int .i64)),.ty (.slice (.int .i64)),.ty (.slice (.pair (.int .i64) (.pair (.slice (.pair (.int .i64) (.pair .bool .unit))) .unit)))],.row [.ty (.int .i64)],.dfr,.row [.fn 53 []],.row [.ty (.int .i64)]] }
abbrev dt93_0_4:Type:=(List (Int×Int×List (Int×Int×Bool×PUnit)×PUnit)×Int×Int×PUnit)×PUnit×(List (Int×Int×List (Int×Int×Bool×PUnit)×PUnit)×List Int×List Int×List (Int×List (Int×Bool×PUnit)×PUnit)×PUnit)×(Int×PUnit)×PUnit×(Int×PUnit)×PUnit
abbrev db93_0_4:Type:=PUnit×PUnit×(List (Int×Int×List (Int×Int×Bool×PUnit)×PUnit)×List Int×List Int×List (Int×List (Int×Bool×PUnit)×PUnit)×PUnit)×(Int×PUnit)×PUnit×(Int×PUnit)×PUnit
abbrev dr93_0_4:Type:=PUnit×PUnit×(List (Int×Int×List (Int×Int×Bool×PUnit)×PUnit)×List Int×List Int×List (Int×List (Int×Bool×PUnit)×PUnit)×PUnit)×(Int×PUnit)×PUnit×(Int×PUnit)×PUnit
def t93_0_4 (x3:(List (Int×(Int×((List (Int×(Int×(Bool×Unit))))×Unit))))) (x4:Int) (x5:Int) (b1_0:(List (Int×(Int×((List (Int×(Int×(Bool×Unit))))×Unit))))) (b1_1:(List Int)) (b1_2:(List Int)) (b1_3:(List (Int×((List (Int×(Bool×Unit)))×Unit)))) (b2_0:Int) (b5_0:Int):Tr (Out dt93_0_4 db93_0_4 dr93_0_4) :=
  Tr.test ((!leF x4 x5:Bool))
    (Tr.test (decide ((0:Int) ≤ x5) && decide (x5 < (↑(List.length x3):Int)))
      (Tr.test ((decide ((0:Int) ≤ x5) && decide (x5 < (↑(List.length b1_2):Int)):Bool))
        (Tr.test ((decide ((0:Int) ≤ x5) && decide (x5 < (↑(List.length b1_1):Int)):Bool))
          (Tr.test (Option.isSome (f94 ((((b1_0,()),()),((b1_1,(b1_2,(b1_3,()))),())),((wrap64 (x5 + (1:Int)):Int),()))))
            (Tr.test (Option.isSome (f94 ((((b1_0,()),()),((b1_1,(b1_2,(b1_3,()))),())),(x5,()))))
              (let r0:=g94 ((((b1_0,()),()),((b1_1,(b1_2,(b1_3,()))),())),((wrap64 (x5 + (1:Int)):Int),()));
              let r1:=g94 ((((b1_0,()),()),((b1_1,(b1_2,(b1_3,()))),())),(x5,()));
              Tr.test (Option.isSome (f95 ((wrap64 (r0.1 - r1.1):Int),(((List.getD x3 (Int.toNat x5) ((0:Int),(0:Int),[],())).1:Int),()))))
                (let r2:=g95 ((wrap64 (r0.1 - r1.1):Int),(((List.getD x3 (Int.toNat x5) ((0:Int),(0:Int),[],())).1:Int),()));
                Tr.test (Option.isSome (f53 ((((List.getD x3 (Int.toNat x5) ((0:Int),(0:Int),[],())).1:Int),((wrap64 (r0.1 - r1.1):Int),(r2.2.1,(b2_0,((List.getD b1_2 (Int.toNat x5) (0:Int):Int),((List.getD b1_1 (Int.toNat x5) (0:Int):Int),((wrap64 (wrap64 (wrap64 (wrap64 ((2:Int) * List.getD b1_1 (Int.toNat x5) (0:Int)) - List.getD b1_2 (Int.toNat x5) (0:Int)) + r2.1) - b2_0):Int),()))))))),())))
                  (let r3:=g53 ((((List.getD x3 (Int.toNat x5) ((0:Int),(0:Int),[],())).1:Int),((wrap64 (r0.1 - r1.1):Int),(r2.2.1,(b2_0,((List.getD b1_2 (Int.toNat x5) (0:Int):Int),((List.getD b1_1 (Int.toNat x5) (0:Int):Int),((wrap64 (wrap64 (wrap64 (wrap64 ((2:Int) * List.getD b1_1 (Int.toNat x5) (0:Int)) - List.getD b1_2 (Int.toNat x5) (0:Int)) + r2.1) - b2_0):Int),()))))))),());
                  Tr.fin (.again ((x3,(x4,((wrap64 (x5 + (1:Int)):Int),()))),((),((b1_0,(b1_1,(b1_2,(b1_3,())))),((b2_0,()),((),(((wrap64 (b5_0 + r3.1):Int),()),()))))))))
                  (Tr.stop))
                (Tr.stop))
              (Tr.stop))
            (Tr.stop))
          (Tr.stop))
        (Tr.stop))
      (Tr.stop))
    (Tr.fin (.brk ((),((),((b1_0,(b1_1,(b1_2,(b1_3,())))),((b2_0,()),((),((b5_0,()),()))))))))
def s93_0_4 (d:dt93_0_4):Option (Out dt93_0_4 db93_0_4 dr93_0_4):=(t93_0_4 d.1.1 d.1.2.1 d.1.2.2.1 d.2.2.1.1 d.2.2.1.2.1 d.2.2.1.2.2.1 d.2.2.1.2.2.2.1 d.2.2.2.1.1 d.2.2.2.2.2.1.1).val
def l93_0_4 (d:dt93_0_4):Option (db93_0_4 ⊕ dr93_0_4):=itr s93_0_4 rounds d
def b93_0_4 (d:dt93_0_4):db93_0_4:=outB (((),((),((([]:List (Int×Int×List (Int×Int×Bool×PUnit)×PUnit)),(([]:List Int),(([]:List Int),(([]:List (Int×List (Int×Bool×PUnit)×PUnit)),())))),(((0:Int),()),((),(((0:Int),()),()))))))) (l93_0_4 d)
def lc93_0_4 (P:Go.Program):LoopC:=lcB (sh93_0_4 P) (shb93_0_4 P) (shr93_0_4 P) l93_0_4 b93_0_4
theorem e93_0_4_0 (x3:(List (Int×(Int×((List (Int×(Int×(Bool×Unit))))×Unit))))) (x4:Int) (x5:Int) (b1_0:(List (Int×(Int×((List (Int×(Int×(Bool×Unit))))×Unit))))) (b1_1:(List Int)) (b1_2:(List Int)) (b1_3:(List (Int×((List (Int×(Bool×Unit)))×Unit)))) (b2_0:Int) (b5_0:Int):qak (kl93_0_3 Proofs.Tryz.prog).orc Proofs.Tryz.prog 400 93 0 (sh93_0_4 Proofs.Tryz.prog) (shb93_0_4 Proofs.Tryz.prog) (shr93_0_4 Proofs.Tryz.prog) ((x3,x4,x5,()),(),(b1_0,b1_1,b1_2,b1_3,()),(b2_0,()),(),(b5_0,()),()) [tt,tt,tt,tt,tt,tt,tt,tt,ff] =
    (let r0:=g94 ((((b1_0,()),()),((b1_1,(b1_2,(b1_3,()))),())),((wrap64 (x5 + (1:Int)):Int),()));let r1:=g94 ((((b1_0,()),()),((b1_1,(b1_2,(b1_3,()))),())),(x5,()));let r2:=g95 ((wrap64 (r0.1 - r1.1):Int),(((List.getD x3 (Int.toNat x5) ((0:Int),(0:Int),[],())).1:Int),()));let r3:=g53 ((((List.getD x3 (Int.toNat x5) ((0:Int),(0:Int),[],())).1:Int),((wrap64 (r0.1 - r1.1):Int),(r2.2.1,(b2_0,((List.getD b1_2 (Int.toNat x5) (0:Int):Int),((List.getD b1_1 (Int.toNat x5) (0:Int):Int),((wrap64 (wrap64 (wrap64 (wrap64 ((2:Int) * List.getD b1_1 (Int.toNat x5) (0:Int)) - List.getD b1_2 (Int.toNat x5) (0:Int)) + r2.1) - b2_0):Int),()))))))),()); some (.again ((x3,(x4,((wrap64 (x5 + (1:Int)):Int),()))),((),((b1_0,(b1_1,(b1_2,(b1_3,())))),((b2_0,()),((),(((wrap64 (b5_0 + r3.1):Int),()),())))))),[(qav Proofs.Tryz.prog (nat_lit 49) (nat_lit 0),true),(false,false),(Option.isSome (f53 ((((List.getD x3 (Int.toNat x5) ((0:Int),(0:Int),[],())).1:Int),((wrap64 (r0.1 - r1.1):Int),(r2.2.1,(b2_0,((List.getD b1_2 (Int.toNat x5) (0:Int):Int),((List.getD b1_1 (Int.toNat x5) (0:Int):Int),((wrap64 (wrap64 (wrap64 (wrap64 ((2:Int) * List.getD b1_1 (Int.toNat x5) (0:Int)) - List.getD b1_2 (Int.toNat x5) (0:Int)) + r2.1) - b2_0):Int),()))))))),())),true),(Option.isSome (f95 ((wrap64 (r0.1 - r1.1):Int),(((List.getD x3 (Int.toNat x5) ((0:Int),(0:Int),[],())).1:Int),()))),true),(Option.isSome (f94 ((((b1_0,()),()),((b1_1,(b1_2,(b1_3,()))),())),(x5,()))),true),(Option.isSome (f94 ((((b1_0,()),()),((b1_1,(b1_2,(b1_3,()))),())),((wrap64 (x5 + (1:Int)):Int),()))),true),(decide ((0:Int) ≤ x5) && decide (x5 < (↑(List.length b1_1):Int)),true),(decide ((0:Int) ≤ x5) && decide (x5 < (↑(List.length b1_2):Int)),true),(decide ((0:Int) ≤ x5) && decide (x5 < (↑(List.length x3):Int)),true),(!leF x4 x5,true)])):=by kernel_rfl
theorem e93_0_4_4 (x3:(List (Int×(Int×((List (Int×(Int×(Bool×Unit))))×Unit))))) (x4:Int) (x5:Int) (b1_0:(List (Int×(Int×((List (Int×(Int×(Bool×Unit))))×Unit))))) (b1_1:(List Int)) (b1_2:(List Int)) (b1_3:(List (Int×((List (Int×(Bool×Unit)))×Unit)))) (b2_0:Int) (b5_0:Int):qak (kl93_0_3 Proofs.Tryz.prog).orc Proofs.Tryz.prog 400 93 0 (sh93_0_4 Proofs.Tryz.prog) (shb93_0_4 Proofs.Tryz.prog) (shr93_0_4 Proofs.Tryz.prog) ((x3,x4,x5,()),(),(b1_0,b1_1,b1_2,b1_3,()),(b2_0,()),(),(b5_0,()),()) [ff] =
    (some (.brk ((),((),((b1_0,(b1_1,(b1_2,(b1_3,())))),((b2_0,()),((),((b5_0,()),())))))),[(qav Proofs.Tryz.prog (nat_lit 49) (nat_lit 0),true),(!leF x4 x5,false)])):=by kernel_rfl
theorem ok93_0_4_t (x3:(List (Int×(Int×((List (Int×(Int×(Bool×Unit))))×Unit))))) (x4:Int) (x5:Int) (b1_0:(List (Int×(Int×((List (Int×(Int×(Bool×Unit))))×Unit))))) (b1_1:(List Int)) (b1_2:(List Int)) (b1_3:(List (Int×((List (Int×(Bool×Unit)))×Unit)))) (b2_0:Int) (b5_0:Int):TrOk (BodyRuns Proofs.Tryz.prog (kl93_0_3 Proofs.Tryz.prog).orc 93 0 (sh93_0_4 Proofs.Tryz.prog) (shb93_0_4 Proofs.Tryz.prog) (shr93_0_4 Proofs.Tryz.prog) ((x3,x4,x5,()),(),(b1_0,b1_1,b1_2,b1_3,()),(b2_0,()),(),(b5_0,()),())) (t93_0_4 x3 x4 x5 b1_0 b1_1 b1_2 b1_3 b2_0 b5_0) :=
  TrOk.ofTest (fun h0=>TrOk.ofTest (fun h1=>TrOk.ofTest (fun h2=>TrOk.ofTest (fun h3=>TrOk.ofTest (fun h4=>TrOk.ofTest (fun h5=>TrOk.ofTest (fun h6=>TrOk.ofTest (fun h7=>TrOk.ofFin (BodyRuns.of (e93_0_4_0 x3 x4 x5 b1_0 b1_1 b1_2 b1_3 b2_0 b5_0) (ac (sc49_0) (ac rfl (ac h7 (ac h6 (ac h5 (ac h4 (ac h3 (ac h2 (ac h1 (ac h0 All.nil)))))))))))) (fun h7=>TrOk.ofStop)) (fun h6=>TrOk.ofStop)) (fun h5=>TrOk.ofStop)) (fun h4=>TrOk.ofStop)) (fun h3=>TrOk.ofStop)) (fun h2=>TrOk.ofStop)) (fun h1=>TrOk.ofStop)) (fun h0=>TrOk.ofFin (BodyRuns.of (e93_0_4_4 x3 x4 x5 b1_0 b1_1 b1_2 b1_3 b2_0 b5_0) (ac (sc49_0) (ac h0 All.nil))))
theorem ok93_0_4:qaw Proofs.Tryz.prog 93 0 (lc93_0_4 Proofs.Tryz.prog):=qaZ (sh:=(sh93_0_4 Proofs.Tryz.prog)) (shB:=(shb93_0_4 Proofs.Tryz.prog)) (shR:=(shr93_0_4 Proofs.Tryz.prog)) kl93_0_3_ok.base (T:=fun (d:dt93_0_4)=>t93_0_4 d.1.1 d.1.2.1 d.1.2.2.1 d.2.2.1.1 d.2.2.1.2.1 d.2.2.1.2.2.1 d.2.2.1.2.2.2.1 d.2.2.2.1.1 d.2.2.2.2.2.1.1) (by kernel_rfl) rfl (fun (d:dt93_0_4)=>ok93_0_4_t d.1.1 d.1.2.1 d.1.2.2.1 d.2.2.1.1 d.2.2.1.2.1 d.2.2.1.2.2.1 d.2.2.1.2.2.2.1 d.2.2.2.1.1 d.2.2.2.2.2.1.1) (fun _=>rfl)
def kl93_0_4 (P:Go.Program):Known:=(kl93_0_3 P).loop 93 0 (lc93_0_4 P)
theorem kl93_0_4_ok:KnownOk Proofs.Tryz.prog (kl93_0_4 Proofs.Tryz.prog):=kl93_0_3_ok.loop ok93_0_4
abbrev as11:List Ty:=[(.pair (.slice (.pair (.int .i64) (.pair (.int .i64) (.pair (.slice (.pair (.int .i64) (.pair (.int .i64) (.pair .bool .unit)))) .unit)))) .unit),(.pair (.slice (.int .i64)) (.pair (.slice (.int .i64)) (.pair (.slice (.pair (.int .i64) (.pair (.slice (.pair (.int .i64) (.pair .bool .unit))) .unit))) .unit))),(.int .i64)]
abbrev rs11:List Ty:=[(.pair (.int .i64) (.pair (.int .i64) (.pair (.int .i64) (.pair (.int .i64) .unit)))),(.int .i64)]
def t11 (x0:(List (Int×(Int×((List (Int×(Int×(Bool×Unit))))×Unit))))) (x1:(List Int)) (x1':(List Int)) (x1'':(List (Int×((List (Int×(Bool×Unit)))×Unit)))) (x2:Int):Tr (Tys.data rs11) :=
  Tr.test (Option.isSome (f46 (x2,())))
    (let r0:=g46 (x2,());
    Tr.test (Option.isSome (f45 ((x0,()),((x1,(x1',(x1'',()))),(([r0.1]:List Int),())))))
      (let r1:=g45 ((x0,()),((x1,(x1',(x1'',()))),(([r0.1]:List Int),())));
      Tr.test (qbI (l93_0_1 (((r1.1.1.1.1:List (Int×Int×List (Int×Int×Bool×PUnit)×PUnit)),((↑(List.length r1.1.1.1.1):Int),((0:Int),()))),((),(((r1.1.1.1.1:List (Int×Int×List (Int×Int×Bool×PUnit)×PUnit)),(r1.1.2.1.1,(r1.1.2.1.2.1,((r1.1.2.1.2.2.1:List (Int×List (Int×Bool×PUnit)×PUnit)),())))),((x2,()),((),(((0:Int),()),()))))))))
        (let r2:=b93_0_1 (((r1.1.1.1.1:List (Int×Int×List (Int×Int×Bool×PUnit)×PUnit)),((↑(List.length r1.1.1.1.1):Int),((0:Int),()))),((),(((r1.1.1.1.1:List (Int×Int×List (Int×Int×Bool×PUnit)×PUnit)),(r1.1.2.1.1,(r1.1.2.1.2.1,((r1.1.2.1.2.2.1:List (Int×List (Int×Bool×PUnit)×PUnit)),())))),((x2,()),((),(((0:Int),()),()))))));
        Tr.test (qbI (l93_0_2 (((r2.2.2.1.1:List (Int×Int×List (Int×Int×Bool×PUnit)×PUnit)),((↑(List.length r2.2.2.1.1):Int),((0:Int),()))),((),(((r2.2.2.1.1:List (Int×Int×List (Int×Int×Bool×PUnit)×PUnit)),(r2.2.2.1.2.1,(r2.2.2.1.2.2.1,((r2.2.2.1.2.2.2.1:List (Int×List (Int×Bool×PUnit)×PUnit)),())))),((r2.2.2.2.1.1,()),((),(((0:Int),()),()))))))))
          (let r3:=b93_0_2 (((r2.2.2.1.1:List (Int×Int×List (Int×Int×Bool×PUnit)×PUnit)),((↑(List.length r2.2.2.1.1):Int),((0:Int),()))),((),(((r2.2.2.1.1:List (Int×Int×List (Int×Int×Bool×PUnit)×PUnit)),(r2.2.2.1.2.1,(r2.2.2.1.2.2.1,((r2.2.2.1.2.2.2.1:List (Int×List (Int×Bool×PUnit)×PUnit)),())))),((r2.2.2.2.1.1,()),((),(((0:Int),()),()))))));
          Tr.test (qbI (l93_0_3 (((r3.2.2.1.1:List (Int×Int×List (Int×Int×Bool×PUnit)×PUnit)),((↑(List.length r3.2.2.1.1):Int),((0:Int),()))),((),(((r3.2.2.1.1:List (Int×Int×List (Int×Int×Bool×PUnit)×PUnit)),(r3.2.2.1.2.1,(r3.2.2.1.2.2.1,((r3.2.2.1.2.2.2.1:List (Int×List (Int×Bool×PUnit)×PUnit)),())))),((r3.2.2.2.1.1,()),((),(((0:Int),()),()))))))))
            (let r4:=b93_0_3 (((r3.2.2.1.1:List (Int×Int×List (Int×Int×Bool×PUnit)×PUnit)),((↑(List.length r3.2.2.1.1):Int),((0:Int),()))),((),(((r3.2.2.1.1:List (Int×Int×List (Int×Int×Bool×PUnit)×PUnit)),(r3.2.2.1.2.1,(r3.2.2.1.2.2.1,((r3.2.2.1.2.2.2.1:List (Int×List (Int×Bool×PUnit)×PUnit)),())))),((r3.2.2.2.1.1,()),((),(((0:Int),()),()))))));
            Tr.test (qbI (l93_0_4 (((r4.2.2.1.1:List (Int×Int×List (Int×Int×Bool×PUnit)×PUnit)),((↑(List.length r4.2.2.1.1):Int),((0:Int),()))),((),(((r4.2.2.1.1:List (Int×Int×List (Int×Int×Bool×PUnit)×PUnit)),(r4.2.2.1.2.1,(r4.2.2.1.2.2.1,((r4.2.2.1.2.2.2.1:List (Int×List (Int×Bool×PUnit)×PUnit)),())))),((r4.2.2.2.1.1,()),((),(((0:Int),()),()))))))))
              (let r5:=b93_0_4 (((r4.2.2.1.1:List (Int×Int×List (Int×Int×Bool×PUnit)×PUnit)),((↑(List.length r4.2.2.1.1):Int),((0:Int),()))),((),(((r4.2.2.1.1:List (Int×Int×List (Int×Int×Bool×PUnit)×PUnit)),(r4.2.2.1.2.1,(r4.2.2.1.2.2.1,((r4.2.2.1.2.2.2.1:List (Int×List (Int×Bool×PUnit)×PUnit)),())))),((r4.2.2.2.1.1,()),((),(((0:Int),()),()))))));
              Tr.fin (((r2.2.2.2.2.2.1.1,(r3.2.2.2.2.2.1.1,(r4.2.2.2.2.2.1.1,(r5.2.2.2.2.2.1.1,())))),(r1.2.1,()))))
              (Tr.stop))
            (Tr.stop))
          (Tr.stop))
        (Tr.stop))
      (Tr.stop))
    (Tr.stop)
def f11 (d:Tys.data as11):Option (Tys.data rs11):=(t11 d.1.1 d.2.1.1 d.2.1.2.1 d.2.1.2.2.1 d.2.2.1).val
def g11 (d:Tys.data as11):Tys.data rs11:=(f11 d).getD (Tys.dflt rs11)
def p11:PureC:=pcOf as11 rs11 f11 g11
theorem e11_0 (x0:(List (Int×(Int×((List (Int×(Int×(Bool×Unit))))×Unit))))) (x1:(List Int)) (x1':(List Int)) (x1'':(List (Int×((List (Int×(Bool×Unit)))×Unit)))) (x2:Int):runPure (kl93_0_4 Proofs.Tryz.prog).orc Proofs.Tryz.prog 400 11 as11 rs11 ((x0,()),(x1,x1',x1'',()),x2,()) [tt,tt,tt,tt,tt,tt,tt,tt,tt,tt,tt,tt,tt,tt] =
    (let r0:=g46 (x2,());let r1:=g45 ((x0,()),((x1,(x1',(x1'',()))),(([r0.1]:List Int),())));let r2:=b93_0_1 (((r1.1.1.1.1:List (Int×Int×List (Int×Int×Bool×PUnit)×PUnit)),((↑(List.length r1.1.1.1.1):Int),((0:Int),()))),((),(((r1.1.1.1.1:List (Int×Int×List (Int×Int×Bool×PUnit)×PUnit)),(r1.1.2.1.1,(r1.1.2.1.2.1,((r1.1.2.1.2.2.1:List (Int×List (Int×Bool×PUnit)×PUnit)),())))),((x2,()),((),(((0:Int),()),()))))));let r3:=b93_0_2 (((r2.2.2.1.1:List (Int×Int×List (Int×Int×Bool×PUnit)×PUnit)),((↑(List.length r2.2.2.1.1):Int),((0:Int),()))),((),(((r2.2.2.1.1:List (Int×Int×List (Int×Int×Bool×PUnit)×PUnit)),(r2.2.2.1.2.1,(r2.2.2.1.2.2.1,((r2.2.2.1.2.2.2.1:List (Int×List (Int×Bool×PUnit)×PUnit)),())))),((r2.2.2.2.1.1,()),((),(((0:Int),()),()))))));let r4:=b93_0_3 (((r3.2.2.1.1:List (Int×Int×List (Int×Int×Bool×PUnit)×PUnit)),((↑(List.length r3.2.2.1.1):Int),((0:Int),()))),((),(((r3.2.2.1.1:List (Int×Int×List (Int×Int×Bool×PUnit)×PUnit)),(r3.2.2.1.2.1,(r3.2.2.1.2.2.1,((r3.2.2.1.2.2.2.1:List (Int×List (Int×Bool×PUnit)×PUnit)),())))),((r3.2.2.2.1.1,()),((),(((0:Int),()),()))))));let r5:=b93_0_4 (((r4.2.2.1.1:List (Int×Int×List (Int×Int×Bool×PUnit)×PUnit)),((↑(List.length r4.2.2.1.1):Int),((0:Int),()))),((),(((r4.2.2.1.1:List (Int×Int×List (Int×Int×Bool×PUnit)×PUnit)),(r4.2.2.1.2.1,(r4.2.2.1.2.2.1,((r4.2.2.1.2.2.2.1:List (Int×List (Int×Bool×PUnit)×PUnit)),())))),((r4.2.2.2.1.1,()),((),(((0:Int),()),())))))); some (((r2.2.2.2.2.2.1.1,(r3.2.2.2.2.2.1.1,(r4.2.2.2.2.2.1.1,(r5.2.2.2.2.2.1.1,())))),(r1.2.1,())),[(true,true),(qbI (l93_0_4 (((r4.2.2.1.1:List (Int×Int×List (Int×Int×Bool×PUnit)×PUnit)),((↑(List.length r4.2.2.1.1):Int),((0:Int),()))),((),(((r4.2.2.1.1:List (Int×Int×List (Int×Int×Bool×PUnit)×PUnit)),(r4.2.2.1.2.1,(r4.2.2.1.2.2.1,((r4.2.2.1.2.2.2.1:List (Int×List (Int×Bool×PUnit)×PUnit)),())))),((r4.2.2.2.1.1,()),((),(((0:Int),()),()))))))),true),(qav Proofs.Tryz.prog (nat_lit 49) (nat_lit 0),true),(true,true),(qbI (l93_0_3 (((r3.2.2.1.1:List (Int×Int×List (Int×Int×Bool×PUnit)×PUnit)),((↑(List.length r3.2.2.1.1):Int),((0:Int),()))),((),(((r3.2.2.1.1:List (Int×Int×List (Int×Int×Bool×PUnit)×PUnit)),(r3.2.2.1.2.1,(r3.2.2.1.2.2.1,((r3.2.2.1.2.2.2.1:List (Int×List (Int×Bool×PUnit)×PUnit)),())))),((r3.2.2.2.1.1,()),((),(((0:Int),()),()))))))),true),(qav Proofs.Tryz.prog (nat_lit 49) (nat_lit 0),true),(true,true),(qbI (l93_0_2 (((r2.2.2.1.1:List (Int×Int×List (Int×Int×Bool×PUnit)×PUnit)),((↑(List.length r2.2.2.1.1):Int),((0:Int),()))),((),(((r2.2.2.1.1:List (Int×Int×List (Int×Int×Bool×PUnit)×PUnit)),(r2.2.2.1.2.1,(r2.2.2.1.2.2.1,((r2.2.2.1.2.2.2.1:List (Int×List (Int×Bool×PUnit)×PUnit)),())))),((r2.2.2.2.1.1,()),((),(((0:Int),()),()))))))),true),(qav Proofs.Tryz.prog (nat_lit 49) (nat_lit 0),true),(true,true),(qbI (l93_0_1 (((r1.1.1.1.1:List (Int×Int×List (Int×Int×Bool×PUnit)×PUnit)),((↑(List.length r1.1.1.1.1):Int),((0:Int),()))),((),(((r1.1.1.1.1:List (Int×Int×List (Int×Int×Bool×PUnit)×PUnit)),(r1.1.2.1.1,(r1.1.2.1.2.1,((r1.1.2.1.2.2.1:List (Int×List (Int×Bool×PUnit)×PUnit)),())))),((x2,()),((),(((0:Int),()),()))))))),true),(qav Proofs.Tryz.prog (nat_lit 49) (nat_lit 0),true),(Option.isSome (f45 ((x0,()),((x1,(x1',(x1'',()))),(([r0.1]:List Int),())))),true),(Option.isSome (f46 (x2,())),true)])):=by kernel_rfl
theorem ok11_t (x0:(List (Int×(Int×((List (Int×(Int×(Bool×Unit))))×Unit))))) (x1:(List Int)) (x1':(List Int)) (x1'':(List (Int×((List (Int×(Bool×Unit)))×Unit)))) (x2:Int):TrOk (PureRuns Proofs.Tryz.prog (kl93_0_4 Proofs.Tryz.prog).orc 11 as11 rs11 ((x0,()),(x1,x1',x1'',()),x2,())) (t11 x0 x1 x1' x1'' x2) :=
  TrOk.ofTest (fun h0=>TrOk.ofTest (fun h1=>TrOk.ofTest (fun h3=>TrOk.ofTest (fun h6=>TrOk.ofTest (fun h9=>TrOk.ofTest (fun h12=>TrOk.ofFin (PureRuns.of (e11_0 x0 x1 x1' x1'' x2) (ac rfl (ac h12 (ac (sc49_0) (ac rfl (ac h9 (ac (sc49_0) (ac rfl (ac h6 (ac (sc49_0) (ac rfl (ac h3 (ac (sc49_0) (ac h1 (ac h0 All.nil)))))))))))))))) (fun h12=>TrOk.ofStop)) (fun h9=>TrOk.ofStop)) (fun h6=>TrOk.ofStop)) (fun h3=>TrOk.ofStop)) (fun h1=>TrOk.ofStop)) (fun h0=>TrOk.ofStop)
theorem ok11:PureOk Proofs.Tryz.prog 11 p11:=qab kl93_0_4_ok.base (T:=fun (d:Tys.data as11)=>t11 d.1.1 d.2.1.1 d.2.1.2.1 d.2.1.2.2.1 d.2.2.1) (by kernel_rfl) (fun (d:Tys.data as11)=>ok11_t d.1.1 d.2.1.1 d.2.1.2.1 d.2.1.2.2.1 d.2.2.1)
def kf11 (P:Go.Program):Known:=(kl93_0_4 P).func 11 p11
theorem kf11_ok:KnownOk Proofs.Tryz.prog (kf11 Proofs.Tryz.prog):=kl93_0_4_ok.func ok11
abbrev as10:List Ty:=[(.pair (.slice (.pair (.int .i64) (.pair (.int .i64) (.pair (.slice (.pair (.int .i64) (.pair (.int .i64) (.pair .bool .unit)))) .unit)))) .unit),(.pair (.slice (.int .i64)) (.pair (.slice (.int .i64)) (.pair (.slice (.pair (.int .i64) (.pair (.slice (.pair (.int .i64) (.pair .bool .unit))) .unit))) .unit))),(.int .i64)]
abbrev rs10:List Ty:=[(.pair (.slice (.int .i64)) (.pair (.slice (.int .i64)) (.pair (.slice (.pair (.int .i64) (.pair (.slice (.pair (.int .i64) (.pair .bool .unit))) .unit))) .unit))),(.int .i64)]
def t10 (x0:(List (Int×(Int×((List (Int×(Int×(Bool×Unit))))×Unit))))) (x1:(List Int)) (x1':(List Int)) (x1'':(List (Int×((List (Int×(Bool×Unit)))×Unit)))) (x2:Int):Tr (Tys.data rs10) :=
  Tr.test (Option.isSome (f46 (x2,())))
    (let r0:=g46 (x2,());
    Tr.test (Option.isSome (f45 ((x0,()),((x1,(x1',(x1'',()))),(([r0.1]:List Int),())))))
      (let r1:=g45 ((x0,()),((x1,(x1',(x1'',()))),(([r0.1]:List Int),())));
      Tr.test ((!eqF r1.2.1 0:Bool))
        (Tr.fin (((([]:List Int),(([]:List Int),(([]:List (Int×List (Int×Bool×PUnit)×PUnit)),()))),(r1.2.1,()))))
        (Tr.test (Option.isSome (f47 (((((r1.1.1.1.1:List (Int×Int×List (Int×Int×Bool×PUnit)×PUnit)),()),()),((r1.1.2.1.1,(r1.1.2.1.2.1,((r1.1.2.1.2.2.1:List (Int×List (Int×Bool×PUnit)×PUnit)),()))),())),(x2,()))))
          (let r2:=g47 (((((r1.1.1.1.1:List (Int×Int×List (Int×Int×Bool×PUnit)×PUnit)),()),()),((r1.1.2.1.1,(r1.1.2.1.2.1,((r1.1.2.1.2.2.1:List (Int×List (Int×Bool×PUnit)×PUnit)),()))),())),(x2,()));
          Tr.test (Option.isSome (f43 ((!eqF r2.2.1 (-1):Bool),((22:Int),()))))
            (let r3:=g43 ((!eqF r2.2.1 (-1):Bool),((22:Int),()));
            Tr.fin (((r2.1.2.1.1,(r2.1.2.1.2.1,((r2.1.2.1.2.2.1:List (Int×List (Int×Bool×PUnit)×PUnit)),()))),(r3.1,()))))
            (Tr.stop))
          (Tr.stop)))
      (Tr.stop))
    (Tr.stop)
def f10 (d:Tys.data as10):Option (Tys.data rs10):=(t10 d.1.1 d.2.1.1 d.2.1.2.1 d.2.1.2.2.1 d.2.2.1).val
def g10 (d:Tys.data as10):Tys.data rs10:=(f10 d).getD (Tys.dflt rs10)
def p10:PureC:=pcOf as10 rs10 f10 g10
theorem wk10 (x0:(List (Int×(Int×((List (Int×(Int×(Bool×Unit))))×Unit))))) (x1:(List Int)) (x1':(List Int)) (x1'':(List (Int×((List (Int×(Bool×Unit)))×Unit)))) (x2:Int):Walks (runPure (kf11 Proofs.Tryz.prog).orc Proofs.Tryz.prog 400 10 as10 rs10 ((x0,()),(x1,x1',x1'',()),x2,())) (t10 x0 x1 x1' x1'' x2) [(bl 3 7,[2,4,6]),(bl 5 27,[2,4,6,8,10])] :=
  ⟨by kernel_rfl,by kernel_rfl,trivial⟩
theorem ok10_t (x0:(List (Int×(Int×((List (Int×(Int×(Bool×Unit))))×Unit))))) (x1:(List Int)) (x1':(List Int)) (x1'':(List (Int×((List (Int×(Bool×Unit)))×Unit)))) (x2:Int):TrOk (PureRuns Proofs.Tryz.prog (kf11 Proofs.Tryz.prog).orc 10 as10 rs10 ((x0,()),(x1,x1',x1'',()),x2,())) (t10 x0 x1 x1' x1'' x2) :=
  Walks.ok (fun _ _ _=>PureRuns.of) (wk10 x0 x1 x1' x1'' x2) (by kernel_rfl)
theorem ok10:PureOk Proofs.Tryz.prog 10 p10:=qab kf11_ok.base (T:=fun (d:Tys.data as10)=>t10 d.1.1 d.2.1.1 d.2.1.2.1 d.2.1.2.2.1 d.2.2.1) (by kernel_rfl) (fun (d:Tys.data as10)=>ok10_t d.1.1 d.2.1.1 d.2.1.2.1 d.2.1.2.2.1 d.2.2.1)
def kf10 (P:Go.Program):Known:=(kf11 P).func 10 p10
theorem kf10_ok:KnownOk Proofs.Tryz.prog (kf10 Proofs.Tryz.prog):=kf11_ok.func ok10
abbrev sh23_0:Sh:={ n:=26,slots:=[0,1,5],pats:=[.ty (.slice (.int .i64)),.ty (.slice (.int .i64)),.ty (.int .i64)],boxes:=[] }
abbrev shb23_0:Sh:={ n:=26,slots:=[],pats:=[],boxes:=[] }
abbrev shr23_0:Sh:={ n:=26,slots:=[4],pats:=[.ty .bool],boxes:=[] }
def t23_0 (x0:(List Int)) (x1:(List Int)) (x2:Int):Tr (Out sh23_0.data shb23_0.data shr23_0.data) :=
  Tr.test ((!leF (↑(List.length x0):Int) x2:Bool))
    (Tr.test (decide ((0:Int) ≤ x2) && decide (x2 < (↑(List.length x0):Int)))
      (Tr.test ((decide ((0:Int) ≤ x2) && decide (x2 < (↑(List.length x1):Int)):Bool))
        (Tr.test ((!eqF (List.getD x0 (Int.toNat x2) (0:Int)) (List.getD x1 (Int.toNat x2) (0:Int)):Bool))
          (Tr.fin (.ret (((false:Bool),()),())))
          (Tr.fin (.again ((x0,(x1,((wrap64 (x2 + (1:Int)):Int),()))),()))))
        (Tr.stop))
      (Tr.stop))
    (Tr.fin (.brk ((),())))
def s23_0 (d:sh23_0.data):Option (Out sh23_0.data shb23_0.data shr23_0.data):=(t23_0 d.1.1 d.1.2.1 d.1.2.2.1).val
def l23_0 (d:sh23_0.data):Option (shb23_0.data ⊕ shr23_0.data):=itr s23_0 rounds d
def b23_0 (d:sh23_0.data):shb23_0.data:=outB shb23_0.dflt (l23_0 d)
def r23_0 (d:sh23_0.data):shr23_0.data:=outR shr23_0.dflt (l23_0 d)
def lc23_0:LoopC:=lcOf sh23_0 shb23_0 shr23_0 l23_0 b23_0 r23_0
theorem wk23_0 (x0:(List Int)) (x1:(List Int)) (x2:Int):Walks (qak (kf10 Proofs.Tryz.prog).orc Proofs.Tryz.prog 400 23 0 sh23_0 shb23_0 shr23_0 ((x0,x1,x2,()),())) (t23_0 x0 x1 x2) [(bl 4 15,[2,4,6,8]),(bl 4 7,[2,4,6,8]),(bl 1 0,[2])] :=
  ⟨by kernel_rfl,by kernel_rfl,by kernel_rfl,trivial⟩
theorem ok23_0_t (x0:(List Int)) (x1:(List Int)) (x2:Int):TrOk (BodyRuns Proofs.Tryz.prog (kf10 Proofs.Tryz.prog).orc 23 0 sh23_0 shb23_0 shr23_0 ((x0,x1,x2,()),())) (t23_0 x0 x1 x2) :=
  Walks.ok (fun _ _ _=>BodyRuns.of) (wk23_0 x0 x1 x2) (by kernel_rfl)
theorem ok23_0:qaw Proofs.Tryz.prog 23 0 lc23_0:=qas (sh:=sh23_0) (shB:=shb23_0) (shR:=shr23_0) kf10_ok.base (T:=fun (d:sh23_0.data)=>t23_0 d.1.1 d.1.2.1 d.1.2.2.1) (by kernel_rfl) rfl (fun (d:sh23_0.data)=>ok23_0_t d.1.1 d.1.2.1 d.1.2.2.1) (fun _=>rfl)
def kl23_0 (P:Go.Program):Known:=(kf10 P).loop 23 0 lc23_0
theorem kl23_0_ok:KnownOk Proofs.Tryz.prog (kl23_0 Proofs.Tryz.prog):=kf10_ok.loop ok23_0
abbrev as23:List Ty:=[(.slice (.int .i64)),(.slice (.int .i64))]
abbrev rs23:List Ty:=[.bool]
def t23 (x0:(List Int)) (x1:(List Int)):Tr (Tys.data rs23) :=
  Tr.test ((!eqF (↑(List.length x0):Int) (↑(List.length x1):Int):Bool))
    (Tr.fin ((false,())))
    (Tr.test (Option.isSome (l23_0 ((x0,(x1,((0:Int),()))),())))
      (Tr.test (qaA (l23_0 ((x0,(x1,((0:Int),()))),())))
        (let r0:=r23_0 ((x0,(x1,((0:Int),()))),());
        Tr.fin ((r0.1.1,())))
        (Tr.fin (((true:Bool),()))))
      (Tr.stop))
def f23 (d:Tys.data as23):Option (Tys.data rs23):=(t23 d.1 d.2.1).val
def g23 (d:Tys.data as23):Tys.data rs23:=(f23 d).getD (Tys.dflt rs23)
def p23:PureC:=pcOf as23 rs23 f23 g23
theorem wk23 (x0:(List Int)) (x1:(List Int)):Walks (runPure (kl23_0 Proofs.Tryz.prog).orc Proofs.Tryz.prog 400 23 as23 rs23 (x0,x1,())) (t23 x0 x1) [(bl 1 1,[2]),(bl 3 6,[2,4,6]),(bl 3 2,[2,4,6])] :=
  ⟨by kernel_rfl,by kernel_rfl,by kernel_rfl,trivial⟩
theorem ok23_t (x0:(List Int)) (x1:(List Int)):TrOk (PureRuns Proofs.Tryz.prog (kl23_0 Proofs.Tryz.prog).orc 23 as23 rs23 (x0,x1,())) (t23 x0 x1) :=
  Walks.ok (fun _ _ _=>PureRuns.of) (wk23 x0 x1) (by kernel_rfl)
theorem ok23:PureOk Proofs.Tryz.prog 23 p23:=qab kl23_0_ok.base (T:=fun (d:Tys.data as23)=>t23 d.1 d.2.1) (by kernel_rfl) (fun (d:Tys.data as23)=>ok23_t d.1 d.2.1)
def kf23 (P:Go.Program):Known:=(kl23_0 P).func 23 p23
theorem kf23_ok:KnownOk Proofs.Tryz.prog (kf23 Proofs.Tryz.prog):=kl23_0_ok.func ok23
abbrev sh37_0:Sh:={ n:=38,slots:=[2,3,5],pats:=[.ptr 0 2 0,.ptr 1 2 0,.ty (.int .i64)],boxes:=[.row [.ty (.int .i64),.ty (.slice (.pair (.int .i64) (.pair .bool .unit)))],.row [.ty (.int .i64),.ty (.slice (.pair (.int .i64) (.pair .bool .unit)))]] }
abbrev shb37_0:Sh:={ n:=38,slots:=[],pats:=[],boxes:=[.row [.ty (.int .i64),.ty (.slice (.pair (.int .i64) (.pair .bool .unit)))],.row [.ty (.int .i64),.ty (.slice (.pair (.int .i64) (.pair .bool .unit)))]] }
abbrev shr37_0:Sh:={ n:=38,slots:=[4],pats:=[.ty .bool],boxes:=[.row [.ty (.int .i64),.ty (.slice (.pair (.int .i64) (.pair .bool .unit)))],.row [.ty (.int .i64),.ty (.slice (.pair (.int .i64) (.pair .bool .unit)))]] }
def t37_0 (x2:Int) (b0_0:Int) (b0_1:(List (Int×(Bool×Unit)))) (b1_0:Int) (b1_1:(List (Int×(Bool×Unit)))):Tr (Out sh37_0.data shb37_0.data shr37_0.data) :=
  Tr.test ((!leF (↑(List.length b0_1):Int) x2:Bool))
    (Tr.test (decide ((0:Int) ≤ x2) && decide (x2 < (↑(List.length b0_1):Int)))
      (Tr.test ((decide ((0:Int) ≤ x2) && decide (x2 < (↑(List.length b1_1):Int)):Bool))
        (Tr.test ((!((List.getD b0_1 (Int.toNat x2) ((0:Int),false,())).1 == (List.getD b1_1 (Int.toNat x2) ((0:Int),false,())).1 && ((List.getD b0_1 (Int.toNat x2) ((0:Int),false,())).2.1 == (List.getD b1_1 (Int.toNat x2) ((0:Int),false,())).2.1 && true)):Bool))
          (Tr.fin (.ret (((false:Bool),()),((b0_0,(b0_1,())),((b1_0,(b1_1,())),())))))
          (Tr.fin (.again (((wrap64 (x2 + (1:Int)):Int),()),((b0_0,(b0_1,())),((b1_0,(b1_1,())),()))))))
        (Tr.stop))
      (Tr.stop))
    (Tr.fin (.brk ((),((b0_0,(b0_1,())),((b1_0,(b1_1,())),())))))
def s37_0 (d:sh37_0.data):Option (Out sh37_0.data shb37_0.data shr37_0.data):=(t37_0 d.1.1 d.2.1.1 d.2.1.2.1 d.2.2.1.1 d.2.2.1.2.1).val
def l37_0 (d:sh37_0.data):Option (shb37_0.data ⊕ shr37_0.data):=itr s37_0 rounds d
def b37_0 (d:sh37_0.data):shb37_0.data:=outB shb37_0.dflt (l37_0 d)
def r37_0 (d:sh37_0.data):shr37_0.data:=outR shr37_0.dflt (l37_0 d)
def lc37_0:LoopC:=lcOf sh37_0 shb37_0 shr37_0 l37_0 b37_0 r37_0
theorem wk37_0 (x2:Int) (b0_0:Int) (b0_1:(List (Int×(Bool×Unit)))) (b1_0:Int) (b1_1:(List (Int×(Bool×Unit)))):Walks (qak (kf23 Proofs.Tryz.prog).orc Proofs.Tryz.prog 400 37 0 sh37_0 shb37_0 shr37_0 ((x2,()),(b0_0,b0_1,()),(b1_0,b1_1,()),())) (t37_0 x2 b0_0 b0_1 b1_0 b1_1) [(bl 4 15,[2,4,6,8]),(bl 4 7,[2,4,6,8]),(bl 1 0,[2])] :=
  ⟨by kernel_rfl,by kernel_rfl,by kernel_rfl,trivial⟩
theorem ok37_0_t (x2:Int) (b0_0:Int) (b0_1:(List (Int×(Bool×Unit)))) (b1_0:Int) (b1_1:(List (Int×(Bool×Unit)))):TrOk (BodyRuns Proofs.Tryz.prog (kf23 Proofs.Tryz.prog).orc 37 0 sh37_0 shb37_0 shr37_0 ((x2,()),(b0_0,b0_1,()),(b1_0,b1_1,()),())) (t37_0 x2 b0_0 b0_1 b1_0 b1_1) :=
  Walks.ok (fun _ _ _=>BodyRuns.of) (wk37_0 x2 b0_0 b0_1 b1_0 b1_1) (by kernel_rfl)
theorem ok37_0:qaw Proofs.Tryz.prog 37 0 lc37_0:=qas (sh:=sh37_0) (shB:=shb37_0) (shR:=shr37_0) kf23_ok.base (T:=fun (d:sh37_0.data)=>t37_0 d.1.1 d.2.1.1 d.2.1.2.1 d.2.2.1.1 d.2.2.1.2.1) (by kernel_rfl) rfl (fun (d:sh37_0.data)=>ok37_0_t d.1.1 d.2.1.1 d.2.1.2.1 d.2.2.1.1 d.2.2.1.2.1) (fun _=>rfl)
def kl37_0 (P:Go.Program):Known:=(kf23 P).loop 37 0 lc37_0
theorem kl37_0_ok:KnownOk Proofs.Tryz.prog (kl37_0 Proofs.Tryz.prog):=kf23_ok.loop ok37_0
abbrev as37:List Ty:=[(.pair (.int .i64) (.pair (.slice (.pair (.int .i64) (.pair .bool .unit))) .unit)),(.pair (.int .i64) (.pair (.slice (.pair (.int .i64) (.pair .bool .unit))) .unit))]
abbrev rs37:List Ty:=[.bool]
def t37 (x0:Int) (x0':(List (Int×(Bool×Unit)))) (x1:Int) (x1':(List (Int×(Bool×Unit)))):Tr (Tys.data rs37) :=
  Tr.test ((!eqF x0 x1:Bool))
    (Tr.fin ((false,())))
    (Tr.test (!eqF (↑(List.length x0'):Int) (↑(List.length x1'):Int))
      (Tr.fin (((false:Bool),())))
      (Tr.test (Option.isSome (l37_0 (((0:Int),()),((x0,(x0',())),((x1,(x1',())),())))))
        (Tr.test (qaA (l37_0 (((0:Int),()),((x0,(x0',())),((x1,(x1',())),())))))
          (let r0:=r37_0 (((0:Int),()),((x0,(x0',())),((x1,(x1',())),())));
          Tr.fin ((r0.1.1,())))
          (Tr.fin (((true:Bool),()))))
        (Tr.stop)))
def f37 (d:Tys.data as37):Option (Tys.data rs37):=(t37 d.1.1 d.1.2.1 d.2.1.1 d.2.1.2.1).val
def g37 (d:Tys.data as37):Tys.data rs37:=(f37 d).getD (Tys.dflt rs37)
def p37:PureC:=pcOf as37 rs37 f37 g37
theorem wk37 (x0:Int) (x0':(List (Int×(Bool×Unit)))) (x1:Int) (x1':(List (Int×(Bool×Unit)))):Walks (runPure (kl37_0 Proofs.Tryz.prog).orc Proofs.Tryz.prog 400 37 as37 rs37 ((x0,x0',()),(x1,x1',()),())) (t37 x0 x0' x1 x1') [(bl 1 1,[1,2,2,2,2,2,2,2,2]),(bl 2 2,[2,4,4,4,4,4,4,4,4]),(bl 4 12,[2,4,6,8,8,8,8,8,8,8,8]),(bl 4 4,[2,4,6,8,8,8,8,8,8,8,8])] :=
  ⟨by kernel_rfl,by kernel_rfl,by kernel_rfl,by kernel_rfl,trivial⟩
theorem ok37_t (x0:Int) (x0':(List (Int×(Bool×Unit)))) (x1:Int) (x1':(List (Int×(Bool×Unit)))):TrOk (PureRuns Proofs.Tryz.prog (kl37_0 Proofs.Tryz.prog).orc 37 as37 rs37 ((x0,x0',()),(x1,x1',()),())) (t37 x0 x0' x1 x1') :=
  Walks.ok (fun _ _ _=>PureRuns.of) (wk37 x0 x0' x1 x1') (by kernel_rfl)
theorem ok37:PureOk Proofs.Tryz.prog 37 p37:=qab kl37_0_ok.base (T:=fun (d:Tys.data as37)=>t37 d.1.1 d.1.2.1 d.2.1.1 d.2.1.2.1) (by kernel_rfl) (fun (d:Tys.data as37)=>ok37_t d.1.1 d.1.2.1 d.2.1.1 d.2.1.2.1)
def kf37 (P:Go.Program):Known:=(kl37_0 P).func 37 p37
theorem kf37_ok:KnownOk Proofs.Tryz.prog (kf37 Proofs.Tryz.prog):=kl37_0_ok.func ok37
abbrev sh15_0:Sh:={ n:=48,slots:=[2,3,5],pats:=[.ptr 0 3 0,.ptr 1 3 0,.ty (.int .i64)],boxes:=[.row [.ty (.slice (.int .i64)),.ty (.slice (.int .i64)),.ty (.slice (.pair (.int .i64) (.pair (.slice (.pair (.int .i64) (.pair .bool .unit))) .unit)))],.row [.ty (.slice (.int .i64)),.ty (.slice (.int .i64)),.ty (.slice (.pair (.int .i64) (.pair (.slice (.pair (.int .i64) (.pair .bool .unit))) .unit)))]] }
abbrev shb15_0:Sh:={ n:=48,slots:=[],pats:=[],boxes:=[.row [.ty (.slice (.int .i64)),.ty (.slice (.int .i64)),.ty (.slice (.pair (.int .i64) (.pair (.slice (.pair (.int .i64) (.pair .bool .unit))) .unit)))],.row [.ty (.slice (.int .i64)),.ty (.slice (.int .i64)),.ty (.slice (.pair (.int .i64) (.pair (.slice (.pair (.int .i64) (.pair .bool .unit))) .unit)))]] }
abbrev shr15_0:Sh:={ n:=48,slots:=[4],pats:=[.ty .bool],boxes:=[.row [.ty (.slice (.int .i64)),.ty (.slice (.int .i64)),.ty (.slice (.pair (.int .i64) (.pair (.slice (.pair (.int .i64) (.pair .bool .unit))) .unit)))],.row [.ty (.slice (.int .i64)),.ty (.slice (.int .i64)),.ty (.slice (.pair (.int .i64) (.pair (.slice (.pair (.int .i64) (.pair .bool .unit))) .unit)))]] }
def t15_0 (x2:Int) (b0_0:(List Int)) (b0_1:(List Int)) (b0_2:(List (Int×((List (Int×(Bool×Unit)))×Unit)))) (b1_0:(List Int)) (b1_1:(List Int)) (b1_2:(List (Int×((List (Int×(Bool×Unit)))×Unit)))):Tr (Out sh15_0.data shb15_0.data shr15_0.data) :=
  Tr.test ((!leF (↑(List.length b0_2):Int) x2:Bool))
    (Tr.test (decide ((0:Int) ≤ x2) && decide (x2 < (↑(List.length b0_2):Int)))
      (Tr.test ((decide ((0:Int) ≤ x2) && decide (x2 < (↑(List.length b1_2):Int)):Bool))
        (Tr.test (Option.isSome (f37 ((((List.getD b0_2 (Int.toNat x2) ((0:Int),[],())).1:Int),(((List.getD b0_2 (Int.toNat x2) ((0:Int),[],())).2.1:List (Int×Bool×PUnit)),())),((((List.getD b1_2 (Int.toNat x2) ((0:Int),[],())).1:Int),(((List.getD b1_2 (Int.toNat x2) ((0:Int),[],())).2.1:List (Int×Bool×PUnit)),())),()))))
          (let r0:=g37 ((((List.getD b0_2 (Int.toNat x2) ((0:Int),[],())).1:Int),(((List.getD b0_2 (Int.toNat x2) ((0:Int),[],())).2.1:List (Int×Bool×PUnit)),())),((((List.getD b1_2 (Int.toNat x2) ((0:Int),[],())).1:Int),(((List.getD b1_2 (Int.toNat x2) ((0:Int),[],())).2.1:List (Int×Bool×PUnit)),())),()));
          Tr.test ((!r0.1:Bool))
            (Tr.fin (.ret (((false:Bool),()),((b0_0,(b0_1,(b0_2,()))),((b1_0,(b1_1,(b1_2,()))),())))))
            (Tr.fin (.again (((wrap64 (x2 + (1:Int)):Int),()),((b0_0,(b0_1,(b0_2,()))),((b1_0,(b1_1,(b1_2,()))),()))))))
          (Tr.stop))
        (Tr.stop))
      (Tr.stop))
    (Tr.fin (.brk ((),((b0_0,(b0_1,(b0_2,()))),((b1_0,(b1_1,(b1_2,()))),())))))
def s15_0 (d:sh15_0.data):Option (Out sh15_0.data shb15_0.data shr15_0.data):=(t15_0 d.1.1 d.2.1.1 d.2.1.2.1 d.2.1.2.2.1 d.2.2.1.1 d.2.2.1.2.1 d.2.2.1.2.2.1).val
def l15_0 (d:sh15_0.data):Option (shb15_0.data ⊕ shr15_0.data):=itr s15_0 rounds d
def b15_0 (d:sh15_0.data):shb15_0.data:=outB shb15_0.dflt (l15_0 d)
def r15_0 (d:sh15_0.data):shr15_0.data:=outR shr15_0.dflt (l15_0 d)
def lc15_0:LoopC:=lcOf sh15_0 shb15_0 shr15_0 l15_0 b15_0 r15_0
theorem wk15_0 (x2:Int) (b0_0:(List Int)) (b0_1:(List Int)) (b0_2:(List (Int×((List (Int×(Bool×Unit)))×Unit)))) (b1_0:(List Int)) (b1_1:(List Int)) (b1_2:(List (Int×((List (Int×(Bool×Unit)))×Unit)))):Walks (qak (kf37 Proofs.Tryz.prog).orc Proofs.Tryz.prog 400 15 0 sh15_0 shb15_0 shr15_0 ((x2,()),(b0_0,b0_1,b0_2,()),(b1_0,b1_1,b1_2,()),())) (t15_0 x2 b0_0 b0_1 b0_2 b1_0 b1_1 b1_2) [(bl 5 31,[2,4,6,8,10]),(bl 5 15,[2,4,6,8,10]),(bl 1 0,[2])] :=
  ⟨by kernel_rfl,by kernel_rfl,by kernel_rfl,trivial⟩
theorem ok15_0_t (x2:Int) (b0_0:(List Int)) (b0_1:(List Int)) (b0_2:(List (Int×((List (Int×(Bool×Unit)))×Unit)))) (b1_0:(List Int)) (b1_1:(List Int)) (b1_2:(List (Int×((List (Int×(Bool×Unit)))×Unit)))):TrOk (BodyRuns Proofs.Tryz.prog (kf37 Proofs.Tryz.prog).orc 15 0 sh15_0 shb15_0 shr15_0 ((x2,()),(b0_0,b0_1,b0_2,()),(b1_0,b1_1,b1_2,()),())) (t15_0 x2 b0_0 b0_1 b0_2 b1_0 b1_1 b1_2) :=
  Walks.ok (fun _ _ _=>BodyRuns.of) (wk15_0 x2 b0_0 b0_1 b0_2 b1_0 b1_1 b1_2) (by kernel_rfl)
theorem ok15_0:qaw Proofs.Tryz.prog 15 0 lc15_0:=qas (sh:=sh15_0) (shB:=shb15_0) (shR:=shr15_0) kf37_ok.base (T:=fun (d:sh15_0.data)=>t15_0 d.1.1 d.2.1.1 d.2.1.2.1 d.2.1.2.2.1 d.2.2.1.1 d.2.2.1.2.1 d.2.2.1.2.2.1) (by kernel_rfl) rfl (fun (d:sh15_0.data)=>ok15_0_t d.1.1 d.2.1.1 d.2.1.2.1 d.2.1.2.2.1 d.2.2.1.1 d.2.2.1.2.1 d.2.2.1.2.2.1) (fun _=>rfl)
def kl15_0 (P:Go.Program):Known:=(kf37 P).loop 15 0 lc15_0
theorem kl15_0_ok:KnownOk Proofs.Tryz.prog (kl15_0 Proofs.Tryz.prog):=kf37_ok.loop ok15_0
abbrev as15:List Ty:=[(.pair (.slice (.int .i64)) (.pair (.slice (.int .i64)) (.pair (.slice (.pair (.int .i64) (.pair (.slice (.pair (.int .i64) (.pair .bool .unit))) .unit))) .unit))),(.pair (.slice (.int .i64)) (.pair (.slice (.int .i64)) (.pair (.slice (.pair (.int .i64) (.pair (.slice (.pair (.int .i64) (.pair .bool .unit))) .unit))) .unit)))]
abbrev rs15:List Ty:=[.bool]
def t15 (x0:(List Int)) (x0':(List Int)) (x0'':(List (Int×((List (Int×(Bool×Unit)))×Unit)))) (x1:(List Int)) (x1':(List Int)) (x1'':(List (Int×((List (Int×(Bool×Unit)))×Unit)))):Tr (Tys.data rs15) :=
  Tr.test (Option.isSome (f23 (x0,(x1,()))))
    (let r0:=g23 (x0,(x1,()));
    Tr.test ((!r0.1:Bool))
      (Tr.fin (((false:Bool),())))
      (Tr.test (Option.isSome (f23 (x0',(x1',()))))
        (let r1:=g23 (x0',(x1',()));
        Tr.test ((!r1.1:Bool))
          (Tr.fin (((false:Bool),())))
          (Tr.test ((!eqF (↑(List.length x0''):Int) (↑(List.length x1''):Int):Bool))
            (Tr.fin (((false:Bool),())))
            (Tr.test (Option.isSome (l15_0 (((0:Int),()),((x0,(x0',(x0'',()))),((x1,(x1',(x1'',()))),())))))
              (Tr.test (qaA (l15_0 (((0:Int),()),((x0,(x0',(x0'',()))),((x1,(x1',(x1'',()))),())))))
                (let r2:=r15_0 (((0:Int),()),((x0,(x0',(x0'',()))),((x1,(x1',(x1'',()))),())));
                Tr.fin ((r2.1.1,())))
                (Tr.fin (((true:Bool),()))))
              (Tr.stop))))
        (Tr.stop)))
    (Tr.stop)
def f15 (d:Tys.data as15):Option (Tys.data rs15):=(t15 d.1.1 d.1.2.1 d.1.2.2.1 d.2.1.1 d.2.1.2.1 d.2.1.2.2.1).val
def g15 (d:Tys.data as15):Tys.data rs15:=(f15 d).getD (Tys.dflt rs15)
def p15:PureC:=pcOf as15 rs15 f15 g15
theorem wk15 (x0:(List Int)) (x0':(List Int)) (x0'':(List (Int×((List (Int×(Bool×Unit)))×Unit)))) (x1:(List Int)) (x1':(List Int)) (x1'':(List (Int×((List (Int×(Bool×Unit)))×Unit)))):Walks (runPure (kl15_0 Proofs.Tryz.prog).orc Proofs.Tryz.prog 400 15 as15 rs15 ((x0,x0',x0'',()),(x1,x1',x1'',()),())) (t15 x0 x0' x0'' x1 x1' x1'') [(bl 2 3,[1,1,1,1,1,1,1,1,1,2,2,2,2,2,2,2,4]),(bl 4 13,[1,2,2,2,2,2,2,2,2,6,6,4,6,6,6,6,6,8]),(bl 5 21,[2,4,4,4,4,4,4,4,4,8,8,6,8,8,8,8,8,10]),(bl 7 101,[2,4,6,8,8,8,8,8,8,8,8,12,12,10,12,12,12,12,12,14]),(bl 7 37,[2,4,6,8,8,8,8,8,8,8,8,12,12,10,12,12,12,12,12,14])] :=
  ⟨by kernel_rfl,by kernel_rfl,by kernel_rfl,by kernel_rfl,by kernel_rfl,trivial⟩
theorem ok15_t (x0:(List Int)) (x0':(List Int)) (x0'':(List (Int×((List (Int×(Bool×Unit)))×Unit)))) (x1:(List Int)) (x1':(List Int)) (x1'':(List (Int×((List (Int×(Bool×Unit)))×Unit)))):TrOk (PureRuns Proofs.Tryz.prog (kl15_0 Proofs.Tryz.prog).orc 15 as15 rs15 ((x0,x0',x0'',()),(x1,x1',x1'',()),())) (t15 x0 x0' x0'' x1 x1' x1'') :=
  Walks.ok (fun _ _ _=>PureRuns.of) (wk15 x0 x0' x0'' x1 x1' x1'') (by kernel_rfl)
theorem ok15:PureOk Proofs.Tryz.prog 15 p15:=qab kl15_0_ok.base (T:=fun (d:Tys.data as15)=>t15 d.1.1 d.1.2.1 d.1.2.2.1 d.2.1.1 d.2.1.2.1 d.2.1.2.2.1) (by kernel_rfl) (fun (d:Tys.data as15)=>ok15_t d.1.1 d.1.2.1 d.1.2.2.1 d.2.1.1 d.2.1.2.1 d.2.1.2.2.1)
def kf15 (P:Go.Program):Known:=(kl15_0 P).func 15 p15
theorem kf15_ok:KnownOk Proofs.Tryz.prog (kf15 Proofs.Tryz.prog):=kl15_0_ok.func ok15
abbrev as67:List Ty:=[(.slice (.pair (.int .i64) (.pair (.int .i64) (.pair .bool .unit)))),(.pair (.int .i64) (.pair (.slice (.pair (.int .i64) (.pair .bool .unit))) .unit)),(.slice (.int .i64))]
abbrev rs67:List Ty:=[(.pair (.slice (.pair (.int .i64) (.pair (.int .i64) (.pair .bool .unit)))) (.pair (.pair (.int .i64) (.pair (.slice (.pair (.int .i64) (.pair .bool .unit))) .unit)) .unit)),(.int .i64)]
def t67 (x0:(List (Int×(Int×(Bool×Unit))))) (x1:Int) (x1':(List (Int×(Bool×Unit)))) (x2:(List Int)):Tr (Tys.data rs67) :=
  Tr.test (Option.isSome (f40 (x0,((x1,(x1',())),()))))
    (Tr.test (Option.isSome (f41 (x2,())))
      (let r0:=g40 (x0,((x1,(x1',())),()));
      let r1:=g41 (x2,());
      Tr.test (Option.isSome (f41 (([r0.2.1,r1.1]:List Int),())))
        (let r2:=g41 (([r0.2.1,r1.1]:List Int),());
        Tr.test ((!eqF r2.1 0:Bool))
          (Tr.fin (((([]:List (Int×Int×Bool×PUnit)),(((0:Int),(([]:List (Int×Bool×PUnit)),())),())),(r2.1,()))))
          (Tr.fin (((x0,((x1,(x1',())),())),((0:Int),())))))
        (Tr.stop))
      (Tr.stop))
    (Tr.stop)
def f67 (d:Tys.data as67):Option (Tys.data rs67):=(t67 d.1 d.2.1.1 d.2.1.2.1 d.2.2.1).val
def g67 (d:Tys.data as67):Tys.data rs67:=(f67 d).getD (Tys.dflt rs67)
def p67:PureC:=pcOf as67 rs67 f67 g67
theorem wk67 (x0:(List (Int×(Int×(Bool×Unit))))) (x1:Int) (x1':(List (Int×(Bool×Unit)))) (x2:(List Int)):Walks (runPure (kf15 Proofs.Tryz.prog).orc Proofs.Tryz.prog 400 67 as67 rs67 (x0,(x1,x1',()),x2,())) (t67 x0 x1 x1' x2) [(bl 4 15,[2,4,6,8]),(bl 4 7,[2,4,6,8])] :=
  ⟨by kernel_rfl,by kernel_rfl,trivial⟩
theorem ok67_t (x0:(List (Int×(Int×(Bool×Unit))))) (x1:Int) (x1':(List (Int×(Bool×Unit)))) (x2:(List Int)):TrOk (PureRuns Proofs.Tryz.prog (kf15 Proofs.Tryz.prog).orc 67 as67 rs67 (x0,(x1,x1',()),x2,())) (t67 x0 x1 x1' x2) :=
  Walks.ok (fun _ _ _=>PureRuns.of) (wk67 x0 x1 x1' x2) (by kernel_rfl)
theorem ok67:PureOk Proofs.Tryz.prog 67 p67:=qab kf15_ok.base (T:=fun (d:Tys.data as67)=>t67 d.1 d.2.1.1 d.2.1.2.1 d.2.2.1) (by kernel_rfl) (fun (d:Tys.data as67)=>ok67_t d.1 d.2.1.1 d.2.1.2.1 d.2.2.1)
def kf67 (P:Go.Program):Known:=(kf15 P).func 67 p67
theorem kf67_ok:KnownOk Proofs.Tryz.prog (kf67 Proofs.Tryz.prog):=kf15_ok.func ok67
abbrev as24:List Ty:=[(.slice (.pair (.int .i64) (.pair (.int .i64) (.pair .bool .unit)))),(.pair (.int .i64) (.pair (.slice (.pair (.int .i64) (.pair .bool .unit))) .unit))]
abbrev rs24:List Ty:=[(.int .i64),(.int .i64)]
def t24 (x0:(List (Int×(Int×(Bool×Unit))))) (x1:Int) (x1':(List (Int×(Bool×Unit)))):Tr (Tys.data rs24) :=
  Tr.test (Option.isSome (f67 (x0,((x1,(x1',())),(([]:List Int),())))))
    (let r0:=g67 (x0,((x1,(x1',())),(([]:List Int),())));
    Tr.test (Option.isSome (f68 ((r0.1.1,((r0.1.2.1.1,(r0.1.2.1.2.1,())),())),())))
      (let r1:=g68 ((r0.1.1,((r0.1.2.1.1,(r0.1.2.1.2.1,())),())),());
      Tr.fin ((r1.1,(r0.2.1,()))))
      (Tr.stop))
    (Tr.stop)
def f24 (d:Tys.data as24):Option (Tys.data rs24):=(t24 d.1 d.2.1.1 d.2.1.2.1).val
def g24 (d:Tys.data as24):Tys.data rs24:=(f24 d).getD (Tys.dflt rs24)
def p24:PureC:=pcOf as24 rs24 f24 g24
theorem wk24 (x0:(List (Int×(Int×(Bool×Unit))))) (x1:Int) (x1':(List (Int×(Bool×Unit)))):Walks (runPure (kf67 Proofs.Tryz.prog).orc Proofs.Tryz.prog 400 24 as24 rs24 (x0,(x1,x1',()),())) (t24 x0 x1 x1') [(bl 2 3,[2,4])] :=
  ⟨by kernel_rfl,trivial⟩
theorem ok24_t (x0:(List (Int×(Int×(Bool×Unit))))) (x1:Int) (x1':(List (Int×(Bool×Unit)))):TrOk (PureRuns Proofs.Tryz.prog (kf67 Proofs.Tryz.prog).orc 24 as24 rs24 (x0,(x1,x1',()),())) (t24 x0 x1 x1') :=
  Walks.ok (fun _ _ _=>PureRuns.of) (wk24 x0 x1 x1') (by kernel_rfl)
theorem ok24:PureOk Proofs.Tryz.prog 24 p24:=qab kf67_ok.base (T:=fun (d:Tys.data as24)=>t24 d.1 d.2.1.1 d.2.1.2.1) (by kernel_rfl) (fun (d:Tys.data as24)=>ok24_t d.1 d.2.1.1 d.2.1.2.1)
def kf24 (P:Go.Program):Known:=(kf67 P).func 24 p24
theorem kf24_ok:KnownOk Proofs.Tryz.prog (kf24 Proofs.Tryz.prog):=kf67_ok.func ok24
abbrev sh27_0:Sh:={ n:=27,slots:=[0,1,5],pats:=[.ty (.slice (.pair (.slice (.int .i64)) (.pair (.slice (.int .i64)) (.pair (.slice (.pair (.int .i64) (.pair (.slice (.pair (.int .i64) (.pair .bool .unit))) .unit))) .unit)))),.ty (.slice (.pair (.slice (.int .i64)) (.pair (.slice (.int .i64)) (.pair (.slice (.pair (.int .i64) (.pair (.slice (.pair (.int .i64) (.pair .bool .unit))) .unit))) .unit)))),.ty (.int .i64)],boxes:=[] }
abbrev shb27_0:Sh:={ n:=27,slots:=[],pats:=[],boxes:=[] }
abbrev shr27_0:Sh:={ n:=27,slots:=[4],pats:=[.ty .bool],boxes:=[] }
def t27_0 (x0:(List ((List Int)×((List Int)×((List (Int×((List (Int×(Bool×Unit)))×Unit)))×Unit))))) (x1:(List ((List Int)×((List Int)×((List (Int×((List (Int×(Bool×Unit)))×Unit)))×Unit))))) (x2:Int):Tr (Out sh27_0.data shb27_0.data shr27_0.data) :=
  Tr.test ((!leF (↑(List.length x0):Int) x2:Bool))
    (Tr.test (decide ((0:Int) ≤ x2) && decide (x2 < (↑(List.length x0):Int)))
      (Tr.test ((decide ((0:Int) ≤ x2) && decide (x2 < (↑(List.length x1):Int)):Bool))
        (Tr.test (Option.isSome (f15 ((((List.getD x0 (Int.toNat x2) ([],[],[],())).1:List Int),(((List.getD x0 (Int.toNat x2) ([],[],[],())).2.1:List Int),(((List.getD x0 (Int.toNat x2) ([],[],[],())).2.2.1:List (Int×List (Int×Bool×PUnit)×PUnit)),()))),((((List.getD x1 (Int.toNat x2) ([],[],[],())).1:List Int),(((List.getD x1 (Int.toNat x2) ([],[],[],())).2.1:List Int),(((List.getD x1 (Int.toNat x2) ([],[],[],())).2.2.1:List (Int×List (Int×Bool×PUnit)×PUnit)),()))),()))))
          (let r0:=g15 ((((List.getD x0 (Int.toNat x2) ([],[],[],())).1:List Int),(((List.getD x0 (Int.toNat x2) ([],[],[],())).2.1:List Int),(((List.getD x0 (Int.toNat x2) ([],[],[],())).2.2.1:List (Int×List (Int×Bool×PUnit)×PUnit)),()))),((((List.getD x1 (Int.toNat x2) ([],[],[],())).1:List Int),(((List.getD x1 (Int.toNat x2) ([],[],[],())).2.1:List Int),(((List.getD x1 (Int.toNat x2) ([],[],[],())).2.2.1:List (Int×List (Int×Bool×PUnit)×PUnit)),()))),()));
          Tr.test ((!r0.1:Bool))
            (Tr.fin (.ret (((false:Bool),()),())))
            (Tr.fin (.again ((x0,(x1,((wrap64 (x2 + (1:Int)):Int),()))),()))))
          (Tr.stop))
        (Tr.stop))
      (Tr.stop))
    (Tr.fin (.brk ((),())))
def s27_0 (d:sh27_0.data):Option (Out sh27_0.data shb27_0.data shr27_0.data):=(t27_0 d.1.1 d.1.2.1 d.1.2.2.1).val
def l27_0 (d:sh27_0.data):Option (shb27_0.data ⊕ shr27_0.data):=itr s27_0 rounds d
def b27_0 (d:sh27_0.data):shb27_0.data:=outB shb27_0.dflt (l27_0 d)
def r27_0 (d:sh27_0.data):shr27_0.data:=outR shr27_0.dflt (l27_0 d)
def lc27_0:LoopC:=lcOf sh27_0 shb27_0 shr27_0 l27_0 b27_0 r27_0
theorem wk27_0 (x0:(List ((List Int)×((List Int)×((List (Int×((List (Int×(Bool×Unit)))×Unit)))×Unit))))) (x1:(List ((List Int)×((List Int)×((List (Int×((List (Int×(Bool×Unit)))×Unit)))×Unit))))) (x2:Int):Walks (qak (kf24 Proofs.Tryz.prog).orc Proofs.Tryz.prog 400 27 0 sh27_0 shb27_0 shr27_0 ((x0,x1,x2,()),())) (t27_0 x0 x1 x2) [(bl 5 31,[2,4,6,8,10]),(bl 5 15,[2,4,6,8,10]),(bl 1 0,[2])] :=
  ⟨by kernel_rfl,by kernel_rfl,by kernel_rfl,trivial⟩
theorem ok27_0_t (x0:(List ((List Int)×((List Int)×((List (Int×((List (Int×(Bool×Unit)))×Unit)))×Unit))))) (x1:(List ((List Int)×((List Int)×((List (Int×((List (Int×(Bool×Unit)))×Unit)))×Unit))))) (x2:Int):TrOk (BodyRuns Proofs.Tryz.prog (kf24 Proofs.Tryz.prog).orc 27 0 sh27_0 shb27_0 shr27_0 ((x0,x1,x2,()),())) (t27_0 x0 x1 x2) :=
  Walks.ok (fun _ _ _=>BodyRuns.of) (wk27_0 x0 x1 x2) (by kernel_rfl)
theorem ok27_0:qaw Proofs.Tryz.prog 27 0 lc27_0:=qas (sh:=sh27_0) (shB:=shb27_0) (shR:=shr27_0) kf24_ok.base (T:=fun (d:sh27_0.data)=>t27_0 d.1.1 d.1.2.1 d.1.2.2.1) (by kernel_rfl) rfl (fun (d:sh27_0.data)=>ok27_0_t d.1.1 d.1.2.1 d.1.2.2.1) (fun _=>rfl)
def kl27_0 (P:Go.Program):Known:=(kf24 P).loop 27 0 lc27_0
theorem kl27_0_ok:KnownOk Proofs.Tryz.prog (kl27_0 Proofs.Tryz.prog):=kf24_ok.loop ok27_0
abbrev as27:List Ty:=[(.slice (.pair (.slice (.int .i64)) (.pair (.slice (.int .i64)) (.pair (.slice (.pair (.int .i64) (.pair (.slice (.pair (.int .i64) (.pair .bool .unit))) .unit))) .unit)))),(.slice (.pair (.slice (.int .i64)) (.pair (.slice (.int .i64)) (.pair (.slice (.pair (.int .i64) (.pair (.slice (.pair (.int .i64) (.pair .bool .unit))) .unit))) .unit))))]
abbrev rs27:List Ty:=[.bool]
def t27 (x0:(List ((List Int)×((List Int)×((List (Int×((List (Int×(Bool×Unit)))×Unit)))×Unit))))) (x1:(List ((List Int)×((List Int)×((List (Int×((List (Int×(Bool×Unit)))×Unit)))×Unit))))):Tr (Tys.data rs27) :=
  Tr.test ((!eqF (↑(List.length x0):Int) (↑(List.length x1):Int):Bool))
    (Tr.fin ((false,())))
    (Tr.test (Option.isSome (l27_0 ((x0,(x1,((0:Int),()))),())))
      (Tr.test (qaA (l27_0 ((x0,(x1,((0:Int),()))),())))
        (let r0:=r27_0 ((x0,(x1,((0:Int),()))),());
        Tr.fin ((r0.1.1,())))
        (Tr.fin (((true:Bool),()))))
      (Tr.stop))
def f27 (d:Tys.data as27):Option (Tys.data rs27):=(t27 d.1 d.2.1).val
def g27 (d:Tys.data as27):Tys.data rs27:=(f27 d).getD (Tys.dflt rs27)
def p27:PureC:=pcOf as27 rs27 f27 g27
theorem wk27 (x0:(List ((List Int)×((List Int)×((List (Int×((List (Int×(Bool×Unit)))×Unit)))×Unit))))) (x1:(List ((List Int)×((List Int)×((List (Int×((List (Int×(Bool×Unit)))×Unit)))×Unit))))):Walks (runPure (kl27_0 Proofs.Tryz.prog).orc Proofs.Tryz.prog 400 27 as27 rs27 (x0,x1,())) (t27 x0 x1) [(bl 1 1,[2]),(bl 3 6,[2,4,6]),(bl 3 2,[2,4,6])] :=
  ⟨by kernel_rfl,by kernel_rfl,by kernel_rfl,trivial⟩
theorem ok27_t (x0:(List ((List Int)×((List Int)×((List (Int×((List (Int×(Bool×Unit)))×Unit)))×Unit))))) (x1:(List ((List Int)×((List Int)×((List (Int×((List (Int×(Bool×Unit)))×Unit)))×Unit))))):TrOk (PureRuns Proofs.Tryz.prog (kl27_0 Proofs.Tryz.prog).orc 27 as27 rs27 (x0,x1,())) (t27 x0 x1) :=
  Walks.ok (fun _ _ _=>PureRuns.of) (wk27 x0 x1) (by kernel_rfl)
theorem ok27:PureOk Proofs.Tryz.prog 27 p27:=qab kl27_0_ok.base (T:=fun (d:Tys.data as27)=>t27 d.1 d.2.1) (by kernel_rfl) (fun (d:Tys.data as27)=>ok27_t d.1 d.2.1)
def kf27 (P:Go.Program):Known:=(kl27_0 P).func 27 p27
theorem kf27_ok:KnownOk Proofs.Tryz.prog (kf27 Proofs.Tryz.prog):=kl27_0_ok.func ok27
abbrev sh4_2:Sh:={ n:=371,slots:=[1,2,3,7,8,10,11,12,14,16,17,18,19],pats:=[.ty (.slice (.int .i64)),.ty (.int .i64),.ptr 0 1 0,.ty (.slice (.pair (.slice (.int .i64)) (.pair (.slice (.int .i64)) (.pair (.slice (.pair (.int .i64) (.pair (.slice (.pair (.int .i64) (.pair .bool .unit))) .unit))) .unit)))),.ty (.int .i64),.ty (.int .i64),.ty (.int .i64),.ptr 1 4 0,.ptr 2 3 0,.ty (.int .i64),.ty (.int .i64),.ty .bool,.ty (.int .i64)],boxes:=[.row [.ty (.slice (.pair (.int .i64) (.pair (.int .i64) (.pair (.slice (.pair (.int .i64) (.pair (.int .i64) (.pair .bool .unit)))) .unit))))],.row [.ty (.int .i64),.ty (.int .i64),.ty (.int .i64),.ty (.int .i64)],.row [.ty (.slice (.int .i64)),.ty (.slice (.int .i64)),.ty (.slice (.pair (.int .i64) (.pair (.slice (.pair (.int .i64) (.pair .bool .unit))) .unit)))]] }
abbrev shb4_2:Sh:={ n:=371,slots:=[1,2,3,7,8,10,11,12,16,17,18],pats:=[.ty (.slice (.int .i64)),.ty (.int .i64),.ptr 0 1 0,.ty (.slice (.pair (.slice (.int .i64)) (.pair (.slice (.int .i64)) (.pair (.slice (.pair (.int .i64) (.pair (.slice (.pair (.int .i64) (.pair .bool .unit))) .unit))) .unit)))),.ty (.int .i64),.ty (.int .i64),.ty (.int .i64),.ptr 1 4 0,.ty (.int .i64),.ty (.int .i64),.ty .bool],boxes:=[.row [.ty (.slice (.pair (.int .i64) (.pair (.int .i64) (.pair (.slice (.pair (.int .i64) (.pair (.int .i64) (.pair .bool .unit)))) .unit))))],.row [.ty (.int .i64),.ty (.int .i64),.ty (.int .i64),.ty (.int .i64)],.row [.ty (.slice (.int .i64)),.ty (.slice (.int .i64)),.ty (.slice (.pair (.int .i64) (.pair (.slice (.pair (.int .i64) (.pair .bool .unit))) .unit)))]] }
abbrev shr4_2:Sh:={ n:=371,slots:=[6],pats:=[.ty .bool],boxes:=[.row [.ty (.slice (.pair (.int .i64) (.pair (.int .i64) (.pair (.slice (.pair (.int .i64) (.pair (.int .i64) (.pair .bool .unit)))) .unit))))],.row [.ty (.int .i64),.ty (.int .i64),.ty (.int .i64),.ty (.int .i64)],.row [.ty (.slice (.int .i64)),.ty (.slice (.int .i64)),.ty (.slice (.pair (.int .i64) (.pair (.slice (.pair (.int .i64) (.pair .bool .unit))) .unit)))]] }
def t4_2 (x0:(List Int)) (x1:Int) (x3:(List ((List Int)×((List Int)×((List (Int×((List (Int×(Bool×Unit)))×Unit)))×Unit))))) (x4:Int) (x5:Int) (x6:Int) (x9:Int) (x10:Int) (x11:Bool) (x12:Int) (b0_0:(List (Int×(Int×((List (Int×(Int×(Bool×Unit))))×Unit))))) (b1_0:Int) (b1_1:Int) (b1_2:Int) (b1_3:Int) (b2_0:(List Int)) (b2_1:(List Int)) (b2_2:(List (Int×((List (Int×(Bool×Unit)))×Unit)))):Tr (Out sh4_2.data shb4_2.data shr4_2.data) :=
  Tr.test ((!leF x5 x12:Bool))
    (Tr.test (decide ((0:Int) ≤ x12) && decide (x12 < (↑(List.length b0_0):Int)))
      (Tr.test ((decide ((0:Int) ≤ x12) && decide (x12 < (↑(List.length b2_0):Int)):Bool))
        (Tr.test ((decide ((0:Int) ≤ x6) && decide (x6 < (↑(List.length x3):Int)):Bool))
          (Tr.test ((decide ((0:Int) ≤ x12) && decide (x12 < (↑(List.length (List.getD x3 (Int.toNat x6) ([],[],[],())).1):Int)):Bool))
            (Tr.test ((decide ((0:Int) ≤ x12) && decide (x12 < (↑(List.length (List.getD x3 (Int.toNat x6) ([],[],[],())).2.1):Int)):Bool))
              (Tr.test (Option.isSome (f25 (((List.getD b0_0 (Int.toNat x12) ((0:Int),(0:Int),[],())).2.2.1:List (Int×Int×Bool×PUnit)),())))
                (Tr.test ((decide ((0:Int) ≤ x12) && decide (x12 < (↑(List.length (List.getD x3 (Int.toNat x6) ([],[],[],())).2.2.1):Int)):Bool))
                  (Tr.test (Option.isSome (f26 ((((List.getD (List.getD x3 (Int.toNat x6) ([],[],[],())).2.2.1 (Int.toNat x12) ((0:Int),[],())).1:Int),(((List.getD (List.getD x3 (Int.toNat x6) ([],[],[],())).2.2.1 (Int.toNat x12) ((0:Int),[],())).2.1:List (Int×Bool×PUnit)),())),())))
                    (let r0:=g25 (((List.getD b0_0 (Int.toNat x12) ((0:Int),(0:Int),[],())).2.2.1:List (Int×Int×Bool×PUnit)),());
                    let r1:=g26 ((((List.getD (List.getD x3 (Int.toNat x6) ([],[],[],())).2.2.1 (Int.toNat x12) ((0:Int),[],())).1:Int),(((List.getD (List.getD x3 (Int.toNat x6) ([],[],[],())).2.2.1 (Int.toNat x12) ((0:Int),[],())).2.1:List (Int×Bool×PUnit)),())),());
                    Tr.test (Option.isSome (f24 (r0.1,((r1.1.1,(r1.1.2.1,())),()))))
                      (let r2:=g24 (r0.1,((r1.1.1,(r1.1.2.1,())),()));
                      Tr.test ((!eqF r2.2.1 0:Bool))
                        (Tr.fin (.ret (((false:Bool),()),((b0_0,()),((b1_0,(b1_1,(b1_2,(b1_3,())))),((b2_0,(b2_1,(b2_2,()))),()))))))
                        (Tr.test ((!leF x12 0:Bool))
                          (Tr.test ((decide ((0:Int) ≤ wrap64 (x12 - (1:Int))) && decide (wrap64 (x12 - (1:Int)) < (↑(List.length b2_0):Int)):Bool))
                            (Tr.test ((decide ((0:Int) ≤ wrap64 (x12 - (1:Int))) && decide (wrap64 (x12 - (1:Int)) < (↑(List.length (List.getD x3 (Int.toNat x6) ([],[],[],())).2.1):Int)):Bool))
                              (Tr.test (x11)
                                (Tr.fin (.again ((x0,(x1,(x3,(x4,(x5,(x6,((wrap64 (x9 + wrap64 ((List.getD b0_0 (Int.toNat x12) ((0:Int),(0:Int),[],())).1 * wrap64 (wrap64 (wrap64 (List.getD b2_0 (Int.toNat x12) (0:Int) - List.getD (List.getD x3 (Int.toNat x6) ([],[],[],())).1 (Int.toNat x12) (0:Int)) * wrap64 (List.getD b2_0 (Int.toNat x12) (0:Int) - List.getD (List.getD x3 (Int.toNat x6) ([],[],[],())).1 (Int.toNat x12) (0:Int))) - wrap64 (wrap64 (List.getD (List.getD x3 (Int.toNat x6) ([],[],[],())).1 (Int.toNat x12) (0:Int) - List.getD (List.getD x3 (Int.toNat x6) ([],[],[],())).2.1 (Int.toNat x12) (0:Int)) * wrap64 (List.getD (List.getD x3 (Int.toNat x6) ([],[],[],())).1 (Int.toNat x12) (0:Int) - List.getD (List.getD x3 (Int.toNat x6) ([],[],[],())).2.1 (Int.toNat x12) (0:Int)))))):Int),((wrap64 (wrap64 (x10 - wrap64 (r2.1 * wrap64 (wrap64 (List.getD b2_0 (Int.toNat x12) (0:Int) - List.getD (List.getD x3 (Int.toNat x6) ([],[],[],())).1 (Int.toNat x12) (0:Int)) + wrap64 (List.getD (List.getD x3 (Int.toNat x6) ([],[],[],())).1 (Int.toNat x12) (0:Int) - List.getD (List.getD x3 (Int.toNat x6) ([],[],[],())).2.1 (Int.toNat x12) (0:Int))))) + wrap64 (r2.1 * wrap64 (List.getD b2_0 (Int.toNat (wrap64 (x12 - (1:Int)))) (0:Int) - List.getD (List.getD x3 (Int.toNat x6) ([],[],[],())).2.1 (Int.toNat (wrap64 (x12 - (1:Int)))) (0:Int)))):Int),((eqF (List.getD b0_0 (Int.toNat x12) ((0:Int),(0:Int),[],())).1 (1:Int):Bool),((wrap64 (x12 + (1:Int)):Int),())))))))))),((b0_0,()),((b1_0,(b1_1,(b1_2,(b1_3,())))),((b2_0,(b2_1,(b2_2,()))),()))))))
                                (Tr.fin (.again ((x0,(x1,(x3,(x4,(x5,(x6,((wrap64 (x9 + wrap64 ((List.getD b0_0 (Int.toNat x12) ((0:Int),(0:Int),[],())).1 * wrap64 (wrap64 (wrap64 (List.getD b2_0 (Int.toNat x12) (0:Int) - List.getD (List.getD x3 (Int.toNat x6) ([],[],[],())).1 (Int.toNat x12) (0:Int)) * wrap64 (List.getD b2_0 (Int.toNat x12) (0:Int) - List.getD (List.getD x3 (Int.toNat x6) ([],[],[],())).1 (Int.toNat x12) (0:Int))) - wrap64 (wrap64 (List.getD (List.getD x3 (Int.toNat x6) ([],[],[],())).1 (Int.toNat x12) (0:Int) - List.getD (List.getD x3 (Int.toNat x6) ([],[],[],())).2.1 (Int.toNat x12) (0:Int)) * wrap64 (List.getD (List.getD x3 (Int.toNat x6) ([],[],[],())).1 (Int.toNat x12) (0:Int) - List.getD (List.getD x3 (Int.toNat x6) ([],[],[],())).2.1 (Int.toNat x12) (0:Int)))))):Int),((wrap64 (wrap64 (x10 - wrap64 (r2.1 * wrap64 (wrap64 (List.getD b2_0 (Int.toNat x12) (0:Int) - List.getD (List.getD x3 (Int.toNat x6) ([],[],[],())).1 (Int.toNat x12) (0:Int)) + wrap64 (List.getD (List.getD x3 (Int.toNat x6) ([],[],[],())).1 (Int.toNat x12) (0:Int) - List.getD (List.getD x3 (Int.toNat x6) ([],[],[],())).2.1 (Int.toNat x12) (0:Int))))) + wrap64 (r2.1 * wrap64 (List.getD b2_0 (Int.toNat (wrap64 (x12 - (1:Int)))) (0:Int) - List.getD (List.getD x3 (Int.toNat x6) ([],[],[],())).2.1 (Int.toNat (wrap64 (x12 - (1:Int)))) (0:Int)))):Int),((false:Bool),((wrap64 (x12 + (1:Int)):Int),())))))))))),((b0_0,()),((b1_0,(b1_1,(b1_2,(b1_3,())))),((b2_0,(b2_1,(b2_2,()))),())))))))
                              (Tr.stop))
                            (Tr.stop))
                          (Tr.test (x11)
                            (Tr.fin (.again ((x0,(x1,(x3,(x4,(x5,(x6,((wrap64 (x9 + wrap64 ((List.getD b0_0 (Int.toNat x12) ((0:Int),(0:Int),[],())).1 * wrap64 (wrap64 (wrap64 (List.getD b2_0 (Int.toNat x12) (0:Int) - List.getD (List.getD x3 (Int.toNat x6) ([],[],[],())).1 (Int.toNat x12) (0:Int)) * wrap64 (List.getD b2_0 (Int.toNat x12) (0:Int) - List.getD (List.getD x3 (Int.toNat x6) ([],[],[],())).1 (Int.toNat x12) (0:Int))) - wrap64 (wrap64 (List.getD (List.getD x3 (Int.toNat x6) ([],[],[],())).1 (Int.toNat x12) (0:Int) - List.getD (List.getD x3 (Int.toNat x6) ([],[],[],())).2.1 (Int.toNat x12) (0:Int)) * wrap64 (List.getD (List.getD x3 (Int.toNat x6) ([],[],[],())).1 (Int.toNat x12) (0:Int) - List.getD (List.getD x3 (Int.toNat x6) ([],[],[],())).2.1 (Int.toNat x12) (0:Int)))))):Int),((wrap64 (x10 - wrap64 (r2.1 * wrap64 (wrap64 (List.getD b2_0 (Int.toNat x12) (0:Int) - List.getD (List.getD x3 (Int.toNat x6) ([],[],[],())).1 (Int.toNat x12) (0:Int)) + wrap64 (List.getD (List.getD x3 (Int.toNat x6) ([],[],[],())).1 (Int.toNat x12) (0:Int) - List.getD (List.getD x3 (Int.toNat x6) ([],[],[],())).2.1 (Int.toNat x12) (0:Int))))):Int),((eqF (List.getD b0_0 (Int.toNat x12) ((0:Int),(0:Int),[],())).1 (1:Int):Bool),((wrap64 (x12 + (1:Int)):Int),())))))))))),((b0_0,()),((b1_0,(b1_1,(b1_2,(b1_3,())))),((b2_0,(b2_1,(b2_2,()))),()))))))
                            (Tr.fin (.again ((x0,(x1,(x3,(x4,(x5,(x6,((wrap64 (x9 + wrap64 ((List.getD b0_0 (Int.toNat x12) ((0:Int),(0:Int),[],())).1 * wrap64 (wrap64 (wrap64 (List.getD b2_0 (Int.toNat x12) (0:Int) - List.getD (List.getD x3 (Int.toNat x6) ([],[],[],())).1 (Int.toNat x12) (0:Int)) * wrap64 (List.getD b2_0 (Int.toNat x12) (0:Int) - List.getD (List.getD x3 (Int.toNat x6) ([],[],[],())).1 (Int.toNat x12) (0:Int))) - wrap64 (wrap64 (List.getD (List.getD x3 (Int.toNat x6) ([],[],[],())).1 (Int.toNat x12) (0:Int) - List.getD (List.getD x3 (Int.toNat x6) ([],[],[],())).2.1 (Int.toNat x12) (0:Int)) * wrap64 (List.getD (List.getD x3 (Int.toNat x6) ([],[],[],())).1 (Int.toNat x12) (0:Int) - List.getD (List.getD x3 (Int.toNat x6) ([],[],[],())).2.1 (Int.toNat x12) (0:Int)))))):Int),((wrap64 (x10 - wrap64 (r2.1 * wrap64 (wrap64 (List.getD b2_0 (Int.toNat x12) (0:Int) - List.getD (List.getD x3 (Int.toNat x6) ([],[],[],())).1 (Int.toNat x12) (0:Int)) + wrap64 (List.getD (List.getD x3 (Int.toNat x6) ([],[],[],())).1 (Int.toNat x12) (0:Int) - List.getD (List.getD x3 (Int.toNat x6) ([],[],[],())).2.1 (Int.toNat x12) (0:Int))))):Int),((false:Bool),((wrap64 (x12 + (1:Int)):Int),())))))))))),((b0_0,()),((b1_0,(b1_1,(b1_2,(b1_3,())))),((b2_0,(b2_1,(b2_2,()))),())))))))))
                      (Tr.stop))
                    (Tr.stop))
                  (Tr.stop))
                (Tr.stop))
              (Tr.stop))
            (Tr.stop))
          (Tr.stop))
        (Tr.stop))
      (Tr.stop))
    (Tr.fin (.brk ((x0,(x1,(x3,(x4,(x5,(x6,(x9,(x10,(x11,()))))))))),((b0_0,()),((b1_0,(b1_1,(b1_2,(b1_3,())))),((b2_0,(b2_1,(b2_2,()))),()))))))
def s4_2 (d:sh4_2.data):Option (Out sh4_2.data shb4_2.data shr4_2.data):=(t4_2 d.1.1 d.1.2.1 d.1.2.2.1 d.1.2.2.2.1 d.1.2.2.2.2.1 d.1.2.2.2.2.2.1 d.1.2.2.2.2.2.2.1 d.1.2.2.2.2.2.2.2.1 d.1.2.2.2.2.2.2.2.2.1 d.1.2.2.2.2.2.2.2.2.2.1 d.2.1.1 d.2.2.1.1 d.2.2.1.2.1 d.2.2.1.2.2.1 d.2.2.1.2.2.2.1 d.2.2.2.1.1 d.2.2.2.1.2.1 d.2.2.2.1.2.2.1).val
def l4_2 (d:sh4_2.data):Option (shb4_2.data ⊕ shr4_2.data):=itr s4_2 rounds d
def b4_2 (d:sh4_2.data):shb4_2.data:=outB shb4_2.dflt (l4_2 d)
def r4_2 (d:sh4_2.data):shr4_2.data:=outR shr4_2.dflt (l4_2 d)
def lc4_2:LoopC:=lcOf sh4_2 shb4_2 shr4_2 l4_2 b4_2 r4_2
theorem wk4_2 (x0:(List Int)) (x1:Int) (x3:(List ((List Int)×((List Int)×((List (Int×((List (Int×(Bool×Unit)))×Unit)))×Unit))))) (x4:Int) (x5:Int) (x6:Int) (x9:Int) (x10:Int) (x11:Bool) (x12:Int) (b0_0:(List (Int×(Int×((List (Int×(Int×(Bool×Unit))))×Unit))))) (b1_0:Int) (b1_1:Int) (b1_2:Int) (b1_3:Int) (b2_0:(List Int)) (b2_1:(List Int)) (b2_2:(List (Int×((List (Int×(Bool×Unit)))×Unit)))):Walks (qak (kf27 Proofs.Tryz.prog).orc Proofs.Tryz.prog 400 4 2 sh4_2 shb4_2 shr4_2 ((x0,x1,x3,x4,x5,x6,x9,x10,x11,x12,()),(b0_0,()),(b1_0,b1_1,b1_2,b1_3,()),(b2_0,b2_1,b2_2,()),())) (t4_2 x0 x1 x3 x4 x5 x6 x9 x10 x11 x12 b0_0 b1_0 b1_1 b1_2 b1_3 b2_0 b2_1 b2_2) [(bl 11 2047,[2,4,6,8,16,10,20,12,16,14,16,14,16,18,20,22]),(bl 15 31743,[2,2,2,4,24,6,8,10,12,14,16,24,18,28,20,24,22,24,22,24,26,28,30]),(bl 15 15359,[2,2,2,4,24,6,8,10,12,14,16,24,18,28,20,24,22,24,22,24,26,28,30]),(bl 13 5119,[2,2,2,4,6,8,10,12,20,14,24,16,20,18,20,18,20,22,24,26]),(bl 13 1023,[2,2,2,4,6,8,10,12,20,14,24,16,20,18,20,18,20,22,24,26]),(bl 1 0,[2])] :=
  ⟨by kernel_rfl,by kernel_rfl,by kernel_rfl,by kernel_rfl,by kernel_rfl,by kernel_rfl,trivial⟩
theorem ok4_2_t (x0:(List Int)) (x1:Int) (x3:(List ((List Int)×((List Int)×((List (Int×((List (Int×(Bool×Unit)))×Unit)))×Unit))))) (x4:Int) (x5:Int) (x6:Int) (x9:Int) (x10:Int) (x11:Bool) (x12:Int) (b0_0:(List (Int×(Int×((List (Int×(Int×(Bool×Unit))))×Unit))))) (b1_0:Int) (b1_1:Int) (b1_2:Int) (b1_3:Int) (b2_0:(List Int)) (b2_1:(List Int)) (b2_2:(List (Int×((List (Int×(Bool×Unit)))×Unit)))):TrOk (BodyRuns Proofs.Tryz.prog (kf27 Proofs.Tryz.prog).orc 4 2 sh4_2 shb4_2 shr4_2 ((x0,x1,x3,x4,x5,x6,x9,x10,x11,x12,()),(b0_0,()),(b1_0,b1_1,b1_2,b1_3,()),(b2_0,b2_1,b2_2,()),())) (t4_2 x0 x1 x3 x4 x5 x6 x9 x10 x11 x12 b0_0 b1_0 b1_1 b1_2 b1_3 b2_0 b2_1 b2_2) :=
  Walks.ok (fun _ _ _=>BodyRuns.of) (wk4_2 x0 x1 x3 x4 x5 x6 x9 x10 x11 x12 b0_0 b1_0 b1_1 b1_2 b1_3 b2_0 b2_1 b2_2) (by kernel_rfl)
theorem ok4_2:qaw Proofs.Tryz.prog 4 2 lc4_2:=qas (sh:=sh4_2) (shB:=shb4_2) (shR:=shr4_2) kf27_ok.base (T:=fun (d:sh4_2.data)=>t4_2 d.1.1 d.1.2.1 d.1.2.2.1 d.1.2.2.2.1 d.1.2.2.2.2.1 d.1.2.2.2.2.2.1 d.1.2.2.2.2.2.2.1 d.1.2.2.2.2.2.2.2.1 d.1.2.2.2.2.2.2.2.2.1 d.1.2.2.2.2.2.2.2.2.2.1 d.2.1.1 d.2.2.1.1 d.2.2.1.2.1 d.2.2.1.2.2.1 d.2.2.1.2.2.2.1 d.2.2.2.1.1 d.2.2.2.1.2.1 d.2.2.2.1.2.2.1) (by kernel_rfl) rfl (fun (d:sh4_2.data)=>ok4_2_t d.1.1 d.1.2.1 d.1.2.2.1 d.1.2.2.2.1 d.1.2.2.2.2.1 d.1.2.2.2.2.2.1 d.1.2.2.2.2.2.2.1 d.1.2.2.2.2.2.2.2.1 d.1.2.2.2.2.2.2.2.2.1 d.1.2.2.2.2.2.2.2.2.2.1 d.2.1.1 d.2.2.1.1 d.2.2.1.2.1 d.2.2.1.2.2.1 d.2.2.1.2.2.2.1 d.2.2.2.1.1 d.2.2.2.1.2.1 d.2.2.2.1.2.2.1) (fun _=>rfl)
def kl4_2 (P:Go.Program):Known:=(kf27 P).loop 4 2 lc4_2
theorem kl4_2_ok:KnownOk Proofs.Tryz.prog (kl4_2 Proofs.Tryz.prog):=kf27_ok.loop ok4_2
abbrev sh4_0:Sh:={ n:=371,slots:=[1,2,3,7,8,10,11],pats:=[.ty (.slice (.int .i64)),.ty (.int .i64),.ptr 0 1 0,.ty (.slice (.pair (.slice (.int .i64)) (.pair (.slice (.int .i64)) (.pair (.slice (.pair (.int .i64) (.pair (.slice (.pair (.int .i64) (.pair .bool .unit))) .unit))) .unit)))),.ty (.int .i64),.ty (.int .i64),.ty (.int .i64)],boxes:=[.row [.ty (.slice (.pair (.int .i64) (.pair (.int .i64) (.pair (.slice (.pair (.int .i64) (.pair (.int .i64) (.pair .bool .unit)))) .unit))))]] }
abbrev shb4_0:Sh:={ n:=371,slots:=[1,2,3,7,8],pats:=[.ty (.slice (.int .i64)),.ty (.int .i64),.ptr 0 1 0,.ty (.slice (.pair (.slice (.int .i64)) (.pair (.slice (.int .i64)) (.pair (.slice (.pair (.int .i64) (.pair (.slice (.pair (.int .i64) (.pair .bool .unit))) .unit))) .unit)))),.ty (.int .i64)],boxes:=[.row [.ty (.slice (.pair (.int .i64) (.pair (.int .i64) (.pair (.slice (.pair (.int .i64) (.pair (.int .i64) (.pair .bool .unit)))) .unit))))]] }
abbrev shr4_0:Sh:={ n:=371,slots:=[6],pats:=[.ty .bool],boxes:=[.row [.ty (.slice (.pair (.int .i64) (.pair (.int .i64) (.pair (.slice (.pair (.int .i64) (.pair (.int .i64) (.pair .bool .unit)))) .unit))))]] }
def t4_0 (x0:(List Int)) (x1:Int) (x3:(List ((List Int)×((List Int)×((List (Int×((List (Int×(Bool×Unit)))×Unit)))×Unit))))) (x4:Int) (x5:Int) (x6:Int) (b0_0:(List (Int×(Int×((List (Int×(Int×(Bool×Unit))))×Unit))))):Tr (Out sh4_0.data shb4_0.data shr4_0.data) :=
  Tr.test ((!leF (↑(List.length x3):Int) x6:Bool))
    (Tr.test (decide ((0:Int) ≤ x6) && decide (x6 < (↑(List.length x3):Int)))
      (Tr.test (Option.isSome (f22 ((b0_0,()),((((List.getD x3 (Int.toNat x6) ([],[],[],())).1:List Int),(((List.getD x3 (Int.toNat x6) ([],[],[],())).2.1:List Int),(((List.getD x3 (Int.toNat x6) ([],[],[],())).2.2.1:List (Int×List (Int×Bool×PUnit)×PUnit)),()))),()))))
        (let r0:=g22 ((b0_0,()),((((List.getD x3 (Int.toNat x6) ([],[],[],())).1:List Int),(((List.getD x3 (Int.toNat x6) ([],[],[],())).2.1:List Int),(((List.getD x3 (Int.toNat x6) ([],[],[],())).2.2.1:List (Int×List (Int×Bool×PUnit)×PUnit)),()))),()));
        Tr.test ((!eqF r0.1 0:Bool))
          (Tr.fin (.ret (((false:Bool),()),((b0_0,()),()))))
          (Tr.test ((eqF x6 (↑(List.length x0):Int):Bool))
            (Tr.fin (.again ((x0,(x1,(x3,(x4,(x5,((wrap64 (x6 + (1:Int)):Int),())))))),((b0_0,()),()))))
            (Tr.test (Option.isSome (f8 ((b0_0,()),())))
              (Tr.test (Option.isSome (f9 ((((List.getD x3 (Int.toNat x6) ([],[],[],())).1:List Int),(((List.getD x3 (Int.toNat x6) ([],[],[],())).2.1:List Int),(((List.getD x3 (Int.toNat x6) ([],[],[],())).2.2.1:List (Int×List (Int×Bool×PUnit)×PUnit)),()))),())))
                (Tr.test ((decide ((0:Int) ≤ x6) && decide (x6 < (↑(List.length x0):Int)):Bool))
                  (let r1:=g8 ((b0_0,()),());
                  let r2:=g9 ((((List.getD x3 (Int.toNat x6) ([],[],[],())).1:List Int),(((List.getD x3 (Int.toNat x6) ([],[],[],())).2.1:List Int),(((List.getD x3 (Int.toNat x6) ([],[],[],())).2.2.1:List (Int×List (Int×Bool×PUnit)×PUnit)),()))),());
                  Tr.test (Option.isSome (f11 (((r1.1.1:List (Int×Int×List (Int×Int×Bool×PUnit)×PUnit)),()),((r2.1.1,(r2.1.2.1,((r2.1.2.2.1:List (Int×List (Int×Bool×PUnit)×PUnit)),()))),((List.getD x0 (Int.toNat x6) (0:Int):Int),())))))
                    (Tr.test (Option.isSome (f10 (((r1.1.1:List (Int×Int×List (Int×Int×Bool×PUnit)×PUnit)),()),((r2.1.1,(r2.1.2.1,((r2.1.2.2.1:List (Int×List (Int×Bool×PUnit)×PUnit)),()))),((List.getD x0 (Int.toNat x6) (0:Int):Int),())))))
                      (let r3:=g11 (((r1.1.1:List (Int×Int×List (Int×Int×Bool×PUnit)×PUnit)),()),((r2.1.1,(r2.1.2.1,((r2.1.2.2.1:List (Int×List (Int×Bool×PUnit)×PUnit)),()))),((List.getD x0 (Int.toNat x6) (0:Int):Int),())));
                      Tr.test ((!eqF r3.2.1 0:Bool))
                        (Tr.fin (.ret (((false:Bool),()),((b0_0,()),()))))
                        (Tr.test ((!eqF r3.1.1 (wrap64 (wrap64 (r3.1.2.1 + r3.1.2.2.1) - r3.1.2.2.2.1)):Bool))
                          (Tr.fin (.ret (((false:Bool),()),((b0_0,()),()))))
                          (Tr.test ((eqF (wrap64 (x6 + (1:Int))) (↑(List.length x3):Int):Bool))
                            (let r4:=g10 (((r1.1.1:List (Int×Int×List (Int×Int×Bool×PUnit)×PUnit)),()),((r2.1.1,(r2.1.2.1,((r2.1.2.2.1:List (Int×List (Int×Bool×PUnit)×PUnit)),()))),((List.getD x0 (Int.toNat x6) (0:Int):Int),())));
                            Tr.test ((!eqF r4.2.1 22:Bool))
                              (Tr.fin (.ret (((false:Bool),()),((b0_0,()),()))))
                              (Tr.test ((!leF (0:Int) x4:Bool))
                                (Tr.fin (.ret (((false:Bool),()),((b0_0,()),()))))
                                (Tr.fin (.again ((x0,(x1,(x3,(x4,(x5,((wrap64 (x6 + (1:Int)):Int),())))))),((b0_0,()),()))))))
                            (let r4:=g10 (((r1.1.1:List (Int×Int×List (Int×Int×Bool×PUnit)×PUnit)),()),((r2.1.1,(r2.1.2.1,((r2.1.2.2.1:List (Int×List (Int×Bool×PUnit)×PUnit)),()))),((List.getD x0 (Int.toNat x6) (0:Int):Int),())));
                            Tr.test ((!eqF r4.2.1 0:Bool))
                              (Tr.fin (.ret (((false:Bool),()),((b0_0,()),()))))
                              (Tr.test (Option.isSome (f22 ((b0_0,()),((r4.1.1,(r4.1.2.1,((r4.1.2.2.1:List (Int×List (Int×Bool×PUnit)×PUnit)),()))),()))))
                                (let r5:=g22 ((b0_0,()),((r4.1.1,(r4.1.2.1,((r4.1.2.2.1:List (Int×List (Int×Bool×PUnit)×PUnit)),()))),()));
                                Tr.test ((!eqF r5.1 0:Bool))
                                  (Tr.fin (.ret (((false:Bool),()),((b0_0,()),()))))
                                  (Tr.test ((decide ((0:Int) ≤ wrap64 (x6 + (1:Int))) && decide (wrap64 (x6 + (1:Int)) < (↑(List.length x3):Int)):Bool))
                                    (Tr.test (Option.isSome (f15 ((r4.1.1,(r4.1.2.1,((r4.1.2.2.1:List (Int×List (Int×Bool×PUnit)×PUnit)),()))),((((List.getD x3 (Int.toNat (wrap64 (x6 + (1:Int)))) ([],[],[],())).1:List Int),(((List.getD x3 (Int.toNat (wrap64 (x6 + (1:Int)))) ([],[],[],())).2.1:List Int),(((List.getD x3 (Int.toNat (wrap64 (x6 + (1:Int)))) ([],[],[],())).2.2.1:List (Int×List (Int×Bool×PUnit)×PUnit)),()))),()))))
                                      (let r6:=g15 ((r4.1.1,(r4.1.2.1,((r4.1.2.2.1:List (Int×List (Int×Bool×PUnit)×PUnit)),()))),((((List.getD x3 (Int.toNat (wrap64 (x6 + (1:Int)))) ([],[],[],())).1:List Int),(((List.getD x3 (Int.toNat (wrap64 (x6 + (1:Int)))) ([],[],[],())).2.1:List Int),(((List.getD x3 (Int.toNat (wrap64 (x6 + (1:Int)))) ([],[],[],())).2.2.1:List (Int×List (Int×Bool×PUnit)×PUnit)),()))),()));
                                      Tr.test ((!r6.1:Bool))
                                        (Tr.fin (.ret (((false:Bool),()),((b0_0,()),()))))
                                        (Tr.test (Option.isSome (f23 (r4.1.2.1,(((List.getD x3 (Int.toNat x6) ([],[],[],())).1:List Int),()))))
                                          (let r7:=g23 (r4.1.2.1,(((List.getD x3 (Int.toNat x6) ([],[],[],())).1:List Int),()));
                                          Tr.test ((!r7.1:Bool))
                                            (Tr.fin (.ret (((false:Bool),()),((b0_0,()),()))))
                                            (Tr.test (Option.isSome (l4_2 ((x0,(x1,(x3,(x4,(x5,(x6,((0:Int),((0:Int),((true:Bool),((0:Int),())))))))))),((b0_0,()),((r3.1.1,(r3.1.2.1,(r3.1.2.2.1,(r3.1.2.2.2.1,())))),((r4.1.1,(r4.1.2.1,((r4.1.2.2.1:List (Int×List (Int×Bool×PUnit)×PUnit)),()))),()))))))
                                              (Tr.test (qaA (l4_2 ((x0,(x1,(x3,(x4,(x5,(x6,((0:Int),((0:Int),((true:Bool),((0:Int),())))))))))),((b0_0,()),((r3.1.1,(r3.1.2.1,(r3.1.2.2.1,(r3.1.2.2.2.1,())))),((r4.1.1,(r4.1.2.1,((r4.1.2.2.1:List (Int×List (Int×Bool×PUnit)×PUnit)),()))),()))))))
                                                (let r8:=r4_2 ((x0,(x1,(x3,(x4,(x5,(x6,((0:Int),((0:Int),((true:Bool),((0:Int),())))))))))),((b0_0,()),((r3.1.1,(r3.1.2.1,(r3.1.2.2.1,(r3.1.2.2.2.1,())))),((r4.1.1,(r4.1.2.1,((r4.1.2.2.1:List (Int×List (Int×Bool×PUnit)×PUnit)),()))),()))));
                                                Tr.fin (.ret ((r8.1.1,()),(((r8.2.1.1:List (Int×Int×List (Int×Int×Bool×PUnit)×PUnit)),()),()))))
                                                (let r9:=b4_2 ((x0,(x1,(x3,(x4,(x5,(x6,((0:Int),((0:Int),((true:Bool),((0:Int),())))))))))),((b0_0,()),((r3.1.1,(r3.1.2.1,(r3.1.2.2.1,(r3.1.2.2.2.1,())))),((r4.1.1,(r4.1.2.1,((r4.1.2.2.1:List (Int×List (Int×Bool×PUnit)×PUnit)),()))),()))));
                                                Tr.test ((!eqF r9.1.2.2.2.2.2.2.1 r9.2.2.1.1:Bool))
                                                  (Tr.fin (.ret (((false:Bool),()),(((r9.2.1.1:List (Int×Int×List (Int×Int×Bool×PUnit)×PUnit)),()),()))))
                                                  (Tr.test ((!eqF r9.1.2.2.2.2.2.2.2.1 r9.2.2.1.2.1:Bool))
                                                    (Tr.fin (.ret (((false:Bool),()),(((r9.2.1.1:List (Int×Int×List (Int×Int×Bool×PUnit)×PUnit)),()),()))))
                                                    (Tr.test (r9.1.2.2.2.2.2.2.2.2.1)
                                                      (Tr.test ((!eqF r9.2.2.1.2.2.2.1 0:Bool))
                                                        (Tr.fin (.ret (((false:Bool),()),(((r9.2.1.1:List (Int×Int×List (Int×Int×Bool×PUnit)×PUnit)),()),()))))
                                                        (Tr.fin (.again ((r9.1.1,(r9.1.2.1,((r9.1.2.2.1:List (List Int×List Int×List (Int×List (Int×Bool×PUnit)×PUnit)×PUnit)),(r9.1.2.2.2.1,(r9.1.2.2.2.2.1,((wrap64 (r9.1.2.2.2.2.2.1 + (1:Int)):Int),())))))),(((r9.2.1.1:List (Int×Int×List (Int×Int×Bool×PUnit)×PUnit)),()),())))))
                                                      (Tr.fin (.again ((r9.1.1,(r9.1.2.1,((r9.1.2.2.1:List (List Int×List Int×List (Int×List (Int×Bool×PUnit)×PUnit)×PUnit)),(r9.1.2.2.2.1,(r9.1.2.2.2.2.1,((wrap64 (r9.1.2.2.2.2.2.1 + (1:Int)):Int),())))))),(((r9.2.1.1:List (Int×Int×List (Int×Int×Bool×PUnit)×PUnit)),()),()))))))))
                                              (Tr.stop)))
                                          (Tr.stop)))
                                      (Tr.stop))
                                    (Tr.stop)))
                                (Tr.stop))))))
                      (Tr.stop))
                    (Tr.stop))
                  (Tr.stop))
                (Tr.stop))
              (Tr.stop))))
        (Tr.stop))
      (Tr.stop))
    (Tr.fin (.brk ((x0,(x1,(x3,(x4,())))),((b0_0,()),()))))
def s4_0 (d:sh4_0.data):Option (Out sh4_0.data shb4_0.data shr4_0.data):=(t4_0 d.1.1 d.1.2.1 d.1.2.2.1 d.1.2.2.2.1 d.1.2.2.2.2.1 d.1.2.2.2.2.2.1 d.2.1.1).val
def l4_0 (d:sh4_0.data):Option (shb4_0.data ⊕ shr4_0.data):=itr s4_0 rounds d
def b4_0 (d:sh4_0.data):shb4_0.data:=outB shb4_0.dflt (l4_0 d)
def r4_0 (d:sh4_0.data):shr4_0.data:=outR shr4_0.dflt (l4_0 d)
def lc4_0:LoopC:=lcOf sh4_0 shb4_0 shr4_0 l4_0 b4_0 r4_0
theorem wk4_0n0 (x0:(List Int)) (x1:Int) (x3:(List ((List Int)×((List Int)×((List (Int×((List (Int×(Bool×Unit)))×Unit)))×Unit))))) (x4:Int) (x5:Int) (x6:Int) (b0_0:(List (Int×(Int×((List (Int×(Int×(Bool×Unit))))×Unit))))):Walks (qak (kl4_2 Proofs.Tryz.prog).orc Proofs.Tryz.prog 400 4 0 sh4_0 shb4_0 shr4_0 ((x0,x1,x3,x4,x5,x6,()),(b0_0,()),())) (t4_0 x0 x1 x3 x4 x5 x6 b0_0) [(bl 4 15,[2,4,6,8]),(bl 5 23,[2,4,6,8,10]),(bl 11 2023,[1,2,2,2,2,2,2,2,2,2,2,2,2,4,8,10,20,12,6,8,10,20,12,14,16,18,20,22]),(bl 12 3047,[2,4,4,4,1,4,4,4,1,4,4,1,4,4,1,4,4,6,10,12,22,14,8,10,12,22,14,16,18,20,22,24]),(bl 14 13287,[1,2,2,2,4,6,8,8,8,1,8,8,8,1,8,8,1,8,8,1,8,8,10,14,16,26,18,12,14,16,26,18,20,22,24,26,28]),(bl 15 21479,[2,4,4,4,6,8,10,10,10,1,10,10,10,1,10,10,1,10,10,1,10,10,12,16,18,28,20,14,16,18,28,20,22,24,26,28,30]),(bl 15 5095,[2,4,4,4,6,8,10,10,10,1,10,10,10,1,10,10,1,10,10,1,10,10,12,16,18,28,20,14,16,18,28,20,22,24,26,28,30]),(bl 14 9191,[1,1,1,1,1,1,1,1,1,1,1,1,1,1,1,1,1,1,1,1,2,2,2,2,2,4,6,8,8,8,1,8,8,8,1,8,8,1,8,8,1,8,8,10,14,16,26,18,12,14,16,26,18,20,22,24,26,28]),(bl 16 50151,[1,1,1,1,1,1,1,1,1,1,1,2,2,2,2,2,2,2,2,2,6,6,4,6,6,6,8,10,12,12,12,1,12,12,12,1,12,12,1,12,12,1,12,12,14,18,20,30,22,16,18,20,30,22,24,26,28,30,32]),(bl 19 476135,[1,2,2,2,2,2,2,2,2,2,2,8,8,4,8,8,6,8,8,8,8,8,12,12,10,12,12,12,14,16,18,18,18,1,18,18,18,1,18,18,1,18,18,1,18,18,20,24,26,36,28,22,24,26,36,28,30,32,34,36,38]),(bl 21 1786855,[2,6,6,4,6,6,6,40,6,6,6,6,6,12,12,8,12,12,10,12,12,12,12,12,16,16,14,16,16,16,18,20,22,22,22,1,22,22,22,1,22,22,1,22,22,1,22,22,24,28,30,40,32,26,28,30,40,32,34,36,38,40,42]),(bl 23 7029735,[2,4,6,10,10,8,10,10,10,44,10,10,10,10,10,16,16,12,16,16,14,16,16,16,16,16,20,20,18,20,20,20,22,24,26,26,26,1,26,26,26,1,26,26,1,26,26,1,26,26,28,32,34,44,36,30,32,34,44,36,38,40,42,44,46]),(bl 24 11224039,[1,1,1,1,1,2,2,2,2,2,1,4,6,8,12,12,10,12,12,12,46,12,12,12,12,12,18,18,14,18,18,16,18,18,18,18,18,22,22,20,22,22,22,24,26,28,28,28,1,28,28,28,1,28,28,1,28,28,1,28,28,30,34,36,46,38,32,34,36,46,38,40,42,44,46,48]),(bl 25 19612647,[1,2,2,2,2,4,4,1,4,4,4,1,6,8,10,14,14,12,14,14,14,48,14,14,14,14,14,20,20,16,20,20,18,20,20,20,20,20,24,24,22,24,24,24,26,28,30,30,30,1,30,30,30,1,30,30,1,30,30,1,30,30,32,36,38,48,40,34,36,38,48,40,42,44,46,48,50]),(bl 27 103498727,[2,6,4,6,4,1,4,4,6,6,8,8,1,8,8,8,1,10,12,14,18,18,16,18,18,18,52,18,18,18,18,18,24,24,20,24,24,22,24,24,24,24,24,28,28,26,28,28,28,30,32,34,34,34,1,34,34,34,1,34,34,1,34,34,1,34,34,36,40,42,52,44,38,40,42,52,44,46,48,50,52,54]),(bl 27 36389863,[2,6,4,6,4,1,4,4,6,6,8,8,1,8,8,8,1,10,12,14,18,18,16,18,18,18,52,18,18,18,18,18,24,24,20,24,24,22,24,24,24,24,24,28,28,26,28,28,28,30,32,34,34,34,1,34,34,34,1,34,34,1,34,34,1,34,34,36,40,42,52,44,38,40,42,52,44,46,48,50,52,54])] :=
  ⟨by kernel_rfl,by kernel_rfl,by kernel_rfl,by kernel_rfl,by kernel_rfl,by kernel_rfl,by kernel_rfl,by kernel_rfl,by kernel_rfl,by kernel_rfl,by kernel_rfl,by kernel_rfl,by kernel_rfl,by kernel_rfl,by kernel_rfl,by kernel_rfl,trivial⟩
theorem wk4_0n1 (x0:(List Int)) (x1:Int) (x3:(List ((List Int)×((List Int)×((List (Int×((List (Int×(Bool×Unit)))×Unit)))×Unit))))) (x4:Int) (x5:Int) (x6:Int) (b0_0:(List (Int×(Int×((List (Int×(Int×(Bool×Unit))))×Unit))))):Walks (qak (kl4_2 Proofs.Tryz.prog).orc Proofs.Tryz.prog 400 4 0 sh4_0 shb4_0 shr4_0 ((x0,x1,x3,x4,x5,x6,()),(b0_0,()),())) (t4_0 x0 x1 x3 x4 x5 x6 b0_0) [(bl 26 2835431,[0,4,2,4,2,2,2,4,4,6,6,1,6,6,6,1,8,10,12,16,16,14,16,16,16,50,16,16,16,16,16,22,22,18,22,22,20,22,22,22,22,22,26,26,24,26,26,26,28,30,32,32,32,1,32,32,32,1,32,32,1,32,32,1,32,32,34,38,40,50,42,36,38,40,50,42,44,46,48,50,52]),(bl 1 0,[2])] :=
  ⟨by kernel_rfl,by kernel_rfl,trivial⟩
theorem ok4_0_t (x0:(List Int)) (x1:Int) (x3:(List ((List Int)×((List Int)×((List (Int×((List (Int×(Bool×Unit)))×Unit)))×Unit))))) (x4:Int) (x5:Int) (x6:Int) (b0_0:(List (Int×(Int×((List (Int×(Int×(Bool×Unit))))×Unit))))):TrOk (BodyRuns Proofs.Tryz.prog (kl4_2 Proofs.Tryz.prog).orc 4 0 sh4_0 shb4_0 shr4_0 ((x0,x1,x3,x4,x5,x6,()),(b0_0,()),())) (t4_0 x0 x1 x3 x4 x5 x6 b0_0) :=
  Walks.ok (fun _ _ _=>BodyRuns.of) ((wk4_0n0 x0 x1 x3 x4 x5 x6 b0_0).append (wk4_0n1 x0 x1 x3 x4 x5 x6 b0_0)) (by kernel_rfl)
theorem ok4_0:qaw Proofs.Tryz.prog 4 0 lc4_0:=qas (sh:=sh4_0) (shB:=shb4_0) (shR:=shr4_0) kl4_2_ok.base (T:=fun (d:sh4_0.data)=>t4_0 d.1.1 d.1.2.1 d.1.2.2.1 d.1.2.2.2.1 d.1.2.2.2.2.1 d.1.2.2.2.2.2.1 d.2.1.1) (by kernel_rfl) rfl (fun (d:sh4_0.data)=>ok4_0_t d.1.1 d.1.2.1 d.1.2.2.1 d.1.2.2.2.1 d.1.2.2.2.2.1 d.1.2.2.2.2.2.1 d.2.1.1) (fun _=>rfl)
def kl4_0 (P:Go.Program):Known:=(kl4_2 P).loop 4 0 lc4_0
theorem kl4_0_ok:KnownOk Proofs.Tryz.prog (kl4_0 Proofs.Tryz.prog):=kl4_2_ok.loop ok4_0
abbrev as4:List Ty:=[(.pair (.slice (.pair (.int .i64) (.pair (.int .i64) (.pair (.slice (.pair (.int .i64) (.pair (.int .i64) (.pair .bool .unit)))) .unit)))) .unit),(.slice (.int .i64)),(.int .i64)]
abbrev rs4:List Ty:=[.bool]
def t4 (x0:(List (Int×(Int×((List (Int×(Int×(Bool×Unit))))×Unit))))) (x1:(List Int)) (x2:Int):Tr (Tys.data rs4) :=
  Tr.test (Option.isSome (f6 ((x0,()),())))
    (let r0:=g6 ((x0,()),());
    Tr.test ((!r0.1:Bool))
      (Tr.fin (((true:Bool),())))
      (Tr.test ((!leF (↑(List.length x1):Int) (20:Int):Bool))
        (Tr.fin (((true:Bool),())))
        (Tr.test (Option.isSome (f18 ((x0,()),())))
          (let r1:=g18 ((x0,()),());
          Tr.test ((!eqF r1.1 0:Bool))
            (Tr.fin (((true:Bool),())))
            (Tr.test (Option.isSome (f19 (x1,())))
              (let r2:=g19 (x1,());
              Tr.test ((!eqF r2.1 0:Bool))
                (Tr.fin (((true:Bool),())))
                (Tr.test (Option.isSome (f14 (x2,())))
                  (let r3:=g14 (x2,());
                  Tr.test ((!eqF r3.1 0:Bool))
                    (Tr.fin (((true:Bool),())))
                    (Tr.test (Option.isSome (f8 ((x0,()),())))
                      (Tr.test ((Nat.ble (((2:Nat) * ((0:Nat) + List.length x1) + (192:Nat)) * (8:Nat)) (281474976710656:Nat) && Nat.ble ((0:Nat) + List.length x1) (281474976710656:Nat):Bool))
                        (let r4:=g8 ((x0,()),());
                        Tr.test (Option.isSome (f20 (((r4.1.1:List (Int×Int×List (Int×Int×Bool×PUnit)×PUnit)),()),(([]++x1:List Int),()))))
                          (let r5:=g20 (((r4.1.1:List (Int×Int×List (Int×Int×Bool×PUnit)×PUnit)),()),(([]++x1:List Int),()));
                          Tr.test ((!eqF r5.2.2.1 0:Bool))
                            (Tr.fin (((false:Bool),())))
                            (Tr.test ((eqF (↑(List.length r5.1):Int) (0:Int):Bool))
                              (Tr.fin (((false:Bool),())))
                              (Tr.test ((!leF (↑(List.length r5.1):Int) (wrap64 ((↑(List.length x1):Int) + (1:Int))):Bool))
                                (Tr.fin (((false:Bool),())))
                                (Tr.test ((!leF (0:Int) r5.2.1:Bool))
                                  (Tr.test ((!eqF (↑(List.length r5.1):Int) (wrap64 ((↑(List.length x1):Int) + (1:Int))):Bool))
                                    (Tr.fin (((false:Bool),())))
                                    (Tr.test ((leF (↑(List.length x0):Int) r5.2.1:Bool))
                                      (Tr.fin (((false:Bool),())))
                                      (Tr.test (Option.isSome (l4_0 ((x1,(x2,((r5.1:List (List Int×List Int×List (Int×List (Int×Bool×PUnit)×PUnit)×PUnit)),(r5.2.1,((↑(List.length x0):Int),((0:Int),())))))),((x0,()),()))))
                                        (Tr.test (qaA (l4_0 ((x1,(x2,((r5.1:List (List Int×List Int×List (Int×List (Int×Bool×PUnit)×PUnit)×PUnit)),(r5.2.1,((↑(List.length x0):Int),((0:Int),())))))),((x0,()),()))))
                                          (let r6:=r4_0 ((x1,(x2,((r5.1:List (List Int×List Int×List (Int×List (Int×Bool×PUnit)×PUnit)×PUnit)),(r5.2.1,((↑(List.length x0):Int),((0:Int),())))))),((x0,()),()));
                                          Tr.fin ((r6.1.1,())))
                                          (let r7:=b4_0 ((x1,(x2,((r5.1:List (List Int×List Int×List (Int×List (Int×Bool×PUnit)×PUnit)×PUnit)),(r5.2.1,((↑(List.length x0):Int),((0:Int),())))))),((x0,()),()));
                                          Tr.test (Option.isSome (f8 (((r7.2.1.1:List (Int×Int×List (Int×Int×Bool×PUnit)×PUnit)),()),())))
                                            (Tr.test ((Nat.ble (((2:Nat) * ((0:Nat) + List.length r7.1.1) + (192:Nat)) * (8:Nat)) (281474976710656:Nat) && Nat.ble ((0:Nat) + List.length r7.1.1) (281474976710656:Nat):Bool))
                                              (Tr.test ((Nat.ble (((2:Nat) * (List.length ([]++r7.1.1) + (1:Nat)) + (192:Nat)) * (8:Nat)) (281474976710656:Nat) && Nat.ble (List.length ([]++r7.1.1) + (1:Nat)) (281474976710656:Nat):Bool))
                                                (let r8:=g8 (((r7.2.1.1:List (Int×Int×List (Int×Int×Bool×PUnit)×PUnit)),()),());
                                                Tr.test (Option.isSome (f20 (((r8.1.1:List (Int×Int×List (Int×Int×Bool×PUnit)×PUnit)),()),(([]++r7.1.1++[r7.1.2.1]:List Int),()))))
                                                  (let r9:=g20 (((r8.1.1:List (Int×Int×List (Int×Int×Bool×PUnit)×PUnit)),()),(([]++r7.1.1++[r7.1.2.1]:List Int),()));
                                                  Tr.test ((!eqF r9.2.2.1 0:Bool))
                                                    (Tr.fin (((false:Bool),())))
                                                    (Tr.test ((!leF (↑(List.length r7.1.2.2.1):Int) (↑(List.length r9.1):Int):Bool))
                                                      (Tr.fin (((false:Bool),())))
                                                      (Tr.test ((leF (0:Int) r7.1.2.2.2.1:Bool))
                                                        (Tr.test ((!eqF r9.2.1 r7.1.2.2.2.1:Bool))
                                                          (Tr.fin (((false:Bool),())))
                                                          (Tr.test ((!eqF (↑(List.length r9.1):Int) (↑(List.length r7.1.2.2.1):Int):Bool))
                                                            (Tr.fin (((false:Bool),())))
                                                            (Tr.test ((decide ((0:Int) ≤ (↑(List.length r7.1.2.2.1):Int)) && decide ((↑(List.length r7.1.2.2.1):Int) ≤ (↑(List.length r9.1):Int)):Bool))
                                                              (Tr.test (Option.isSome (f27 ((List.take (Int.toNat (↑(List.length r7.1.2.2.1):Int)) r9.1:List (List Int×List Int×List (Int×List (Int×Bool×PUnit)×PUnit)×PUnit)),((r7.1.2.2.1:List (List Int×List Int×List (Int×List (Int×Bool×PUnit)×PUnit)×PUnit)),()))))
                                                                (let r10:=g27 ((List.take (Int.toNat (↑(List.length r7.1.2.2.1):Int)) r9.1:List (List Int×List Int×List (Int×List (Int×Bool×PUnit)×PUnit)×PUnit)),((r7.1.2.2.1:List (List Int×List Int×List (Int×List (Int×Bool×PUnit)×PUnit)×PUnit)),()));
                                                                Tr.fin ((r10.1,())))
                                                                (Tr.stop))
                                                              (Tr.stop))))
                                                        (Tr.test ((decide ((0:Int) ≤ (↑(List.length r7.1.2.2.1):Int)) && decide ((↑(List.length r7.1.2.2.1):Int) ≤ (↑(List.length r9.1):Int)):Bool))
                                                          (Tr.test (Option.isSome (f27 ((List.take (Int.toNat (↑(List.length r7.1.2.2.1):Int)) r9.1:List (List Int×List Int×List (Int×List (Int×Bool×PUnit)×PUnit)×PUnit)),((r7.1.2.2.1:List (List Int×List Int×List (Int×List (Int×Bool×PUnit)×PUnit)×PUnit)),()))))
                                                            (let r10:=g27 ((List.take (Int.toNat (↑(List.length r7.1.2.2.1):Int)) r9.1:List (List Int×List Int×List (Int×List (Int×Bool×PUnit)×PUnit)×PUnit)),((r7.1.2.2.1:List (List Int×List Int×List (Int×List (Int×Bool×PUnit)×PUnit)×PUnit)),()));
                                                            Tr.fin ((r10.1,())))
                                                            (Tr.stop))
                                                          (Tr.stop)))))
                                                  (Tr.stop))
                                                (Tr.stop))
                                              (Tr.test ((Nat.ble ((0:Nat) + List.length r7.1.1) (0:Nat):Bool))
                                                (Tr.stop)
                                                (Tr.stop)))
                                            (Tr.stop)))
                                        (Tr.stop))))
                                  (Tr.test ((leF (↑(List.length x0):Int) r5.2.1:Bool))
                                    (Tr.fin (((false:Bool),())))
                                    (Tr.test (Option.isSome (l4_0 ((x1,(x2,((r5.1:List (List Int×List Int×List (Int×List (Int×Bool×PUnit)×PUnit)×PUnit)),(r5.2.1,((↑(List.length x0):Int),((0:Int),())))))),((x0,()),()))))
                                      (Tr.test (qaA (l4_0 ((x1,(x2,((r5.1:List (List Int×List Int×List (Int×List (Int×Bool×PUnit)×PUnit)×PUnit)),(r5.2.1,((↑(List.length x0):Int),((0:Int),())))))),((x0,()),()))))
                                        (let r6:=r4_0 ((x1,(x2,((r5.1:List (List Int×List Int×List (Int×List (Int×Bool×PUnit)×PUnit)×PUnit)),(r5.2.1,((↑(List.length x0):Int),((0:Int),())))))),((x0,()),()));
                                        Tr.fin ((r6.1.1,())))
                                        (let r7:=b4_0 ((x1,(x2,((r5.1:List (List Int×List Int×List (Int×List (Int×Bool×PUnit)×PUnit)×PUnit)),(r5.2.1,((↑(List.length x0):Int),((0:Int),())))))),((x0,()),()));
                                        Tr.test (Option.isSome (f8 (((r7.2.1.1:List (Int×Int×List (Int×Int×Bool×PUnit)×PUnit)),()),())))
                                          (Tr.test ((Nat.ble (((2:Nat) * ((0:Nat) + List.length r7.1.1) + (192:Nat)) * (8:Nat)) (281474976710656:Nat) && Nat.ble ((0:Nat) + List.length r7.1.1) (281474976710656:Nat):Bool))
                                            (Tr.test ((Nat.ble (((2:Nat) * (List.length ([]++r7.1.1) + (1:Nat)) + (192:Nat)) * (8:Nat)) (281474976710656:Nat) && Nat.ble (List.length ([]++r7.1.1) + (1:Nat)) (281474976710656:Nat):Bool))
                                              (let r8:=g8 (((r7.2.1.1:List (Int×Int×List (Int×Int×Bool×PUnit)×PUnit)),()),());
                                              Tr.test (Option.isSome (f20 (((r8.1.1:List (Int×Int×List (Int×Int×Bool×PUnit)×PUnit)),()),(([]++r7.1.1++[r7.1.2.1]:List Int),()))))
                                                (let r9:=g20 (((r8.1.1:List (Int×Int×List (Int×Int×Bool×PUnit)×PUnit)),()),(([]++r7.1.1++[r7.1.2.1]:List Int),()));
                                                Tr.test ((!eqF r9.2.2.1 0:Bool))
                                                  (Tr.fin (((false:Bool),())))
                                                  (Tr.test ((!leF (↑(List.length r7.1.2.2.1):Int) (↑(List.length r9.1):Int):Bool))
                                                    (Tr.fin (((false:Bool),())))
                                                    (Tr.test ((leF (0:Int) r7.1.2.2.2.1:Bool))
                                                      (Tr.test ((!eqF r9.2.1 r7.1.2.2.2.1:Bool))
                                                        (Tr.fin (((false:Bool),())))
                                                        (Tr.test ((!eqF (↑(List.length r9.1):Int) (↑(List.length r7.1.2.2.1):Int):Bool))
                                                          (Tr.fin (((false:Bool),())))
                                                          (Tr.test ((decide ((0:Int) ≤ (↑(List.length r7.1.2.2.1):Int)) && decide ((↑(List.length r7.1.2.2.1):Int) ≤ (↑(List.length r9.1):Int)):Bool))
                                                            (Tr.test (Option.isSome (f27 ((List.take (Int.toNat (↑(List.length r7.1.2.2.1):Int)) r9.1:List (List Int×List Int×List (Int×List (Int×Bool×PUnit)×PUnit)×PUnit)),((r7.1.2.2.1:List (List Int×List Int×List (Int×List (Int×Bool×PUnit)×PUnit)×PUnit)),()))))
                                                              (let r10:=g27 ((List.take (Int.toNat (↑(List.length r7.1.2.2.1):Int)) r9.1:List (List Int×List Int×List (Int×List (Int×Bool×PUnit)×PUnit)×PUnit)),((r7.1.2.2.1:List (List Int×List Int×List (Int×List (Int×Bool×PUnit)×PUnit)×PUnit)),()));
                                                              Tr.fin ((r10.1,())))
                                                              (Tr.stop))
                                                            (Tr.stop))))
                                                      (Tr.test ((decide ((0:Int) ≤ (↑(List.length r7.1.2.2.1):Int)) && decide ((↑(List.length r7.1.2.2.1):Int) ≤ (↑(List.length r9.1):Int)):Bool))
                                                        (Tr.test (Option.isSome (f27 ((List.take (Int.toNat (↑(List.length r7.1.2.2.1):Int)) r9.1:List (List Int×List Int×List (Int×List (Int×Bool×PUnit)×PUnit)×PUnit)),((r7.1.2.2.1:List (List Int×List Int×List (Int×List (Int×Bool×PUnit)×PUnit)×PUnit)),()))))
                                                          (let r10:=g27 ((List.take (Int.toNat (↑(List.length r7.1.2.2.1):Int)) r9.1:List (List Int×List Int×List (Int×List (Int×Bool×PUnit)×PUnit)×PUnit)),((r7.1.2.2.1:List (List Int×List Int×List (Int×List (Int×Bool×PUnit)×PUnit)×PUnit)),()));
                                                          Tr.fin ((r10.1,())))
                                                          (Tr.stop))
                                                        (Tr.stop)))))
                                                (Tr.stop))
                                              (Tr.stop))
                                            (Tr.test ((Nat.ble ((0:Nat) + List.length r7.1.1) (0:Nat):Bool))
                                              (Tr.stop)
                                              (Tr.stop)))
                                          (Tr.stop)))
                                      (Tr.stop)))))))
                          (Tr.stop))
                        (Tr.test ((Nat.ble ((0:Nat) + List.length x1) (0:Nat):Bool))
                          (Tr.stop)
                          (Tr.stop)))
                      (Tr.stop)))
                  (Tr.stop)))
              (Tr.stop)))
          (Tr.stop))))
    (Tr.stop)
def f4 (d:Tys.data as4):Option (Tys.data rs4):=(t4 d.1.1 d.2.1 d.2.2.1).val
def g4 (d:Tys.data as4):Tys.data rs4:=(f4 d).getD (Tys.dflt rs4)
def p4:PureC:=pcOf as4 rs4 f4 g4
theorem wk4n0 (x0:(List (Int×(Int×((List (Int×(Int×(Bool×Unit))))×Unit))))) (x1:(List Int)) (x2:Int):Walks (runPure (kl4_0 Proofs.Tryz.prog).orc Proofs.Tryz.prog 400 4 as4 rs4 ((x0,()),x1,x2,())) (t4 x0 x1 x2) [(bl 2 3,[1,1,1,1,1,1,1,1,1,1,1,1,1,2,2,2,2,4,0,1]),(bl 3 5,[1,1,1,1,1,1,1,1,1,2,2,2,2,4,4,4,4,6,0,1]),(bl 5 25,[1,1,1,1,1,2,2,2,2,6,6,4,6,6,8,8,8,8,10,0,1]),(bl 7 105,[1,2,2,2,2,6,6,4,6,6,10,10,8,10,10,12,12,12,12,14,0,1]),(bl 9 425,[2,6,6,4,6,6,10,10,8,10,10,14,14,12,14,14,16,16,16,16,18,0,1]),(bl 13 7849,[1,1,1,1,1,1,1,1,1,1,1,1,1,1,1,1,1,1,1,2,2,2,2,4,6,8,10,14,14,12,14,14,18,18,16,18,18,22,22,20,22,22,24,24,24,24,26,0,1]),(bl 14 11945,[1,1,1,1,1,1,1,1,1,1,1,1,2,2,2,2,2,2,2,4,4,4,4,6,8,10,12,16,16,14,16,16,20,20,18,20,20,24,24,22,24,24,26,26,26,26,28,0,1]),(bl 15 20137,[1,1,1,1,1,1,1,2,2,2,2,2,4,4,4,4,4,4,4,6,6,6,6,8,10,12,14,18,18,16,18,18,22,22,20,22,22,26,26,24,26,26,28,28,28,28,30,0,1]),(bl 17 102057,[1,2,2,2,2,2,2,6,4,6,4,4,4,4,4,4,6,6,6,8,8,8,8,8,8,8,10,10,10,10,12,14,16,18,22,22,20,22,22,26,26,24,26,26,30,30,28,30,30,32,32,32,32,34,0,1]),(bl 18 167593,[2,4,4,4,4,4,4,8,6,8,6,6,6,6,6,6,8,8,8,10,10,10,10,10,10,10,12,12,12,12,14,16,18,20,24,24,22,24,24,28,28,26,28,28,32,32,30,32,32,34,34,34,34,36,0,1]),(bl 20 822953,[2,4,6,8,8,8,8,8,8,12,10,12,10,10,10,10,10,10,12,12,12,14,14,14,14,14,14,14,16,16,16,16,18,20,22,24,28,28,26,28,28,32,32,30,32,32,36,36,34,36,36,38,38,38,38,40,0,1]),(bl 25 32804521,[1,1,1,1,1,1,2,2,2,2,2,2,4,6,8,10,12,14,16,18,18,18,18,18,18,22,20,22,20,20,20,20,20,20,22,22,22,24,24,24,24,24,24,24,26,26,26,26,28,30,32,34,38,38,36,38,38,42,42,40,42,42,46,46,44,46,46,48,48,48,48,50,0,1]),(bl 26 49581737,[1,2,2,2,2,2,4,4,4,4,4,4,6,8,10,12,14,16,18,20,20,20,20,20,20,24,22,24,22,22,22,22,22,22,24,24,24,26,26,26,26,26,26,26,28,28,28,28,30,32,34,36,40,40,38,40,40,44,44,42,44,44,48,48,46,48,48,50,50,50,50,52,0,1]),(bl 28 217353897,[1,6,4,6,2,4,2,2,2,2,2,4,4,4,4,6,6,6,8,8,8,8,8,8,10,12,14,16,18,20,22,24,24,24,24,24,24,28,26,28,26,26,26,26,26,26,28,28,28,30,30,30,30,30,30,30,32,32,32,32,34,36,38,40,44,44,42,44,44,48,48,46,48,48,52,52,50,52,52,54,54,54,54,56,0,1]),(bl 29 351571625,[2,8,6,8,4,6,4,4,4,4,4,6,6,6,6,8,8,8,10,10,10,10,10,10,12,14,16,18,20,22,24,26,26,26,26,26,26,30,28,30,28,28,28,28,28,28,30,30,30,32,32,32,32,32,32,32,34,34,34,34,36,38,40,42,46,46,44,46,46,50,50,48,50,50,54,54,52,54,54,56,56,56,56,58,0,1]),(bl 31 1693748905,[2,4,6,12,10,12,8,10,8,8,8,8,8,10,10,10,10,12,12,12,14,14,14,14,14,14,16,18,20,22,24,26,28,30,30,30,30,30,30,34,32,34,32,32,32,32,32,32,34,34,34,36,36,36,36,36,36,36,38,38,38,38,40,42,44,46,50,50,48,50,50,54,54,52,54,54,58,58,56,58,58,60,60,60,60,62,0,1])] :=
  ⟨by kernel_rfl,by kernel_rfl,by kernel_rfl,by kernel_rfl,by kernel_rfl,by kernel_rfl,by kernel_rfl,by kernel_rfl,by kernel_rfl,by kernel_rfl,by kernel_rfl,by kernel_rfl,by kernel_rfl,by kernel_rfl,by kernel_rfl,by kernel_rfl,trivial⟩
theorem wk4n1 (x0:(List (Int×(Int×((List (Int×(Int×(Bool×Unit))))×Unit))))) (x1:(List Int)) (x2:Int):Walks (runPure (kl4_0 Proofs.Tryz.prog).orc Proofs.Tryz.prog 400 4 as4 rs4 ((x0,()),x1,x2,())) (t4 x0 x1 x2) [(bl 29 418680489,[2,4,0,8,6,8,6,6,6,6,6,8,8,8,10,10,10,10,10,10,12,14,16,18,20,22,24,26,26,26,26,26,26,30,28,30,28,28,28,28,28,28,30,30,30,32,32,32,32,32,32,32,34,34,34,34,36,38,40,42,46,46,44,46,46,50,50,48,50,50,54,54,52,54,54,56,56,56,56,58,0,1]),(bl 17 69289,[2,0,0,0,0,0,0,6,4,6,4,4,4,4,4,4,6,6,6,8,8,8,8,8,8,8,10,10,10,10,12,14,16,18,22,22,20,22,22,26,26,24,26,26,30,30,28,30,30,32,32,32,32,34,0,1]),(bl 19 396969,[2,4,6,0,0,0,0,0,0,10,8,10,8,8,8,8,8,8,10,10,10,12,12,12,12,12,12,12,14,14,14,14,16,18,20,22,26,26,24,26,26,30,30,28,30,30,34,34,32,34,34,36,36,36,36,38,0,1]),(bl 24 16387753,[1,1,1,1,1,1,2,2,2,2,2,2,4,6,8,10,12,14,16,0,0,0,0,0,0,20,18,20,18,18,18,18,18,18,20,20,20,22,22,22,22,22,22,22,24,24,24,24,26,28,30,32,36,36,34,36,36,40,40,38,40,40,44,44,42,44,44,46,46,46,46,48,0,1]),(bl 25 24776361,[1,2,2,2,2,2,4,4,4,4,4,4,6,8,10,12,14,16,18,0,0,0,0,0,0,22,20,22,20,20,20,20,20,20,22,22,22,24,24,24,24,24,24,24,26,26,26,26,28,30,32,34,38,38,36,38,38,42,42,40,42,42,46,46,44,46,46,48,48,48,48,50,0,1]),(bl 27 108662441,[1,6,4,6,2,4,2,2,2,2,2,4,4,4,4,6,6,6,8,8,8,8,8,8,10,12,14,16,18,20,22,0,0,0,0,0,0,26,24,26,24,24,24,24,24,24,26,26,26,28,28,28,28,28,28,28,30,30,30,30,32,34,36,38,42,42,40,42,42,46,46,44,46,46,50,50,48,50,50,52,52,52,52,54,0,1]),(bl 28 175771305,[2,8,6,8,4,6,4,4,4,4,4,6,6,6,6,8,8,8,10,10,10,10,10,10,12,14,16,18,20,22,24,0,0,0,0,0,0,28,26,28,26,26,26,26,26,26,28,28,28,30,30,30,30,30,30,30,32,32,32,32,34,36,38,40,44,44,42,44,44,48,48,46,48,48,52,52,50,52,52,54,54,54,54,56,0,1]),(bl 30 846859945,[2,4,6,12,10,12,8,10,8,8,8,8,8,10,10,10,10,12,12,12,14,14,14,14,14,14,16,18,20,22,24,26,28,0,0,0,0,0,0,32,30,32,30,30,30,30,30,30,32,32,32,34,34,34,34,34,34,34,36,36,36,36,38,40,42,44,48,48,46,48,48,52,52,50,52,52,56,56,54,56,56,58,58,58,58,60,0,1]),(bl 28 209325737,[2,4,0,8,6,8,6,6,6,6,6,8,8,8,10,10,10,10,10,10,12,14,16,18,20,22,24,0,0,0,0,0,0,28,26,28,26,26,26,26,26,26,28,28,28,30,30,30,30,30,30,30,32,32,32,32,34,36,38,40,44,44,42,44,44,48,48,46,48,48,52,52,50,52,52,54,54,54,54,56,0,1])] :=
  ⟨by kernel_rfl,by kernel_rfl,by kernel_rfl,by kernel_rfl,by kernel_rfl,by kernel_rfl,by kernel_rfl,by kernel_rfl,by kernel_rfl,trivial⟩
theorem ok4_t (x0:(List (Int×(Int×((List (Int×(Int×(Bool×Unit))))×Unit))))) (x1:(List Int)) (x2:Int):TrOk (PureRuns Proofs.Tryz.prog (kl4_0 Proofs.Tryz.prog).orc 4 as4 rs4 ((x0,()),x1,x2,())) (t4 x0 x1 x2) :=
  Walks.ok (fun _ _ _=>PureRuns.of) ((wk4n0 x0 x1 x2).append (wk4n1 x0 x1 x2)) (by kernel_rfl)
theorem ok4:PureOk Proofs.Tryz.prog 4 p4:=qab kl4_0_ok.base (T:=fun (d:Tys.data as4)=>t4 d.1.1 d.2.1 d.2.2.1) (by kernel_rfl) (fun (d:Tys.data as4)=>ok4_t d.1.1 d.2.1 d.2.2.1)
end Go.Vm.Mo
