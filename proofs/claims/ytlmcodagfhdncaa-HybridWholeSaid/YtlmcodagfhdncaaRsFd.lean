import Derived.Test.YtlmcodagfhdncaaA4
import Derived.KernelRfl
import Derived.Test.YtlmcodagfhdncaaProg
import Derived.Test.YtlmcodagfhdncaaRsFc
set_option linter.unusedVariables false
set_option linter.unusedSimpArgs false

namespace Go.Vm.Mo
open Go
set_option linter.unusedVariables false

/-! ductility/hybrid.ErrorOf -/

abbrev as26:List Ty:=[(.pair (.int .i64) (.pair (.int .i64) (.pair (.int .i64) (.pair (.int .i64) (.pair (.int .i64) (.pair .bool (.pair (.int .i64) (.pair (.pair (.int .i64) (.pair (.int .i64) .unit)) .unit)))))))),(.slice (.int .i64)),(.int .i64)]
abbrev rs26:List Ty:=[(.pair (.int .i64) (.pair (.int .i64) .unit)),(.int .i64)]

def t26 (x0:Int) (x0':Int) (x0'':Int) (x0''':Int) (x0'''':Int) (x0''''':Bool) (x0'''''':Int) (x0'''''''_:Int) (x0'''''''_':Int) (x1:(List Int)) (x2:Int):Tr (Tys.data rs26) :=
  Tr.test (Option.isSome (f61 ((x0,(x0',(x0'',(x0''',(x0'''',(x0''''',(x0'''''',((x0'''''''_,(x0'''''''_',())),())))))))),())))
    (Tr.test (Option.isSome (f57 ((0:Int),((1000:Int),(([x2]:List Int),())))))
      (let r0:=g61 ((x0,(x0',(x0'',(x0''',(x0'''',(x0''''',(x0'''''',((x0'''''''_,(x0'''''''_',())),())))))))),());
      Tr.test (Option.isSome (f71 (((r0.1.1.1,(r0.1.1.2.1,(r0.1.1.2.2.1,(r0.1.1.2.2.2.1,(r0.1.1.2.2.2.2.1,(r0.1.1.2.2.2.2.2.1,(r0.1.1.2.2.2.2.2.2.1,((r0.1.1.2.2.2.2.2.2.2.1.1,(r0.1.1.2.2.2.2.2.2.2.1.2.1,())),())))))))),()),(x1,()))))
        (let r1:=g57 ((0:Int),((1000:Int),(([x2]:List Int),())));
        Tr.test (Option.isSome (f60 ((!r1.1:Bool),((2:Int),()))))
          (let r2:=g71 (((r0.1.1.1,(r0.1.1.2.1,(r0.1.1.2.2.1,(r0.1.1.2.2.2.1,(r0.1.1.2.2.2.2.1,(r0.1.1.2.2.2.2.2.1,(r0.1.1.2.2.2.2.2.2.1,((r0.1.1.2.2.2.2.2.2.2.1.1,(r0.1.1.2.2.2.2.2.2.2.1.2.1,())),())))))))),()),(x1,()));
          let r3:=g60 ((!r1.1:Bool),((2:Int),()));
          Tr.test (Option.isSome (f59 (([r0.2.1,r2.1,r3.1]:List Int),())))
            (let r4:=g59 (([r0.2.1,r2.1,r3.1]:List Int),());
            Tr.test ((!eqF r4.1 0:Bool))
              (Tr.fin ((((0:Int),((0:Int),())),(r4.1,()))))
              (Tr.test (Option.isSome (l97_0_1 ((x1,((↑(List.length x1):Int),((0:Int),()))),((),((r0.1.1.1,(r0.1.1.2.1,(r0.1.1.2.2.1,(r0.1.1.2.2.2.1,(r0.1.1.2.2.2.2.1,(r0.1.1.2.2.2.2.2.1,(r0.1.1.2.2.2.2.2.2.1,(r0.1.1.2.2.2.2.2.2.2.1.1,(r0.1.1.2.2.2.2.2.2.2.1.2.1,()))))))))),(((0:Int),((0:Int),((0:Int),((0:Int),())))),((x0,(x0',(x0'',(x0''',(x0'''',(x0''''',(x0'''''',(x0'''''''_,(x0'''''''_',()))))))))),((x2,()),((r0.1.1.1,(r0.1.1.2.1,(r0.1.1.2.2.1,(r0.1.1.2.2.2.1,(r0.1.1.2.2.2.2.1,(r0.1.1.2.2.2.2.2.1,(r0.1.1.2.2.2.2.2.2.1,(r0.1.1.2.2.2.2.2.2.2.1.1,(r0.1.1.2.2.2.2.2.2.2.1.2.1,()))))))))),(((0:Int),((0:Int),())),()))))))))))
                (Tr.test (isRet (l97_0_1 ((x1,((↑(List.length x1):Int),((0:Int),()))),((),((r0.1.1.1,(r0.1.1.2.1,(r0.1.1.2.2.1,(r0.1.1.2.2.2.1,(r0.1.1.2.2.2.2.1,(r0.1.1.2.2.2.2.2.1,(r0.1.1.2.2.2.2.2.2.1,(r0.1.1.2.2.2.2.2.2.2.1.1,(r0.1.1.2.2.2.2.2.2.2.1.2.1,()))))))))),(((0:Int),((0:Int),((0:Int),((0:Int),())))),((x0,(x0',(x0'',(x0''',(x0'''',(x0''''',(x0'''''',(x0'''''''_,(x0'''''''_',()))))))))),((x2,()),((r0.1.1.1,(r0.1.1.2.1,(r0.1.1.2.2.1,(r0.1.1.2.2.2.1,(r0.1.1.2.2.2.2.1,(r0.1.1.2.2.2.2.2.1,(r0.1.1.2.2.2.2.2.2.1,(r0.1.1.2.2.2.2.2.2.2.1.1,(r0.1.1.2.2.2.2.2.2.2.1.2.1,()))))))))),(((0:Int),((0:Int),())),()))))))))))
                  (let r5:=r97_0_1 ((x1,((↑(List.length x1):Int),((0:Int),()))),((),((r0.1.1.1,(r0.1.1.2.1,(r0.1.1.2.2.1,(r0.1.1.2.2.2.1,(r0.1.1.2.2.2.2.1,(r0.1.1.2.2.2.2.2.1,(r0.1.1.2.2.2.2.2.2.1,(r0.1.1.2.2.2.2.2.2.2.1.1,(r0.1.1.2.2.2.2.2.2.2.1.2.1,()))))))))),(((0:Int),((0:Int),((0:Int),((0:Int),())))),((x0,(x0',(x0'',(x0''',(x0'''',(x0''''',(x0'''''',(x0'''''''_,(x0'''''''_',()))))))))),((x2,()),((r0.1.1.1,(r0.1.1.2.1,(r0.1.1.2.2.1,(r0.1.1.2.2.2.1,(r0.1.1.2.2.2.2.1,(r0.1.1.2.2.2.2.2.1,(r0.1.1.2.2.2.2.2.2.1,(r0.1.1.2.2.2.2.2.2.2.1.1,(r0.1.1.2.2.2.2.2.2.2.1.2.1,()))))))))),(((0:Int),((0:Int),())),()))))))));
                  Tr.fin (((r5.2.2.2.2.2.2.2.1.1,(r5.2.2.2.2.2.2.2.1.2.1,())),((0:Int),()))))
                  (let r6:=b97_0_1 ((x1,((↑(List.length x1):Int),((0:Int),()))),((),((r0.1.1.1,(r0.1.1.2.1,(r0.1.1.2.2.1,(r0.1.1.2.2.2.1,(r0.1.1.2.2.2.2.1,(r0.1.1.2.2.2.2.2.1,(r0.1.1.2.2.2.2.2.2.1,(r0.1.1.2.2.2.2.2.2.2.1.1,(r0.1.1.2.2.2.2.2.2.2.1.2.1,()))))))))),(((0:Int),((0:Int),((0:Int),((0:Int),())))),((x0,(x0',(x0'',(x0''',(x0'''',(x0''''',(x0'''''',(x0'''''''_,(x0'''''''_',()))))))))),((x2,()),((r0.1.1.1,(r0.1.1.2.1,(r0.1.1.2.2.1,(r0.1.1.2.2.2.1,(r0.1.1.2.2.2.2.1,(r0.1.1.2.2.2.2.2.1,(r0.1.1.2.2.2.2.2.2.1,(r0.1.1.2.2.2.2.2.2.2.1.1,(r0.1.1.2.2.2.2.2.2.2.1.2.1,()))))))))),(((0:Int),((0:Int),())),()))))))));
                  Tr.fin (((r6.2.2.2.2.2.2.2.1.1,(r6.2.2.2.2.2.2.2.1.2.1,())),((0:Int),())))))
                (Tr.stop)))
            (Tr.stop))
          (Tr.stop))
        (Tr.stop))
      (Tr.stop))
    (Tr.stop)

def f26 (d:Tys.data as26):Option (Tys.data rs26):=(t26 d.1.1 d.1.2.1 d.1.2.2.1 d.1.2.2.2.1 d.1.2.2.2.2.1 d.1.2.2.2.2.2.1 d.1.2.2.2.2.2.2.1 d.1.2.2.2.2.2.2.2.1.1 d.1.2.2.2.2.2.2.2.1.2.1 d.2.1 d.2.2.1).val
def g26 (d:Tys.data as26):Tys.data rs26:=(f26 d).getD (Tys.dflt rs26)
def p26:PureC:=pcOf as26 rs26 f26 g26

theorem e26_0 (x0:Int) (x0':Int) (x0'':Int) (x0''':Int) (x0'''':Int) (x0''''':Bool) (x0'''''':Int) (x0'''''''_:Int) (x0'''''''_':Int) (x1:(List Int)) (x2:Int):runPure (kl97_0_1 Go.Proofs.Try.prog).orc Go.Proofs.Try.prog 400 26 as26 rs26 ((x0,x0',x0'',x0''',x0'''',x0''''',x0'''''',(x0'''''''_,x0'''''''_',()),()),x1,x2,()) [tt,tt,tt,tt,tt,tt] =
    (let r0:=g61 ((x0,(x0',(x0'',(x0''',(x0'''',(x0''''',(x0'''''',((x0'''''''_,(x0'''''''_',())),())))))))),());let r1:=g57 ((0:Int),((1000:Int),(([x2]:List Int),())));let r2:=g71 (((r0.1.1.1,(r0.1.1.2.1,(r0.1.1.2.2.1,(r0.1.1.2.2.2.1,(r0.1.1.2.2.2.2.1,(r0.1.1.2.2.2.2.2.1,(r0.1.1.2.2.2.2.2.2.1,((r0.1.1.2.2.2.2.2.2.2.1.1,(r0.1.1.2.2.2.2.2.2.2.1.2.1,())),())))))))),()),(x1,()));let r3:=g60 (!r1.1,((2:Int),()));let r4:=g59 (([r0.2.1,r2.1,r3.1]:List Int),()); some ((((0:Int),((0:Int),())),(r4.1,())),[(!eqF r4.1 0,true),(Option.isSome (f59 (([r0.2.1,r2.1,r3.1]:List Int),())),true),(Option.isSome (f60 (!r1.1,((2:Int),()))),true),(Option.isSome (f71 (((r0.1.1.1,(r0.1.1.2.1,(r0.1.1.2.2.1,(r0.1.1.2.2.2.1,(r0.1.1.2.2.2.2.1,(r0.1.1.2.2.2.2.2.1,(r0.1.1.2.2.2.2.2.2.1,((r0.1.1.2.2.2.2.2.2.2.1.1,(r0.1.1.2.2.2.2.2.2.2.1.2.1,())),())))))))),()),(x1,()))),true),(Option.isSome (f57 ((0:Int),((1000:Int),(([x2]:List Int),())))),true),(Option.isSome (f61 ((x0,(x0',(x0'',(x0''',(x0'''',(x0''''',(x0'''''',((x0'''''''_,(x0'''''''_',())),())))))))),())),true)])):=by kernel_rfl
theorem e26_1 (x0:Int) (x0':Int) (x0'':Int) (x0''':Int) (x0'''':Int) (x0''''':Bool) (x0'''''':Int) (x0'''''''_:Int) (x0'''''''_':Int) (x1:(List Int)) (x2:Int):runPure (kl97_0_1 Go.Proofs.Try.prog).orc Go.Proofs.Try.prog 400 26 as26 rs26 ((x0,x0',x0'',x0''',x0'''',x0''''',x0'''''',(x0'''''''_,x0'''''''_',()),()),x1,x2,()) [tt,tt,tt,tt,tt,ff,tt,tt,tt] =
    (let r0:=g61 ((x0,(x0',(x0'',(x0''',(x0'''',(x0''''',(x0'''''',((x0'''''''_,(x0'''''''_',())),())))))))),());let r1:=g57 ((0:Int),((1000:Int),(([x2]:List Int),())));let r2:=g71 (((r0.1.1.1,(r0.1.1.2.1,(r0.1.1.2.2.1,(r0.1.1.2.2.2.1,(r0.1.1.2.2.2.2.1,(r0.1.1.2.2.2.2.2.1,(r0.1.1.2.2.2.2.2.2.1,((r0.1.1.2.2.2.2.2.2.2.1.1,(r0.1.1.2.2.2.2.2.2.2.1.2.1,())),())))))))),()),(x1,()));let r3:=g60 (!r1.1,((2:Int),()));let r4:=g59 (([r0.2.1,r2.1,r3.1]:List Int),());let r5:=r97_0_1 ((x1,((↑(List.length x1):Int),((0:Int),()))),((),((r0.1.1.1,(r0.1.1.2.1,(r0.1.1.2.2.1,(r0.1.1.2.2.2.1,(r0.1.1.2.2.2.2.1,(r0.1.1.2.2.2.2.2.1,(r0.1.1.2.2.2.2.2.2.1,(r0.1.1.2.2.2.2.2.2.2.1.1,(r0.1.1.2.2.2.2.2.2.2.1.2.1,()))))))))),(((0:Int),((0:Int),((0:Int),((0:Int),())))),((x0,(x0',(x0'',(x0''',(x0'''',(x0''''',(x0'''''',(x0'''''''_,(x0'''''''_',()))))))))),((x2,()),((r0.1.1.1,(r0.1.1.2.1,(r0.1.1.2.2.1,(r0.1.1.2.2.2.1,(r0.1.1.2.2.2.2.1,(r0.1.1.2.2.2.2.2.1,(r0.1.1.2.2.2.2.2.2.1,(r0.1.1.2.2.2.2.2.2.2.1.1,(r0.1.1.2.2.2.2.2.2.2.1.2.1,()))))))))),(((0:Int),((0:Int),())),())))))))); some (((r5.2.2.2.2.2.2.2.1.1,(r5.2.2.2.2.2.2.2.1.2.1,())),((0:Int),())),[(isRet (l97_0_1 ((x1,((↑(List.length x1):Int),((0:Int),()))),((),((r0.1.1.1,(r0.1.1.2.1,(r0.1.1.2.2.1,(r0.1.1.2.2.2.1,(r0.1.1.2.2.2.2.1,(r0.1.1.2.2.2.2.2.1,(r0.1.1.2.2.2.2.2.2.1,(r0.1.1.2.2.2.2.2.2.2.1.1,(r0.1.1.2.2.2.2.2.2.2.1.2.1,()))))))))),(((0:Int),((0:Int),((0:Int),((0:Int),())))),((x0,(x0',(x0'',(x0''',(x0'''',(x0''''',(x0'''''',(x0'''''''_,(x0'''''''_',()))))))))),((x2,()),((r0.1.1.1,(r0.1.1.2.1,(r0.1.1.2.2.1,(r0.1.1.2.2.2.1,(r0.1.1.2.2.2.2.1,(r0.1.1.2.2.2.2.2.1,(r0.1.1.2.2.2.2.2.2.1,(r0.1.1.2.2.2.2.2.2.2.1.1,(r0.1.1.2.2.2.2.2.2.2.1.2.1,()))))))))),(((0:Int),((0:Int),())),()))))))))),true),(Option.isSome (l97_0_1 ((x1,((↑(List.length x1):Int),((0:Int),()))),((),((r0.1.1.1,(r0.1.1.2.1,(r0.1.1.2.2.1,(r0.1.1.2.2.2.1,(r0.1.1.2.2.2.2.1,(r0.1.1.2.2.2.2.2.1,(r0.1.1.2.2.2.2.2.2.1,(r0.1.1.2.2.2.2.2.2.2.1.1,(r0.1.1.2.2.2.2.2.2.2.1.2.1,()))))))))),(((0:Int),((0:Int),((0:Int),((0:Int),())))),((x0,(x0',(x0'',(x0''',(x0'''',(x0''''',(x0'''''',(x0'''''''_,(x0'''''''_',()))))))))),((x2,()),((r0.1.1.1,(r0.1.1.2.1,(r0.1.1.2.2.1,(r0.1.1.2.2.2.1,(r0.1.1.2.2.2.2.1,(r0.1.1.2.2.2.2.2.1,(r0.1.1.2.2.2.2.2.2.1,(r0.1.1.2.2.2.2.2.2.2.1.1,(r0.1.1.2.2.2.2.2.2.2.1.2.1,()))))))))),(((0:Int),((0:Int),())),()))))))))),true),(sameRf Go.Proofs.Try.prog (nat_lit 26) (nat_lit 0),true),(!eqF r4.1 0,false),(Option.isSome (f59 (([r0.2.1,r2.1,r3.1]:List Int),())),true),(Option.isSome (f60 (!r1.1,((2:Int),()))),true),(Option.isSome (f71 (((r0.1.1.1,(r0.1.1.2.1,(r0.1.1.2.2.1,(r0.1.1.2.2.2.1,(r0.1.1.2.2.2.2.1,(r0.1.1.2.2.2.2.2.1,(r0.1.1.2.2.2.2.2.2.1,((r0.1.1.2.2.2.2.2.2.2.1.1,(r0.1.1.2.2.2.2.2.2.2.1.2.1,())),())))))))),()),(x1,()))),true),(Option.isSome (f57 ((0:Int),((1000:Int),(([x2]:List Int),())))),true),(Option.isSome (f61 ((x0,(x0',(x0'',(x0''',(x0'''',(x0''''',(x0'''''',((x0'''''''_,(x0'''''''_',())),())))))))),())),true)])):=by kernel_rfl
theorem e26_2 (x0:Int) (x0':Int) (x0'':Int) (x0''':Int) (x0'''':Int) (x0''''':Bool) (x0'''''':Int) (x0'''''''_:Int) (x0'''''''_':Int) (x1:(List Int)) (x2:Int):runPure (kl97_0_1 Go.Proofs.Try.prog).orc Go.Proofs.Try.prog 400 26 as26 rs26 ((x0,x0',x0'',x0''',x0'''',x0''''',x0'''''',(x0'''''''_,x0'''''''_',()),()),x1,x2,()) [tt,tt,tt,tt,tt,ff,tt,tt,ff] =
    (let r0:=g61 ((x0,(x0',(x0'',(x0''',(x0'''',(x0''''',(x0'''''',((x0'''''''_,(x0'''''''_',())),())))))))),());let r1:=g57 ((0:Int),((1000:Int),(([x2]:List Int),())));let r2:=g71 (((r0.1.1.1,(r0.1.1.2.1,(r0.1.1.2.2.1,(r0.1.1.2.2.2.1,(r0.1.1.2.2.2.2.1,(r0.1.1.2.2.2.2.2.1,(r0.1.1.2.2.2.2.2.2.1,((r0.1.1.2.2.2.2.2.2.2.1.1,(r0.1.1.2.2.2.2.2.2.2.1.2.1,())),())))))))),()),(x1,()));let r3:=g60 (!r1.1,((2:Int),()));let r4:=g59 (([r0.2.1,r2.1,r3.1]:List Int),());let r6:=b97_0_1 ((x1,((↑(List.length x1):Int),((0:Int),()))),((),((r0.1.1.1,(r0.1.1.2.1,(r0.1.1.2.2.1,(r0.1.1.2.2.2.1,(r0.1.1.2.2.2.2.1,(r0.1.1.2.2.2.2.2.1,(r0.1.1.2.2.2.2.2.2.1,(r0.1.1.2.2.2.2.2.2.2.1.1,(r0.1.1.2.2.2.2.2.2.2.1.2.1,()))))))))),(((0:Int),((0:Int),((0:Int),((0:Int),())))),((x0,(x0',(x0'',(x0''',(x0'''',(x0''''',(x0'''''',(x0'''''''_,(x0'''''''_',()))))))))),((x2,()),((r0.1.1.1,(r0.1.1.2.1,(r0.1.1.2.2.1,(r0.1.1.2.2.2.1,(r0.1.1.2.2.2.2.1,(r0.1.1.2.2.2.2.2.1,(r0.1.1.2.2.2.2.2.2.1,(r0.1.1.2.2.2.2.2.2.2.1.1,(r0.1.1.2.2.2.2.2.2.2.1.2.1,()))))))))),(((0:Int),((0:Int),())),())))))))); some (((r6.2.2.2.2.2.2.2.1.1,(r6.2.2.2.2.2.2.2.1.2.1,())),((0:Int),())),[(isRet (l97_0_1 ((x1,((↑(List.length x1):Int),((0:Int),()))),((),((r0.1.1.1,(r0.1.1.2.1,(r0.1.1.2.2.1,(r0.1.1.2.2.2.1,(r0.1.1.2.2.2.2.1,(r0.1.1.2.2.2.2.2.1,(r0.1.1.2.2.2.2.2.2.1,(r0.1.1.2.2.2.2.2.2.2.1.1,(r0.1.1.2.2.2.2.2.2.2.1.2.1,()))))))))),(((0:Int),((0:Int),((0:Int),((0:Int),())))),((x0,(x0',(x0'',(x0''',(x0'''',(x0''''',(x0'''''',(x0'''''''_,(x0'''''''_',()))))))))),((x2,()),((r0.1.1.1,(r0.1.1.2.1,(r0.1.1.2.2.1,(r0.1.1.2.2.2.1,(r0.1.1.2.2.2.2.1,(r0.1.1.2.2.2.2.2.1,(r0.1.1.2.2.2.2.2.2.1,(r0.1.1.2.2.2.2.2.2.2.1.1,(r0.1.1.2.2.2.2.2.2.2.1.2.1,()))))))))),(((0:Int),((0:Int),())),()))))))))),false),(Option.isSome (l97_0_1 ((x1,((↑(List.length x1):Int),((0:Int),()))),((),((r0.1.1.1,(r0.1.1.2.1,(r0.1.1.2.2.1,(r0.1.1.2.2.2.1,(r0.1.1.2.2.2.2.1,(r0.1.1.2.2.2.2.2.1,(r0.1.1.2.2.2.2.2.2.1,(r0.1.1.2.2.2.2.2.2.2.1.1,(r0.1.1.2.2.2.2.2.2.2.1.2.1,()))))))))),(((0:Int),((0:Int),((0:Int),((0:Int),())))),((x0,(x0',(x0'',(x0''',(x0'''',(x0''''',(x0'''''',(x0'''''''_,(x0'''''''_',()))))))))),((x2,()),((r0.1.1.1,(r0.1.1.2.1,(r0.1.1.2.2.1,(r0.1.1.2.2.2.1,(r0.1.1.2.2.2.2.1,(r0.1.1.2.2.2.2.2.1,(r0.1.1.2.2.2.2.2.2.1,(r0.1.1.2.2.2.2.2.2.2.1.1,(r0.1.1.2.2.2.2.2.2.2.1.2.1,()))))))))),(((0:Int),((0:Int),())),()))))))))),true),(sameRf Go.Proofs.Try.prog (nat_lit 26) (nat_lit 0),true),(!eqF r4.1 0,false),(Option.isSome (f59 (([r0.2.1,r2.1,r3.1]:List Int),())),true),(Option.isSome (f60 (!r1.1,((2:Int),()))),true),(Option.isSome (f71 (((r0.1.1.1,(r0.1.1.2.1,(r0.1.1.2.2.1,(r0.1.1.2.2.2.1,(r0.1.1.2.2.2.2.1,(r0.1.1.2.2.2.2.2.1,(r0.1.1.2.2.2.2.2.2.1,((r0.1.1.2.2.2.2.2.2.2.1.1,(r0.1.1.2.2.2.2.2.2.2.1.2.1,())),())))))))),()),(x1,()))),true),(Option.isSome (f57 ((0:Int),((1000:Int),(([x2]:List Int),())))),true),(Option.isSome (f61 ((x0,(x0',(x0'',(x0''',(x0'''',(x0''''',(x0'''''',((x0'''''''_,(x0'''''''_',())),())))))))),())),true)])):=by kernel_rfl

theorem ok26_t (x0:Int) (x0':Int) (x0'':Int) (x0''':Int) (x0'''':Int) (x0''''':Bool) (x0'''''':Int) (x0'''''''_:Int) (x0'''''''_':Int) (x1:(List Int)) (x2:Int):TrOk (PureRuns Go.Proofs.Try.prog (kl97_0_1 Go.Proofs.Try.prog).orc 26 as26 rs26 ((x0,x0',x0'',x0''',x0'''',x0''''',x0'''''',(x0'''''''_,x0'''''''_',()),()),x1,x2,())) (t26 x0 x0' x0'' x0''' x0'''' x0''''' x0'''''' x0'''''''_ x0'''''''_' x1 x2) :=
  TrOk.ofTest (fun h0=>TrOk.ofTest (fun h1=>TrOk.ofTest (fun h2=>TrOk.ofTest (fun h3=>TrOk.ofTest (fun h4=>TrOk.ofTest (fun h5=>TrOk.ofFin (PureRuns.of (e26_0 x0 x0' x0'' x0''' x0'''' x0''''' x0'''''' x0'''''''_ x0'''''''_' x1 x2) (ac h5 (ac h4 (ac h3 (ac h2 (ac h1 (ac h0 All.nil)))))))) (fun h5=>TrOk.ofTest (fun h7=>TrOk.ofTest (fun h8=>TrOk.ofFin (PureRuns.of (e26_1 x0 x0' x0'' x0''' x0'''' x0''''' x0'''''' x0'''''''_ x0'''''''_' x1 x2) (ac h8 (ac h7 (ac (sc26_0) (ac h5 (ac h4 (ac h3 (ac h2 (ac h1 (ac h0 All.nil))))))))))) (fun h8=>TrOk.ofFin (PureRuns.of (e26_2 x0 x0' x0'' x0''' x0'''' x0''''' x0'''''' x0'''''''_ x0'''''''_' x1 x2) (ac h8 (ac h7 (ac (sc26_0) (ac h5 (ac h4 (ac h3 (ac h2 (ac h1 (ac h0 All.nil)))))))))))) (fun h7=>TrOk.ofStop))) (fun h4=>TrOk.ofStop)) (fun h3=>TrOk.ofStop)) (fun h2=>TrOk.ofStop)) (fun h1=>TrOk.ofStop)) (fun h0=>TrOk.ofStop)

theorem ok26:PureOk Go.Proofs.Try.prog 26 p26:=pureOk_of kl97_0_1_ok.base (T:=fun (d:Tys.data as26)=>t26 d.1.1 d.1.2.1 d.1.2.2.1 d.1.2.2.2.1 d.1.2.2.2.2.1 d.1.2.2.2.2.2.1 d.1.2.2.2.2.2.2.1 d.1.2.2.2.2.2.2.2.1.1 d.1.2.2.2.2.2.2.2.1.2.1 d.2.1 d.2.2.1) (by kernel_rfl) (fun (d:Tys.data as26)=>ok26_t d.1.1 d.1.2.1 d.1.2.2.1 d.1.2.2.2.1 d.1.2.2.2.2.1 d.1.2.2.2.2.2.1 d.1.2.2.2.2.2.2.1 d.1.2.2.2.2.2.2.2.1.1 d.1.2.2.2.2.2.2.2.1.2.1 d.2.1 d.2.2.1)
def kf26 (P:Go.Program):Known:=(kl97_0_1 P).func 26 p26
theorem kf26_ok:KnownOk Go.Proofs.Try.prog (kf26 Go.Proofs.Try.prog):=kl97_0_1_ok.func ok26

/-! ductility/ductilitybase.Size -/

abbrev as31:List Ty:=[(.int .i64)]
abbrev rs31:List Ty:=[(.int .i64)]

def t31 (x0:Int):Tr (Tys.data rs31) :=
  Tr.fin (((if x0 < Go.IntKind.wrap Go.IntKind.i64 ((0:Int) - x0) then Go.IntKind.wrap Go.IntKind.i64 ((0:Int) - x0) else x0:Int),()))

def f31 (d:Tys.data as31):Option (Tys.data rs31):=(t31 d.1).val
def g31 (d:Tys.data as31):Tys.data rs31:=(f31 d).getD (Tys.dflt rs31)
def p31:PureC:=pcOf as31 rs31 f31 g31

theorem wk31 (x0:Int):Walks (runPure (kf26 Go.Proofs.Try.prog).orc Go.Proofs.Try.prog 400 31 as31 rs31 (x0,())) (t31 x0) [([],[])] :=
  ⟨by kernel_rfl,trivial⟩

theorem ok31_t (x0:Int):TrOk (PureRuns Go.Proofs.Try.prog (kf26 Go.Proofs.Try.prog).orc 31 as31 rs31 (x0,())) (t31 x0) :=
  Walks.ok (fun _ _ _=>PureRuns.of) (wk31 x0) (by kernel_rfl)

theorem ok31:PureOk Go.Proofs.Try.prog 31 p31:=pureOk_of kf26_ok.base (T:=fun (d:Tys.data as31)=>t31 d.1) (by kernel_rfl) (fun (d:Tys.data as31)=>ok31_t d.1)
def kf31 (P:Go.Program):Known:=(kf26 P).func 31 p31
theorem kf31_ok:KnownOk Go.Proofs.Try.prog (kf31 Go.Proofs.Try.prog):=kf26_ok.func ok31

/-! loop 0 of ductility/ductilitylaw08.HybridWhole -/

abbrev sh5_0:Sh:={ n:=322,slots:=[1,2,3,8,16],pats:=[.ty (.slice (.int .i64)),.ty (.int .i64),.ptr 0 9 0,.ty (.slice (.int .i64)),.ty (.int .i64)],boxes:=[.row [.ty (.int .i64),.ty (.int .i64),.ty (.int .i64),.ty (.int .i64),.ty (.int .i64),.ty .bool,.ty (.int .i64),.ty (.int .i64),.ty (.int .i64)]] }
abbrev shb5_0:Sh:={ n:=322,slots:=[1,2,3],pats:=[.ty (.slice (.int .i64)),.ty (.int .i64),.ptr 0 9 0],boxes:=[.row [.ty (.int .i64),.ty (.int .i64),.ty (.int .i64),.ty (.int .i64),.ty (.int .i64),.ty .bool,.ty (.int .i64),.ty (.int .i64),.ty (.int .i64)]] }
abbrev shr5_0:Sh:={ n:=322,slots:=[6],pats:=[.ty .bool],boxes:=[.row [.ty (.int .i64),.ty (.int .i64),.ty (.int .i64),.ty (.int .i64),.ty (.int .i64),.ty .bool,.ty (.int .i64),.ty (.int .i64),.ty (.int .i64)]] }

def t5_0 (x0:(List Int)) (x1:Int) (x3:(List Int)) (x4:Int) (b0_0:Int) (b0_1:Int) (b0_2:Int) (b0_3:Int) (b0_4:Int) (b0_5:Bool) (b0_6:Int) (b0_7:Int) (b0_8:Int):Tr (Out sh5_0.data shb5_0.data shr5_0.data) :=
  Tr.test ((!leF (↑(List.length x3):Int) x4:Bool))
    (Tr.test (!leF x4 1)
      (Tr.test ((decide ((0:Int) ≤ wrap64 (x4 - (2:Int))) && decide (wrap64 (x4 - (2:Int)) < (↑(List.length x3):Int)):Bool))
        (Tr.test ((decide ((0:Int) ≤ wrap64 (x4 - (1:Int))) && decide (wrap64 (x4 - (1:Int)) < (↑(List.length x0):Int)):Bool))
          (Tr.test ((decide ((0:Int) ≤ wrap64 (x4 - (1:Int))) && decide (wrap64 (x4 - (1:Int)) < (↑(List.length x3):Int)):Bool))
            (Tr.test ((decide ((0:Int) ≤ x4) && decide (x4 < (↑(List.length x3):Int)):Bool))
              (Tr.test ((!leF (0:Int) (wrap64 (wrap64 (wrap64 (List.getD x0 (Int.toNat (wrap64 (x4 - (1:Int)))) (0:Int) - wrap64 (b0_1 * wrap64 (List.getD x3 (Int.toNat (wrap64 (x4 - (1:Int)))) (0:Int) - List.getD x3 (Int.toNat (wrap64 (x4 - (2:Int)))) (0:Int)))) - wrap64 (wrap64 (b0_2 + b0_3) * List.getD x3 (Int.toNat (wrap64 (x4 - (1:Int)))) (0:Int))) - wrap64 (b0_0 * wrap64 (wrap64 (List.getD x3 (Int.toNat x4) (0:Int) - wrap64 ((2:Int) * List.getD x3 (Int.toNat (wrap64 (x4 - (1:Int)))) (0:Int))) + List.getD x3 (Int.toNat (wrap64 (x4 - (2:Int)))) (0:Int))))):Bool))
                (Tr.fin (.ret (((false:Bool),()),((b0_0,(b0_1,(b0_2,(b0_3,(b0_4,(b0_5,(b0_6,(b0_7,(b0_8,()))))))))),()))))
                (Tr.test ((leF b0_0 (wrap64 (wrap64 (wrap64 (List.getD x0 (Int.toNat (wrap64 (x4 - (1:Int)))) (0:Int) - wrap64 (b0_1 * wrap64 (List.getD x3 (Int.toNat (wrap64 (x4 - (1:Int)))) (0:Int) - List.getD x3 (Int.toNat (wrap64 (x4 - (2:Int)))) (0:Int)))) - wrap64 (wrap64 (b0_2 + b0_3) * List.getD x3 (Int.toNat (wrap64 (x4 - (1:Int)))) (0:Int))) - wrap64 (b0_0 * wrap64 (wrap64 (List.getD x3 (Int.toNat x4) (0:Int) - wrap64 ((2:Int) * List.getD x3 (Int.toNat (wrap64 (x4 - (1:Int)))) (0:Int))) + List.getD x3 (Int.toNat (wrap64 (x4 - (2:Int)))) (0:Int))))):Bool))
                  (Tr.fin (.ret (((false:Bool),()),((b0_0,(b0_1,(b0_2,(b0_3,(b0_4,(b0_5,(b0_6,(b0_7,(b0_8,()))))))))),()))))
                  (Tr.test ((!leF (wrap64 ((↑(List.length x3):Int) - (1:Int))) x4:Bool))
                    (Tr.test (Option.isSome (f31 ((List.getD x3 (Int.toNat x4) (0:Int):Int),())))
                      (let r0:=g31 ((List.getD x3 (Int.toNat x4) (0:Int):Int),());
                      Tr.test ((!leF r0.1 b0_6:Bool))
                        (Tr.fin (.ret (((false:Bool),()),((b0_0,(b0_1,(b0_2,(b0_3,(b0_4,(b0_5,(b0_6,(b0_7,(b0_8,()))))))))),()))))
                        (Tr.fin (.again ((x0,(x1,(x3,((wrap64 (x4 + (1:Int)):Int),())))),((b0_0,(b0_1,(b0_2,(b0_3,(b0_4,(b0_5,(b0_6,(b0_7,(b0_8,()))))))))),())))))
                      (Tr.stop))
                    (Tr.fin (.again ((x0,(x1,(x3,((wrap64 (x4 + (1:Int)):Int),())))),((b0_0,(b0_1,(b0_2,(b0_3,(b0_4,(b0_5,(b0_6,(b0_7,(b0_8,()))))))))),())))))))
              (Tr.stop))
            (Tr.stop))
          (Tr.stop))
        (Tr.stop))
      (Tr.test ((decide ((0:Int) ≤ wrap64 (x4 - (1:Int))) && decide (wrap64 (x4 - (1:Int)) < (↑(List.length x0):Int)):Bool))
        (Tr.test ((decide ((0:Int) ≤ wrap64 (x4 - (1:Int))) && decide (wrap64 (x4 - (1:Int)) < (↑(List.length x3):Int)):Bool))
          (Tr.test ((decide ((0:Int) ≤ x4) && decide (x4 < (↑(List.length x3):Int)):Bool))
            (Tr.test ((!leF (0:Int) (wrap64 (wrap64 (wrap64 (List.getD x0 (Int.toNat (wrap64 (x4 - (1:Int)))) (0:Int) - wrap64 (b0_1 * wrap64 (List.getD x3 (Int.toNat (wrap64 (x4 - (1:Int)))) (0:Int) - (0:Int)))) - wrap64 (wrap64 (b0_2 + b0_3) * List.getD x3 (Int.toNat (wrap64 (x4 - (1:Int)))) (0:Int))) - wrap64 (b0_0 * wrap64 (wrap64 (List.getD x3 (Int.toNat x4) (0:Int) - wrap64 ((2:Int) * List.getD x3 (Int.toNat (wrap64 (x4 - (1:Int)))) (0:Int))) + (0:Int))))):Bool))
              (Tr.fin (.ret (((false:Bool),()),((b0_0,(b0_1,(b0_2,(b0_3,(b0_4,(b0_5,(b0_6,(b0_7,(b0_8,()))))))))),()))))
              (Tr.test ((leF b0_0 (wrap64 (wrap64 (wrap64 (List.getD x0 (Int.toNat (wrap64 (x4 - (1:Int)))) (0:Int) - wrap64 (b0_1 * wrap64 (List.getD x3 (Int.toNat (wrap64 (x4 - (1:Int)))) (0:Int) - (0:Int)))) - wrap64 (wrap64 (b0_2 + b0_3) * List.getD x3 (Int.toNat (wrap64 (x4 - (1:Int)))) (0:Int))) - wrap64 (b0_0 * wrap64 (wrap64 (List.getD x3 (Int.toNat x4) (0:Int) - wrap64 ((2:Int) * List.getD x3 (Int.toNat (wrap64 (x4 - (1:Int)))) (0:Int))) + (0:Int))))):Bool))
                (Tr.fin (.ret (((false:Bool),()),((b0_0,(b0_1,(b0_2,(b0_3,(b0_4,(b0_5,(b0_6,(b0_7,(b0_8,()))))))))),()))))
                (Tr.test ((!leF (wrap64 ((↑(List.length x3):Int) - (1:Int))) x4:Bool))
                  (Tr.test (Option.isSome (f31 ((List.getD x3 (Int.toNat x4) (0:Int):Int),())))
                    (let r0:=g31 ((List.getD x3 (Int.toNat x4) (0:Int):Int),());
                    Tr.test ((!leF r0.1 b0_6:Bool))
                      (Tr.fin (.ret (((false:Bool),()),((b0_0,(b0_1,(b0_2,(b0_3,(b0_4,(b0_5,(b0_6,(b0_7,(b0_8,()))))))))),()))))
                      (Tr.fin (.again ((x0,(x1,(x3,((wrap64 (x4 + (1:Int)):Int),())))),((b0_0,(b0_1,(b0_2,(b0_3,(b0_4,(b0_5,(b0_6,(b0_7,(b0_8,()))))))))),())))))
                    (Tr.stop))
                  (Tr.fin (.again ((x0,(x1,(x3,((wrap64 (x4 + (1:Int)):Int),())))),((b0_0,(b0_1,(b0_2,(b0_3,(b0_4,(b0_5,(b0_6,(b0_7,(b0_8,()))))))))),())))))))
            (Tr.stop))
          (Tr.stop))
        (Tr.stop)))
    (Tr.fin (.brk ((x0,(x1,())),((b0_0,(b0_1,(b0_2,(b0_3,(b0_4,(b0_5,(b0_6,(b0_7,(b0_8,()))))))))),()))))

def s5_0 (d:sh5_0.data):Option (Out sh5_0.data shb5_0.data shr5_0.data):=(t5_0 d.1.1 d.1.2.1 d.1.2.2.1 d.1.2.2.2.1 d.2.1.1 d.2.1.2.1 d.2.1.2.2.1 d.2.1.2.2.2.1 d.2.1.2.2.2.2.1 d.2.1.2.2.2.2.2.1 d.2.1.2.2.2.2.2.2.1 d.2.1.2.2.2.2.2.2.2.1 d.2.1.2.2.2.2.2.2.2.2.1).val
def l5_0 (d:sh5_0.data):Option (shb5_0.data ⊕ shr5_0.data):=itr s5_0 rounds d
def b5_0 (d:sh5_0.data):shb5_0.data:=outB shb5_0.dflt (l5_0 d)
def r5_0 (d:sh5_0.data):shr5_0.data:=outR shr5_0.dflt (l5_0 d)
def lc5_0:LoopC:=lcOf sh5_0 shb5_0 shr5_0 l5_0 b5_0 r5_0

theorem wk5_0 (x0:(List Int)) (x1:Int) (x3:(List Int)) (x4:Int) (b0_0:Int) (b0_1:Int) (b0_2:Int) (b0_3:Int) (b0_4:Int) (b0_5:Bool) (b0_6:Int) (b0_7:Int) (b0_8:Int):Walks (runBody (kf31 Go.Proofs.Try.prog).orc Go.Proofs.Try.prog 400 5 0 sh5_0 shb5_0 shr5_0 ((x0,x1,x3,x4,()),(b0_0,b0_1,b0_2,b0_3,b0_4,b0_5,b0_6,b0_7,b0_8,()),())) (t5_0 x0 x1 x3 x4 b0_0 b0_1 b0_2 b0_3 b0_4 b0_5 b0_6 b0_7 b0_8) [([true,true,true,true,true,true,true],[1,2,2,2,2,2,6,4,6,6,8,10,12,14]),([true,true,true,true,true,true,false,true],[2,4,4,4,4,4,8,6,8,8,10,12,14,16]),([true,true,true,true,true,true,false,false,true,true,true],[2,6,6,6,6,4,6,6,12,6,6,6,8,10,10,10,10,10,14,12,14,14,16,18,20,22]),([true,true,true,true,true,true,false,false,true,true,false],[2,6,6,6,6,4,6,6,12,6,6,6,8,10,10,10,10,10,14,12,14,14,16,18,20,22]),([true,true,true,true,true,true,false,false,false],[0,2,2,2,2,2,2,2,2,2,4,6,6,6,6,6,10,8,10,10,12,14,16,18]),([true,false,true,true,true,true],[1,2,2,2,2,2,6,4,6,6,8,10,12]),([true,false,true,true,true,false,true],[2,4,4,4,4,4,8,6,8,8,10,12,14]),([true,false,true,true,true,false,false,true,true,true],[2,6,6,6,6,4,6,6,12,6,6,6,8,10,10,10,10,10,14,12,14,14,16,18,20]),([true,false,true,true,true,false,false,true,true,false],[2,6,6,6,6,4,6,6,12,6,6,6,8,10,10,10,10,10,14,12,14,14,16,18,20]),([true,false,true,true,true,false,false,false],[0,2,2,2,2,2,2,2,2,2,4,6,6,6,6,6,10,8,10,10,12,14,16]),([ff],[2])] :=
  ⟨by kernel_rfl,by kernel_rfl,by kernel_rfl,by kernel_rfl,by kernel_rfl,by kernel_rfl,by kernel_rfl,by kernel_rfl,by kernel_rfl,by kernel_rfl,by kernel_rfl,trivial⟩

theorem ok5_0_t (x0:(List Int)) (x1:Int) (x3:(List Int)) (x4:Int) (b0_0:Int) (b0_1:Int) (b0_2:Int) (b0_3:Int) (b0_4:Int) (b0_5:Bool) (b0_6:Int) (b0_7:Int) (b0_8:Int):TrOk (BodyRuns Go.Proofs.Try.prog (kf31 Go.Proofs.Try.prog).orc 5 0 sh5_0 shb5_0 shr5_0 ((x0,x1,x3,x4,()),(b0_0,b0_1,b0_2,b0_3,b0_4,b0_5,b0_6,b0_7,b0_8,()),())) (t5_0 x0 x1 x3 x4 b0_0 b0_1 b0_2 b0_3 b0_4 b0_5 b0_6 b0_7 b0_8) :=
  Walks.ok (fun _ _ _=>BodyRuns.of) (wk5_0 x0 x1 x3 x4 b0_0 b0_1 b0_2 b0_3 b0_4 b0_5 b0_6 b0_7 b0_8) (by kernel_rfl)

theorem ok5_0:LoopOk Go.Proofs.Try.prog 5 0 lc5_0:=loopOk_of (sh:=sh5_0) (shB:=shb5_0) (shR:=shr5_0) kf31_ok.base (T:=fun (d:sh5_0.data)=>t5_0 d.1.1 d.1.2.1 d.1.2.2.1 d.1.2.2.2.1 d.2.1.1 d.2.1.2.1 d.2.1.2.2.1 d.2.1.2.2.2.1 d.2.1.2.2.2.2.1 d.2.1.2.2.2.2.2.1 d.2.1.2.2.2.2.2.2.1 d.2.1.2.2.2.2.2.2.2.1 d.2.1.2.2.2.2.2.2.2.2.1) (by kernel_rfl) rfl (fun (d:sh5_0.data)=>ok5_0_t d.1.1 d.1.2.1 d.1.2.2.1 d.1.2.2.2.1 d.2.1.1 d.2.1.2.1 d.2.1.2.2.1 d.2.1.2.2.2.1 d.2.1.2.2.2.2.1 d.2.1.2.2.2.2.2.1 d.2.1.2.2.2.2.2.2.1 d.2.1.2.2.2.2.2.2.2.1 d.2.1.2.2.2.2.2.2.2.2.1) (fun _=>rfl)
def kl5_0 (P:Go.Program):Known:=(kf31 P).loop 5 0 lc5_0
theorem kl5_0_ok:KnownOk Go.Proofs.Try.prog (kl5_0 Go.Proofs.Try.prog):=kf31_ok.loop ok5_0

/-! loop 2 of ductility/ductilitylaw08.HybridWhole -/

abbrev sh5_2:Sh:={ n:=322,slots:=[2,20,24,25,26,27,28,29],pats:=[.ty (.int .i64),.ty (.slice (.int .i64)),.ptr 0 2 0,.ty (.int .i64),.ptr 1 2 0,.ty (.int .i64),.ty (.int .i64),.ty (.int .i64)],boxes:=[.row [.ty (.int .i64),.ty (.int .i64)],.row [.ty (.int .i64),.ty (.int .i64)]] }
abbrev shb5_2:Sh:={ n:=322,slots:=[2,24,25,26,27,28],pats:=[.ty (.int .i64),.ptr 0 2 0,.ty (.int .i64),.ptr 1 2 0,.ty (.int .i64),.ty (.int .i64)],boxes:=[.row [.ty (.int .i64),.ty (.int .i64)],.row [.ty (.int .i64),.ty (.int .i64)]] }
abbrev shr5_2:Sh:={ n:=322,slots:=[],pats:=[],boxes:=[.row [.ty (.int .i64),.ty (.int .i64)],.row [.ty (.int .i64),.ty (.int .i64)]] }

def t5_2 (x0:Int) (x1:(List Int)) (x3:Int) (x5:Int) (x6:Int) (x7:Int) (b0_0:Int) (b0_1:Int) (b1_0:Int) (b1_1:Int):Tr (Out sh5_2.data shb5_2.data shr5_2.data) :=
  Tr.test ((!leF (↑(List.length x1):Int) x7:Bool))
    (Tr.test (!leF x7 1)
      (Tr.test ((decide ((0:Int) ≤ wrap64 (x7 - (2:Int))) && decide (wrap64 (x7 - (2:Int)) < (↑(List.length x1):Int)):Bool))
        (Tr.test ((decide ((0:Int) ≤ x7) && decide (x7 < (↑(List.length x1):Int)):Bool))
          (Tr.test (Option.isSome (f31 ((wrap64 (List.getD x1 (Int.toNat x7) (0:Int) - List.getD x1 (Int.toNat (wrap64 (x7 - (2:Int)))) (0:Int)):Int),())))
            (let r0:=g31 ((wrap64 (List.getD x1 (Int.toNat x7) (0:Int) - List.getD x1 (Int.toNat (wrap64 (x7 - (2:Int)))) (0:Int)):Int),());
            Tr.fin (.again ((x0,(x1,(x3,(x5,((wrap64 (x6 + r0.1):Int),((wrap64 (x7 + (1:Int)):Int),())))))),((b0_0,(b0_1,())),((b1_0,(b1_1,())),())))))
            (Tr.stop))
          (Tr.stop))
        (Tr.stop))
      (Tr.test ((decide ((0:Int) ≤ x7) && decide (x7 < (↑(List.length x1):Int)):Bool))
        (Tr.test (Option.isSome (f31 ((wrap64 (List.getD x1 (Int.toNat x7) (0:Int) - (0:Int)):Int),())))
          (let r1:=g31 ((wrap64 (List.getD x1 (Int.toNat x7) (0:Int) - (0:Int)):Int),());
          Tr.fin (.again ((x0,(x1,(x3,(x5,((wrap64 (x6 + r1.1):Int),((wrap64 (x7 + (1:Int)):Int),())))))),((b0_0,(b0_1,())),((b1_0,(b1_1,())),())))))
          (Tr.stop))
        (Tr.stop)))
    (Tr.fin (.brk ((x0,(x3,(x5,(x6,())))),((b0_0,(b0_1,())),((b1_0,(b1_1,())),())))))

def s5_2 (d:sh5_2.data):Option (Out sh5_2.data shb5_2.data shr5_2.data):=(t5_2 d.1.1 d.1.2.1 d.1.2.2.1 d.1.2.2.2.1 d.1.2.2.2.2.1 d.1.2.2.2.2.2.1 d.2.1.1 d.2.1.2.1 d.2.2.1.1 d.2.2.1.2.1).val
def l5_2 (d:sh5_2.data):Option (shb5_2.data ⊕ shr5_2.data):=itr s5_2 rounds d
def b5_2 (d:sh5_2.data):shb5_2.data:=outB shb5_2.dflt (l5_2 d)
def lc5_2:LoopC:=lcB sh5_2 shb5_2 shr5_2 l5_2 b5_2

theorem wk5_2 (x0:Int) (x1:(List Int)) (x3:Int) (x5:Int) (x6:Int) (x7:Int) (b0_0:Int) (b0_1:Int) (b1_0:Int) (b1_1:Int):Walks (runBody (kl5_0 Go.Proofs.Try.prog).orc Go.Proofs.Try.prog 400 5 2 sh5_2 shb5_2 shr5_2 ((x0,x1,x3,x5,x6,x7,()),(b0_0,b0_1,()),(b1_0,b1_1,()),())) (t5_2 x0 x1 x3 x5 x6 x7 b0_0 b0_1 b1_0 b1_1) [([true,true,true,true,true],[2,4,6,8,10]),([true,false,true,true],[2,4,6,8]),([ff],[2])] :=
  ⟨by kernel_rfl,by kernel_rfl,by kernel_rfl,trivial⟩

theorem ok5_2_t (x0:Int) (x1:(List Int)) (x3:Int) (x5:Int) (x6:Int) (x7:Int) (b0_0:Int) (b0_1:Int) (b1_0:Int) (b1_1:Int):TrOk (BodyRuns Go.Proofs.Try.prog (kl5_0 Go.Proofs.Try.prog).orc 5 2 sh5_2 shb5_2 shr5_2 ((x0,x1,x3,x5,x6,x7,()),(b0_0,b0_1,()),(b1_0,b1_1,()),())) (t5_2 x0 x1 x3 x5 x6 x7 b0_0 b0_1 b1_0 b1_1) :=
  Walks.ok (fun _ _ _=>BodyRuns.of) (wk5_2 x0 x1 x3 x5 x6 x7 b0_0 b0_1 b1_0 b1_1) (by kernel_rfl)

theorem ok5_2:LoopOk Go.Proofs.Try.prog 5 2 lc5_2:=loopOk_ofB (sh:=sh5_2) (shB:=shb5_2) (shR:=shr5_2) kl5_0_ok.base (T:=fun (d:sh5_2.data)=>t5_2 d.1.1 d.1.2.1 d.1.2.2.1 d.1.2.2.2.1 d.1.2.2.2.2.1 d.1.2.2.2.2.2.1 d.2.1.1 d.2.1.2.1 d.2.2.1.1 d.2.2.1.2.1) (by kernel_rfl) rfl (fun (d:sh5_2.data)=>ok5_2_t d.1.1 d.1.2.1 d.1.2.2.1 d.1.2.2.2.1 d.1.2.2.2.2.1 d.1.2.2.2.2.2.1 d.2.1.1 d.2.1.2.1 d.2.2.1.1 d.2.2.1.2.1) (fun _=>rfl)
def kl5_2 (P:Go.Program):Known:=(kl5_0 P).loop 5 2 lc5_2
theorem kl5_2_ok:KnownOk Go.Proofs.Try.prog (kl5_2 Go.Proofs.Try.prog):=kl5_0_ok.loop ok5_2

/-! ductility/ductilitylaw08.HybridWhole -/

abbrev as5:List Ty:=[(.pair (.int .i64) (.pair (.int .i64) (.pair (.int .i64) (.pair (.int .i64) (.pair (.int .i64) (.pair .bool (.pair (.int .i64) (.pair (.pair (.int .i64) (.pair (.int .i64) .unit)) .unit)))))))),(.slice (.int .i64)),(.int .i64)]
abbrev rs5:List Ty:=[.bool]

def t5 (x0:Int) (x0':Int) (x0'':Int) (x0''':Int) (x0'''':Int) (x0''''':Bool) (x0'''''':Int) (x0'''''''_:Int) (x0'''''''_':Int) (x1:(List Int)) (x2:Int):Tr (Tys.data rs5) :=
  Tr.test ((!leF (↑(List.length x1):Int) (40:Int):Bool))
    (Tr.fin ((true,())))
    (Tr.test (Option.isSome (f17 ((x0,(x0',(x0'',(x0''',(x0'''',(x0''''',(x0'''''',((x0'''''''_,(x0'''''''_',())),())))))))),())))
      (let r0:=g17 ((x0,(x0',(x0'',(x0''',(x0'''',(x0''''',(x0'''''',((x0'''''''_,(x0'''''''_',())),())))))))),());
      Tr.test ((!eqF r0.1 0:Bool))
        (Tr.fin (((true:Bool),())))
        (Tr.test (Option.isSome (f27 ((x0,(x0',(x0'',(x0''',(x0'''',(x0''''',(x0'''''',((x0'''''''_,(x0'''''''_',())),())))))))),(x1,()))))
          (let r1:=g27 ((x0,(x0',(x0'',(x0''',(x0'''',(x0''''',(x0'''''',((x0'''''''_,(x0'''''''_',())),())))))))),(x1,()));
          Tr.test ((!eqF r1.1 0:Bool))
            (Tr.fin (((true:Bool),())))
            (Tr.test (Option.isSome (f29 (x2,())))
              (let r2:=g29 (x2,());
              Tr.test ((!eqF r2.1 0:Bool))
                (Tr.fin (((true:Bool),())))
                (Tr.test (Option.isSome (f12 (x1,())))
                  (let r3:=g12 (x1,());
                  Tr.test (Option.isSome (f25 ((x0,(x0',(x0'',(x0''',((0:Int),(x0''''',(x0'''''',((x0'''''''_,(x0'''''''_',())),())))))))),(r3.1,()))))
                    (let r4:=g25 ((x0,(x0',(x0'',(x0''',((0:Int),(x0''''',(x0'''''',((x0'''''''_,(x0'''''''_',())),())))))))),(r3.1,()));
                    Tr.test ((!eqF r4.2.1 0:Bool))
                      (Tr.fin (((false:Bool),())))
                      (Tr.test ((eqF (↑(List.length r4.1):Int) (0:Int):Bool))
                        (Tr.fin (((false:Bool),())))
                        (Tr.test ((!leF (↑(List.length r4.1):Int) (wrap64 ((↑(List.length x1):Int) + (1:Int))):Bool))
                          (Tr.fin (((false:Bool),())))
                          (Tr.test ((true && decide ((0:Int) < (↑(List.length r4.1):Int)):Bool))
                            (Tr.test ((!eqF (List.getD r4.1 (0:Nat) (0:Int)) (0:Int):Bool))
                              (Tr.fin (((false:Bool),())))
                              (Tr.test (Option.isSome (f16 ((x0,(x0',(x0'',(x0''',((0:Int),(x0''''',(x0'''''',((x0'''''''_,(x0'''''''_',())),())))))))),())))
                                (let r5:=g16 ((x0,(x0',(x0'',(x0''',((0:Int),(x0''''',(x0'''''',((x0'''''''_,(x0'''''''_',())),())))))))),());
                                Tr.test ((eqF r5.2.1 0:Bool))
                                  (Tr.test (Option.isSome (f25 ((r5.1.1,(r5.1.2.1,(r5.1.2.2.1,(r5.1.2.2.2.1,(r5.1.2.2.2.2.1,(r5.1.2.2.2.2.2.1,(r5.1.2.2.2.2.2.2.1,((r5.1.2.2.2.2.2.2.2.1.1,(r5.1.2.2.2.2.2.2.2.1.2.1,())),())))))))),(r3.1,()))))
                                    (let r6:=g25 ((r5.1.1,(r5.1.2.1,(r5.1.2.2.1,(r5.1.2.2.2.1,(r5.1.2.2.2.2.1,(r5.1.2.2.2.2.2.1,(r5.1.2.2.2.2.2.2.1,((r5.1.2.2.2.2.2.2.2.1.1,(r5.1.2.2.2.2.2.2.2.1.2.1,())),())))))))),(r3.1,()));
                                    Tr.test ((!eqF r6.2.1 0:Bool))
                                      (Tr.fin (((false:Bool),())))
                                      (Tr.test (Option.isSome (f24 (r6.1,(r4.1,()))))
                                        (let r7:=g24 (r6.1,(r4.1,()));
                                        Tr.test ((!r7.1:Bool))
                                          (Tr.fin (((false:Bool),())))
                                          (Tr.test (Option.isSome (f26 ((x0,(x0',(x0'',(x0''',((0:Int),(x0''''',(x0'''''',((x0'''''''_,(x0'''''''_',())),())))))))),(r3.1,((0:Int),())))))
                                            (let r8:=g26 ((x0,(x0',(x0'',(x0''',((0:Int),(x0''''',(x0'''''',((x0'''''''_,(x0'''''''_',())),())))))))),(r3.1,((0:Int),())));
                                            Tr.test ((!eqF r8.2.1 0:Bool))
                                              (Tr.fin (((false:Bool),())))
                                              (Tr.test ((!(r8.1.1 == (0:Int) && (r8.1.2.1 == (0:Int) && true)):Bool))
                                                (Tr.fin (((false:Bool),())))
                                                (Tr.test (Option.isSome (l5_0 ((x1,(x2,(r4.1,((1:Int),())))),((x0,(x0',(x0'',(x0''',(x0'''',(x0''''',(x0'''''',(x0'''''''_,(x0'''''''_',()))))))))),()))))
                                                  (Tr.test (isRet (l5_0 ((x1,(x2,(r4.1,((1:Int),())))),((x0,(x0',(x0'',(x0''',(x0'''',(x0''''',(x0'''''',(x0'''''''_,(x0'''''''_',()))))))))),()))))
                                                    (let r9:=r5_0 ((x1,(x2,(r4.1,((1:Int),())))),((x0,(x0',(x0'',(x0''',(x0'''',(x0''''',(x0'''''',(x0'''''''_,(x0'''''''_',()))))))))),()));
                                                    Tr.fin ((r9.1.1,())))
                                                    (let r10:=b5_0 ((x1,(x2,(r4.1,((1:Int),())))),((x0,(x0',(x0'',(x0''',(x0'''',(x0''''',(x0'''''',(x0'''''''_,(x0'''''''_',()))))))))),()));
                                                    Tr.test (Option.isSome (f12 (r10.1.1,())))
                                                      (let r11:=g12 (r10.1.1,());
                                                      Tr.test (Option.isSome (f25 ((r10.2.1.1,(r10.2.1.2.1,(r10.2.1.2.2.1,(r10.2.1.2.2.2.1,(r10.2.1.2.2.2.2.1,(r10.2.1.2.2.2.2.2.1,(r10.2.1.2.2.2.2.2.2.1,((r10.2.1.2.2.2.2.2.2.2.1,(r10.2.1.2.2.2.2.2.2.2.2.1,())),())))))))),(r11.1,()))))
                                                        (Tr.test ((decide ((0:Int) ≤ Go.IntKind.wrap Go.IntKind.i64 (Int.tdiv (↑(List.length r10.1.1):Int) (2:Int))) && decide (Go.IntKind.wrap Go.IntKind.i64 (Int.tdiv (↑(List.length r10.1.1):Int) (2:Int)) ≤ (↑(List.length r10.1.1):Int)):Bool))
                                                          (Tr.test (Option.isSome (f12 ((List.take (Int.toNat (Go.IntKind.wrap Go.IntKind.i64 (Int.tdiv (↑(List.length r10.1.1):Int) (2:Int)))) r10.1.1:List Int),())))
                                                            (let r13:=g12 ((List.take (Int.toNat (Go.IntKind.wrap Go.IntKind.i64 (Int.tdiv (↑(List.length r10.1.1):Int) (2:Int)))) r10.1.1:List Int),());
                                                            Tr.test (Option.isSome (f25 ((r10.2.1.1,(r10.2.1.2.1,(r10.2.1.2.2.1,(r10.2.1.2.2.2.1,(r10.2.1.2.2.2.2.1,(r10.2.1.2.2.2.2.2.1,(r10.2.1.2.2.2.2.2.2.1,((r10.2.1.2.2.2.2.2.2.2.1,(r10.2.1.2.2.2.2.2.2.2.2.1,())),())))))))),(r13.1,()))))
                                                              (let r12:=g25 ((r10.2.1.1,(r10.2.1.2.1,(r10.2.1.2.2.1,(r10.2.1.2.2.2.1,(r10.2.1.2.2.2.2.1,(r10.2.1.2.2.2.2.2.1,(r10.2.1.2.2.2.2.2.2.1,((r10.2.1.2.2.2.2.2.2.2.1,(r10.2.1.2.2.2.2.2.2.2.2.1,())),())))))))),(r11.1,()));
                                                              Tr.test ((!eqF r12.2.1 0:Bool))
                                                                (Tr.fin (((false:Bool),())))
                                                                (let r14:=g25 ((r10.2.1.1,(r10.2.1.2.1,(r10.2.1.2.2.1,(r10.2.1.2.2.2.1,(r10.2.1.2.2.2.2.1,(r10.2.1.2.2.2.2.2.1,(r10.2.1.2.2.2.2.2.2.1,((r10.2.1.2.2.2.2.2.2.2.1,(r10.2.1.2.2.2.2.2.2.2.2.1,())),())))))))),(r13.1,()));
                                                                Tr.test ((!eqF r14.2.1 0:Bool))
                                                                  (Tr.fin (((false:Bool),())))
                                                                  (Tr.test ((eqF (↑(List.length r12.1):Int) (0:Int):Bool))
                                                                    (Tr.fin (((false:Bool),())))
                                                                    (Tr.test ((!leF (↑(List.length r12.1):Int) (wrap64 ((↑(List.length r10.1.1):Int) + (1:Int))):Bool))
                                                                      (Tr.fin (((false:Bool),())))
                                                                      (Tr.test ((!leF (↑(List.length r14.1):Int) (↑(List.length r12.1):Int):Bool))
                                                                        (Tr.fin (((false:Bool),())))
                                                                        (Tr.test ((decide ((0:Int) ≤ (↑(List.length r14.1):Int)) && decide ((↑(List.length r14.1):Int) ≤ (↑(List.length r12.1):Int)):Bool))
                                                                          (Tr.test (Option.isSome (f24 (r14.1,((List.take (Int.toNat (↑(List.length r14.1):Int)) r12.1:List Int),()))))
                                                                            (let r15:=g24 (r14.1,((List.take (Int.toNat (↑(List.length r14.1):Int)) r12.1:List Int),()));
                                                                            Tr.test ((!r15.1:Bool))
                                                                              (Tr.fin (((false:Bool),())))
                                                                              (Tr.test (Option.isSome (f26 ((r10.2.1.1,(r10.2.1.2.1,(r10.2.1.2.2.1,(r10.2.1.2.2.2.1,(r10.2.1.2.2.2.2.1,(r10.2.1.2.2.2.2.2.1,(r10.2.1.2.2.2.2.2.2.1,((r10.2.1.2.2.2.2.2.2.2.1,(r10.2.1.2.2.2.2.2.2.2.2.1,())),())))))))),(r11.1,((0:Int),())))))
                                                                                (Tr.test (Option.isSome (f26 ((r10.2.1.1,(r10.2.1.2.1,(r10.2.1.2.2.1,(r10.2.1.2.2.2.1,(r10.2.1.2.2.2.2.1,(r10.2.1.2.2.2.2.2.1,(r10.2.1.2.2.2.2.2.2.1,((r10.2.1.2.2.2.2.2.2.2.1,(r10.2.1.2.2.2.2.2.2.2.2.1,())),())))))))),(r11.1,(r10.1.2.1,())))))
                                                                                  (let r16:=g26 ((r10.2.1.1,(r10.2.1.2.1,(r10.2.1.2.2.1,(r10.2.1.2.2.2.1,(r10.2.1.2.2.2.2.1,(r10.2.1.2.2.2.2.2.1,(r10.2.1.2.2.2.2.2.2.1,((r10.2.1.2.2.2.2.2.2.2.1,(r10.2.1.2.2.2.2.2.2.2.2.1,())),())))))))),(r11.1,((0:Int),())));
                                                                                  let r17:=g26 ((r10.2.1.1,(r10.2.1.2.1,(r10.2.1.2.2.1,(r10.2.1.2.2.2.1,(r10.2.1.2.2.2.2.1,(r10.2.1.2.2.2.2.2.1,(r10.2.1.2.2.2.2.2.2.1,((r10.2.1.2.2.2.2.2.2.2.1,(r10.2.1.2.2.2.2.2.2.2.2.1,())),())))))))),(r11.1,(r10.1.2.1,())));
                                                                                  Tr.test (isBrk (l5_2 ((r10.1.2.1,(r12.1,(r16.2.1,(r17.2.1,((0:Int),((1:Int),())))))),((r16.1.1,(r16.1.2.1,())),((r17.1.1,(r17.1.2.1,())),())))))
                                                                                    (let r18:=b5_2 ((r10.1.2.1,(r12.1,(r16.2.1,(r17.2.1,((0:Int),((1:Int),())))))),((r16.1.1,(r16.1.2.1,())),((r17.1.1,(r17.1.2.1,())),())));
                                                                                    Tr.test ((eqF r18.1.2.1 0:Bool))
                                                                                      (Tr.test ((eqF r18.1.2.2.1 0:Bool))
                                                                                        (Tr.test ((eqF r18.2.1.1 r18.2.1.2.1:Bool))
                                                                                          (Tr.fin (((r18.2.2.1.1 == wrap64 (r18.2.1.1 - wrap64 (r18.1.1 * r18.1.2.2.2.1)) && (r18.2.2.1.2.1 == wrap64 (r18.2.1.2.1 + wrap64 (r18.1.1 * r18.1.2.2.2.1)) && true):Bool),())))
                                                                                          (Tr.fin (((false:Bool),()))))
                                                                                        (Tr.fin (((false:Bool),()))))
                                                                                      (Tr.fin (((false:Bool),()))))
                                                                                    (Tr.stop))
                                                                                  (Tr.stop))
                                                                                (Tr.stop)))
                                                                            (Tr.stop))
                                                                          (Tr.stop)))))))
                                                              (Tr.stop))
                                                            (Tr.stop))
                                                          (Tr.stop))
                                                        (Tr.stop))
                                                      (Tr.stop)))
                                                  (Tr.stop))))
                                            (Tr.stop)))
                                        (Tr.stop)))
                                    (Tr.stop))
                                  (Tr.test ((!eqF r5.2.1 8:Bool))
                                    (Tr.fin (((false:Bool),())))
                                    (Tr.test (Option.isSome (f26 ((x0,(x0',(x0'',(x0''',((0:Int),(x0''''',(x0'''''',((x0'''''''_,(x0'''''''_',())),())))))))),(r3.1,((0:Int),())))))
                                      (let r8:=g26 ((x0,(x0',(x0'',(x0''',((0:Int),(x0''''',(x0'''''',((x0'''''''_,(x0'''''''_',())),())))))))),(r3.1,((0:Int),())));
                                      Tr.test ((!eqF r8.2.1 0:Bool))
                                        (Tr.fin (((false:Bool),())))
                                        (Tr.test ((!(r8.1.1 == (0:Int) && (r8.1.2.1 == (0:Int) && true)):Bool))
                                          (Tr.fin (((false:Bool),())))
                                          (Tr.test (Option.isSome (l5_0 ((x1,(x2,(r4.1,((1:Int),())))),((x0,(x0',(x0'',(x0''',(x0'''',(x0''''',(x0'''''',(x0'''''''_,(x0'''''''_',()))))))))),()))))
                                            (Tr.test (isRet (l5_0 ((x1,(x2,(r4.1,((1:Int),())))),((x0,(x0',(x0'',(x0''',(x0'''',(x0''''',(x0'''''',(x0'''''''_,(x0'''''''_',()))))))))),()))))
                                              (let r9:=r5_0 ((x1,(x2,(r4.1,((1:Int),())))),((x0,(x0',(x0'',(x0''',(x0'''',(x0''''',(x0'''''',(x0'''''''_,(x0'''''''_',()))))))))),()));
                                              Tr.fin ((r9.1.1,())))
                                              (let r10:=b5_0 ((x1,(x2,(r4.1,((1:Int),())))),((x0,(x0',(x0'',(x0''',(x0'''',(x0''''',(x0'''''',(x0'''''''_,(x0'''''''_',()))))))))),()));
                                              Tr.test (Option.isSome (f12 (r10.1.1,())))
                                                (let r11:=g12 (r10.1.1,());
                                                Tr.test (Option.isSome (f25 ((r10.2.1.1,(r10.2.1.2.1,(r10.2.1.2.2.1,(r10.2.1.2.2.2.1,(r10.2.1.2.2.2.2.1,(r10.2.1.2.2.2.2.2.1,(r10.2.1.2.2.2.2.2.2.1,((r10.2.1.2.2.2.2.2.2.2.1,(r10.2.1.2.2.2.2.2.2.2.2.1,())),())))))))),(r11.1,()))))
                                                  (Tr.test ((decide ((0:Int) ≤ Go.IntKind.wrap Go.IntKind.i64 (Int.tdiv (↑(List.length r10.1.1):Int) (2:Int))) && decide (Go.IntKind.wrap Go.IntKind.i64 (Int.tdiv (↑(List.length r10.1.1):Int) (2:Int)) ≤ (↑(List.length r10.1.1):Int)):Bool))
                                                    (Tr.test (Option.isSome (f12 ((List.take (Int.toNat (Go.IntKind.wrap Go.IntKind.i64 (Int.tdiv (↑(List.length r10.1.1):Int) (2:Int)))) r10.1.1:List Int),())))
                                                      (let r13:=g12 ((List.take (Int.toNat (Go.IntKind.wrap Go.IntKind.i64 (Int.tdiv (↑(List.length r10.1.1):Int) (2:Int)))) r10.1.1:List Int),());
                                                      Tr.test (Option.isSome (f25 ((r10.2.1.1,(r10.2.1.2.1,(r10.2.1.2.2.1,(r10.2.1.2.2.2.1,(r10.2.1.2.2.2.2.1,(r10.2.1.2.2.2.2.2.1,(r10.2.1.2.2.2.2.2.2.1,((r10.2.1.2.2.2.2.2.2.2.1,(r10.2.1.2.2.2.2.2.2.2.2.1,())),())))))))),(r13.1,()))))
                                                        (let r12:=g25 ((r10.2.1.1,(r10.2.1.2.1,(r10.2.1.2.2.1,(r10.2.1.2.2.2.1,(r10.2.1.2.2.2.2.1,(r10.2.1.2.2.2.2.2.1,(r10.2.1.2.2.2.2.2.2.1,((r10.2.1.2.2.2.2.2.2.2.1,(r10.2.1.2.2.2.2.2.2.2.2.1,())),())))))))),(r11.1,()));
                                                        Tr.test ((!eqF r12.2.1 0:Bool))
                                                          (Tr.fin (((false:Bool),())))
                                                          (let r14:=g25 ((r10.2.1.1,(r10.2.1.2.1,(r10.2.1.2.2.1,(r10.2.1.2.2.2.1,(r10.2.1.2.2.2.2.1,(r10.2.1.2.2.2.2.2.1,(r10.2.1.2.2.2.2.2.2.1,((r10.2.1.2.2.2.2.2.2.2.1,(r10.2.1.2.2.2.2.2.2.2.2.1,())),())))))))),(r13.1,()));
                                                          Tr.test ((!eqF r14.2.1 0:Bool))
                                                            (Tr.fin (((false:Bool),())))
                                                            (Tr.test ((eqF (↑(List.length r12.1):Int) (0:Int):Bool))
                                                              (Tr.fin (((false:Bool),())))
                                                              (Tr.test ((!leF (↑(List.length r12.1):Int) (wrap64 ((↑(List.length r10.1.1):Int) + (1:Int))):Bool))
                                                                (Tr.fin (((false:Bool),())))
                                                                (Tr.test ((!leF (↑(List.length r14.1):Int) (↑(List.length r12.1):Int):Bool))
                                                                  (Tr.fin (((false:Bool),())))
                                                                  (Tr.test ((decide ((0:Int) ≤ (↑(List.length r14.1):Int)) && decide ((↑(List.length r14.1):Int) ≤ (↑(List.length r12.1):Int)):Bool))
                                                                    (Tr.test (Option.isSome (f24 (r14.1,((List.take (Int.toNat (↑(List.length r14.1):Int)) r12.1:List Int),()))))
                                                                      (let r15:=g24 (r14.1,((List.take (Int.toNat (↑(List.length r14.1):Int)) r12.1:List Int),()));
                                                                      Tr.test ((!r15.1:Bool))
                                                                        (Tr.fin (((false:Bool),())))
                                                                        (Tr.test (Option.isSome (f26 ((r10.2.1.1,(r10.2.1.2.1,(r10.2.1.2.2.1,(r10.2.1.2.2.2.1,(r10.2.1.2.2.2.2.1,(r10.2.1.2.2.2.2.2.1,(r10.2.1.2.2.2.2.2.2.1,((r10.2.1.2.2.2.2.2.2.2.1,(r10.2.1.2.2.2.2.2.2.2.2.1,())),())))))))),(r11.1,((0:Int),())))))
                                                                          (Tr.test (Option.isSome (f26 ((r10.2.1.1,(r10.2.1.2.1,(r10.2.1.2.2.1,(r10.2.1.2.2.2.1,(r10.2.1.2.2.2.2.1,(r10.2.1.2.2.2.2.2.1,(r10.2.1.2.2.2.2.2.2.1,((r10.2.1.2.2.2.2.2.2.2.1,(r10.2.1.2.2.2.2.2.2.2.2.1,())),())))))))),(r11.1,(r10.1.2.1,())))))
                                                                            (let r16:=g26 ((r10.2.1.1,(r10.2.1.2.1,(r10.2.1.2.2.1,(r10.2.1.2.2.2.1,(r10.2.1.2.2.2.2.1,(r10.2.1.2.2.2.2.2.1,(r10.2.1.2.2.2.2.2.2.1,((r10.2.1.2.2.2.2.2.2.2.1,(r10.2.1.2.2.2.2.2.2.2.2.1,())),())))))))),(r11.1,((0:Int),())));
                                                                            let r17:=g26 ((r10.2.1.1,(r10.2.1.2.1,(r10.2.1.2.2.1,(r10.2.1.2.2.2.1,(r10.2.1.2.2.2.2.1,(r10.2.1.2.2.2.2.2.1,(r10.2.1.2.2.2.2.2.2.1,((r10.2.1.2.2.2.2.2.2.2.1,(r10.2.1.2.2.2.2.2.2.2.2.1,())),())))))))),(r11.1,(r10.1.2.1,())));
                                                                            Tr.test (isBrk (l5_2 ((r10.1.2.1,(r12.1,(r16.2.1,(r17.2.1,((0:Int),((1:Int),())))))),((r16.1.1,(r16.1.2.1,())),((r17.1.1,(r17.1.2.1,())),())))))
                                                                              (let r18:=b5_2 ((r10.1.2.1,(r12.1,(r16.2.1,(r17.2.1,((0:Int),((1:Int),())))))),((r16.1.1,(r16.1.2.1,())),((r17.1.1,(r17.1.2.1,())),())));
                                                                              Tr.test ((eqF r18.1.2.1 0:Bool))
                                                                                (Tr.test ((eqF r18.1.2.2.1 0:Bool))
                                                                                  (Tr.test ((eqF r18.2.1.1 r18.2.1.2.1:Bool))
                                                                                    (Tr.fin (((r18.2.2.1.1 == wrap64 (r18.2.1.1 - wrap64 (r18.1.1 * r18.1.2.2.2.1)) && (r18.2.2.1.2.1 == wrap64 (r18.2.1.2.1 + wrap64 (r18.1.1 * r18.1.2.2.2.1)) && true):Bool),())))
                                                                                    (Tr.fin (((false:Bool),()))))
                                                                                  (Tr.fin (((false:Bool),()))))
                                                                                (Tr.fin (((false:Bool),()))))
                                                                              (Tr.stop))
                                                                            (Tr.stop))
                                                                          (Tr.stop)))
                                                                      (Tr.stop))
                                                                    (Tr.stop)))))))
                                                        (Tr.stop))
                                                      (Tr.stop))
                                                    (Tr.stop))
                                                  (Tr.stop))
                                                (Tr.stop)))
                                            (Tr.stop))))
                                      (Tr.stop))))
                                (Tr.stop)))
                            (Tr.stop)))))
                    (Tr.stop))
                  (Tr.stop)))
              (Tr.stop)))
          (Tr.stop)))
      (Tr.stop))

def f5 (d:Tys.data as5):Option (Tys.data rs5):=(t5 d.1.1 d.1.2.1 d.1.2.2.1 d.1.2.2.2.1 d.1.2.2.2.2.1 d.1.2.2.2.2.2.1 d.1.2.2.2.2.2.2.1 d.1.2.2.2.2.2.2.2.1.1 d.1.2.2.2.2.2.2.2.1.2.1 d.2.1 d.2.2.1).val
def g5 (d:Tys.data as5):Tys.data rs5:=(f5 d).getD (Tys.dflt rs5)
def p5:PureC:=pcOf as5 rs5 f5 g5

theorem wk5 (x0:Int) (x0':Int) (x0'':Int) (x0''':Int) (x0'''':Int) (x0''''':Bool) (x0'''''':Int) (x0'''''''_:Int) (x0'''''''_':Int) (x1:(List Int)) (x2:Int):Walks (runPure (kl5_2 Go.Proofs.Try.prog).orc Go.Proofs.Try.prog 400 5 as5 rs5 ((x0,x0',x0'',x0''',x0'''',x0''''',x0'''''',(x0'''''''_,x0'''''''_',()),()),x1,x2,())) (t5 x0 x0' x0'' x0''' x0'''' x0''''' x0'''''' x0'''''''_ x0'''''''_' x1 x2) [([tt],[1,1,1,1,1,1,1,1,1,1,2,2,2,2,0,1]),([false,true,true],[1,1,1,1,1,2,2,2,2,2,6,6,4,6,6,0,1]),([false,true,false,true,true],[1,2,2,2,2,6,6,4,6,6,6,10,10,8,10,10,0,1]),([false,true,false,true,false,true,true],[2,6,6,4,6,6,10,10,8,10,10,10,14,14,12,14,14,0,1]),([false,true,false,true,false,true,false,true,true,true],[1,1,1,1,1,1,1,1,1,1,1,1,1,2,2,2,2,4,6,8,12,12,10,12,12,16,16,14,16,16,16,20,20,18,20,20,0,1]),([false,true,false,true,false,true,false,true,true,false,true],[1,1,1,1,1,1,2,2,2,2,2,2,2,4,4,4,4,6,8,10,14,14,12,14,14,18,18,16,18,18,18,22,22,20,22,22,0,1]),([false,true,false,true,false,true,false,true,true,false,false,true],[1,2,2,2,2,2,4,4,4,4,4,4,4,6,6,6,6,8,10,12,16,16,14,16,16,20,20,18,20,20,20,24,24,22,24,24,0,1]),([false,true,false,true,false,true,false,true,true,false,false,false,true,true],[2,6,6,6,4,6,6,8,8,8,8,8,8,8,10,10,10,10,12,14,16,20,20,18,20,20,24,24,22,24,24,24,28,28,26,28,28,0,1]),([false,true,false,true,false,true,false,true,true,false,false,false,true,false,true,true,true,true],[1,2,2,2,2,2,4,22,6,8,10,14,14,14,12,14,14,16,16,16,16,16,16,16,18,18,18,18,20,22,24,28,28,26,28,28,32,32,30,32,32,32,36,36,34,36,36,0,1]),([false,true,false,true,false,true,false,true,true,false,false,false,true,false,true,true,true,false,true,true],[2,6,6,4,6,6,6,8,26,10,12,14,18,18,18,16,18,18,20,20,20,20,20,20,20,22,22,22,22,24,26,28,32,32,30,32,32,36,36,34,36,36,36,40,40,38,40,40,0,1]),([false,true,false,true,false,true,false,true,true,false,false,false,true,false,true,true,true,false,true,false,true,true],[1,2,2,2,2,4,30,6,10,10,8,10,10,10,12,30,14,16,18,22,22,22,20,22,22,24,24,24,24,24,24,24,26,26,26,26,28,30,32,36,36,34,36,36,40,40,38,40,40,40,44,44,42,44,44,0,1]),([false,true,false,true,false,true,false,true,true,false,false,false,true,false,true,true,true,false,true,false,true,false,true],[2,4,4,4,4,6,32,8,12,12,10,12,12,12,14,32,16,18,20,24,24,24,22,24,24,26,26,26,26,26,26,26,28,28,28,28,30,32,34,38,38,36,38,38,42,42,40,42,42,42,46,46,44,46,46,0,1]),([false,true,false,true,false,true,false,true,true,false,false,false,true,false,true,true,true,false,true,false,true,false,false,true,true],[2,4,6,8,8,8,8,10,36,12,16,16,14,16,16,16,18,36,20,22,24,28,28,28,26,28,28,30,30,30,30,30,30,30,32,32,32,32,34,36,38,42,42,40,42,42,46,46,44,46,46,46,50,50,48,50,50,0,1]),([false,true,false,true,false,true,false,true,true,false,false,false,true,false,true,true,true,false,true,false,true,false,false,true,false,true,true,true,true,true,true],[1,1,1,1,1,1,1,1,1,1,1,1,1,1,1,1,1,1,1,1,1,1,1,1,1,1,2,2,2,4,6,8,0,10,12,14,16,18,20,20,20,20,22,48,24,28,28,26,28,28,28,30,48,32,34,36,40,40,40,38,40,40,42,42,42,42,42,42,42,44,44,44,44,46,48,50,54,54,52,54,54,58,58,56,58,58,58,62,62,60,62,62,0,1]),([false,true,false,true,false,true,false,true,true,false,false,false,true,false,true,true,true,false,true,false,true,false,false,true,false,true,true,true,true,true,false,true],[1,1,1,1,1,1,1,1,1,1,1,1,1,1,1,1,1,1,1,1,1,1,2,2,2,2,4,4,4,6,8,10,0,12,14,16,18,20,22,22,22,22,24,50,26,30,30,28,30,30,30,32,50,34,36,38,42,42,42,40,42,42,44,44,44,44,44,44,44,46,46,46,46,48,50,52,56,56,54,56,56,60,60,58,60,60,60,64,64,62,64,64,0,1]),([false,true,false,true,false,true,false,true,true,false,false,false,true,false,true,true,true,false,true,false,true,false,false,true,false,true,true,true,true,true,false,false,true],[1,1,1,1,1,1,1,1,1,1,1,1,1,1,1,2,2,2,2,2,2,2,4,4,4,4,6,6,6,8,10,12,0,14,16,18,20,22,24,24,24,24,26,52,28,32,32,30,32,32,32,34,52,36,38,40,44,44,44,42,44,44,46,46,46,46,46,46,46,48,48,48,48,50,52,54,58,58,56,58,58,62,62,60,62,62,62,66,66,64,66,66,0,1]),([false,true,false,true,false,true,false,true,true,false,false,false,true,false,true,true,true,false,true,false,true,false,false,true,false,true,true,true,true,true,false,false,false,true],[1,1,1,1,1,1,1,1,1,2,2,2,2,2,2,4,4,4,4,4,4,4,6,6,6,6,8,8,8,10,12,14,0,16,18,20,22,24,26,26,26,26,28,54,30,34,34,32,34,34,34,36,54,38,40,42,46,46,46,44,46,46,48,48,48,48,48,48,48,50,50,50,50,52,54,56,60,60,58,60,60,64,64,62,64,64,64,68,68,66,68,68,0,1]),([false,true,false,true,false,true,false,true,true,false,false,false,true,false,true,true,true,false,true,false,true,false,false,true,false,true,true,true,true,true,false,false,false,false,true],[1,2,2,2,2,2,2,2,2,4,4,4,4,4,4,6,6,6,6,6,6,6,8,8,8,8,10,10,10,12,14,16,0,18,20,22,24,26,28,28,28,28,30,56,32,36,36,34,36,36,36,38,56,40,42,44,48,48,48,46,48,48,50,50,50,50,50,50,50,52,52,52,52,54,56,58,62,62,60,62,62,66,66,64,66,66,66,70,70,68,70,70,0,1]),([false,true,false,true,false,true,false,true,true,false,false,false,true,false,true,true,true,false,true,false,true,false,false,true,false,true,true,true,true,true,false,false,false,false,false,true,true,true],[2,8,8,4,8,6,8,8,8,8,8,10,10,10,10,10,10,12,12,12,12,12,12,12,14,14,14,14,16,16,16,18,20,22,0,24,26,28,30,32,34,34,34,34,36,62,38,42,42,40,42,42,42,44,62,46,48,50,54,54,54,52,54,54,56,56,56,56,56,56,56,58,58,58,58,60,62,64,68,68,66,68,68,72,72,70,72,72,72,76,76,74,76,76,0,1]),([false,true,false,true,false,true,false,true,true,false,false,false,true,false,true,true,true,false,true,false,true,false,false,true,false,true,true,true,true,true,false,false,false,false,false,true,true,false,true,true,true,true,true,true],[2,2,2,2,2,2,2,2,2,2,2,2,2,2,2,2,4,4,4,4,4,4,6,6,6,1,8,10,38,12,38,14,20,20,16,20,18,20,20,20,20,20,22,22,22,22,22,22,24,24,24,24,24,24,24,26,26,26,26,28,28,28,30,32,34,0,36,38,40,42,44,46,46,46,46,48,74,50,54,54,52,54,54,54,56,74,58,60,62,66,66,66,64,66,66,68,68,68,68,68,68,68,70,70,70,70,72,74,76,80,80,78,80,80,84,84,82,84,84,84,88,88,86,88,88,0,1]),([false,true,false,true,false,true,false,true,true,false,false,false,true,false,true,true,true,false,true,false,true,false,false,true,false,true,true,true,true,true,false,false,false,false,false,true,true,false,true,true,true,true,true,false],[2,2,2,2,2,2,2,2,2,2,2,2,2,2,2,2,4,4,4,4,4,4,6,6,6,1,8,10,38,12,38,14,20,20,16,20,18,20,20,20,20,20,22,22,22,22,22,22,24,24,24,24,24,24,24,26,26,26,26,28,28,28,30,32,34,0,36,38,40,42,44,46,46,46,46,48,74,50,54,54,52,54,54,54,56,74,58,60,62,66,66,66,64,66,66,68,68,68,68,68,68,68,70,70,70,70,72,74,76,80,80,78,80,80,84,84,82,84,84,84,88,88,86,88,88,0,1]),([false,true,false,true,false,true,false,true,true,false,false,false,true,false,true,true,true,false,true,false,true,false,false,true,false,true,true,true,true,true,false,false,false,false,false,true,true,false,true,true,true,true,false],[0,0,0,0,0,0,0,0,0,0,0,0,0,0,0,0,2,2,2,2,2,2,4,4,4,1,6,8,36,10,36,12,18,18,14,18,16,18,18,18,18,18,20,20,20,20,20,20,22,22,22,22,22,22,22,24,24,24,24,26,26,26,28,30,32,0,34,36,38,40,42,44,44,44,44,46,72,48,52,52,50,52,52,52,54,72,56,58,60,64,64,64,62,64,64,66,66,66,66,66,66,66,68,68,68,68,70,72,74,78,78,76,78,78,82,82,80,82,82,82,86,86,84,86,86,0,1]),([false,true,false,true,false,true,false,true,true,false,false,false,true,false,true,true,true,false,true,false,true,false,false,true,false,true,true,true,true,true,false,false,false,false,false,true,true,false,true,true,true,false],[0,0,0,0,0,0,0,0,0,0,0,0,0,0,0,0,0,0,0,0,0,0,2,2,2,1,4,6,34,8,34,10,16,16,12,16,14,16,16,16,16,16,18,18,18,18,18,18,20,20,20,20,20,20,20,22,22,22,22,24,24,24,26,28,30,0,32,34,36,38,40,42,42,42,42,44,70,46,50,50,48,50,50,50,52,70,54,56,58,62,62,62,60,62,62,64,64,64,64,64,64,64,66,66,66,66,68,70,72,76,76,74,76,76,80,80,78,80,80,80,84,84,82,84,84,0,1]),([false,true,false,true,false,true,false,true,true,false,false,false,true,false,true,false,true],[2,4,6,8,12,12,12,10,12,12,14,14,14,14,14,14,14,16,16,16,16,18,20,22,26,26,24,26,26,30,30,28,30,30,30,34,34,32,34,34,0,1]),([false,true,false,true,false,true,false,true,true,false,false,false,true,false,true,false,false,true,true],[1,2,2,2,2,4,24,6,8,10,12,16,16,16,14,16,16,18,18,18,18,18,18,18,20,20,20,20,22,24,26,30,30,28,30,30,34,34,32,34,34,34,38,38,36,38,38,0,1]),([false,true,false,true,false,true,false,true,true,false,false,false,true,false,true,false,false,true,false,true],[2,4,4,4,4,6,26,8,10,12,14,18,18,18,16,18,18,20,20,20,20,20,20,20,22,22,22,22,24,26,28,32,32,30,32,32,36,36,34,36,36,36,40,40,38,40,40,0,1]),([false,true,false,true,false,true,false,true,true,false,false,false,true,false,true,false,false,true,false,false,true,true],[2,4,6,8,8,8,8,10,30,12,14,16,18,22,22,22,20,22,22,24,24,24,24,24,24,24,26,26,26,26,28,30,32,36,36,34,36,36,40,40,38,40,40,40,44,44,42,44,44,0,1]),([false,true,false,true,false,true,false,true,true,false,false,false,true,false,true,false,false,true,false,false,true,false,true,true,true,true,true,true],[1,1,1,1,1,1,1,1,1,1,1,1,1,1,1,1,1,1,1,1,1,1,1,1,1,1,2,2,2,4,6,8,0,10,12,14,16,18,20,20,20,20,22,42,24,26,28,30,34,34,34,32,34,34,36,36,36,36,36,36,36,38,38,38,38,40,42,44,48,48,46,48,48,52,52,50,52,52,52,56,56,54,56,56,0,1]),([false,true,false,true,false,true,false,true,true,false,false,false,true,false,true,false,false,true,false,false,true,false,true,true,true,true,true,false,true],[1,1,1,1,1,1,1,1,1,1,1,1,1,1,1,1,1,1,1,1,1,1,2,2,2,2,4,4,4,6,8,10,0,12,14,16,18,20,22,22,22,22,24,44,26,28,30,32,36,36,36,34,36,36,38,38,38,38,38,38,38,40,40,40,40,42,44,46,50,50,48,50,50,54,54,52,54,54,54,58,58,56,58,58,0,1]),([false,true,false,true,false,true,false,true,true,false,false,false,true,false,true,false,false,true,false,false,true,false,true,true,true,true,true,false,false,true],[1,1,1,1,1,1,1,1,1,1,1,1,1,1,1,2,2,2,2,2,2,2,4,4,4,4,6,6,6,8,10,12,0,14,16,18,20,22,24,24,24,24,26,46,28,30,32,34,38,38,38,36,38,38,40,40,40,40,40,40,40,42,42,42,42,44,46,48,52,52,50,52,52,56,56,54,56,56,56,60,60,58,60,60,0,1]),([false,true,false,true,false,true,false,true,true,false,false,false,true,false,true,false,false,true,false,false,true,false,true,true,true,true,true,false,false,false,true],[1,1,1,1,1,1,1,1,1,2,2,2,2,2,2,4,4,4,4,4,4,4,6,6,6,6,8,8,8,10,12,14,0,16,18,20,22,24,26,26,26,26,28,48,30,32,34,36,40,40,40,38,40,40,42,42,42,42,42,42,42,44,44,44,44,46,48,50,54,54,52,54,54,58,58,56,58,58,58,62,62,60,62,62,0,1]),([false,true,false,true,false,true,false,true,true,false,false,false,true,false,true,false,false,true,false,false,true,false,true,true,true,true,true,false,false,false,false,true],[1,2,2,2,2,2,2,2,2,4,4,4,4,4,4,6,6,6,6,6,6,6,8,8,8,8,10,10,10,12,14,16,0,18,20,22,24,26,28,28,28,28,30,50,32,34,36,38,42,42,42,40,42,42,44,44,44,44,44,44,44,46,46,46,46,48,50,52,56,56,54,56,56,60,60,58,60,60,60,64,64,62,64,64,0,1]),([false,true,false,true,false,true,false,true,true,false,false,false,true,false,true,false,false,true,false,false,true,false,true,true,true,true,true,false,false,false,false,false,true,true,true],[2,8,8,4,8,6,8,8,8,8,8,10,10,10,10,10,10,12,12,12,12,12,12,12,14,14,14,14,16,16,16,18,20,22,0,24,26,28,30,32,34,34,34,34,36,56,38,40,42,44,48,48,48,46,48,48,50,50,50,50,50,50,50,52,52,52,52,54,56,58,62,62,60,62,62,66,66,64,66,66,66,70,70,68,70,70,0,1]),([false,true,false,true,false,true,false,true,true,false,false,false,true,false,true,false,false,true,false,false,true,false,true,true,true,true,true,false,false,false,false,false,true,true,false,true,true,true,true,true,true],[2,2,2,2,2,2,2,2,2,2,2,2,2,2,2,2,4,4,4,4,4,4,6,6,6,1,8,10,38,12,38,14,20,20,16,20,18,20,20,20,20,20,22,22,22,22,22,22,24,24,24,24,24,24,24,26,26,26,26,28,28,28,30,32,34,0,36,38,40,42,44,46,46,46,46,48,68,50,52,54,56,60,60,60,58,60,60,62,62,62,62,62,62,62,64,64,64,64,66,68,70,74,74,72,74,74,78,78,76,78,78,78,82,82,80,82,82,0,1]),([false,true,false,true,false,true,false,true,true,false,false,false,true,false,true,false,false,true,false,false,true,false,true,true,true,true,true,false,false,false,false,false,true,true,false,true,true,true,true,true,false],[2,2,2,2,2,2,2,2,2,2,2,2,2,2,2,2,4,4,4,4,4,4,6,6,6,1,8,10,38,12,38,14,20,20,16,20,18,20,20,20,20,20,22,22,22,22,22,22,24,24,24,24,24,24,24,26,26,26,26,28,28,28,30,32,34,0,36,38,40,42,44,46,46,46,46,48,68,50,52,54,56,60,60,60,58,60,60,62,62,62,62,62,62,62,64,64,64,64,66,68,70,74,74,72,74,74,78,78,76,78,78,78,82,82,80,82,82,0,1]),([false,true,false,true,false,true,false,true,true,false,false,false,true,false,true,false,false,true,false,false,true,false,true,true,true,true,true,false,false,false,false,false,true,true,false,true,true,true,true,false],[0,0,0,0,0,0,0,0,0,0,0,0,0,0,0,0,2,2,2,2,2,2,4,4,4,1,6,8,36,10,36,12,18,18,14,18,16,18,18,18,18,18,20,20,20,20,20,20,22,22,22,22,22,22,22,24,24,24,24,26,26,26,28,30,32,0,34,36,38,40,42,44,44,44,44,46,66,48,50,52,54,58,58,58,56,58,58,60,60,60,60,60,60,60,62,62,62,62,64,66,68,72,72,70,72,72,76,76,74,76,76,76,80,80,78,80,80,0,1]),([false,true,false,true,false,true,false,true,true,false,false,false,true,false,true,false,false,true,false,false,true,false,true,true,true,true,true,false,false,false,false,false,true,true,false,true,true,true,false],[0,0,0,0,0,0,0,0,0,0,0,0,0,0,0,0,0,0,0,0,0,0,2,2,2,1,4,6,34,8,34,10,16,16,12,16,14,16,16,16,16,16,18,18,18,18,18,18,20,20,20,20,20,20,20,22,22,22,22,24,24,24,26,28,30,0,32,34,36,38,40,42,42,42,42,44,64,46,48,50,52,56,56,56,54,56,56,58,58,58,58,58,58,58,60,60,60,60,62,64,66,70,70,68,70,70,74,74,72,74,74,74,78,78,76,78,78,0,1])] :=
  ⟨by kernel_rfl,by kernel_rfl,by kernel_rfl,by kernel_rfl,by kernel_rfl,by kernel_rfl,by kernel_rfl,by kernel_rfl,by kernel_rfl,by kernel_rfl,by kernel_rfl,by kernel_rfl,by kernel_rfl,by kernel_rfl,by kernel_rfl,by kernel_rfl,by kernel_rfl,by kernel_rfl,by kernel_rfl,by kernel_rfl,by kernel_rfl,by kernel_rfl,by kernel_rfl,by kernel_rfl,by kernel_rfl,by kernel_rfl,by kernel_rfl,by kernel_rfl,by kernel_rfl,by kernel_rfl,by kernel_rfl,by kernel_rfl,by kernel_rfl,by kernel_rfl,by kernel_rfl,by kernel_rfl,by kernel_rfl,trivial⟩

theorem ok5_t (x0:Int) (x0':Int) (x0'':Int) (x0''':Int) (x0'''':Int) (x0''''':Bool) (x0'''''':Int) (x0'''''''_:Int) (x0'''''''_':Int) (x1:(List Int)) (x2:Int):TrOk (PureRuns Go.Proofs.Try.prog (kl5_2 Go.Proofs.Try.prog).orc 5 as5 rs5 ((x0,x0',x0'',x0''',x0'''',x0''''',x0'''''',(x0'''''''_,x0'''''''_',()),()),x1,x2,())) (t5 x0 x0' x0'' x0''' x0'''' x0''''' x0'''''' x0'''''''_ x0'''''''_' x1 x2) :=
  Walks.ok (fun _ _ _=>PureRuns.of) (wk5 x0 x0' x0'' x0''' x0'''' x0''''' x0'''''' x0'''''''_ x0'''''''_' x1 x2) (by kernel_rfl)

theorem ok5:PureOk Go.Proofs.Try.prog 5 p5:=pureOk_of kl5_2_ok.base (T:=fun (d:Tys.data as5)=>t5 d.1.1 d.1.2.1 d.1.2.2.1 d.1.2.2.2.1 d.1.2.2.2.2.1 d.1.2.2.2.2.2.1 d.1.2.2.2.2.2.2.1 d.1.2.2.2.2.2.2.2.1.1 d.1.2.2.2.2.2.2.2.1.2.1 d.2.1 d.2.2.1) (by kernel_rfl) (fun (d:Tys.data as5)=>ok5_t d.1.1 d.1.2.1 d.1.2.2.1 d.1.2.2.2.1 d.1.2.2.2.2.1 d.1.2.2.2.2.2.1 d.1.2.2.2.2.2.2.1 d.1.2.2.2.2.2.2.2.1.1 d.1.2.2.2.2.2.2.2.1.2.1 d.2.1 d.2.2.1)

end Go.Vm.Mo
