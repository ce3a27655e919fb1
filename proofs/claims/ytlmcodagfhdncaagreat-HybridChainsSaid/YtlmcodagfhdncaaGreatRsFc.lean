import Derived.Test.YtlmcodagfhdncaaGreatA4
import Derived.KernelRfl
import Derived.Test.YtlmcodagfhdncaaGreatProg
import Derived.Test.YtlmcodagfhdncaaGreatRsFb
set_option linter.unusedVariables false
set_option linter.unusedSimpArgs false

namespace Go.Vm.Mo
open Go
set_option linter.unusedVariables false
abbrev sh75_0_1:Sh:={ n:=25,slots:=[1,9,10,11],pats:=[.fn 124 [(0,4),(1,1)],.ty (.slice (.int .i64)),.ty (.int .i64),.ty (.int .i64)],boxes:=[.row [.ty (.slice (.int .i64)),.ty (.slice (.int .i64)),.ty (.int .i64),.ty (.int .i64)],.row [.ty (.slice (.pair (.int .i64) (.pair (.int .i64) .unit)))]] }
abbrev shb75_0_1:Sh:={ n:=25,slots:=[],pats:=[],boxes:=[.row [.ty (.slice (.int .i64)),.ty (.slice (.int .i64)),.ty (.int .i64),.ty (.int .i64)],.row [.ty (.slice (.pair (.int .i64) (.pair (.int .i64) .unit)))]] }
abbrev shr75_0_1:Sh:={ n:=25,slots:=[4,5],pats:=[.ty (.int .i64),.ty (.int .i64)],boxes:=[.row [.ty (.slice (.int .i64)),.ty (.slice (.int .i64)),.ty (.int .i64),.ty (.int .i64)],.row [.ty (.slice (.pair (.int .i64) (.pair (.int .i64) .unit)))]] }
def t75_0_1 (x1:(List Int)) (x2:Int) (x3:Int) (b0_0:(List Int)) (b0_1:(List Int)) (b0_2:Int) (b0_3:Int) (b1_0:(List (Int×(Int×Unit)))):Tr (Out sh75_0_1.data shb75_0_1.data shr75_0_1.data) :=
  Tr.test ((!leF x2 x3:Bool))
    (Tr.test (decide ((0:Int) ≤ x3) && decide (x3 < (↑(List.length x1):Int)))
      (Tr.test (Option.isSome (f125 (((b0_0,(b0_1,())),((b0_2,(b0_3,())),())),(x3,(b1_0,())))))
        (Tr.test (Option.isSome (f125 (((b0_0,(b0_1,())),((b0_2,(b0_3,())),())),((wrap64 (x3 + (1:Int)):Int),(b1_0,())))))
          (let r0:=g125 (((b0_0,(b0_1,())),((b0_2,(b0_3,())),())),(x3,(b1_0,())));
          let r1:=g125 (((b0_0,(b0_1,())),((b0_2,(b0_3,())),())),((wrap64 (x3 + (1:Int)):Int),(b1_0,())));
          Tr.test ((r0.1.2.1.1 == r1.1.2.1.1 && (r0.1.2.1.2.1 == r1.1.2.1.2.1 && true):Bool))
            (Tr.test (Option.isSome (f60 ((!eqF (wrap64 (r0.1.1 - r1.1.1)) (List.getD x1 (Int.toNat x3) (0:Int)):Bool),((19:Int),()))))
              (let r2:=g60 ((!eqF (wrap64 (r0.1.1 - r1.1.1)) (List.getD x1 (Int.toNat x3) (0:Int)):Bool),((19:Int),()));
              Tr.test ((!eqF r2.1 0:Bool))
                (Tr.fin (.ret ((x3,(r2.1,())),((b0_0,(b0_1,(b0_2,(b0_3,())))),((b1_0,()),())))))
                (Tr.fin (.again ((x1,(x2,((wrap64 (x3 + (1:Int)):Int),()))),((b0_0,(b0_1,(b0_2,(b0_3,())))),((b1_0,()),()))))))
              (Tr.stop))
            (Tr.test (Option.isSome (f60 ((true:Bool),((19:Int),()))))
              (let r3:=g60 ((true:Bool),((19:Int),()));
              Tr.test ((!eqF r3.1 0:Bool))
                (Tr.fin (.ret ((x3,(r3.1,())),((b0_0,(b0_1,(b0_2,(b0_3,())))),((b1_0,()),())))))
                (Tr.fin (.again ((x1,(x2,((wrap64 (x3 + (1:Int)):Int),()))),((b0_0,(b0_1,(b0_2,(b0_3,())))),((b1_0,()),()))))))
              (Tr.stop)))
          (Tr.stop))
        (Tr.stop))
      (Tr.stop))
    (Tr.fin (.brk ((),((b0_0,(b0_1,(b0_2,(b0_3,())))),((b1_0,()),())))))
def s75_0_1 (d:sh75_0_1.data):Option (Out sh75_0_1.data shb75_0_1.data shr75_0_1.data):=(t75_0_1 d.1.1 d.1.2.1 d.1.2.2.1 d.2.1.1 d.2.1.2.1 d.2.1.2.2.1 d.2.1.2.2.2.1 d.2.2.1.1).val
def l75_0_1 (d:sh75_0_1.data):Option (shb75_0_1.data ⊕ shr75_0_1.data):=itr s75_0_1 rounds d
def b75_0_1 (d:sh75_0_1.data):shb75_0_1.data:=outB shb75_0_1.dflt (l75_0_1 d)
def r75_0_1 (d:sh75_0_1.data):shr75_0_1.data:=outR shr75_0_1.dflt (l75_0_1 d)
def lc75_0_1:LoopC:=lcOf sh75_0_1 shb75_0_1 shr75_0_1 l75_0_1 b75_0_1 r75_0_1
theorem wk75_0_1 (x1:(List Int)) (x2:Int) (x3:Int) (b0_0:(List Int)) (b0_1:(List Int)) (b0_2:Int) (b0_3:Int) (b1_0:(List (Int×(Int×Unit)))):Walks (runBody (kf125 Go.Proofs.Tryz.prog).orc Go.Proofs.Tryz.prog 400 75 0 sh75_0_1 shb75_0_1 shr75_0_1 ((x1,x2,x3,()),(b0_0,b0_1,b0_2,b0_3,()),(b1_0,()),())) (t75_0_1 x1 x2 x3 b0_0 b0_1 b0_2 b0_3 b1_0) [([true,true,true,true,true,true,true],[2,4,6,6,6,6,6,6,6,6,8,10,12,14]),([true,true,true,true,true,true,false],[2,4,6,6,6,6,6,6,6,6,8,10,12,14]),([true,true,true,true,false,true,true],[2,4,6,6,6,6,6,6,6,6,8,10,12,14]),([true,true,true,true,false,true,false],[2,4,6,6,6,6,6,6,6,6,8,10,12,14]),([ff],[2])] :=
  ⟨by kernel_rfl,by kernel_rfl,by kernel_rfl,by kernel_rfl,by kernel_rfl,trivial⟩
theorem ok75_0_1_t (x1:(List Int)) (x2:Int) (x3:Int) (b0_0:(List Int)) (b0_1:(List Int)) (b0_2:Int) (b0_3:Int) (b1_0:(List (Int×(Int×Unit)))):TrOk (BodyRuns Go.Proofs.Tryz.prog (kf125 Go.Proofs.Tryz.prog).orc 75 0 sh75_0_1 shb75_0_1 shr75_0_1 ((x1,x2,x3,()),(b0_0,b0_1,b0_2,b0_3,()),(b1_0,()),())) (t75_0_1 x1 x2 x3 b0_0 b0_1 b0_2 b0_3 b1_0) :=
  Walks.ok (fun _ _ _=>BodyRuns.of) (wk75_0_1 x1 x2 x3 b0_0 b0_1 b0_2 b0_3 b1_0) (by kernel_rfl)
theorem ok75_0_1:LoopOk Go.Proofs.Tryz.prog 75 0 lc75_0_1:=loopOk_of (sh:=sh75_0_1) (shB:=shb75_0_1) (shR:=shr75_0_1) kf125_ok.base (T:=fun (d:sh75_0_1.data)=>t75_0_1 d.1.1 d.1.2.1 d.1.2.2.1 d.2.1.1 d.2.1.2.1 d.2.1.2.2.1 d.2.1.2.2.2.1 d.2.2.1.1) (by kernel_rfl) rfl (fun (d:sh75_0_1.data)=>ok75_0_1_t d.1.1 d.1.2.1 d.1.2.2.1 d.2.1.1 d.2.1.2.1 d.2.1.2.2.1 d.2.1.2.2.2.1 d.2.2.1.1) (fun _=>rfl)
def kl75_0_1 (P:Go.Program):Known:=(kf125 P).loop 75 0 lc75_0_1
theorem kl75_0_1_ok:KnownOk Go.Proofs.Tryz.prog (kl75_0_1 Go.Proofs.Tryz.prog):=kf125_ok.loop ok75_0_1
abbrev as90:List Ty:=[(.pair (.pair (.slice (.int .i64)) (.pair (.slice (.int .i64)) .unit)) (.pair (.pair (.int .i64) (.pair (.int .i64) .unit)) .unit)),(.slice (.pair (.int .i64) (.pair (.int .i64) .unit)))]
abbrev rs90:List Ty:=[(.int .i64),(.int .i64)]
def t90 (x0_:(List Int)) (x0_':(List Int)) (x0'_:Int) (x0'_':Int) (x1:(List (Int×(Int×Unit)))):Tr (Tys.data rs90) :=
  Tr.test (Option.isSome (l75_0_1 ((x0_',((↑(List.length x0_'):Int),((0:Int),()))),((x0_,(x0_',(x0'_,(x0'_',())))),((x1,()),())))))
    (Tr.test (isRet (l75_0_1 ((x0_',((↑(List.length x0_'):Int),((0:Int),()))),((x0_,(x0_',(x0'_,(x0'_',())))),((x1,()),())))))
      (let r0:=r75_0_1 ((x0_',((↑(List.length x0_'):Int),((0:Int),()))),((x0_,(x0_',(x0'_,(x0'_',())))),((x1,()),())));
      Tr.fin ((r0.1.1,(r0.1.2.1,()))))
      (Tr.fin (((0:Int),((0:Int),())))))
    (Tr.stop)
def f90 (d:Tys.data as90):Option (Tys.data rs90):=(t90 d.1.1.1 d.1.1.2.1 d.1.2.1.1 d.1.2.1.2.1 d.2.1).val
def g90 (d:Tys.data as90):Tys.data rs90:=(f90 d).getD (Tys.dflt rs90)
def p90:PureC:=pcOf as90 rs90 f90 g90
theorem wk90 (x0_:(List Int)) (x0_':(List Int)) (x0'_:Int) (x0'_':Int) (x1:(List (Int×(Int×Unit)))):Walks (runPure (kl75_0_1 Go.Proofs.Tryz.prog).orc Go.Proofs.Tryz.prog 400 90 as90 rs90 (((x0_,x0_',()),(x0'_,x0'_',()),()),x1,())) (t90 x0_ x0_' x0'_ x0'_' x1) [([true,true],[2,4]),([true,false],[2,4])] :=
  ⟨by kernel_rfl,by kernel_rfl,trivial⟩
theorem ok90_t (x0_:(List Int)) (x0_':(List Int)) (x0'_:Int) (x0'_':Int) (x1:(List (Int×(Int×Unit)))):TrOk (PureRuns Go.Proofs.Tryz.prog (kl75_0_1 Go.Proofs.Tryz.prog).orc 90 as90 rs90 (((x0_,x0_',()),(x0'_,x0'_',()),()),x1,())) (t90 x0_ x0_' x0'_ x0'_' x1) :=
  Walks.ok (fun _ _ _=>PureRuns.of) (wk90 x0_ x0_' x0'_ x0'_' x1) (by kernel_rfl)
theorem ok90:PureOk Go.Proofs.Tryz.prog 90 p90:=pureOk_of kl75_0_1_ok.base (T:=fun (d:Tys.data as90)=>t90 d.1.1.1 d.1.1.2.1 d.1.2.1.1 d.1.2.1.2.1 d.2.1) (by kernel_rfl) (fun (d:Tys.data as90)=>ok90_t d.1.1.1 d.1.1.2.1 d.1.2.1.1 d.1.2.1.2.1 d.2.1)
def kf90 (P:Go.Program):Known:=(kl75_0_1 P).func 90 p90
theorem kf90_ok:KnownOk Go.Proofs.Tryz.prog (kf90 Go.Proofs.Tryz.prog):=kl75_0_1_ok.func ok90
abbrev sh86_0_1:Sh:={ n:=25,slots:=[1,9,10,11],pats:=[.fn 88 [],.ty (.slice (.pair (.int .i64) (.pair (.int .i64) .unit))),.ty (.int .i64),.ty (.int .i64)],boxes:=[] }
abbrev shb86_0_1:Sh:={ n:=25,slots:=[],pats:=[],boxes:=[] }
abbrev shr86_0_1:Sh:={ n:=25,slots:=[4,5],pats:=[.ty (.int .i64),.ty (.int .i64)],boxes:=[] }
def t86_0_1 (x1:(List (Int×(Int×Unit)))) (x2:Int) (x3:Int):Tr (Out sh86_0_1.data shb86_0_1.data shr86_0_1.data) :=
  Tr.test ((!leF x2 x3:Bool))
    (Tr.test (decide ((0:Int) ≤ x3) && decide (x3 < (↑(List.length x1):Int)))
      (Tr.test (Option.isSome (f89 ((((List.getD x1 (Int.toNat x3) ((0:Int),(0:Int),())).1:Int),(((List.getD x1 (Int.toNat x3) ((0:Int),(0:Int),())).2.1:Int),())),())))
        (let r0:=g89 ((((List.getD x1 (Int.toNat x3) ((0:Int),(0:Int),())).1:Int),(((List.getD x1 (Int.toNat x3) ((0:Int),(0:Int),())).2.1:Int),())),());
        Tr.test ((!eqF r0.1 0:Bool))
          (Tr.fin (.ret ((x3,(r0.1,())),())))
          (Tr.fin (.again ((x1,(x2,((wrap64 (x3 + (1:Int)):Int),()))),()))))
        (Tr.stop))
      (Tr.stop))
    (Tr.fin (.brk ((),())))
def s86_0_1 (d:sh86_0_1.data):Option (Out sh86_0_1.data shb86_0_1.data shr86_0_1.data):=(t86_0_1 d.1.1 d.1.2.1 d.1.2.2.1).val
def l86_0_1 (d:sh86_0_1.data):Option (shb86_0_1.data ⊕ shr86_0_1.data):=itr s86_0_1 rounds d
def b86_0_1 (d:sh86_0_1.data):shb86_0_1.data:=outB shb86_0_1.dflt (l86_0_1 d)
def r86_0_1 (d:sh86_0_1.data):shr86_0_1.data:=outR shr86_0_1.dflt (l86_0_1 d)
def lc86_0_1:LoopC:=lcOf sh86_0_1 shb86_0_1 shr86_0_1 l86_0_1 b86_0_1 r86_0_1
theorem wk86_0_1 (x1:(List (Int×(Int×Unit)))) (x2:Int) (x3:Int):Walks (runBody (kf90 Go.Proofs.Tryz.prog).orc Go.Proofs.Tryz.prog 400 86 0 sh86_0_1 shb86_0_1 shr86_0_1 ((x1,x2,x3,()),())) (t86_0_1 x1 x2 x3) [([true,true,true,true],[2,4,6,8]),([true,true,true,false],[2,4,6,8]),([ff],[2])] :=
  ⟨by kernel_rfl,by kernel_rfl,by kernel_rfl,trivial⟩
theorem ok86_0_1_t (x1:(List (Int×(Int×Unit)))) (x2:Int) (x3:Int):TrOk (BodyRuns Go.Proofs.Tryz.prog (kf90 Go.Proofs.Tryz.prog).orc 86 0 sh86_0_1 shb86_0_1 shr86_0_1 ((x1,x2,x3,()),())) (t86_0_1 x1 x2 x3) :=
  Walks.ok (fun _ _ _=>BodyRuns.of) (wk86_0_1 x1 x2 x3) (by kernel_rfl)
theorem ok86_0_1:LoopOk Go.Proofs.Tryz.prog 86 0 lc86_0_1:=loopOk_of (sh:=sh86_0_1) (shB:=shb86_0_1) (shR:=shr86_0_1) kf90_ok.base (T:=fun (d:sh86_0_1.data)=>t86_0_1 d.1.1 d.1.2.1 d.1.2.2.1) (by kernel_rfl) rfl (fun (d:sh86_0_1.data)=>ok86_0_1_t d.1.1 d.1.2.1 d.1.2.2.1) (fun _=>rfl)
def kl86_0_1 (P:Go.Program):Known:=(kf90 P).loop 86 0 lc86_0_1
theorem kl86_0_1_ok:KnownOk Go.Proofs.Tryz.prog (kl86_0_1 Go.Proofs.Tryz.prog):=kf90_ok.loop ok86_0_1
abbrev as24:List Ty:=[(.pair (.slice (.int .i64)) (.pair (.slice (.int .i64)) .unit)),(.int .i64),(.pair (.slice (.pair (.int .i64) (.pair (.int .i64) .unit))) (.pair (.slice (.pair (.int .i64) (.pair (.int .i64) .unit))) (.pair (.int .i64) .unit)))]
abbrev rs24:List Ty:=[(.int .i64),(.int .i64)]
def t24 (x0:(List Int)) (x0':(List Int)) (x1:Int) (x2:(List (Int×(Int×Unit)))) (x2':(List (Int×(Int×Unit)))) (x2'':Int):Tr (Tys.data rs24) :=
  Tr.test (Option.isSome (f79 ((x0,(x0',())),())))
    (let r0:=g79 ((x0,(x0',())),());
    Tr.test (Option.isSome (f82 (((r0.1.1.1,(r0.1.1.2.1,())),((r0.1.2.1.1,(r0.1.2.1.2.1,())),())),(x1,()))))
      (let r1:=g82 (((r0.1.1.1,(r0.1.1.2.1,())),((r0.1.2.1.1,(r0.1.2.1.2.1,())),())),(x1,()));
      Tr.test (Option.isSome (f64 (([r0.2.1,r1.1]:List Int),())))
        (let r2:=g64 (([r0.2.1,r1.1]:List Int),());
        Tr.test ((!eqF r2.1 0:Bool))
          (Tr.fin (((0:Int),(r2.1,()))))
          (Tr.test ((!eqF (↑(List.length x2):Int) (wrap64 (x1 + (1:Int))):Bool))
            (Tr.fin (((0:Int),((10:Int),()))))
            (Tr.test ((!eqF (↑(List.length x2'):Int) (wrap64 ((↑(List.length x0):Int) - wrap64 (x1 + (1:Int)))):Bool))
              (Tr.fin (((0:Int),((10:Int),()))))
              (Tr.test (Option.isSome (f87 (([x2,x2']:List (List (Int×Int×PUnit))),())))
                (let r3:=g87 (([x2,x2']:List (List (Int×Int×PUnit))),());
                Tr.test (Option.isSome (l86_0_1 ((r3.1,((↑(List.length r3.1):Int),((0:Int),()))),())))
                  (Tr.test (isRet (l86_0_1 ((r3.1,((↑(List.length r3.1):Int),((0:Int),()))),())))
                    (Tr.test (Option.isSome (f85 (((r0.1.1.1,(r0.1.1.2.1,())),((r0.1.2.1.1,(r0.1.2.1.2.1,())),())),((wrap64 (x1 + (1:Int)):Int),()))))
                      (let r5:=g85 (((r0.1.1.1,(r0.1.1.2.1,())),((r0.1.2.1.1,(r0.1.2.1.2.1,())),())),((wrap64 (x1 + (1:Int)):Int),()));
                      Tr.test (Option.isSome (f60 ((!eqF x2'' r5.1:Bool),((13:Int),()))))
                        (let r4:=r86_0_1 ((r3.1,((↑(List.length r3.1):Int),((0:Int),()))),());
                        let r6:=g60 ((!eqF x2'' r5.1:Bool),((13:Int),()));
                        Tr.test (Option.isSome (f64 (([r4.1.2.1,r6.1]:List Int),())))
                          (let r7:=g64 (([r4.1.2.1,r6.1]:List Int),());
                          Tr.test ((!eqF r7.1 0:Bool))
                            (Tr.fin ((r4.1.1,(r7.1,()))))
                            (Tr.test (Option.isSome (f83 (((r0.1.1.1,(r0.1.1.2.1,())),((r0.1.2.1.1,(r0.1.2.1.2.1,())),())),(x1,()))))
                              (let r8:=g83 (((r0.1.1.1,(r0.1.1.2.1,())),((r0.1.2.1.1,(r0.1.2.1.2.1,())),())),(x1,()));
                              Tr.test (Option.isSome (f90 (((r8.1.1.1,(r8.1.1.2.1,())),((r8.1.2.1.1,(r8.1.2.1.2.1,())),())),(x2,()))))
                                (let r9:=g90 (((r8.1.1.1,(r8.1.1.2.1,())),((r8.1.2.1.1,(r8.1.2.1.2.1,())),())),(x2,()));
                                Tr.test ((!eqF r9.2.1 0:Bool))
                                  (Tr.fin ((r9.1,(r9.2.1,()))))
                                  (Tr.test ((decide ((0:Int) ≤ x1) && decide (x1 < (↑(List.length x2):Int)):Bool))
                                    (Tr.test (Option.isSome (f84 (((r0.1.1.1,(r0.1.1.2.1,())),((r0.1.2.1.1,(r0.1.2.1.2.1,())),())),(x1,((((List.getD x2 (Int.toNat x1) ((0:Int),(0:Int),())).1:Int),(((List.getD x2 (Int.toNat x1) ((0:Int),(0:Int),())).2.1:Int),())),())))))
                                      (let r10:=g84 (((r0.1.1.1,(r0.1.1.2.1,())),((r0.1.2.1.1,(r0.1.2.1.2.1,())),())),(x1,((((List.getD x2 (Int.toNat x1) ((0:Int),(0:Int),())).1:Int),(((List.getD x2 (Int.toNat x1) ((0:Int),(0:Int),())).2.1:Int),())),())));
                                      Tr.test (Option.isSome (f90 (((r10.1.1.1,(r10.1.1.2.1,())),((r10.1.2.1.1,(r10.1.2.1.2.1,())),())),(x2',()))))
                                        (let r11:=g90 (((r10.1.1.1,(r10.1.1.2.1,())),((r10.1.2.1.1,(r10.1.2.1.2.1,())),())),(x2',()));
                                        Tr.test ((!eqF r11.2.1 0:Bool))
                                          (Tr.fin (((wrap64 (wrap64 (x1 + (1:Int)) + r11.1):Int),(r11.2.1,()))))
                                          (Tr.fin (((0:Int),((0:Int),())))))
                                        (Tr.stop))
                                      (Tr.stop))
                                    (Tr.stop)))
                                (Tr.stop))
                              (Tr.stop)))
                          (Tr.stop))
                        (Tr.stop))
                      (Tr.stop))
                    (Tr.test (Option.isSome (f85 (((r0.1.1.1,(r0.1.1.2.1,())),((r0.1.2.1.1,(r0.1.2.1.2.1,())),())),((wrap64 (x1 + (1:Int)):Int),()))))
                      (let r5:=g85 (((r0.1.1.1,(r0.1.1.2.1,())),((r0.1.2.1.1,(r0.1.2.1.2.1,())),())),((wrap64 (x1 + (1:Int)):Int),()));
                      Tr.test (Option.isSome (f60 ((!eqF x2'' r5.1:Bool),((13:Int),()))))
                        (let r6:=g60 ((!eqF x2'' r5.1:Bool),((13:Int),()));
                        Tr.test (Option.isSome (f64 (([(0:Int),r6.1]:List Int),())))
                          (let r12:=g64 (([(0:Int),r6.1]:List Int),());
                          Tr.test ((!eqF r12.1 0:Bool))
                            (Tr.fin (((0:Int),(r12.1,()))))
                            (Tr.test (Option.isSome (f83 (((r0.1.1.1,(r0.1.1.2.1,())),((r0.1.2.1.1,(r0.1.2.1.2.1,())),())),(x1,()))))
                              (let r8:=g83 (((r0.1.1.1,(r0.1.1.2.1,())),((r0.1.2.1.1,(r0.1.2.1.2.1,())),())),(x1,()));
                              Tr.test (Option.isSome (f90 (((r8.1.1.1,(r8.1.1.2.1,())),((r8.1.2.1.1,(r8.1.2.1.2.1,())),())),(x2,()))))
                                (let r9:=g90 (((r8.1.1.1,(r8.1.1.2.1,())),((r8.1.2.1.1,(r8.1.2.1.2.1,())),())),(x2,()));
                                Tr.test ((!eqF r9.2.1 0:Bool))
                                  (Tr.fin ((r9.1,(r9.2.1,()))))
                                  (Tr.test ((decide ((0:Int) ≤ x1) && decide (x1 < (↑(List.length x2):Int)):Bool))
                                    (Tr.test (Option.isSome (f84 (((r0.1.1.1,(r0.1.1.2.1,())),((r0.1.2.1.1,(r0.1.2.1.2.1,())),())),(x1,((((List.getD x2 (Int.toNat x1) ((0:Int),(0:Int),())).1:Int),(((List.getD x2 (Int.toNat x1) ((0:Int),(0:Int),())).2.1:Int),())),())))))
                                      (let r10:=g84 (((r0.1.1.1,(r0.1.1.2.1,())),((r0.1.2.1.1,(r0.1.2.1.2.1,())),())),(x1,((((List.getD x2 (Int.toNat x1) ((0:Int),(0:Int),())).1:Int),(((List.getD x2 (Int.toNat x1) ((0:Int),(0:Int),())).2.1:Int),())),())));
                                      Tr.test (Option.isSome (f90 (((r10.1.1.1,(r10.1.1.2.1,())),((r10.1.2.1.1,(r10.1.2.1.2.1,())),())),(x2',()))))
                                        (let r11:=g90 (((r10.1.1.1,(r10.1.1.2.1,())),((r10.1.2.1.1,(r10.1.2.1.2.1,())),())),(x2',()));
                                        Tr.test ((!eqF r11.2.1 0:Bool))
                                          (Tr.fin (((wrap64 (wrap64 (x1 + (1:Int)) + r11.1):Int),(r11.2.1,()))))
                                          (Tr.fin (((0:Int),((0:Int),())))))
                                        (Tr.stop))
                                      (Tr.stop))
                                    (Tr.stop)))
                                (Tr.stop))
                              (Tr.stop)))
                          (Tr.stop))
                        (Tr.stop))
                      (Tr.stop)))
                  (Tr.stop))
                (Tr.stop)))))
        (Tr.stop))
      (Tr.stop))
    (Tr.stop)
def f24 (d:Tys.data as24):Option (Tys.data rs24):=(t24 d.1.1 d.1.2.1 d.2.1 d.2.2.1.1 d.2.2.1.2.1 d.2.2.1.2.2.1).val
def g24 (d:Tys.data as24):Tys.data rs24:=(f24 d).getD (Tys.dflt rs24)
def p24:PureC:=pcOf as24 rs24 f24 g24
theorem wk24 (x0:(List Int)) (x0':(List Int)) (x1:Int) (x2:(List (Int×(Int×Unit)))) (x2':(List (Int×(Int×Unit)))) (x2'':Int):Walks (runPure (kl86_0_1 Go.Proofs.Tryz.prog).orc Go.Proofs.Tryz.prog 400 24 as24 rs24 ((x0,x0',()),x1,(x2,x2',x2'',()),())) (t24 x0 x0' x1 x2 x2' x2'') [([true,true,true,true],[2,4,6,8]),([true,true,true,false,true],[1,2,2,2,2,2,2,2,2,2,2,4,6,8,10]),([true,true,true,false,false,true],[2,4,4,4,4,4,4,4,4,4,4,6,8,10,12]),([true,true,true,false,false,false,true,true,true,true,true,true,true],[2,4,6,8,10,12,14,16,18,18,18,18,18,18,18,18,18,18,20,22,24,26]),([true,true,true,false,false,false,true,true,true,true,true,true,false,true,true,true],[2,4,6,8,10,12,14,16,18,20,22,24,24,24,24,24,24,24,24,24,24,26,28,30,32]),([true,true,true,false,false,false,true,true,true,true,true,true,false,true,true,false,true,true,true,true],[2,4,6,8,10,12,14,16,18,20,22,24,26,28,30,32,32,32,32,32,32,32,32,32,32,34,36,38,40]),([true,true,true,false,false,false,true,true,true,true,true,true,false,true,true,false,true,true,true,false],[2,4,6,8,10,12,14,16,18,20,22,24,26,28,30,32,32,32,32,32,32,32,32,32,32,34,36,38,40]),([true,true,true,false,false,false,true,true,false,true,true,true,true],[2,4,6,8,10,12,14,16,18,18,18,18,18,18,18,18,18,18,20,22,24,26]),([true,true,true,false,false,false,true,true,false,true,true,true,false,true,true,true],[2,4,6,8,10,12,14,16,18,20,22,24,24,24,24,24,24,24,24,24,24,26,28,30,32]),([true,true,true,false,false,false,true,true,false,true,true,true,false,true,true,false,true,true,true,true],[2,4,6,8,10,12,14,16,18,20,22,24,26,28,30,32,32,32,32,32,32,32,32,32,32,34,36,38,40]),([true,true,true,false,false,false,true,true,false,true,true,true,false,true,true,false,true,true,true,false],[2,4,6,8,10,12,14,16,18,20,22,24,26,28,30,32,32,32,32,32,32,32,32,32,32,34,36,38,40])] :=
  ⟨by kernel_rfl,by kernel_rfl,by kernel_rfl,by kernel_rfl,by kernel_rfl,by kernel_rfl,by kernel_rfl,by kernel_rfl,by kernel_rfl,by kernel_rfl,by kernel_rfl,trivial⟩
theorem ok24_t (x0:(List Int)) (x0':(List Int)) (x1:Int) (x2:(List (Int×(Int×Unit)))) (x2':(List (Int×(Int×Unit)))) (x2'':Int):TrOk (PureRuns Go.Proofs.Tryz.prog (kl86_0_1 Go.Proofs.Tryz.prog).orc 24 as24 rs24 ((x0,x0',()),x1,(x2,x2',x2'',()),())) (t24 x0 x0' x1 x2 x2' x2'') :=
  Walks.ok (fun _ _ _=>PureRuns.of) (wk24 x0 x0' x1 x2 x2' x2'') (by kernel_rfl)
theorem ok24:PureOk Go.Proofs.Tryz.prog 24 p24:=pureOk_of kl86_0_1_ok.base (T:=fun (d:Tys.data as24)=>t24 d.1.1 d.1.2.1 d.2.1 d.2.2.1.1 d.2.2.1.2.1 d.2.2.1.2.2.1) (by kernel_rfl) (fun (d:Tys.data as24)=>ok24_t d.1.1 d.1.2.1 d.2.1 d.2.2.1.1 d.2.2.1.2.1 d.2.2.1.2.2.1)
def kf24 (P:Go.Program):Known:=(kl86_0_1 P).func 24 p24
theorem kf24_ok:KnownOk Go.Proofs.Tryz.prog (kf24 Go.Proofs.Tryz.prog):=kl86_0_1_ok.func ok24
abbrev as26:List Ty:=[(.pair (.slice (.int .i64)) (.pair (.slice (.int .i64)) .unit))]
abbrev rs26:List Ty:=[(.pair (.int .i64) (.pair (.int .i64) .unit)),(.int .i64)]
def t26 (x0:(List Int)) (x0':(List Int)):Tr (Tys.data rs26) :=
  Tr.test (Option.isSome (f79 ((x0,(x0',())),())))
    (let r0:=g79 ((x0,(x0',())),());
    Tr.test ((!eqF r0.2.1 0:Bool))
      (Tr.fin ((((0:Int),((0:Int),())),(r0.2.1,()))))
      (Tr.test ((decide ((0:Int) ≤ wrap64 (wrap64 ((↑(List.length x0):Int) - (1:Int)) + (1:Int))) && decide (wrap64 (wrap64 ((↑(List.length x0):Int) - (1:Int)) + (1:Int)) ≤ wrap64 (wrap64 ((↑(List.length x0):Int) - (1:Int)) + (1:Int))) && decide ((8:Int) * wrap64 (wrap64 ((↑(List.length x0):Int) - (1:Int)) + (1:Int)) ≤ (281474976710656:Int)) && decide (wrap64 (wrap64 ((↑(List.length x0):Int) - (1:Int)) + (1:Int)) ≤ (281474976710656:Int)):Bool))
        (Tr.test ((decide ((0:Int) ≤ wrap64 ((↑(List.length x0):Int) - (1:Int))) && decide (wrap64 ((↑(List.length x0):Int) - (1:Int)) < (↑(Int.toNat (wrap64 (wrap64 ((↑(List.length x0):Int) - (1:Int)) + (1:Int)))):Int)):Bool))
          (Tr.test ((Nat.ble ((0:Nat) + Int.toNat (wrap64 ((↑(List.length x0):Int) - (1:Int))) + (1:Nat)) (List.length (List.replicate (Int.toNat (wrap64 (wrap64 ((↑(List.length x0):Int) - (1:Int)) + (1:Int)))) (0:Int))):Bool))
            (Tr.test ((Nat.beq (Int.toNat (wrap64 (wrap64 ((↑(List.length x0):Int) - (1:Int)) + (1:Int)))) (List.length (List.set (List.replicate (Int.toNat (wrap64 (wrap64 ((↑(List.length x0):Int) - (1:Int)) + (1:Int)))) (0:Int)) ((0:Nat) + Int.toNat (wrap64 ((↑(List.length x0):Int) - (1:Int)))) (1:Int))):Bool))
              (Tr.test (Option.isSome (f80 (((r0.1.1.1,((List.set (List.replicate (Int.toNat (wrap64 (wrap64 ((↑(List.length x0):Int) - (1:Int)) + (1:Int)))) (0:Int)) ((0:Nat) + Int.toNat (wrap64 ((↑(List.length x0):Int) - (1:Int)))) (1:Int):List Int),())),((r0.1.2.1.1,(r0.1.2.1.2.1,())),())),())))
                (let r1:=g80 (((r0.1.1.1,((List.set (List.replicate (Int.toNat (wrap64 (wrap64 ((↑(List.length x0):Int) - (1:Int)) + (1:Int)))) (0:Int)) ((0:Nat) + Int.toNat (wrap64 ((↑(List.length x0):Int) - (1:Int)))) (1:Int):List Int),())),((r0.1.2.1.1,(r0.1.2.1.2.1,())),())),());
                Tr.test ((decide ((0:Int) ≤ wrap64 ((↑(List.length x0):Int) - (1:Int))) && decide (wrap64 ((↑(List.length x0):Int) - (1:Int)) < (↑(List.length r1.1):Int)):Bool))
                  (Tr.fin (((((List.getD r1.1 (Int.toNat (wrap64 ((↑(List.length x0):Int) - (1:Int)))) ((0:Int),(0:Int),())).2.1:Int),(((List.getD r1.1 (Int.toNat (wrap64 ((↑(List.length x0):Int) - (1:Int)))) ((0:Int),(0:Int),())).1:Int),())),((0:Int),()))))
                  (Tr.stop))
                (Tr.stop))
              (Tr.stop))
            (Tr.stop))
          (Tr.stop))
        (Tr.stop)))
    (Tr.stop)
def f26 (d:Tys.data as26):Option (Tys.data rs26):=(t26 d.1.1 d.1.2.1).val
def g26 (d:Tys.data as26):Tys.data rs26:=(f26 d).getD (Tys.dflt rs26)
def p26:PureC:=pcOf as26 rs26 f26 g26
theorem wk26 (x0:(List Int)) (x0':(List Int)):Walks (runPure (kf24 Go.Proofs.Tryz.prog).orc Go.Proofs.Tryz.prog 400 26 as26 rs26 ((x0,x0',()),())) (t26 x0 x0') [([true,true],[2,4]),([true,false,true,true,true,true,true,true],[2,4,6,8,10,12,14,16])] :=
  ⟨by kernel_rfl,by kernel_rfl,trivial⟩
theorem ok26_t (x0:(List Int)) (x0':(List Int)):TrOk (PureRuns Go.Proofs.Tryz.prog (kf24 Go.Proofs.Tryz.prog).orc 26 as26 rs26 ((x0,x0',()),())) (t26 x0 x0') :=
  Walks.ok (fun _ _ _=>PureRuns.of) (wk26 x0 x0') (by kernel_rfl)
theorem ok26:PureOk Go.Proofs.Tryz.prog 26 p26:=pureOk_of kf24_ok.base (T:=fun (d:Tys.data as26)=>t26 d.1.1 d.1.2.1) (by kernel_rfl) (fun (d:Tys.data as26)=>ok26_t d.1.1 d.1.2.1)
def kf26 (P:Go.Program):Known:=(kf24 P).func 26 p26
theorem kf26_ok:KnownOk Go.Proofs.Tryz.prog (kf26 Go.Proofs.Tryz.prog):=kf24_ok.func ok26
abbrev as32:List Ty:=[(.int .i64),(.int .i64),(.int .i64)]
abbrev rs32:List Ty:=[.bool]
def t32 (x0:Int) (x1:Int) (x2:Int):Tr (Tys.data rs32) :=
  Tr.test ((leF x1 x0:Bool))
    (Tr.fin ((leF x0 x2,())))
    (Tr.fin ((false,())))
def f32 (d:Tys.data as32):Option (Tys.data rs32):=(t32 d.1 d.2.1 d.2.2.1).val
def g32 (d:Tys.data as32):Tys.data rs32:=(f32 d).getD (Tys.dflt rs32)
def p32:PureC:=pcOf as32 rs32 f32 g32
theorem wk32 (x0:Int) (x1:Int) (x2:Int):Walks (runPure (kf26 Go.Proofs.Tryz.prog).orc Go.Proofs.Tryz.prog 400 32 as32 rs32 (x0,x1,x2,())) (t32 x0 x1 x2) [([tt],[2,2,2,2]),([ff],[2,2,2,2])] :=
  ⟨by kernel_rfl,by kernel_rfl,trivial⟩
theorem ok32_t (x0:Int) (x1:Int) (x2:Int):TrOk (PureRuns Go.Proofs.Tryz.prog (kf26 Go.Proofs.Tryz.prog).orc 32 as32 rs32 (x0,x1,x2,())) (t32 x0 x1 x2) :=
  Walks.ok (fun _ _ _=>PureRuns.of) (wk32 x0 x1 x2) (by kernel_rfl)
theorem ok32:PureOk Go.Proofs.Tryz.prog 32 p32:=pureOk_of kf26_ok.base (T:=fun (d:Tys.data as32)=>t32 d.1 d.2.1 d.2.2.1) (by kernel_rfl) (fun (d:Tys.data as32)=>ok32_t d.1 d.2.1 d.2.2.1)
def kf32 (P:Go.Program):Known:=(kf26 P).func 32 p32
theorem kf32_ok:KnownOk Go.Proofs.Tryz.prog (kf32 Go.Proofs.Tryz.prog):=kf26_ok.func ok32
abbrev sh27_0:Sh:={ n:=46,slots:=[1,4],pats:=[.ptr 0 2 0,.ty (.int .i64)],boxes:=[.row [.ty (.slice (.int .i64)),.ty (.slice (.int .i64))]] }
abbrev shb27_0:Sh:={ n:=46,slots:=[],pats:=[],boxes:=[.row [.ty (.slice (.int .i64)),.ty (.slice (.int .i64))]] }
abbrev shr27_0:Sh:={ n:=46,slots:=[2,3],pats:=[.ty (.int .i64),.ty (.int .i64)],boxes:=[.row [.ty (.slice (.int .i64)),.ty (.slice (.int .i64))]] }
def t27_0 (x1:Int) (b0_0:(List Int)) (b0_1:(List Int)):Tr (Out sh27_0.data shb27_0.data shr27_0.data) :=
  Tr.test ((!leF (↑(List.length b0_0):Int) x1:Bool))
    (Tr.test (decide ((0:Int) ≤ x1) && decide (x1 < (↑(List.length b0_0):Int)))
      (Tr.test (Option.isSome (f32 ((List.getD b0_0 (Int.toNat x1) (0:Int):Int),((1:Int),((20:Int),())))))
        (let r0:=g32 ((List.getD b0_0 (Int.toNat x1) (0:Int):Int),((1:Int),((20:Int),())));
        Tr.test ((!r0.1:Bool))
          (Tr.fin (.ret ((x1,((2:Int),())),((b0_0,(b0_1,())),()))))
          (Tr.test ((decide ((0:Int) ≤ x1) && decide (x1 < (↑(List.length b0_1):Int)):Bool))
            (Tr.test (Option.isSome (f32 ((List.getD b0_1 (Int.toNat x1) (0:Int):Int),((-1000:Int),((1000:Int),())))))
              (let r1:=g32 ((List.getD b0_1 (Int.toNat x1) (0:Int):Int),((-1000:Int),((1000:Int),())));
              Tr.test ((!r1.1:Bool))
                (Tr.fin (.ret ((x1,((2:Int),())),((b0_0,(b0_1,())),()))))
                (Tr.fin (.again (((wrap64 (x1 + (1:Int)):Int),()),((b0_0,(b0_1,())),())))))
              (Tr.stop))
            (Tr.stop)))
        (Tr.stop))
      (Tr.stop))
    (Tr.fin (.brk ((),((b0_0,(b0_1,())),()))))
def s27_0 (d:sh27_0.data):Option (Out sh27_0.data shb27_0.data shr27_0.data):=(t27_0 d.1.1 d.2.1.1 d.2.1.2.1).val
def l27_0 (d:sh27_0.data):Option (shb27_0.data ⊕ shr27_0.data):=itr s27_0 rounds d
def b27_0 (d:sh27_0.data):shb27_0.data:=outB shb27_0.dflt (l27_0 d)
def r27_0 (d:sh27_0.data):shr27_0.data:=outR shr27_0.dflt (l27_0 d)
def lc27_0:LoopC:=lcOf sh27_0 shb27_0 shr27_0 l27_0 b27_0 r27_0
theorem wk27_0 (x1:Int) (b0_0:(List Int)) (b0_1:(List Int)):Walks (runBody (kf32 Go.Proofs.Tryz.prog).orc Go.Proofs.Tryz.prog 400 27 0 sh27_0 shb27_0 shr27_0 ((x1,()),(b0_0,b0_1,()),())) (t27_0 x1 b0_0 b0_1) [([true,true,true,true],[1,2,2,2,2,2,2,2,2,4,6,8]),([true,true,true,false,true,true,true],[2,8,8,4,8,8,6,8,8,8,8,10,12,14]),([true,true,true,false,true,true,false],[2,8,8,4,8,8,6,8,8,8,8,10,12,14]),([ff],[2])] :=
  ⟨by kernel_rfl,by kernel_rfl,by kernel_rfl,by kernel_rfl,trivial⟩
theorem ok27_0_t (x1:Int) (b0_0:(List Int)) (b0_1:(List Int)):TrOk (BodyRuns Go.Proofs.Tryz.prog (kf32 Go.Proofs.Tryz.prog).orc 27 0 sh27_0 shb27_0 shr27_0 ((x1,()),(b0_0,b0_1,()),())) (t27_0 x1 b0_0 b0_1) :=
  Walks.ok (fun _ _ _=>BodyRuns.of) (wk27_0 x1 b0_0 b0_1) (by kernel_rfl)
theorem ok27_0:LoopOk Go.Proofs.Tryz.prog 27 0 lc27_0:=loopOk_of (sh:=sh27_0) (shB:=shb27_0) (shR:=shr27_0) kf32_ok.base (T:=fun (d:sh27_0.data)=>t27_0 d.1.1 d.2.1.1 d.2.1.2.1) (by kernel_rfl) rfl (fun (d:sh27_0.data)=>ok27_0_t d.1.1 d.2.1.1 d.2.1.2.1) (fun _=>rfl)
def kl27_0 (P:Go.Program):Known:=(kf32 P).loop 27 0 lc27_0
theorem kl27_0_ok:KnownOk Go.Proofs.Tryz.prog (kl27_0 Go.Proofs.Tryz.prog):=kf32_ok.loop ok27_0
abbrev as27:List Ty:=[(.pair (.slice (.int .i64)) (.pair (.slice (.int .i64)) .unit))]
abbrev rs27:List Ty:=[(.int .i64),(.int .i64)]
def t27 (x0:(List Int)) (x0':(List Int)):Tr (Tys.data rs27) :=
  Tr.test ((eqF (↑(List.length x0):Int) (0:Int):Bool))
    (Tr.fin (((0:Int),((10:Int),()))))
    (Tr.test (!eqF (↑(List.length x0'):Int) (↑(List.length x0):Int))
      (Tr.fin (((0:Int),((10:Int),()))))
      (Tr.test ((!leF (↑(List.length x0):Int) (6:Int):Bool))
        (Tr.fin (((0:Int),((8:Int),()))))
        (Tr.test (Option.isSome (l27_0 (((0:Int),()),((x0,(x0',())),()))))
          (Tr.test (isRet (l27_0 (((0:Int),()),((x0,(x0',())),()))))
            (let r0:=r27_0 (((0:Int),()),((x0,(x0',())),()));
            Tr.fin ((r0.1.1,(r0.1.2.1,()))))
            (Tr.fin (((0:Int),((0:Int),())))))
          (Tr.stop))))
def f27 (d:Tys.data as27):Option (Tys.data rs27):=(t27 d.1.1 d.1.2.1).val
def g27 (d:Tys.data as27):Tys.data rs27:=(f27 d).getD (Tys.dflt rs27)
def p27:PureC:=pcOf as27 rs27 f27 g27
theorem wk27 (x0:(List Int)) (x0':(List Int)):Walks (runPure (kl27_0 Go.Proofs.Tryz.prog).orc Go.Proofs.Tryz.prog 400 27 as27 rs27 ((x0,x0',()),())) (t27 x0 x0') [([tt],[1,2,2,2,2,2,2,2,2]),([false,true],[2,4,4,4,4,4,4,4,4]),([false,false,true],[2,4,6,6,6,6,6,6,6,6]),([false,false,false,true,true],[2,4,6,8,10,10,10,10,10,10,10,10]),([false,false,false,true,false],[2,4,6,8,10,10,10,10,10,10,10,10])] :=
  ⟨by kernel_rfl,by kernel_rfl,by kernel_rfl,by kernel_rfl,by kernel_rfl,trivial⟩
theorem ok27_t (x0:(List Int)) (x0':(List Int)):TrOk (PureRuns Go.Proofs.Tryz.prog (kl27_0 Go.Proofs.Tryz.prog).orc 27 as27 rs27 ((x0,x0',()),())) (t27 x0 x0') :=
  Walks.ok (fun _ _ _=>PureRuns.of) (wk27 x0 x0') (by kernel_rfl)
theorem ok27:PureOk Go.Proofs.Tryz.prog 27 p27:=pureOk_of kl27_0_ok.base (T:=fun (d:Tys.data as27)=>t27 d.1.1 d.1.2.1) (by kernel_rfl) (fun (d:Tys.data as27)=>ok27_t d.1.1 d.1.2.1)
def kf27 (P:Go.Program):Known:=(kl27_0 P).func 27 p27
theorem kf27_ok:KnownOk Go.Proofs.Tryz.prog (kf27 Go.Proofs.Tryz.prog):=kl27_0_ok.func ok27
abbrev as28:List Ty:=[(.pair (.slice (.pair (.int .i64) (.pair (.int .i64) .unit))) (.pair (.slice (.pair (.int .i64) (.pair (.int .i64) .unit))) (.pair (.int .i64) .unit))),(.pair (.slice (.pair (.int .i64) (.pair (.int .i64) .unit))) (.pair (.slice (.pair (.int .i64) (.pair (.int .i64) .unit))) (.pair (.int .i64) .unit)))]
abbrev rs28:List Ty:=[.bool]
def t28 (x0:(List (Int×(Int×Unit)))) (x0':(List (Int×(Int×Unit)))) (x0'':Int) (x1:(List (Int×(Int×Unit)))) (x1':(List (Int×(Int×Unit)))) (x1'':Int):Tr (Tys.data rs28) :=
  Tr.test (Option.isSome (f31 (x0,(x1,()))))
    (let r0:=g31 (x0,(x1,()));
    Tr.test (r0.1)
      (Tr.test (Option.isSome (f31 (x0',(x1',()))))
        (let r1:=g31 (x0',(x1',()));
        Tr.test (r1.1)
          (Tr.fin (((eqF x0'' x1'':Bool),())))
          (Tr.fin (((false:Bool),()))))
        (Tr.stop))
      (Tr.fin (((false:Bool),()))))
    (Tr.stop)
def f28 (d:Tys.data as28):Option (Tys.data rs28):=(t28 d.1.1 d.1.2.1 d.1.2.2.1 d.2.1.1 d.2.1.2.1 d.2.1.2.2.1).val
def g28 (d:Tys.data as28):Tys.data rs28:=(f28 d).getD (Tys.dflt rs28)
def p28:PureC:=pcOf as28 rs28 f28 g28
theorem wk28 (x0:(List (Int×(Int×Unit)))) (x0':(List (Int×(Int×Unit)))) (x0'':Int) (x1:(List (Int×(Int×Unit)))) (x1':(List (Int×(Int×Unit)))) (x1'':Int):Walks (runPure (kf27 Go.Proofs.Tryz.prog).orc Go.Proofs.Tryz.prog 400 28 as28 rs28 ((x0,x0',x0'',()),(x1,x1',x1'',()),())) (t28 x0 x0' x0'' x1 x1' x1'') [([true,true,true,true],[2,2,2,2,2,2,6,4,6,6,6,6,6,8]),([true,true,true,false],[2,2,2,2,2,2,6,4,6,6,6,6,6,8]),([true,false],[0,0,0,0,0,0,2,2,2,2,2,2,4])] :=
  ⟨by kernel_rfl,by kernel_rfl,by kernel_rfl,trivial⟩
theorem ok28_t (x0:(List (Int×(Int×Unit)))) (x0':(List (Int×(Int×Unit)))) (x0'':Int) (x1:(List (Int×(Int×Unit)))) (x1':(List (Int×(Int×Unit)))) (x1'':Int):TrOk (PureRuns Go.Proofs.Tryz.prog (kf27 Go.Proofs.Tryz.prog).orc 28 as28 rs28 ((x0,x0',x0'',()),(x1,x1',x1'',()),())) (t28 x0 x0' x0'' x1 x1' x1'') :=
  Walks.ok (fun _ _ _=>PureRuns.of) (wk28 x0 x0' x0'' x1 x1' x1'') (by kernel_rfl)
theorem ok28:PureOk Go.Proofs.Tryz.prog 28 p28:=pureOk_of kf27_ok.base (T:=fun (d:Tys.data as28)=>t28 d.1.1 d.1.2.1 d.1.2.2.1 d.2.1.1 d.2.1.2.1 d.2.1.2.2.1) (by kernel_rfl) (fun (d:Tys.data as28)=>ok28_t d.1.1 d.1.2.1 d.1.2.2.1 d.2.1.1 d.2.1.2.1 d.2.1.2.2.1)
def kf28 (P:Go.Program):Known:=(kf27 P).func 28 p28
theorem kf28_ok:KnownOk Go.Proofs.Tryz.prog (kf28 Go.Proofs.Tryz.prog):=kf27_ok.func ok28
abbrev as46:List Ty:=[(.int .i64)]
abbrev rs46:List Ty:=[(.int .i64)]
def t46 (x0:Int):Tr (Tys.data rs46) :=
  Tr.fin (((if x0 < Go.IntKind.wrap Go.IntKind.i64 ((0:Int) - x0) then Go.IntKind.wrap Go.IntKind.i64 ((0:Int) - x0) else x0:Int),()))
def f46 (d:Tys.data as46):Option (Tys.data rs46):=(t46 d.1).val
def g46 (d:Tys.data as46):Tys.data rs46:=(f46 d).getD (Tys.dflt rs46)
def p46:PureC:=pcOf as46 rs46 f46 g46
theorem wk46 (x0:Int):Walks (runPure (kf28 Go.Proofs.Tryz.prog).orc Go.Proofs.Tryz.prog 400 46 as46 rs46 (x0,())) (t46 x0) [([],[])] :=
  ⟨by kernel_rfl,trivial⟩
theorem ok46_t (x0:Int):TrOk (PureRuns Go.Proofs.Tryz.prog (kf28 Go.Proofs.Tryz.prog).orc 46 as46 rs46 (x0,())) (t46 x0) :=
  Walks.ok (fun _ _ _=>PureRuns.of) (wk46 x0) (by kernel_rfl)
theorem ok46:PureOk Go.Proofs.Tryz.prog 46 p46:=pureOk_of kf28_ok.base (T:=fun (d:Tys.data as46)=>t46 d.1) (by kernel_rfl) (fun (d:Tys.data as46)=>ok46_t d.1)
def kf46 (P:Go.Program):Known:=(kf28 P).func 46 p46
theorem kf46_ok:KnownOk Go.Proofs.Tryz.prog (kf46 Go.Proofs.Tryz.prog):=kf28_ok.func ok46
abbrev sh91_0:Sh:={ n:=13,slots:=[0,1],pats:=[.ty (.int .i64),.ty (.int .i64)],boxes:=[] }
abbrev shb91_0:Sh:={ n:=13,slots:=[0],pats:=[.ty (.int .i64)],boxes:=[] }
abbrev shr91_0:Sh:={ n:=13,slots:=[],pats:=[],boxes:=[] }
def t91_0 (x0:Int) (x1:Int):Tr (Out sh91_0.data shb91_0.data shr91_0.data) :=
  Tr.test ((!eqF x1 0:Bool))
    (Tr.test (x1 == (0:Int))
      (Tr.stop)
      (Tr.fin (.again ((x1,((Int.tmod x0 x1:Int),())),()))))
    (Tr.fin (.brk ((x0,()),())))
def s91_0 (d:sh91_0.data):Option (Out sh91_0.data shb91_0.data shr91_0.data):=(t91_0 d.1.1 d.1.2.1).val
def l91_0 (d:sh91_0.data):Option (shb91_0.data ⊕ shr91_0.data):=itr s91_0 rounds d
def b91_0 (d:sh91_0.data):shb91_0.data:=outB shb91_0.dflt (l91_0 d)
def lc91_0:LoopC:=lcB sh91_0 shb91_0 shr91_0 l91_0 b91_0
theorem wk91_0 (x0:Int) (x1:Int):Walks (runBody (kf46 Go.Proofs.Tryz.prog).orc Go.Proofs.Tryz.prog 400 91 0 sh91_0 shb91_0 shr91_0 ((x0,x1,()),())) (t91_0 x0 x1) [([true,false],[2,4]),([ff],[2])] :=
  ⟨by kernel_rfl,by kernel_rfl,trivial⟩
theorem ok91_0_t (x0:Int) (x1:Int):TrOk (BodyRuns Go.Proofs.Tryz.prog (kf46 Go.Proofs.Tryz.prog).orc 91 0 sh91_0 shb91_0 shr91_0 ((x0,x1,()),())) (t91_0 x0 x1) :=
  Walks.ok (fun _ _ _=>BodyRuns.of) (wk91_0 x0 x1) (by kernel_rfl)
theorem ok91_0:LoopOk Go.Proofs.Tryz.prog 91 0 lc91_0:=loopOk_ofB (sh:=sh91_0) (shB:=shb91_0) (shR:=shr91_0) kf46_ok.base (T:=fun (d:sh91_0.data)=>t91_0 d.1.1 d.1.2.1) (by kernel_rfl) rfl (fun (d:sh91_0.data)=>ok91_0_t d.1.1 d.1.2.1) (fun _=>rfl)
def kl91_0 (P:Go.Program):Known:=(kf46 P).loop 91 0 lc91_0
theorem kl91_0_ok:KnownOk Go.Proofs.Tryz.prog (kl91_0 Go.Proofs.Tryz.prog):=kf46_ok.loop ok91_0
abbrev as91:List Ty:=[(.int .i64),(.int .i64)]
abbrev rs91:List Ty:=[(.int .i64)]
def t91 (x0:Int) (x1:Int):Tr (Tys.data rs91) :=
  Tr.test (isBrk (l91_0 ((x0,(x1,())),())))
    (let r0:=b91_0 ((x0,(x1,())),());
    Tr.test (Option.isSome (f46 (r0.1.1,())))
      (let r1:=g46 (r0.1.1,());
      Tr.fin ((r1.1,())))
      (Tr.stop))
    (Tr.stop)
def f91 (d:Tys.data as91):Option (Tys.data rs91):=(t91 d.1 d.2.1).val
def g91 (d:Tys.data as91):Tys.data rs91:=(f91 d).getD (Tys.dflt rs91)
def p91:PureC:=pcOf as91 rs91 f91 g91
theorem wk91 (x0:Int) (x1:Int):Walks (runPure (kl91_0 Go.Proofs.Tryz.prog).orc Go.Proofs.Tryz.prog 400 91 as91 rs91 (x0,x1,())) (t91 x0 x1) [([true,true],[2,1,4])] :=
  ⟨by kernel_rfl,trivial⟩
theorem ok91_t (x0:Int) (x1:Int):TrOk (PureRuns Go.Proofs.Tryz.prog (kl91_0 Go.Proofs.Tryz.prog).orc 91 as91 rs91 (x0,x1,())) (t91 x0 x1) :=
  Walks.ok (fun _ _ _=>PureRuns.of) (wk91 x0 x1) (by kernel_rfl)
theorem ok91:PureOk Go.Proofs.Tryz.prog 91 p91:=pureOk_of kl91_0_ok.base (T:=fun (d:Tys.data as91)=>t91 d.1 d.2.1) (by kernel_rfl) (fun (d:Tys.data as91)=>ok91_t d.1 d.2.1)
def kf91 (P:Go.Program):Known:=(kl91_0 P).func 91 p91
theorem kf91_ok:KnownOk Go.Proofs.Tryz.prog (kf91 Go.Proofs.Tryz.prog):=kl91_0_ok.func ok91
abbrev as41:List Ty:=[(.int .i64),(.int .i64)]
abbrev rs41:List Ty:=[(.pair (.int .i64) (.pair (.int .i64) .unit))]
def t41 (x0:Int) (x1:Int):Tr (Tys.data rs41) :=
  Tr.test (Option.isSome (f91 (x0,(x1,()))))
    (Tr.test (!leF (0:Int) x1)
      (let r0:=g91 (x0,(x1,()));
      Tr.test ((Go.IntKind.wrap Go.IntKind.i64 ((0:Int) - r0.1) == (0:Int):Bool))
        (Tr.stop)
        (Tr.fin ((((Go.IntKind.wrap Go.IntKind.i64 (Int.tdiv x0 (Go.IntKind.wrap Go.IntKind.i64 ((0:Int) - r0.1))):Int),((Go.IntKind.wrap Go.IntKind.i64 (Int.tdiv x1 (Go.IntKind.wrap Go.IntKind.i64 ((0:Int) - r0.1))):Int),())),()))))
      (let r0:=g91 (x0,(x1,()));
      Tr.test ((r0.1 == (0:Int):Bool))
        (Tr.stop)
        (Tr.fin ((((Go.IntKind.wrap Go.IntKind.i64 (Int.tdiv x0 r0.1):Int),((Go.IntKind.wrap Go.IntKind.i64 (Int.tdiv x1 r0.1):Int),())),())))))
    (Tr.stop)
def f41 (d:Tys.data as41):Option (Tys.data rs41):=(t41 d.1 d.2.1).val
def g41 (d:Tys.data as41):Tys.data rs41:=(f41 d).getD (Tys.dflt rs41)
def p41:PureC:=pcOf as41 rs41 f41 g41
theorem wk41 (x0:Int) (x1:Int):Walks (runPure (kf91 Go.Proofs.Tryz.prog).orc Go.Proofs.Tryz.prog 400 41 as41 rs41 (x0,x1,())) (t41 x0 x1) [([true,true,false],[2,2,4,6]),([true,false,false],[2,2,4,6])] :=
  ⟨by kernel_rfl,by kernel_rfl,trivial⟩
theorem ok41_t (x0:Int) (x1:Int):TrOk (PureRuns Go.Proofs.Tryz.prog (kf91 Go.Proofs.Tryz.prog).orc 41 as41 rs41 (x0,x1,())) (t41 x0 x1) :=
  Walks.ok (fun _ _ _=>PureRuns.of) (wk41 x0 x1) (by kernel_rfl)
theorem ok41:PureOk Go.Proofs.Tryz.prog 41 p41:=pureOk_of kf91_ok.base (T:=fun (d:Tys.data as41)=>t41 d.1 d.2.1) (by kernel_rfl) (fun (d:Tys.data as41)=>ok41_t d.1 d.2.1)
def kf41 (P:Go.Program):Known:=(kf91 P).func 41 p41
theorem kf41_ok:KnownOk Go.Proofs.Tryz.prog (kf41 Go.Proofs.Tryz.prog):=kf91_ok.func ok41
abbrev sh29_0:Sh:={ n:=48,slots:=[1,2,3,4],pats:=[.ptr 0 2 0,.ptr 1 2 0,.ty (.int .i64),.ty (.int .i64)],boxes:=[.row [.ty (.slice (.int .i64)),.ty (.slice (.int .i64))],.row [.ty (.int .i64),.ty (.int .i64)]] }
abbrev shb29_0:Sh:={ n:=48,slots:=[1,2,3],pats:=[.ptr 0 2 0,.ptr 1 2 0,.ty (.int .i64)],boxes:=[.row [.ty (.slice (.int .i64)),.ty (.slice (.int .i64))],.row [.ty (.int .i64),.ty (.int .i64)]] }
abbrev shr29_0:Sh:={ n:=48,slots:=[],pats:=[],boxes:=[.row [.ty (.slice (.int .i64)),.ty (.slice (.int .i64))],.row [.ty (.int .i64),.ty (.int .i64)]] }
def t29_0 (x2:Int) (x3:Int) (b0_0:(List Int)) (b0_1:(List Int)) (b1_0:Int) (b1_1:Int):Tr (Out sh29_0.data shb29_0.data shr29_0.data) :=
  Tr.test ((!leF (↑(List.length b0_0):Int) x3:Bool))
    (Tr.test (decide ((0:Int) ≤ x3) && decide (x3 < (↑(List.length b0_0):Int)))
      (Tr.test (Option.isSome (f91 (x2,((List.getD b0_0 (Int.toNat x3) (0:Int):Int),()))))
        (let r0:=g91 (x2,((List.getD b0_0 (Int.toNat x3) (0:Int):Int),()));
        Tr.test ((r0.1 == (0:Int):Bool))
          (Tr.stop)
          (Tr.fin (.again (((wrap64 (Go.IntKind.wrap Go.IntKind.i64 (Int.tdiv x2 r0.1) * List.getD b0_0 (Int.toNat x3) (0:Int)):Int),((wrap64 (x3 + (1:Int)):Int),())),((b0_0,(b0_1,())),((b1_0,(b1_1,())),()))))))
        (Tr.stop))
      (Tr.stop))
    (Tr.fin (.brk ((x2,()),((b0_0,(b0_1,())),((b1_0,(b1_1,())),())))))
def s29_0 (d:sh29_0.data):Option (Out sh29_0.data shb29_0.data shr29_0.data):=(t29_0 d.1.1 d.1.2.1 d.2.1.1 d.2.1.2.1 d.2.2.1.1 d.2.2.1.2.1).val
def l29_0 (d:sh29_0.data):Option (shb29_0.data ⊕ shr29_0.data):=itr s29_0 rounds d
def b29_0 (d:sh29_0.data):shb29_0.data:=outB shb29_0.dflt (l29_0 d)
def lc29_0:LoopC:=lcB sh29_0 shb29_0 shr29_0 l29_0 b29_0
theorem wk29_0 (x2:Int) (x3:Int) (b0_0:(List Int)) (b0_1:(List Int)) (b1_0:Int) (b1_1:Int):Walks (runBody (kf41 Go.Proofs.Tryz.prog).orc Go.Proofs.Tryz.prog 400 29 0 sh29_0 shb29_0 shr29_0 ((x2,x3,()),(b0_0,b0_1,()),(b1_0,b1_1,()),())) (t29_0 x2 x3 b0_0 b0_1 b1_0 b1_1) [([true,true,true,false],[6,2,4,6,8]),([ff],[2])] :=
  ⟨by kernel_rfl,by kernel_rfl,trivial⟩
theorem ok29_0_t (x2:Int) (x3:Int) (b0_0:(List Int)) (b0_1:(List Int)) (b1_0:Int) (b1_1:Int):TrOk (BodyRuns Go.Proofs.Tryz.prog (kf41 Go.Proofs.Tryz.prog).orc 29 0 sh29_0 shb29_0 shr29_0 ((x2,x3,()),(b0_0,b0_1,()),(b1_0,b1_1,()),())) (t29_0 x2 x3 b0_0 b0_1 b1_0 b1_1) :=
  Walks.ok (fun _ _ _=>BodyRuns.of) (wk29_0 x2 x3 b0_0 b0_1 b1_0 b1_1) (by kernel_rfl)
theorem ok29_0:LoopOk Go.Proofs.Tryz.prog 29 0 lc29_0:=loopOk_ofB (sh:=sh29_0) (shB:=shb29_0) (shR:=shr29_0) kf41_ok.base (T:=fun (d:sh29_0.data)=>t29_0 d.1.1 d.1.2.1 d.2.1.1 d.2.1.2.1 d.2.2.1.1 d.2.2.1.2.1) (by kernel_rfl) rfl (fun (d:sh29_0.data)=>ok29_0_t d.1.1 d.1.2.1 d.2.1.1 d.2.1.2.1 d.2.2.1.1 d.2.2.1.2.1) (fun _=>rfl)
def kl29_0 (P:Go.Program):Known:=(kf41 P).loop 29 0 lc29_0
theorem kl29_0_ok:KnownOk Go.Proofs.Tryz.prog (kl29_0 Go.Proofs.Tryz.prog):=kf41_ok.loop ok29_0
abbrev sh29_2:Sh:={ n:=48,slots:=[1,2,3,5,6],pats:=[.ptr 0 2 0,.ptr 1 2 0,.ty (.int .i64),.ty (.int .i64),.ty (.int .i64)],boxes:=[.row [.ty (.slice (.int .i64)),.ty (.slice (.int .i64))],.row [.ty (.int .i64),.ty (.int .i64)]] }
abbrev shb29_2:Sh:={ n:=48,slots:=[2,3,5],pats:=[.ptr 1 2 0,.ty (.int .i64),.ty (.int .i64)],boxes:=[.row [.ty (.slice (.int .i64)),.ty (.slice (.int .i64))],.row [.ty (.int .i64),.ty (.int .i64)]] }
abbrev shr29_2:Sh:={ n:=48,slots:=[],pats:=[],boxes:=[.row [.ty (.slice (.int .i64)),.ty (.slice (.int .i64))],.row [.ty (.int .i64),.ty (.int .i64)]] }
def t29_2 (x2:Int) (x3:Int) (x4:Int) (b0_0:(List Int)) (b0_1:(List Int)) (b1_0:Int) (b1_1:Int):Tr (Out sh29_2.data shb29_2.data shr29_2.data) :=
  Tr.test ((!leF (↑(List.length b0_0):Int) x4:Bool))
    (Tr.test (decide ((0:Int) ≤ x4) && decide (x4 < (↑(List.length b0_0):Int)))
      (Tr.test ((List.getD b0_0 (Int.toNat x4) (0:Int) == (0:Int):Bool))
        (Tr.stop)
        (Tr.fin (.again ((x2,((wrap64 (x3 + Go.IntKind.wrap Go.IntKind.i64 (Int.tdiv x2 (List.getD b0_0 (Int.toNat x4) (0:Int)))):Int),((wrap64 (x4 + (1:Int)):Int),()))),((b0_0,(b0_1,())),((b1_0,(b1_1,())),()))))))
      (Tr.stop))
    (Tr.fin (.brk ((x2,(x3,())),((b0_0,(b0_1,())),((b1_0,(b1_1,())),())))))
def s29_2 (d:sh29_2.data):Option (Out sh29_2.data shb29_2.data shr29_2.data):=(t29_2 d.1.1 d.1.2.1 d.1.2.2.1 d.2.1.1 d.2.1.2.1 d.2.2.1.1 d.2.2.1.2.1).val
def l29_2 (d:sh29_2.data):Option (shb29_2.data ⊕ shr29_2.data):=itr s29_2 rounds d
def b29_2 (d:sh29_2.data):shb29_2.data:=outB shb29_2.dflt (l29_2 d)
def lc29_2:LoopC:=lcB sh29_2 shb29_2 shr29_2 l29_2 b29_2
theorem wk29_2 (x2:Int) (x3:Int) (x4:Int) (b0_0:(List Int)) (b0_1:(List Int)) (b1_0:Int) (b1_1:Int):Walks (runBody (kl29_0 Go.Proofs.Tryz.prog).orc Go.Proofs.Tryz.prog 400 29 2 sh29_2 shb29_2 shr29_2 ((x2,x3,x4,()),(b0_0,b0_1,()),(b1_0,b1_1,()),())) (t29_2 x2 x3 x4 b0_0 b0_1 b1_0 b1_1) [([true,true,false],[2,4,6]),([ff],[2])] :=
  ⟨by kernel_rfl,by kernel_rfl,trivial⟩
theorem ok29_2_t (x2:Int) (x3:Int) (x4:Int) (b0_0:(List Int)) (b0_1:(List Int)) (b1_0:Int) (b1_1:Int):TrOk (BodyRuns Go.Proofs.Tryz.prog (kl29_0 Go.Proofs.Tryz.prog).orc 29 2 sh29_2 shb29_2 shr29_2 ((x2,x3,x4,()),(b0_0,b0_1,()),(b1_0,b1_1,()),())) (t29_2 x2 x3 x4 b0_0 b0_1 b1_0 b1_1) :=
  Walks.ok (fun _ _ _=>BodyRuns.of) (wk29_2 x2 x3 x4 b0_0 b0_1 b1_0 b1_1) (by kernel_rfl)
theorem ok29_2:LoopOk Go.Proofs.Tryz.prog 29 2 lc29_2:=loopOk_ofB (sh:=sh29_2) (shB:=shb29_2) (shR:=shr29_2) kl29_0_ok.base (T:=fun (d:sh29_2.data)=>t29_2 d.1.1 d.1.2.1 d.1.2.2.1 d.2.1.1 d.2.1.2.1 d.2.2.1.1 d.2.2.1.2.1) (by kernel_rfl) rfl (fun (d:sh29_2.data)=>ok29_2_t d.1.1 d.1.2.1 d.1.2.2.1 d.2.1.1 d.2.1.2.1 d.2.2.1.1 d.2.2.1.2.1) (fun _=>rfl)
def kl29_2 (P:Go.Program):Known:=(kl29_0 P).loop 29 2 lc29_2
theorem kl29_2_ok:KnownOk Go.Proofs.Tryz.prog (kl29_2 Go.Proofs.Tryz.prog):=kl29_0_ok.loop ok29_2
abbrev as29:List Ty:=[(.pair (.slice (.int .i64)) (.pair (.slice (.int .i64)) .unit))]
abbrev rs29:List Ty:=[(.pair (.int .i64) (.pair (.int .i64) .unit))]
def t29 (x0:(List Int)) (x0':(List Int)):Tr (Tys.data rs29) :=
  Tr.test (isBrk (l29_0 (((1:Int),((0:Int),())),((x0,(x0',())),(((0:Int),((0:Int),())),())))))
    (let r0:=b29_0 (((1:Int),((0:Int),())),((x0,(x0',())),(((0:Int),((0:Int),())),())));
    Tr.test (isBrk (l29_2 ((r0.1.1,((0:Int),((0:Int),()))),((r0.2.1.1,(r0.2.1.2.1,())),((r0.2.2.1.1,(r0.2.2.1.2.1,())),())))))
      (let r1:=b29_2 ((r0.1.1,((0:Int),((0:Int),()))),((r0.2.1.1,(r0.2.1.2.1,())),((r0.2.2.1.1,(r0.2.2.1.2.1,())),())));
      Tr.test (Option.isSome (f41 (r1.1.1,(r1.1.2.1,()))))
        (let r2:=g41 (r1.1.1,(r1.1.2.1,()));
        Tr.fin (((r2.1.1,(r2.1.2.1,())),())))
        (Tr.stop))
      (Tr.stop))
    (Tr.stop)
def f29 (d:Tys.data as29):Option (Tys.data rs29):=(t29 d.1.1 d.1.2.1).val
def g29 (d:Tys.data as29):Tys.data rs29:=(f29 d).getD (Tys.dflt rs29)
def p29:PureC:=pcOf as29 rs29 f29 g29
theorem wk29 (x0:(List Int)) (x0':(List Int)):Walks (runPure (kl29_2 Go.Proofs.Tryz.prog).orc Go.Proofs.Tryz.prog 400 29 as29 rs29 ((x0,x0',()),())) (t29 x0 x0') [([true,true,true],[2,1,4,1,6])] :=
  ⟨by kernel_rfl,trivial⟩
theorem ok29_t (x0:(List Int)) (x0':(List Int)):TrOk (PureRuns Go.Proofs.Tryz.prog (kl29_2 Go.Proofs.Tryz.prog).orc 29 as29 rs29 ((x0,x0',()),())) (t29 x0 x0') :=
  Walks.ok (fun _ _ _=>PureRuns.of) (wk29 x0 x0') (by kernel_rfl)
theorem ok29:PureOk Go.Proofs.Tryz.prog 29 p29:=pureOk_of kl29_2_ok.base (T:=fun (d:Tys.data as29)=>t29 d.1.1 d.1.2.1) (by kernel_rfl) (fun (d:Tys.data as29)=>ok29_t d.1.1 d.1.2.1)
def kf29 (P:Go.Program):Known:=(kl29_2 P).func 29 p29
theorem kf29_ok:KnownOk Go.Proofs.Tryz.prog (kf29 Go.Proofs.Tryz.prog):=kl29_2_ok.func ok29
abbrev sh92_0:Sh:={ n:=24,slots:=[2,5,6],pats:=[.ptr 0 2 0,.ty (.int .i64),.ty (.int .i64)],boxes:=[.row [.ty (.slice (.int .i64)),.ty (.slice (.int .i64))]] }
abbrev shb92_0:Sh:={ n:=24,slots:=[5],pats:=[.ty (.int .i64)],boxes:=[.row [.ty (.slice (.int .i64)),.ty (.slice (.int .i64))]] }
abbrev shr92_0:Sh:={ n:=24,slots:=[],pats:=[],boxes:=[.row [.ty (.slice (.int .i64)),.ty (.slice (.int .i64))]] }
def t92_0 (x1:Int) (x2:Int) (b0_0:(List Int)) (b0_1:(List Int)):Tr (Out sh92_0.data shb92_0.data shr92_0.data) :=
  Tr.test ((!leF (↑(List.length b0_1):Int) x2:Bool))
    (Tr.test (decide ((0:Int) ≤ x2) && decide (x2 < (↑(List.length b0_1):Int)))
      (Tr.fin (.again (((wrap64 (x1 + List.getD b0_1 (Int.toNat x2) (0:Int)):Int),((wrap64 (x2 + (1:Int)):Int),())),((b0_0,(b0_1,())),()))))
      (Tr.stop))
    (Tr.fin (.brk ((x1,()),((b0_0,(b0_1,())),()))))
def s92_0 (d:sh92_0.data):Option (Out sh92_0.data shb92_0.data shr92_0.data):=(t92_0 d.1.1 d.1.2.1 d.2.1.1 d.2.1.2.1).val
def l92_0 (d:sh92_0.data):Option (shb92_0.data ⊕ shr92_0.data):=itr s92_0 rounds d
def b92_0 (d:sh92_0.data):shb92_0.data:=outB shb92_0.dflt (l92_0 d)
def lc92_0:LoopC:=lcB sh92_0 shb92_0 shr92_0 l92_0 b92_0
theorem wk92_0 (x1:Int) (x2:Int) (b0_0:(List Int)) (b0_1:(List Int)):Walks (runBody (kf29 Go.Proofs.Tryz.prog).orc Go.Proofs.Tryz.prog 400 92 0 sh92_0 shb92_0 shr92_0 ((x1,x2,()),(b0_0,b0_1,()),())) (t92_0 x1 x2 b0_0 b0_1) [([true,true],[2,4]),([ff],[2])] :=
  ⟨by kernel_rfl,by kernel_rfl,trivial⟩
theorem ok92_0_t (x1:Int) (x2:Int) (b0_0:(List Int)) (b0_1:(List Int)):TrOk (BodyRuns Go.Proofs.Tryz.prog (kf29 Go.Proofs.Tryz.prog).orc 92 0 sh92_0 shb92_0 shr92_0 ((x1,x2,()),(b0_0,b0_1,()),())) (t92_0 x1 x2 b0_0 b0_1) :=
  Walks.ok (fun _ _ _=>BodyRuns.of) (wk92_0 x1 x2 b0_0 b0_1) (by kernel_rfl)
theorem ok92_0:LoopOk Go.Proofs.Tryz.prog 92 0 lc92_0:=loopOk_ofB (sh:=sh92_0) (shB:=shb92_0) (shR:=shr92_0) kf29_ok.base (T:=fun (d:sh92_0.data)=>t92_0 d.1.1 d.1.2.1 d.2.1.1 d.2.1.2.1) (by kernel_rfl) rfl (fun (d:sh92_0.data)=>ok92_0_t d.1.1 d.1.2.1 d.2.1.1 d.2.1.2.1) (fun _=>rfl)
def kl92_0 (P:Go.Program):Known:=(kf29 P).loop 92 0 lc92_0
theorem kl92_0_ok:KnownOk Go.Proofs.Tryz.prog (kl92_0 Go.Proofs.Tryz.prog):=kf29_ok.loop ok92_0
abbrev as92:List Ty:=[(.pair (.slice (.int .i64)) (.pair (.slice (.int .i64)) .unit)),(.int .i64)]
abbrev rs92:List Ty:=[(.int .i64)]
def t92 (x0:(List Int)) (x0':(List Int)) (x1:Int):Tr (Tys.data rs92) :=
  Tr.test (isBrk (l92_0 (((0:Int),((wrap64 (x1 + (1:Int)):Int),())),((x0,(x0',())),()))))
    (let r0:=b92_0 (((0:Int),((wrap64 (x1 + (1:Int)):Int),())),((x0,(x0',())),()));
    Tr.fin ((r0.1.1,())))
    (Tr.stop)
def f92 (d:Tys.data as92):Option (Tys.data rs92):=(t92 d.1.1 d.1.2.1 d.2.1).val
def g92 (d:Tys.data as92):Tys.data rs92:=(f92 d).getD (Tys.dflt rs92)
def p92:PureC:=pcOf as92 rs92 f92 g92
theorem wk92 (x0:(List Int)) (x0':(List Int)) (x1:Int):Walks (runPure (kl92_0 Go.Proofs.Tryz.prog).orc Go.Proofs.Tryz.prog 400 92 as92 rs92 ((x0,x0',()),x1,())) (t92 x0 x0' x1) [([tt],[1,2])] :=
  ⟨by kernel_rfl,trivial⟩
theorem ok92_t (x0:(List Int)) (x0':(List Int)) (x1:Int):TrOk (PureRuns Go.Proofs.Tryz.prog (kl92_0 Go.Proofs.Tryz.prog).orc 92 as92 rs92 ((x0,x0',()),x1,())) (t92 x0 x0' x1) :=
  Walks.ok (fun _ _ _=>PureRuns.of) (wk92 x0 x0' x1) (by kernel_rfl)
theorem ok92:PureOk Go.Proofs.Tryz.prog 92 p92:=pureOk_of kl92_0_ok.base (T:=fun (d:Tys.data as92)=>t92 d.1.1 d.1.2.1 d.2.1) (by kernel_rfl) (fun (d:Tys.data as92)=>ok92_t d.1.1 d.1.2.1 d.2.1)
def kf92 (P:Go.Program):Known:=(kl92_0 P).func 92 p92
theorem kf92_ok:KnownOk Go.Proofs.Tryz.prog (kf92 Go.Proofs.Tryz.prog):=kl92_0_ok.func ok92
abbrev sh30_0:Sh:={ n:=75,slots:=[1,4,5],pats:=[.ptr 0 2 0,.ty (.int .i64),.ty (.int .i64)],boxes:=[.row [.ty (.slice (.int .i64)),.ty (.slice (.int .i64))]] }
abbrev shb30_0:Sh:={ n:=75,slots:=[1,4],pats:=[.ptr 0 2 0,.ty (.int .i64)],boxes:=[.row [.ty (.slice (.int .i64)),.ty (.slice (.int .i64))]] }
abbrev shr30_0:Sh:={ n:=75,slots:=[],pats:=[],boxes:=[.row [.ty (.slice (.int .i64)),.ty (.slice (.int .i64))]] }
def t30_0 (x1:Int) (x2:Int) (b0_0:(List Int)) (b0_1:(List Int)):Tr (Out sh30_0.data shb30_0.data shr30_0.data) :=
  Tr.test ((!leF (↑(List.length b0_0):Int) x2:Bool))
    (Tr.test (decide ((0:Int) ≤ x2) && decide (x2 < (↑(List.length b0_0):Int)))
      (Tr.test (Option.isSome (f91 (x1,((List.getD b0_0 (Int.toNat x2) (0:Int):Int),()))))
        (let r0:=g91 (x1,((List.getD b0_0 (Int.toNat x2) (0:Int):Int),()));
        Tr.test ((r0.1 == (0:Int):Bool))
          (Tr.stop)
          (Tr.fin (.again (((wrap64 (Go.IntKind.wrap Go.IntKind.i64 (Int.tdiv x1 r0.1) * List.getD b0_0 (Int.toNat x2) (0:Int)):Int),((wrap64 (x2 + (1:Int)):Int),())),((b0_0,(b0_1,())),())))))
        (Tr.stop))
      (Tr.stop))
    (Tr.fin (.brk ((x1,()),((b0_0,(b0_1,())),()))))
def s30_0 (d:sh30_0.data):Option (Out sh30_0.data shb30_0.data shr30_0.data):=(t30_0 d.1.1 d.1.2.1 d.2.1.1 d.2.1.2.1).val
def l30_0 (d:sh30_0.data):Option (shb30_0.data ⊕ shr30_0.data):=itr s30_0 rounds d
def b30_0 (d:sh30_0.data):shb30_0.data:=outB shb30_0.dflt (l30_0 d)
def lc30_0:LoopC:=lcB sh30_0 shb30_0 shr30_0 l30_0 b30_0
theorem wk30_0 (x1:Int) (x2:Int) (b0_0:(List Int)) (b0_1:(List Int)):Walks (runBody (kf92 Go.Proofs.Tryz.prog).orc Go.Proofs.Tryz.prog 400 30 0 sh30_0 shb30_0 shr30_0 ((x1,x2,()),(b0_0,b0_1,()),())) (t30_0 x1 x2 b0_0 b0_1) [([true,true,true,false],[6,2,4,6,8]),([ff],[2])] :=
  ⟨by kernel_rfl,by kernel_rfl,trivial⟩
theorem ok30_0_t (x1:Int) (x2:Int) (b0_0:(List Int)) (b0_1:(List Int)):TrOk (BodyRuns Go.Proofs.Tryz.prog (kf92 Go.Proofs.Tryz.prog).orc 30 0 sh30_0 shb30_0 shr30_0 ((x1,x2,()),(b0_0,b0_1,()),())) (t30_0 x1 x2 b0_0 b0_1) :=
  Walks.ok (fun _ _ _=>BodyRuns.of) (wk30_0 x1 x2 b0_0 b0_1) (by kernel_rfl)
theorem ok30_0:LoopOk Go.Proofs.Tryz.prog 30 0 lc30_0:=loopOk_ofB (sh:=sh30_0) (shB:=shb30_0) (shR:=shr30_0) kf92_ok.base (T:=fun (d:sh30_0.data)=>t30_0 d.1.1 d.1.2.1 d.2.1.1 d.2.1.2.1) (by kernel_rfl) rfl (fun (d:sh30_0.data)=>ok30_0_t d.1.1 d.1.2.1 d.2.1.1 d.2.1.2.1) (fun _=>rfl)
def kl30_0 (P:Go.Program):Known:=(kf92 P).loop 30 0 lc30_0
theorem kl30_0_ok:KnownOk Go.Proofs.Tryz.prog (kl30_0 Go.Proofs.Tryz.prog):=kf92_ok.loop ok30_0
abbrev sh30_2:Sh:={ n:=75,slots:=[1,4,6,7,8],pats:=[.ptr 0 2 0,.ty (.int .i64),.acc (.pair (.int .i64) (.pair (.int .i64) .unit)),.ty (.int .i64),.ty (.int .i64)],boxes:=[.row [.ty (.slice (.int .i64)),.ty (.slice (.int .i64))]] }
abbrev shb30_2:Sh:={ n:=75,slots:=[6],pats:=[.acc (.pair (.int .i64) (.pair (.int .i64) .unit))],boxes:=[.row [.ty (.slice (.int .i64)),.ty (.slice (.int .i64))]] }
abbrev shr30_2:Sh:={ n:=75,slots:=[2,3],pats:=[.nil,.ty .bool],boxes:=[.row [.ty (.slice (.int .i64)),.ty (.slice (.int .i64))]] }
def t30_2 (x1:Int) (x2:(List (Int×(Int×Unit)))) (x3:Int) (x4:Int) (b0_0:(List Int)) (b0_1:(List Int)):Tr (Out sh30_2.data shb30_2.data shr30_2.data) :=
  Tr.test ((!leF (↑(List.length b0_0):Int) x4:Bool))
    (Tr.test (decide ((0:Int) ≤ x4) && decide (x4 < (↑(List.length b0_1):Int)))
      (Tr.test (Option.isSome (f92 ((b0_0,(b0_1,())),(x4,()))))
        (Tr.test ((decide ((0:Int) ≤ x4) && decide (x4 < (↑(List.length b0_0):Int)):Bool))
          (Tr.test ((List.getD b0_0 (Int.toNat x4) (0:Int) == (0:Int):Bool))
            (Tr.stop)
            (let r0:=g92 ((b0_0,(b0_1,())),(x4,()));
            Tr.test (Option.isSome (f41 ((wrap64 (x3 + wrap64 (wrap64 (List.getD b0_1 (Int.toNat x4) (0:Int) + r0.1) * Go.IntKind.wrap Go.IntKind.i64 (Int.tdiv x1 (List.getD b0_0 (Int.toNat x4) (0:Int))))):Int),(x1,()))))
              (let r1:=g41 ((wrap64 (x3 + wrap64 (wrap64 (List.getD b0_1 (Int.toNat x4) (0:Int) + r0.1) * Go.IntKind.wrap Go.IntKind.i64 (Int.tdiv x1 (List.getD b0_0 (Int.toNat x4) (0:Int))))):Int),(x1,()));
              Tr.test (Option.isSome (f46 (r1.1.1,())))
                (let r2:=g46 (r1.1.1,());
                Tr.test ((!leF r2.1 1000000000:Bool))
                  (Tr.fin (.ret (((false:Bool),()),((b0_0,(b0_1,())),()))))
                  (Tr.test ((!leF r1.1.2.1 1000000000:Bool))
                    (Tr.fin (.ret (((false:Bool),()),((b0_0,(b0_1,())),()))))
                    (Tr.test ((Nat.ble (((2:Nat) * (List.length x2 + (1:Nat)) + (192:Nat)) * (16:Nat)) (281474976710656:Nat) && Nat.ble (List.length x2 + (1:Nat)) (281474976710656:Nat):Bool))
                      (Tr.fin (.again ((x1,((x2++[(r1.1.1,r1.1.2.1,())]:List (Int×Int×PUnit)),((wrap64 (x3 + wrap64 (wrap64 (List.getD b0_1 (Int.toNat x4) (0:Int) + r0.1) * Go.IntKind.wrap Go.IntKind.i64 (Int.tdiv x1 (List.getD b0_0 (Int.toNat x4) (0:Int))))):Int),((wrap64 (x4 + (1:Int)):Int),())))),((b0_0,(b0_1,())),()))))
                      (Tr.stop))))
                (Tr.stop))
              (Tr.stop)))
          (Tr.stop))
        (Tr.stop))
      (Tr.stop))
    (Tr.fin (.brk ((x2,()),((b0_0,(b0_1,())),()))))
def s30_2 (d:sh30_2.data):Option (Out sh30_2.data shb30_2.data shr30_2.data):=(t30_2 d.1.1 d.1.2.1 d.1.2.2.1 d.1.2.2.2.1 d.2.1.1 d.2.1.2.1).val
def l30_2 (d:sh30_2.data):Option (shb30_2.data ⊕ shr30_2.data):=itr s30_2 rounds d
def b30_2 (d:sh30_2.data):shb30_2.data:=outB shb30_2.dflt (l30_2 d)
def r30_2 (d:sh30_2.data):shr30_2.data:=outR shr30_2.dflt (l30_2 d)
def lc30_2:LoopC:=lcOf sh30_2 shb30_2 shr30_2 l30_2 b30_2 r30_2
theorem wk30_2 (x1:Int) (x2:(List (Int×(Int×Unit)))) (x3:Int) (x4:Int) (b0_0:(List Int)) (b0_1:(List Int)):Walks (runBody (kl30_0 Go.Proofs.Tryz.prog).orc Go.Proofs.Tryz.prog 400 30 2 sh30_2 shb30_2 shr30_2 ((x1,x2,x3,x4,()),(b0_0,b0_1,()),())) (t30_2 x1 x2 x3 x4 b0_0 b0_1) [([true,true,true,true,false,true,true,true],[1,2,2,2,2,4,6,8,10,12,14,16]),([true,true,true,true,false,true,true,false,true],[2,4,4,4,4,6,8,10,12,14,16,18]),([true,true,true,true,false,true,true,false,false,true],[2,0,4,6,6,6,6,8,10,12,14,16,18,20]),([ff],[2])] :=
  ⟨by kernel_rfl,by kernel_rfl,by kernel_rfl,by kernel_rfl,trivial⟩
theorem ok30_2_t (x1:Int) (x2:(List (Int×(Int×Unit)))) (x3:Int) (x4:Int) (b0_0:(List Int)) (b0_1:(List Int)):TrOk (BodyRuns Go.Proofs.Tryz.prog (kl30_0 Go.Proofs.Tryz.prog).orc 30 2 sh30_2 shb30_2 shr30_2 ((x1,x2,x3,x4,()),(b0_0,b0_1,()),())) (t30_2 x1 x2 x3 x4 b0_0 b0_1) :=
  Walks.ok (fun _ _ _=>BodyRuns.of) (wk30_2 x1 x2 x3 x4 b0_0 b0_1) (by kernel_rfl)
theorem ok30_2:LoopOk Go.Proofs.Tryz.prog 30 2 lc30_2:=loopOk_of (sh:=sh30_2) (shB:=shb30_2) (shR:=shr30_2) kl30_0_ok.base (T:=fun (d:sh30_2.data)=>t30_2 d.1.1 d.1.2.1 d.1.2.2.1 d.1.2.2.2.1 d.2.1.1 d.2.1.2.1) (by kernel_rfl) rfl (fun (d:sh30_2.data)=>ok30_2_t d.1.1 d.1.2.1 d.1.2.2.1 d.1.2.2.2.1 d.2.1.1 d.2.1.2.1) (fun _=>rfl)
def kl30_2 (P:Go.Program):Known:=(kl30_0 P).loop 30 2 lc30_2
theorem kl30_2_ok:KnownOk Go.Proofs.Tryz.prog (kl30_2 Go.Proofs.Tryz.prog):=kl30_0_ok.loop ok30_2
abbrev as30:List Ty:=[(.pair (.slice (.int .i64)) (.pair (.slice (.int .i64)) .unit))]
abbrev rs30:List Ty:=[(.slice (.pair (.int .i64) (.pair (.int .i64) .unit))),.bool]
def t30 (x0:(List Int)) (x0':(List Int)):Tr (Tys.data rs30) :=
  Tr.test (isBrk (l30_0 (((1:Int),((0:Int),())),((x0,(x0',())),()))))
    (let r0:=b30_0 (((1:Int),((0:Int),())),((x0,(x0',())),()));
    Tr.test (Option.isSome (l30_2 ((r0.1.1,(([]:List (Int×Int×PUnit)),((0:Int),((0:Int),())))),((r0.2.1.1,(r0.2.1.2.1,())),()))))
      (Tr.test (isRet (l30_2 ((r0.1.1,(([]:List (Int×Int×PUnit)),((0:Int),((0:Int),())))),((r0.2.1.1,(r0.2.1.2.1,())),()))))
        (let r1:=r30_2 ((r0.1.1,(([]:List (Int×Int×PUnit)),((0:Int),((0:Int),())))),((r0.2.1.1,(r0.2.1.2.1,())),()));
        Tr.fin ((([]:List (Int×Int×PUnit)),(r1.1.1,()))))
        (let r2:=b30_2 ((r0.1.1,(([]:List (Int×Int×PUnit)),((0:Int),((0:Int),())))),((r0.2.1.1,(r0.2.1.2.1,())),()));
        Tr.fin ((r2.1.1,((true:Bool),())))))
      (Tr.stop))
    (Tr.stop)
def f30 (d:Tys.data as30):Option (Tys.data rs30):=(t30 d.1.1 d.1.2.1).val
def g30 (d:Tys.data as30):Tys.data rs30:=(f30 d).getD (Tys.dflt rs30)
def p30:PureC:=pcOf as30 rs30 f30 g30
theorem wk30 (x0:(List Int)) (x0':(List Int)):Walks (runPure (kl30_2 Go.Proofs.Tryz.prog).orc Go.Proofs.Tryz.prog 400 30 as30 rs30 ((x0,x0',()),())) (t30 x0 x0') [([true,true,true],[2,4,1,6]),([true,true,false],[2,4,1,6])] :=
  ⟨by kernel_rfl,by kernel_rfl,trivial⟩
theorem ok30_t (x0:(List Int)) (x0':(List Int)):TrOk (PureRuns Go.Proofs.Tryz.prog (kl30_2 Go.Proofs.Tryz.prog).orc 30 as30 rs30 ((x0,x0',()),())) (t30 x0 x0') :=
  Walks.ok (fun _ _ _=>PureRuns.of) (wk30 x0 x0') (by kernel_rfl)
theorem ok30:PureOk Go.Proofs.Tryz.prog 30 p30:=pureOk_of kl30_2_ok.base (T:=fun (d:Tys.data as30)=>t30 d.1.1 d.1.2.1) (by kernel_rfl) (fun (d:Tys.data as30)=>ok30_t d.1.1 d.1.2.1)
def kf30 (P:Go.Program):Known:=(kl30_2 P).func 30 p30
theorem kf30_ok:KnownOk Go.Proofs.Tryz.prog (kf30 Go.Proofs.Tryz.prog):=kl30_2_ok.func ok30
abbrev as33:List Ty:=[(.pair (.slice (.int .i64)) (.pair (.slice (.int .i64)) .unit)),(.int .i64)]
abbrev rs33:List Ty:=[(.pair (.slice (.pair (.int .i64) (.pair (.int .i64) .unit))) (.pair (.slice (.pair (.int .i64) (.pair (.int .i64) .unit))) (.pair (.int .i64) .unit))),.bool]
def t33 (x0:(List Int)) (x0':(List Int)) (x1:Int):Tr (Tys.data rs33) :=
  Tr.test (Option.isSome (f30 ((x0,(x0',())),())))
    (let r0:=g30 ((x0,(x0',())),());
    Tr.test ((!r0.2.1:Bool))
      (Tr.fin (((([]:List (Int×Int×PUnit)),(([]:List (Int×Int×PUnit)),((0:Int),()))),((false:Bool),()))))
      (Tr.test ((decide ((0:Int) ≤ wrap64 (x1 + (1:Int))) && decide (wrap64 (x1 + (1:Int)) ≤ (↑(List.length r0.1):Int)):Bool))
        (Tr.test ((decide ((0:Int) ≤ wrap64 (x1 + (1:Int))) && decide (wrap64 (x1 + (1:Int)) ≤ (↑(List.length r0.1):Int)):Bool))
          (Tr.test (Option.isSome (f92 ((x0,(x0',())),(x1,()))))
            (let r1:=g92 ((x0,(x0',())),(x1,()));
            Tr.fin ((((List.take (Int.toNat (wrap64 (x1 + (1:Int)))) r0.1:List (Int×Int×PUnit)),((List.drop (Int.toNat (wrap64 (x1 + (1:Int)))) r0.1:List (Int×Int×PUnit)),(r1.1,()))),((true:Bool),()))))
            (Tr.stop))
          (Tr.stop))
        (Tr.stop)))
    (Tr.stop)
def f33 (d:Tys.data as33):Option (Tys.data rs33):=(t33 d.1.1 d.1.2.1 d.2.1).val
def g33 (d:Tys.data as33):Tys.data rs33:=(f33 d).getD (Tys.dflt rs33)
def p33:PureC:=pcOf as33 rs33 f33 g33
theorem wk33 (x0:(List Int)) (x0':(List Int)) (x1:Int):Walks (runPure (kf30 Go.Proofs.Tryz.prog).orc Go.Proofs.Tryz.prog 400 33 as33 rs33 ((x0,x0',()),x1,())) (t33 x0 x0' x1) [([true,true],[2,4]),([true,false,true,true,true],[2,4,6,8,10])] :=
  ⟨by kernel_rfl,by kernel_rfl,trivial⟩
theorem ok33_t (x0:(List Int)) (x0':(List Int)) (x1:Int):TrOk (PureRuns Go.Proofs.Tryz.prog (kf30 Go.Proofs.Tryz.prog).orc 33 as33 rs33 ((x0,x0',()),x1,())) (t33 x0 x0' x1) :=
  Walks.ok (fun _ _ _=>PureRuns.of) (wk33 x0 x0' x1) (by kernel_rfl)
theorem ok33:PureOk Go.Proofs.Tryz.prog 33 p33:=pureOk_of kf30_ok.base (T:=fun (d:Tys.data as33)=>t33 d.1.1 d.1.2.1 d.2.1) (by kernel_rfl) (fun (d:Tys.data as33)=>ok33_t d.1.1 d.1.2.1 d.2.1)
def kf33 (P:Go.Program):Known:=(kf30 P).func 33 p33
theorem kf33_ok:KnownOk Go.Proofs.Tryz.prog (kf33 Go.Proofs.Tryz.prog):=kf30_ok.func ok33
abbrev as36:List Ty:=[(.pair (.int .i64) (.pair (.int .i64) .unit))]
abbrev rs36:List Ty:=[.bool]
def t36 (x0:Int) (x0':Int):Tr (Tys.data rs36) :=
  Tr.test ((!leF x0' 0:Bool))
    (Tr.test (Option.isSome (f91 (x0,(x0',()))))
      (let r0:=g91 (x0,(x0',()));
      Tr.fin (((eqF r0.1 1:Bool),())))
      (Tr.stop))
    (Tr.fin ((false,())))
def f36 (d:Tys.data as36):Option (Tys.data rs36):=(t36 d.1.1 d.1.2.1).val
def g36 (d:Tys.data as36):Tys.data rs36:=(f36 d).getD (Tys.dflt rs36)
def p36:PureC:=pcOf as36 rs36 f36 g36
theorem wk36 (x0:Int) (x0':Int):Walks (runPure (kf33 Go.Proofs.Tryz.prog).orc Go.Proofs.Tryz.prog 400 36 as36 rs36 ((x0,x0',()),())) (t36 x0 x0') [([true,true],[4,4,2,4,4,4,4,4]),([ff],[2,2,2,2,2,2,2])] :=
  ⟨by kernel_rfl,by kernel_rfl,trivial⟩
theorem ok36_t (x0:Int) (x0':Int):TrOk (PureRuns Go.Proofs.Tryz.prog (kf33 Go.Proofs.Tryz.prog).orc 36 as36 rs36 ((x0,x0',()),())) (t36 x0 x0') :=
  Walks.ok (fun _ _ _=>PureRuns.of) (wk36 x0 x0') (by kernel_rfl)
theorem ok36:PureOk Go.Proofs.Tryz.prog 36 p36:=pureOk_of kf33_ok.base (T:=fun (d:Tys.data as36)=>t36 d.1.1 d.1.2.1) (by kernel_rfl) (fun (d:Tys.data as36)=>ok36_t d.1.1 d.1.2.1)
def kf36 (P:Go.Program):Known:=(kf33 P).func 36 p36
theorem kf36_ok:KnownOk Go.Proofs.Tryz.prog (kf36 Go.Proofs.Tryz.prog):=kf33_ok.func ok36
abbrev sh161_0:Sh:={ n:=21,slots:=[0,3],pats:=[.ty (.slice (.int .i64)),.ty (.int .i64)],boxes:=[] }
abbrev shb161_0:Sh:={ n:=21,slots:=[0,3],pats:=[.ty (.slice (.int .i64)),.ty (.int .i64)],boxes:=[] }
abbrev shr161_0:Sh:={ n:=21,slots:=[],pats:=[],boxes:=[] }
def t161_0 (x0:(List Int)) (x1:Int):Tr (Out sh161_0.data shb161_0.data shr161_0.data) :=
  Tr.test ((!leF x1 0:Bool))
    (Tr.test (decide ((0:Int) ≤ wrap64 (x1 - (1:Int))) && decide (wrap64 (x1 - (1:Int)) < (↑(List.length x0):Int)))
      (Tr.test ((eqF (List.getD x0 (Int.toNat (wrap64 (x1 - (1:Int)))) (0:Int)) (0:Int):Bool))
        (Tr.fin (.again ((x0,((wrap64 (x1 - (1:Int)):Int),())),())))
        (Tr.fin (.brk ((x0,(x1,())),()))))
      (Tr.stop))
    (Tr.fin (.brk ((x0,(x1,())),())))
def s161_0 (d:sh161_0.data):Option (Out sh161_0.data shb161_0.data shr161_0.data):=(t161_0 d.1.1 d.1.2.1).val
def l161_0 (d:sh161_0.data):Option (shb161_0.data ⊕ shr161_0.data):=itr s161_0 rounds d
def b161_0 (d:sh161_0.data):shb161_0.data:=outB shb161_0.dflt (l161_0 d)
def lc161_0:LoopC:=lcB sh161_0 shb161_0 shr161_0 l161_0 b161_0
theorem wk161_0 (x0:(List Int)) (x1:Int):Walks (runBody (kf36 Go.Proofs.Tryz.prog).orc Go.Proofs.Tryz.prog 400 161 0 sh161_0 shb161_0 shr161_0 ((x0,x1,()),())) (t161_0 x0 x1) [([true,true,true],[2,6,6,6,4,6,6,6,6]),([true,true,false],[2,6,6,6,4,6,6,6,6]),([ff],[0,2,2,2,2,2,2,2])] :=
  ⟨by kernel_rfl,by kernel_rfl,by kernel_rfl,trivial⟩
theorem ok161_0_t (x0:(List Int)) (x1:Int):TrOk (BodyRuns Go.Proofs.Tryz.prog (kf36 Go.Proofs.Tryz.prog).orc 161 0 sh161_0 shb161_0 shr161_0 ((x0,x1,()),())) (t161_0 x0 x1) :=
  Walks.ok (fun _ _ _=>BodyRuns.of) (wk161_0 x0 x1) (by kernel_rfl)
theorem ok161_0:LoopOk Go.Proofs.Tryz.prog 161 0 lc161_0:=loopOk_ofB (sh:=sh161_0) (shB:=shb161_0) (shR:=shr161_0) kf36_ok.base (T:=fun (d:sh161_0.data)=>t161_0 d.1.1 d.1.2.1) (by kernel_rfl) rfl (fun (d:sh161_0.data)=>ok161_0_t d.1.1 d.1.2.1) (fun _=>rfl)
def kl161_0 (P:Go.Program):Known:=(kf36 P).loop 161 0 lc161_0
theorem kl161_0_ok:KnownOk Go.Proofs.Tryz.prog (kl161_0 Go.Proofs.Tryz.prog):=kf36_ok.loop ok161_0
abbrev as161:List Ty:=[(.slice (.int .i64))]
abbrev rs161:List Ty:=[(.slice (.int .i64))]
def t161 (x0:(List Int)):Tr (Tys.data rs161) :=
  Tr.test (isBrk (l161_0 ((x0,((↑(List.length x0):Int),())),())))
    (let r0:=b161_0 ((x0,((↑(List.length x0):Int),())),());
    Tr.test ((decide ((0:Int) ≤ r0.1.2.1) && decide (r0.1.2.1 ≤ (↑(List.length r0.1.1):Int)):Bool))
      (Tr.fin (((List.take (Int.toNat r0.1.2.1) r0.1.1:List Int),())))
      (Tr.stop))
    (Tr.stop)
def f161 (d:Tys.data as161):Option (Tys.data rs161):=(t161 d.1).val
def g161 (d:Tys.data as161):Tys.data rs161:=(f161 d).getD (Tys.dflt rs161)
def p161:PureC:=pcOf as161 rs161 f161 g161
theorem wk161 (x0:(List Int)):Walks (runPure (kl161_0 Go.Proofs.Tryz.prog).orc Go.Proofs.Tryz.prog 400 161 as161 rs161 (x0,())) (t161 x0) [([true,true],[2,1,4])] :=
  ⟨by kernel_rfl,trivial⟩
theorem ok161_t (x0:(List Int)):TrOk (PureRuns Go.Proofs.Tryz.prog (kl161_0 Go.Proofs.Tryz.prog).orc 161 as161 rs161 (x0,())) (t161 x0) :=
  Walks.ok (fun _ _ _=>PureRuns.of) (wk161 x0) (by kernel_rfl)
theorem ok161:PureOk Go.Proofs.Tryz.prog 161 p161:=pureOk_of kl161_0_ok.base (T:=fun (d:Tys.data as161)=>t161 d.1) (by kernel_rfl) (fun (d:Tys.data as161)=>ok161_t d.1)
def kf161 (P:Go.Program):Known:=(kl161_0 P).func 161 p161
theorem kf161_ok:KnownOk Go.Proofs.Tryz.prog (kf161 Go.Proofs.Tryz.prog):=kl161_0_ok.func ok161
abbrev as130:List Ty:=[(.int .i64),(.slice (.int .i64))]
abbrev rs130:List Ty:=[(.pair (.int .i64) (.pair (.slice (.int .i64)) .unit))]
def t130 (x0:Int) (x1:(List Int)):Tr (Tys.data rs130) :=
  Tr.test (Option.isSome (f161 (x1,())))
    (let r0:=g161 (x1,());
    Tr.test ((eqF (↑(List.length r0.1):Int) (0:Int):Bool))
      (Tr.fin ((((0:Int),(r0.1,())),())))
      (Tr.fin (((x0,(r0.1,())),()))))
    (Tr.stop)
def f130 (d:Tys.data as130):Option (Tys.data rs130):=(t130 d.1 d.2.1).val
def g130 (d:Tys.data as130):Tys.data rs130:=(f130 d).getD (Tys.dflt rs130)
def p130:PureC:=pcOf as130 rs130 f130 g130
theorem wk130 (x0:Int) (x1:(List Int)):Walks (runPure (kf161 Go.Proofs.Tryz.prog).orc Go.Proofs.Tryz.prog 400 130 as130 rs130 (x0,x1,())) (t130 x0 x1) [([true,true],[2,4]),([true,false],[2,4])] :=
  ⟨by kernel_rfl,by kernel_rfl,trivial⟩
theorem ok130_t (x0:Int) (x1:(List Int)):TrOk (PureRuns Go.Proofs.Tryz.prog (kf161 Go.Proofs.Tryz.prog).orc 130 as130 rs130 (x0,x1,())) (t130 x0 x1) :=
  Walks.ok (fun _ _ _=>PureRuns.of) (wk130 x0 x1) (by kernel_rfl)
theorem ok130:PureOk Go.Proofs.Tryz.prog 130 p130:=pureOk_of kf161_ok.base (T:=fun (d:Tys.data as130)=>t130 d.1 d.2.1) (by kernel_rfl) (fun (d:Tys.data as130)=>ok130_t d.1 d.2.1)
def kf130 (P:Go.Program):Known:=(kf161 P).func 130 p130
theorem kf130_ok:KnownOk Go.Proofs.Tryz.prog (kf130 Go.Proofs.Tryz.prog):=kf161_ok.func ok130
abbrev sh126_0:Sh:={ n:=20,slots:=[0,2,3,4],pats:=[.ty (.int .i64),.ptr 0 2 0,.ty (.int .i64),.acc (.int .i64)],boxes:=[.row [.ty (.int .i64),.nil]] }
abbrev shb126_0:Sh:={ n:=20,slots:=[2,3,4],pats:=[.ptr 0 2 0,.ty (.int .i64),.acc (.int .i64)],boxes:=[.row [.ty (.int .i64),.nil]] }
abbrev shr126_0:Sh:={ n:=20,slots:=[],pats:=[],boxes:=[.row [.ty (.int .i64),.nil]] }
def t126_0 (x0:Int) (x2:Int) (x3:(List Int)) (b0_0:Int):Tr (Out sh126_0.data shb126_0.data shr126_0.data) :=
  Tr.test ((!eqF x0 0:Bool))
    (Tr.test (Option.isSome (f46 ((Int.tmod x0 (1000000000:Int):Int),())))
      (Tr.test ((Nat.ble (((2:Nat) * (List.length x3 + (1:Nat)) + (192:Nat)) * (8:Nat)) (281474976710656:Nat) && Nat.ble (List.length x3 + (1:Nat)) (281474976710656:Nat):Bool))
        (let r0:=g46 ((Int.tmod x0 (1000000000:Int):Int),());
        Tr.fin (.again (((Go.IntKind.wrap Go.IntKind.i64 (Int.tdiv x0 (1000000000:Int)):Int),(x2,((x3++[r0.1]:List Int),()))),((b0_0,()),()))))
        (Tr.stop))
      (Tr.stop))
    (Tr.fin (.brk ((x2,(x3,())),((b0_0,()),()))))
def s126_0 (d:sh126_0.data):Option (Out sh126_0.data shb126_0.data shr126_0.data):=(t126_0 d.1.1 d.1.2.1 d.1.2.2.1 d.2.1.1).val
def l126_0 (d:sh126_0.data):Option (shb126_0.data ⊕ shr126_0.data):=itr s126_0 rounds d
def b126_0 (d:sh126_0.data):shb126_0.data:=outB shb126_0.dflt (l126_0 d)
def lc126_0:LoopC:=lcB sh126_0 shb126_0 shr126_0 l126_0 b126_0
theorem wk126_0 (x0:Int) (x2:Int) (x3:(List Int)) (b0_0:Int):Walks (runBody (kf130 Go.Proofs.Tryz.prog).orc Go.Proofs.Tryz.prog 400 126 0 sh126_0 shb126_0 shr126_0 ((x0,x2,x3,()),(b0_0,()),())) (t126_0 x0 x2 x3 b0_0) [([true,true,true],[0,2,0,4,0,6]),([ff],[2])] :=
  ⟨by kernel_rfl,by kernel_rfl,trivial⟩
theorem ok126_0_t (x0:Int) (x2:Int) (x3:(List Int)) (b0_0:Int):TrOk (BodyRuns Go.Proofs.Tryz.prog (kf130 Go.Proofs.Tryz.prog).orc 126 0 sh126_0 shb126_0 shr126_0 ((x0,x2,x3,()),(b0_0,()),())) (t126_0 x0 x2 x3 b0_0) :=
  Walks.ok (fun _ _ _=>BodyRuns.of) (wk126_0 x0 x2 x3 b0_0) (by kernel_rfl)
theorem ok126_0:LoopOk Go.Proofs.Tryz.prog 126 0 lc126_0:=loopOk_ofB (sh:=sh126_0) (shB:=shb126_0) (shR:=shr126_0) kf130_ok.base (T:=fun (d:sh126_0.data)=>t126_0 d.1.1 d.1.2.1 d.1.2.2.1 d.2.1.1) (by kernel_rfl) rfl (fun (d:sh126_0.data)=>ok126_0_t d.1.1 d.1.2.1 d.1.2.2.1 d.2.1.1) (fun _=>rfl)
def kl126_0 (P:Go.Program):Known:=(kf130 P).loop 126 0 lc126_0
theorem kl126_0_ok:KnownOk Go.Proofs.Tryz.prog (kl126_0 Go.Proofs.Tryz.prog):=kf130_ok.loop ok126_0
abbrev as126:List Ty:=[(.int .i64)]
abbrev rs126:List Ty:=[(.pair (.int .i64) (.pair (.slice (.int .i64)) .unit))]
def t126 (x0:Int):Tr (Tys.data rs126) :=
  Tr.test ((!leF (0:Int) x0:Bool))
    (Tr.test (isBrk (l126_0 ((x0,((-1:Int),(([]:List Int),()))),(((0:Int),()),()))))
      (let r0:=b126_0 ((x0,((-1:Int),(([]:List Int),()))),(((0:Int),()),()));
      Tr.test (Option.isSome (f130 (r0.1.1,(r0.1.2.1,()))))
        (let r1:=g130 (r0.1.1,(r0.1.2.1,()));
        Tr.fin (((r1.1.1,(r1.1.2.1,())),())))
        (Tr.stop))
      (Tr.stop))
    (Tr.test (isBrk (l126_0 ((x0,((1:Int),(([]:List Int),()))),(((0:Int),()),()))))
      (let r2:=b126_0 ((x0,((1:Int),(([]:List Int),()))),(((0:Int),()),()));
      Tr.test (Option.isSome (f130 (r2.1.1,(r2.1.2.1,()))))
        (let r3:=g130 (r2.1.1,(r2.1.2.1,()));
        Tr.fin (((r3.1.1,(r3.1.2.1,())),())))
        (Tr.stop))
      (Tr.stop))
def f126 (d:Tys.data as126):Option (Tys.data rs126):=(t126 d.1).val
def g126 (d:Tys.data as126):Tys.data rs126:=(f126 d).getD (Tys.dflt rs126)
def p126:PureC:=pcOf as126 rs126 f126 g126
theorem wk126 (x0:Int):Walks (runPure (kl126_0 Go.Proofs.Tryz.prog).orc Go.Proofs.Tryz.prog 400 126 as126 rs126 (x0,())) (t126 x0) [([true,true,true],[2,1,4,6]),([false,true,true],[2,1,4,6])] :=
  ⟨by kernel_rfl,by kernel_rfl,trivial⟩
theorem ok126_t (x0:Int):TrOk (PureRuns Go.Proofs.Tryz.prog (kl126_0 Go.Proofs.Tryz.prog).orc 126 as126 rs126 (x0,())) (t126 x0) :=
  Walks.ok (fun _ _ _=>PureRuns.of) (wk126 x0) (by kernel_rfl)
theorem ok126:PureOk Go.Proofs.Tryz.prog 126 p126:=pureOk_of kl126_0_ok.base (T:=fun (d:Tys.data as126)=>t126 d.1) (by kernel_rfl) (fun (d:Tys.data as126)=>ok126_t d.1)
def kf126 (P:Go.Program):Known:=(kl126_0 P).func 126 p126
theorem kf126_ok:KnownOk Go.Proofs.Tryz.prog (kf126 Go.Proofs.Tryz.prog):=kl126_0_ok.func ok126
abbrev as93:List Ty:=[(.int .i64)]
abbrev rs93:List Ty:=[(.pair (.pair (.int .i64) (.pair (.slice (.int .i64)) .unit)) (.pair (.pair (.int .i64) (.pair (.slice (.int .i64)) .unit)) .unit))]
def t93 (x0:Int):Tr (Tys.data rs93) :=
  Tr.test (Option.isSome (f126 (x0,())))
    (Tr.test (Option.isSome (f126 ((1:Int),())))
      (let r0:=g126 (x0,());
      let r1:=g126 ((1:Int),());
      Tr.fin ((((r0.1.1,(r0.1.2.1,())),((r1.1.1,(r1.1.2.1,())),())),())))
      (Tr.stop))
    (Tr.stop)
def f93 (d:Tys.data as93):Option (Tys.data rs93):=(t93 d.1).val
def g93 (d:Tys.data as93):Tys.data rs93:=(f93 d).getD (Tys.dflt rs93)
def p93:PureC:=pcOf as93 rs93 f93 g93
theorem wk93 (x0:Int):Walks (runPure (kf126 Go.Proofs.Tryz.prog).orc Go.Proofs.Tryz.prog 400 93 as93 rs93 (x0,())) (t93 x0) [([true,true],[2,4])] :=
  ⟨by kernel_rfl,trivial⟩
theorem ok93_t (x0:Int):TrOk (PureRuns Go.Proofs.Tryz.prog (kf126 Go.Proofs.Tryz.prog).orc 93 as93 rs93 (x0,())) (t93 x0) :=
  Walks.ok (fun _ _ _=>PureRuns.of) (wk93 x0) (by kernel_rfl)
theorem ok93:PureOk Go.Proofs.Tryz.prog 93 p93:=pureOk_of kf126_ok.base (T:=fun (d:Tys.data as93)=>t93 d.1) (by kernel_rfl) (fun (d:Tys.data as93)=>ok93_t d.1)
def kf93 (P:Go.Program):Known:=(kf126 P).func 93 p93
theorem kf93_ok:KnownOk Go.Proofs.Tryz.prog (kf93 Go.Proofs.Tryz.prog):=kf126_ok.func ok93
abbrev as131:List Ty:=[(.pair (.int .i64) (.pair (.slice (.int .i64)) .unit))]
abbrev rs131:List Ty:=[(.int .i64)]
def t131 (x0:Int) (x0':(List Int)):Tr (Tys.data rs131) :=
  Tr.fin ((x0,()))
def f131 (d:Tys.data as131):Option (Tys.data rs131):=(t131 d.1.1 d.1.2.1).val
def g131 (d:Tys.data as131):Tys.data rs131:=(f131 d).getD (Tys.dflt rs131)
def p131:PureC:=pcOf as131 rs131 f131 g131
theorem wk131 (x0:Int) (x0':(List Int)):Walks (runPure (kf93 Go.Proofs.Tryz.prog).orc Go.Proofs.Tryz.prog 400 131 as131 rs131 ((x0,x0',()),())) (t131 x0 x0') [([],[])] :=
  ⟨by kernel_rfl,trivial⟩
theorem ok131_t (x0:Int) (x0':(List Int)):TrOk (PureRuns Go.Proofs.Tryz.prog (kf93 Go.Proofs.Tryz.prog).orc 131 as131 rs131 ((x0,x0',()),())) (t131 x0 x0') :=
  Walks.ok (fun _ _ _=>PureRuns.of) (wk131 x0 x0') (by kernel_rfl)
theorem ok131:PureOk Go.Proofs.Tryz.prog 131 p131:=pureOk_of kf93_ok.base (T:=fun (d:Tys.data as131)=>t131 d.1.1 d.1.2.1) (by kernel_rfl) (fun (d:Tys.data as131)=>ok131_t d.1.1 d.1.2.1)
def kf131 (P:Go.Program):Known:=(kf93 P).func 131 p131
theorem kf131_ok:KnownOk Go.Proofs.Tryz.prog (kf131 Go.Proofs.Tryz.prog):=kf93_ok.func ok131
abbrev as132:List Ty:=[(.pair (.int .i64) (.pair (.slice (.int .i64)) .unit))]
abbrev rs132:List Ty:=[(.pair (.int .i64) (.pair (.slice (.int .i64)) .unit))]
def t132 (x0:Int) (x0':(List Int)):Tr (Tys.data rs132) :=
  Tr.fin ((((Go.IntKind.wrap Go.IntKind.i64 ((0:Int) - x0):Int),(x0',())),()))
def f132 (d:Tys.data as132):Option (Tys.data rs132):=(t132 d.1.1 d.1.2.1).val
def g132 (d:Tys.data as132):Tys.data rs132:=(f132 d).getD (Tys.dflt rs132)
def p132:PureC:=pcOf as132 rs132 f132 g132
theorem wk132 (x0:Int) (x0':(List Int)):Walks (runPure (kf131 Go.Proofs.Tryz.prog).orc Go.Proofs.Tryz.prog 400 132 as132 rs132 ((x0,x0',()),())) (t132 x0 x0') [([],[])] :=
  ⟨by kernel_rfl,trivial⟩
theorem ok132_t (x0:Int) (x0':(List Int)):TrOk (PureRuns Go.Proofs.Tryz.prog (kf131 Go.Proofs.Tryz.prog).orc 132 as132 rs132 ((x0,x0',()),())) (t132 x0 x0') :=
  Walks.ok (fun _ _ _=>PureRuns.of) (wk132 x0 x0') (by kernel_rfl)
theorem ok132:PureOk Go.Proofs.Tryz.prog 132 p132:=pureOk_of kf131_ok.base (T:=fun (d:Tys.data as132)=>t132 d.1.1 d.1.2.1) (by kernel_rfl) (fun (d:Tys.data as132)=>ok132_t d.1.1 d.1.2.1)
def kf132 (P:Go.Program):Known:=(kf131 P).func 132 p132
theorem kf132_ok:KnownOk Go.Proofs.Tryz.prog (kf132 Go.Proofs.Tryz.prog):=kf131_ok.func ok132
abbrev as162:List Ty:=[(.pair (.int .i64) (.pair (.slice (.int .i64)) .unit))]
abbrev rs162:List Ty:=[(.pair (.int .i64) (.pair (.slice (.int .i64)) .unit))]
def t162 (x0:Int) (x0':(List Int)):Tr (Tys.data rs162) :=
  Tr.test ((!leF (0:Int) x0:Bool))
    (Tr.test (Option.isSome (f132 ((x0,(x0',())),())))
      (let r0:=g132 ((x0,(x0',())),());
      Tr.fin (((r0.1.1,(r0.1.2.1,())),())))
      (Tr.stop))
    (Tr.fin (((x0,(x0',())),())))
def f162 (d:Tys.data as162):Option (Tys.data rs162):=(t162 d.1.1 d.1.2.1).val
def g162 (d:Tys.data as162):Tys.data rs162:=(f162 d).getD (Tys.dflt rs162)
def p162:PureC:=pcOf as162 rs162 f162 g162
theorem wk162 (x0:Int) (x0':(List Int)):Walks (runPure (kf132 Go.Proofs.Tryz.prog).orc Go.Proofs.Tryz.prog 400 162 as162 rs162 ((x0,x0',()),())) (t162 x0 x0') [([true,true],[2,4]),([ff],[2])] :=
  ⟨by kernel_rfl,by kernel_rfl,trivial⟩
theorem ok162_t (x0:Int) (x0':(List Int)):TrOk (PureRuns Go.Proofs.Tryz.prog (kf132 Go.Proofs.Tryz.prog).orc 162 as162 rs162 ((x0,x0',()),())) (t162 x0 x0') :=
  Walks.ok (fun _ _ _=>PureRuns.of) (wk162 x0 x0') (by kernel_rfl)
theorem ok162:PureOk Go.Proofs.Tryz.prog 162 p162:=pureOk_of kf132_ok.base (T:=fun (d:Tys.data as162)=>t162 d.1.1 d.1.2.1) (by kernel_rfl) (fun (d:Tys.data as162)=>ok162_t d.1.1 d.1.2.1)
def kf162 (P:Go.Program):Known:=(kf132 P).func 162 p162
theorem kf162_ok:KnownOk Go.Proofs.Tryz.prog (kf162 Go.Proofs.Tryz.prog):=kf132_ok.func ok162
abbrev sh98_2:Sh:={ n:=86,slots:=[2,3,4,5,6,7,8],pats:=[.ptr 0 2 0,.ptr 1 2 0,.ptr 2 2 0,.sli 3 1,.ty (.int .i64),.ty (.int .i64),.ty (.int .i64)],boxes:=[.row [.ty (.int .i64),.ty (.slice (.int .i64))],.row [.ty (.int .i64),.ty (.slice (.int .i64))],.row [.ty (.int .i64),.nil],.arr (.int .i64)] }
abbrev shb98_2:Sh:={ n:=86,slots:=[2,3,4,5,6,7],pats:=[.ptr 0 2 0,.ptr 1 2 0,.ptr 2 2 0,.sli 3 1,.ty (.int .i64),.ty (.int .i64)],boxes:=[.row [.ty (.int .i64),.ty (.slice (.int .i64))],.row [.ty (.int .i64),.ty (.slice (.int .i64))],.row [.ty (.int .i64),.nil],.arr (.int .i64)] }
abbrev shr98_2:Sh:={ n:=86,slots:=[],pats:=[],boxes:=[.row [.ty (.int .i64),.ty (.slice (.int .i64))],.row [.ty (.int .i64),.ty (.slice (.int .i64))],.row [.ty (.int .i64),.nil],.arr (.int .i64)] }
def t98_2 (x3n:Nat) (x3c:Nat) (x4:Int) (x5:Int) (x6:Int) (b0_0:Int) (b0_1:(List Int)) (b1_0:Int) (b1_1:(List Int)) (b2_0:Int) (b3:(List Int)):Tr (Out sh98_2.data shb98_2.data shr98_2.data) :=
  Tr.test ((!leF (↑(List.length b1_1):Int) x6:Bool))
    (Tr.test (decide ((0:Int) ≤ wrap64 (x4 + x6)) && decide (wrap64 (x4 + x6) < (↑x3n:Int)))
      (Tr.test ((Nat.ble ((0:Nat) + Int.toNat (wrap64 (x4 + x6)) + (1:Nat)) (List.length b3):Bool))
        (Tr.test ((decide ((0:Int) ≤ x4) && decide (x4 < (↑(List.length b0_1):Int)):Bool))
          (Tr.test ((decide ((0:Int) ≤ x6) && decide (x6 < (↑(List.length b1_1):Int)):Bool))
            (Tr.fin (.again (((x3n,x3c),(x4,((Go.IntKind.wrap Go.IntKind.i64 (Int.tdiv (wrap64 (wrap64 (List.getD b3 ((0:Nat) + Int.toNat (wrap64 (x4 + x6))) (0:Int) + wrap64 (List.getD b0_1 (Int.toNat x4) (0:Int) * List.getD b1_1 (Int.toNat x6) (0:Int))) + x5)) (1000000000:Int)):Int),((wrap64 (x6 + (1:Int)):Int),())))),((b0_0,(b0_1,())),((b1_0,(b1_1,())),((b2_0,()),((List.set b3 ((0:Nat) + Int.toNat (wrap64 (x4 + x6))) (Int.tmod (wrap64 (wrap64 (List.getD b3 ((0:Nat) + Int.toNat (wrap64 (x4 + x6))) (0:Int) + wrap64 (List.getD b0_1 (Int.toNat x4) (0:Int) * List.getD b1_1 (Int.toNat x6) (0:Int))) + x5)) (1000000000:Int)):List Int),())))))))
            (Tr.stop))
          (Tr.stop))
        (Tr.stop))
      (Tr.stop))
    (Tr.fin (.brk (((x3n,x3c),(x4,(x5,()))),((b0_0,(b0_1,())),((b1_0,(b1_1,())),((b2_0,()),(b3,())))))))
def s98_2 (d:sh98_2.data):Option (Out sh98_2.data shb98_2.data shr98_2.data):=(t98_2 d.1.1.1 d.1.1.2 d.1.2.1 d.1.2.2.1 d.1.2.2.2.1 d.2.1.1 d.2.1.2.1 d.2.2.1.1 d.2.2.1.2.1 d.2.2.2.1.1 d.2.2.2.2.1).val
def l98_2 (d:sh98_2.data):Option (shb98_2.data ⊕ shr98_2.data):=itr s98_2 rounds d
def b98_2 (d:sh98_2.data):shb98_2.data:=outB shb98_2.dflt (l98_2 d)
def lc98_2:LoopC:=lcB sh98_2 shb98_2 shr98_2 l98_2 b98_2
theorem wk98_2 (x3n:Nat) (x3c:Nat) (x4:Int) (x5:Int) (x6:Int) (b0_0:Int) (b0_1:(List Int)) (b1_0:Int) (b1_1:(List Int)) (b2_0:Int) (b3:(List Int)):Walks (runBody (kf162 Go.Proofs.Tryz.prog).orc Go.Proofs.Tryz.prog 400 98 2 sh98_2 shb98_2 shr98_2 (((x3n,x3c),x4,x5,x6,()),(b0_0,b0_1,()),(b1_0,b1_1,()),(b2_0,()),b3,())) (t98_2 x3n x3c x4 x5 x6 b0_0 b0_1 b1_0 b1_1 b2_0 b3) [([true,true,true,true,true],[6,8,0,0,2,4,6,8,10]),([ff],[2])] :=
  ⟨by kernel_rfl,by kernel_rfl,trivial⟩
theorem ok98_2_t (x3n:Nat) (x3c:Nat) (x4:Int) (x5:Int) (x6:Int) (b0_0:Int) (b0_1:(List Int)) (b1_0:Int) (b1_1:(List Int)) (b2_0:Int) (b3:(List Int)):TrOk (BodyRuns Go.Proofs.Tryz.prog (kf162 Go.Proofs.Tryz.prog).orc 98 2 sh98_2 shb98_2 shr98_2 (((x3n,x3c),x4,x5,x6,()),(b0_0,b0_1,()),(b1_0,b1_1,()),(b2_0,()),b3,())) (t98_2 x3n x3c x4 x5 x6 b0_0 b0_1 b1_0 b1_1 b2_0 b3) :=
  Walks.ok (fun _ _ _=>BodyRuns.of) (wk98_2 x3n x3c x4 x5 x6 b0_0 b0_1 b1_0 b1_1 b2_0 b3) (by kernel_rfl)
theorem ok98_2:LoopOk Go.Proofs.Tryz.prog 98 2 lc98_2:=loopOk_ofB (sh:=sh98_2) (shB:=shb98_2) (shR:=shr98_2) kf162_ok.base (T:=fun (d:sh98_2.data)=>t98_2 d.1.1.1 d.1.1.2 d.1.2.1 d.1.2.2.1 d.1.2.2.2.1 d.2.1.1 d.2.1.2.1 d.2.2.1.1 d.2.2.1.2.1 d.2.2.2.1.1 d.2.2.2.2.1) (by kernel_rfl) rfl (fun (d:sh98_2.data)=>ok98_2_t d.1.1.1 d.1.1.2 d.1.2.1 d.1.2.2.1 d.1.2.2.2.1 d.2.1.1 d.2.1.2.1 d.2.2.1.1 d.2.2.1.2.1 d.2.2.2.1.1 d.2.2.2.2.1) (fun _=>rfl)
def kl98_2 (P:Go.Program):Known:=(kf162 P).loop 98 2 lc98_2
theorem kl98_2_ok:KnownOk Go.Proofs.Tryz.prog (kl98_2 Go.Proofs.Tryz.prog):=kf162_ok.loop ok98_2
abbrev sh98_0:Sh:={ n:=86,slots:=[2,3,4,5,6],pats:=[.ptr 0 2 0,.ptr 1 2 0,.ptr 2 2 0,.sli 3 1,.ty (.int .i64)],boxes:=[.row [.ty (.int .i64),.ty (.slice (.int .i64))],.row [.ty (.int .i64),.ty (.slice (.int .i64))],.row [.ty (.int .i64),.nil],.arr (.int .i64)] }
abbrev shb98_0:Sh:={ n:=86,slots:=[2,3,4,5],pats:=[.ptr 0 2 0,.ptr 1 2 0,.ptr 2 2 0,.sli 3 1],boxes:=[.row [.ty (.int .i64),.ty (.slice (.int .i64))],.row [.ty (.int .i64),.ty (.slice (.int .i64))],.row [.ty (.int .i64),.nil],.arr (.int .i64)] }
abbrev shr98_0:Sh:={ n:=86,slots:=[],pats:=[],boxes:=[.row [.ty (.int .i64),.ty (.slice (.int .i64))],.row [.ty (.int .i64),.ty (.slice (.int .i64))],.row [.ty (.int .i64),.nil],.arr (.int .i64)] }
def t98_0 (x3n:Nat) (x3c:Nat) (x4:Int) (b0_0:Int) (b0_1:(List Int)) (b1_0:Int) (b1_1:(List Int)) (b2_0:Int) (b3:(List Int)):Tr (Out sh98_0.data shb98_0.data shr98_0.data) :=
  Tr.test ((!leF (↑(List.length b0_1):Int) x4:Bool))
    (Tr.test (isBrk (l98_2 (((x3n,x3c),(x4,((0:Int),((0:Int),())))),((b0_0,(b0_1,())),((b1_0,(b1_1,())),((b2_0,()),(b3,())))))))
      (let r0:=b98_2 (((x3n,x3c),(x4,((0:Int),((0:Int),())))),((b0_0,(b0_1,())),((b1_0,(b1_1,())),((b2_0,()),(b3,())))));
      Tr.test ((decide ((0:Int) ≤ wrap64 (r0.1.2.1 + (↑(List.length r0.2.2.1.2.1):Int))) && decide (wrap64 (r0.1.2.1 + (↑(List.length r0.2.2.1.2.1):Int)) < (↑r0.1.1.1:Int)):Bool))
        (Tr.test ((Nat.ble ((0:Nat) + Int.toNat (wrap64 (r0.1.2.1 + (↑(List.length r0.2.2.1.2.1):Int))) + (1:Nat)) (List.length r0.2.2.2.2.1):Bool))
          (Tr.fin (.again (((r0.1.1.1,r0.1.1.2),((wrap64 (r0.1.2.1 + (1:Int)):Int),())),((r0.2.1.1,(r0.2.1.2.1,())),((r0.2.2.1.1,(r0.2.2.1.2.1,())),((r0.2.2.2.1.1,()),((List.set r0.2.2.2.2.1 ((0:Nat) + Int.toNat (wrap64 (r0.1.2.1 + (↑(List.length r0.2.2.1.2.1):Int)))) (wrap64 (List.getD r0.2.2.2.2.1 ((0:Nat) + Int.toNat (wrap64 (r0.1.2.1 + (↑(List.length r0.2.2.1.2.1):Int)))) (0:Int) + r0.1.2.2.1)):List Int),())))))))
          (Tr.stop))
        (Tr.stop))
      (Tr.stop))
    (Tr.fin (.brk (((x3n,x3c),()),((b0_0,(b0_1,())),((b1_0,(b1_1,())),((b2_0,()),(b3,())))))))
def s98_0 (d:sh98_0.data):Option (Out sh98_0.data shb98_0.data shr98_0.data):=(t98_0 d.1.1.1 d.1.1.2 d.1.2.1 d.2.1.1 d.2.1.2.1 d.2.2.1.1 d.2.2.1.2.1 d.2.2.2.1.1 d.2.2.2.2.1).val
def l98_0 (d:sh98_0.data):Option (shb98_0.data ⊕ shr98_0.data):=itr s98_0 rounds d
def b98_0 (d:sh98_0.data):shb98_0.data:=outB shb98_0.dflt (l98_0 d)
def lc98_0:LoopC:=lcB sh98_0 shb98_0 shr98_0 l98_0 b98_0
theorem wk98_0 (x3n:Nat) (x3c:Nat) (x4:Int) (b0_0:Int) (b0_1:(List Int)) (b1_0:Int) (b1_1:(List Int)) (b2_0:Int) (b3:(List Int)):Walks (runBody (kl98_2 Go.Proofs.Tryz.prog).orc Go.Proofs.Tryz.prog 400 98 0 sh98_0 shb98_0 shr98_0 (((x3n,x3c),x4,()),(b0_0,b0_1,()),(b1_0,b1_1,()),(b2_0,()),b3,())) (t98_0 x3n x3c x4 b0_0 b0_1 b1_0 b1_1 b2_0 b3) [([true,true,true,true],[2,4,2,4,1,6,8]),([ff],[2])] :=
  ⟨by kernel_rfl,by kernel_rfl,trivial⟩
theorem ok98_0_t (x3n:Nat) (x3c:Nat) (x4:Int) (b0_0:Int) (b0_1:(List Int)) (b1_0:Int) (b1_1:(List Int)) (b2_0:Int) (b3:(List Int)):TrOk (BodyRuns Go.Proofs.Tryz.prog (kl98_2 Go.Proofs.Tryz.prog).orc 98 0 sh98_0 shb98_0 shr98_0 (((x3n,x3c),x4,()),(b0_0,b0_1,()),(b1_0,b1_1,()),(b2_0,()),b3,())) (t98_0 x3n x3c x4 b0_0 b0_1 b1_0 b1_1 b2_0 b3) :=
  Walks.ok (fun _ _ _=>BodyRuns.of) (wk98_0 x3n x3c x4 b0_0 b0_1 b1_0 b1_1 b2_0 b3) (by kernel_rfl)
theorem ok98_0:LoopOk Go.Proofs.Tryz.prog 98 0 lc98_0:=loopOk_ofB (sh:=sh98_0) (shB:=shb98_0) (shR:=shr98_0) kl98_2_ok.base (T:=fun (d:sh98_0.data)=>t98_0 d.1.1.1 d.1.1.2 d.1.2.1 d.2.1.1 d.2.1.2.1 d.2.2.1.1 d.2.2.1.2.1 d.2.2.2.1.1 d.2.2.2.2.1) (by kernel_rfl) rfl (fun (d:sh98_0.data)=>ok98_0_t d.1.1.1 d.1.1.2 d.1.2.1 d.2.1.1 d.2.1.2.1 d.2.2.1.1 d.2.2.1.2.1 d.2.2.2.1.1 d.2.2.2.2.1) (fun _=>rfl)
def kl98_0 (P:Go.Program):Known:=(kl98_2 P).loop 98 0 lc98_0
theorem kl98_0_ok:KnownOk Go.Proofs.Tryz.prog (kl98_0 Go.Proofs.Tryz.prog):=kl98_2_ok.loop ok98_0
abbrev as98:List Ty:=[(.pair (.int .i64) (.pair (.slice (.int .i64)) .unit)),(.pair (.int .i64) (.pair (.slice (.int .i64)) .unit))]
abbrev rs98:List Ty:=[(.pair (.int .i64) (.pair (.slice (.int .i64)) .unit))]
def t98 (x0:Int) (x0':(List Int)) (x1:Int) (x1':(List Int)):Tr (Tys.data rs98) :=
  Tr.test ((decide ((0:Int) ≤ wrap64 (wrap64 ((↑(List.length x0'):Int) + (↑(List.length x1'):Int)) + (1:Int))) && decide (wrap64 (wrap64 ((↑(List.length x0'):Int) + (↑(List.length x1'):Int)) + (1:Int)) ≤ wrap64 (wrap64 ((↑(List.length x0'):Int) + (↑(List.length x1'):Int)) + (1:Int))) && decide ((8:Int) * wrap64 (wrap64 ((↑(List.length x0'):Int) + (↑(List.length x1'):Int)) + (1:Int)) ≤ (281474976710656:Int)) && decide (wrap64 (wrap64 ((↑(List.length x0'):Int) + (↑(List.length x1'):Int)) + (1:Int)) ≤ (281474976710656:Int)):Bool))
    (Tr.test (isBrk (l98_0 ((((Int.toNat (wrap64 (wrap64 ((↑(List.length x0'):Int) + (↑(List.length x1'):Int)) + (1:Int))):Nat),(Int.toNat (wrap64 (wrap64 ((↑(List.length x0'):Int) + (↑(List.length x1'):Int)) + (1:Int))):Nat)),((0:Int),())),((x0,(x0',())),((x1,(x1',())),(((0:Int),()),((List.replicate (Int.toNat (wrap64 (wrap64 ((↑(List.length x0'):Int) + (↑(List.length x1'):Int)) + (1:Int)))) (0:Int):List Int),())))))))
      (let r0:=b98_0 ((((Int.toNat (wrap64 (wrap64 ((↑(List.length x0'):Int) + (↑(List.length x1'):Int)) + (1:Int))):Nat),(Int.toNat (wrap64 (wrap64 ((↑(List.length x0'):Int) + (↑(List.length x1'):Int)) + (1:Int))):Nat)),((0:Int),())),((x0,(x0',())),((x1,(x1',())),(((0:Int),()),((List.replicate (Int.toNat (wrap64 (wrap64 ((↑(List.length x0'):Int) + (↑(List.length x1'):Int)) + (1:Int)))) (0:Int):List Int),())))));
      Tr.test ((Nat.beq r0.1.1.1 (List.length r0.2.2.2.2.1):Bool))
        (Tr.test (Option.isSome (f130 ((wrap64 (r0.2.1.1 * r0.2.2.1.1):Int),(r0.2.2.2.2.1,()))))
          (let r1:=g130 ((wrap64 (r0.2.1.1 * r0.2.2.1.1):Int),(r0.2.2.2.2.1,()));
          Tr.fin (((r1.1.1,(r1.1.2.1,())),())))
          (Tr.stop))
        (Tr.test ((Nat.ble r0.1.1.1 (List.length r0.2.2.2.2.1):Bool))
          (Tr.test (Option.isSome (f130 ((wrap64 (r0.2.1.1 * r0.2.2.1.1):Int),((List.take r0.1.1.1 r0.2.2.2.2.1:List Int),()))))
            (let r2:=g130 ((wrap64 (r0.2.1.1 * r0.2.2.1.1):Int),((List.take r0.1.1.1 r0.2.2.2.2.1:List Int),()));
            Tr.fin (((r2.1.1,(r2.1.2.1,())),())))
            (Tr.stop))
          (Tr.stop /- a known call [op 6 of region 12 of F98] -/)))
      (Tr.stop))
    (Tr.stop)
def f98 (d:Tys.data as98):Option (Tys.data rs98):=(t98 d.1.1 d.1.2.1 d.2.1.1 d.2.1.2.1).val
def g98 (d:Tys.data as98):Tys.data rs98:=(f98 d).getD (Tys.dflt rs98)
def p98:PureC:=pcOf as98 rs98 f98 g98
theorem wk98 (x0:Int) (x0':(List Int)) (x1:Int) (x1':(List Int)):Walks (runPure (kl98_0 Go.Proofs.Tryz.prog).orc Go.Proofs.Tryz.prog 400 98 as98 rs98 ((x0,x0',()),(x1,x1',()),())) (t98 x0 x0' x1 x1') [([true,true,true,true],[2,4,1,6,8]),([true,true,false,true,true],[2,4,6,1,8,10])] :=
  ⟨by kernel_rfl,by kernel_rfl,trivial⟩
theorem ok98_t (x0:Int) (x0':(List Int)) (x1:Int) (x1':(List Int)):TrOk (PureRuns Go.Proofs.Tryz.prog (kl98_0 Go.Proofs.Tryz.prog).orc 98 as98 rs98 ((x0,x0',()),(x1,x1',()),())) (t98 x0 x0' x1 x1') :=
  Walks.ok (fun _ _ _=>PureRuns.of) (wk98 x0 x0' x1 x1') (by kernel_rfl)
theorem ok98:PureOk Go.Proofs.Tryz.prog 98 p98:=pureOk_of kl98_0_ok.base (T:=fun (d:Tys.data as98)=>t98 d.1.1 d.1.2.1 d.2.1.1 d.2.1.2.1) (by kernel_rfl) (fun (d:Tys.data as98)=>ok98_t d.1.1 d.1.2.1 d.2.1.1 d.2.1.2.1)
def kf98 (P:Go.Program):Known:=(kl98_0 P).func 98 p98
theorem kf98_ok:KnownOk Go.Proofs.Tryz.prog (kf98 Go.Proofs.Tryz.prog):=kl98_0_ok.func ok98
abbrev sh136_0:Sh:={ n:=41,slots:=[0,1,5],pats:=[.ty (.slice (.int .i64)),.ty (.slice (.int .i64)),.ty (.int .i64)],boxes:=[] }
abbrev shb136_0:Sh:={ n:=41,slots:=[],pats:=[],boxes:=[] }
abbrev shr136_0:Sh:={ n:=41,slots:=[4],pats:=[.ty (.int .i64)],boxes:=[] }
def t136_0 (x0:(List Int)) (x1:(List Int)) (x2:Int):Tr (Out sh136_0.data shb136_0.data shr136_0.data) :=
  Tr.test ((leF (0:Int) x2:Bool))
    (Tr.test (decide ((0:Int) ≤ x2) && decide (x2 < (↑(List.length x0):Int)))
      (Tr.test ((decide ((0:Int) ≤ x2) && decide (x2 < (↑(List.length x1):Int)):Bool))
        (Tr.test ((!leF (List.getD x1 (Int.toNat x2) (0:Int)) (List.getD x0 (Int.toNat x2) (0:Int)):Bool))
          (Tr.fin (.ret (((-1:Int),()),())))
          (Tr.test ((!leF (List.getD x0 (Int.toNat x2) (0:Int)) (List.getD x1 (Int.toNat x2) (0:Int)):Bool))
            (Tr.fin (.ret (((1:Int),()),())))
            (Tr.fin (.again ((x0,(x1,((wrap64 (x2 - (1:Int)):Int),()))),())))))
        (Tr.stop))
      (Tr.stop))
    (Tr.fin (.brk ((),())))
def s136_0 (d:sh136_0.data):Option (Out sh136_0.data shb136_0.data shr136_0.data):=(t136_0 d.1.1 d.1.2.1 d.1.2.2.1).val
def l136_0 (d:sh136_0.data):Option (shb136_0.data ⊕ shr136_0.data):=itr s136_0 rounds d
def b136_0 (d:sh136_0.data):shb136_0.data:=outB shb136_0.dflt (l136_0 d)
def r136_0 (d:sh136_0.data):shr136_0.data:=outR shr136_0.dflt (l136_0 d)
def lc136_0:LoopC:=lcOf sh136_0 shb136_0 shr136_0 l136_0 b136_0 r136_0
theorem wk136_0 (x0:(List Int)) (x1:(List Int)) (x2:Int):Walks (runBody (kf98 Go.Proofs.Tryz.prog).orc Go.Proofs.Tryz.prog 400 136 0 sh136_0 shb136_0 shr136_0 ((x0,x1,x2,()),())) (t136_0 x0 x1 x2) [([true,true,true,true],[2,4,6,8]),([true,true,true,false,true],[2,6,8,4,6,8,10]),([true,true,true,false,false],[2,6,8,4,6,8,10]),([ff],[2])] :=
  ⟨by kernel_rfl,by kernel_rfl,by kernel_rfl,by kernel_rfl,trivial⟩
theorem ok136_0_t (x0:(List Int)) (x1:(List Int)) (x2:Int):TrOk (BodyRuns Go.Proofs.Tryz.prog (kf98 Go.Proofs.Tryz.prog).orc 136 0 sh136_0 shb136_0 shr136_0 ((x0,x1,x2,()),())) (t136_0 x0 x1 x2) :=
  Walks.ok (fun _ _ _=>BodyRuns.of) (wk136_0 x0 x1 x2) (by kernel_rfl)
theorem ok136_0:LoopOk Go.Proofs.Tryz.prog 136 0 lc136_0:=loopOk_of (sh:=sh136_0) (shB:=shb136_0) (shR:=shr136_0) kf98_ok.base (T:=fun (d:sh136_0.data)=>t136_0 d.1.1 d.1.2.1 d.1.2.2.1) (by kernel_rfl) rfl (fun (d:sh136_0.data)=>ok136_0_t d.1.1 d.1.2.1 d.1.2.2.1) (fun _=>rfl)
def kl136_0 (P:Go.Program):Known:=(kf98 P).loop 136 0 lc136_0
theorem kl136_0_ok:KnownOk Go.Proofs.Tryz.prog (kl136_0 Go.Proofs.Tryz.prog):=kf98_ok.loop ok136_0
abbrev as136:List Ty:=[(.slice (.int .i64)),(.slice (.int .i64))]
abbrev rs136:List Ty:=[(.int .i64)]
def t136 (x0:(List Int)) (x1:(List Int)):Tr (Tys.data rs136) :=
  Tr.test ((!eqF (↑(List.length x0):Int) (↑(List.length x1):Int):Bool))
    (Tr.test (!leF (↑(List.length x1):Int) (↑(List.length x0):Int))
      (Tr.fin (((-1:Int),())))
      (Tr.fin (((1:Int),()))))
    (Tr.test (Option.isSome (l136_0 ((x0,(x1,((wrap64 ((↑(List.length x0):Int) - (1:Int)):Int),()))),())))
      (Tr.test (isRet (l136_0 ((x0,(x1,((wrap64 ((↑(List.length x0):Int) - (1:Int)):Int),()))),())))
        (let r0:=r136_0 ((x0,(x1,((wrap64 ((↑(List.length x0):Int) - (1:Int)):Int),()))),());
        Tr.fin ((r0.1.1,())))
        (Tr.fin (((0:Int),()))))
      (Tr.stop))
def f136 (d:Tys.data as136):Option (Tys.data rs136):=(t136 d.1 d.2.1).val
def g136 (d:Tys.data as136):Tys.data rs136:=(f136 d).getD (Tys.dflt rs136)
def p136:PureC:=pcOf as136 rs136 f136 g136
theorem wk136 (x0:(List Int)) (x1:(List Int)):Walks (runPure (kl136_0 Go.Proofs.Tryz.prog).orc Go.Proofs.Tryz.prog 400 136 as136 rs136 (x0,x1,())) (t136 x0 x1) [([true,true],[2,4]),([true,false],[2,4]),([false,true,true],[2,4,6]),([false,true,false],[2,4,6])] :=
  ⟨by kernel_rfl,by kernel_rfl,by kernel_rfl,by kernel_rfl,trivial⟩
theorem ok136_t (x0:(List Int)) (x1:(List Int)):TrOk (PureRuns Go.Proofs.Tryz.prog (kl136_0 Go.Proofs.Tryz.prog).orc 136 as136 rs136 (x0,x1,())) (t136 x0 x1) :=
  Walks.ok (fun _ _ _=>PureRuns.of) (wk136 x0 x1) (by kernel_rfl)
theorem ok136:PureOk Go.Proofs.Tryz.prog 136 p136:=pureOk_of kl136_0_ok.base (T:=fun (d:Tys.data as136)=>t136 d.1 d.2.1) (by kernel_rfl) (fun (d:Tys.data as136)=>ok136_t d.1 d.2.1)
def kf136 (P:Go.Program):Known:=(kl136_0 P).func 136 p136
theorem kf136_ok:KnownOk Go.Proofs.Tryz.prog (kf136 Go.Proofs.Tryz.prog):=kl136_0_ok.func ok136
abbrev as163:List Ty:=[(.slice (.int .i64)),(.int .i64)]
abbrev rs163:List Ty:=[(.int .i64)]
def t163 (x0:(List Int)) (x1:Int):Tr (Tys.data rs163) :=
  Tr.test ((!leF (↑(List.length x0):Int) x1:Bool))
    (Tr.test (decide ((0:Int) ≤ x1) && decide (x1 < (↑(List.length x0):Int)))
      (Tr.fin (((List.getD x0 (Int.toNat x1) (0:Int):Int),())))
      (Tr.stop))
    (Tr.fin (((0:Int),())))
def f163 (d:Tys.data as163):Option (Tys.data rs163):=(t163 d.1 d.2.1).val
def g163 (d:Tys.data as163):Tys.data rs163:=(f163 d).getD (Tys.dflt rs163)
def p163:PureC:=pcOf as163 rs163 f163 g163
theorem wk163 (x0:(List Int)) (x1:Int):Walks (runPure (kf136 Go.Proofs.Tryz.prog).orc Go.Proofs.Tryz.prog 400 163 as163 rs163 (x0,x1,())) (t163 x0 x1) [([true,true],[2,4]),([ff],[2])] :=
  ⟨by kernel_rfl,by kernel_rfl,trivial⟩
theorem ok163_t (x0:(List Int)) (x1:Int):TrOk (PureRuns Go.Proofs.Tryz.prog (kf136 Go.Proofs.Tryz.prog).orc 163 as163 rs163 (x0,x1,())) (t163 x0 x1) :=
  Walks.ok (fun _ _ _=>PureRuns.of) (wk163 x0 x1) (by kernel_rfl)
theorem ok163:PureOk Go.Proofs.Tryz.prog 163 p163:=pureOk_of kf136_ok.base (T:=fun (d:Tys.data as163)=>t163 d.1 d.2.1) (by kernel_rfl) (fun (d:Tys.data as163)=>ok163_t d.1 d.2.1)
def kf163 (P:Go.Program):Known:=(kf136 P).func 163 p163
theorem kf163_ok:KnownOk Go.Proofs.Tryz.prog (kf163 Go.Proofs.Tryz.prog):=kf136_ok.func ok163
abbrev sh137_0:Sh:={ n:=35,slots:=[0,1,5,6,7],pats:=[.ty (.slice (.int .i64)),.ty (.slice (.int .i64)),.acc (.int .i64),.ty (.int .i64),.ty (.int .i64)],boxes:=[] }
abbrev shb137_0:Sh:={ n:=35,slots:=[5],pats:=[.acc (.int .i64)],boxes:=[] }
abbrev shr137_0:Sh:={ n:=35,slots:=[],pats:=[],boxes:=[] }
def t137_0 (x0:(List Int)) (x1:(List Int)) (x2:(List Int)) (x3:Int) (x4:Int):Tr (Out sh137_0.data shb137_0.data shr137_0.data) :=
  Tr.test ((!leF (↑(List.length x0):Int) x4:Bool))
    (Tr.test (decide ((0:Int) ≤ x4) && decide (x4 < (↑(List.length x0):Int)))
      (Tr.test (Option.isSome (f163 (x1,(x4,()))))
        (let r0:=g163 (x1,(x4,()));
        Tr.test ((!leF (0:Int) (wrap64 (wrap64 (List.getD x0 (Int.toNat x4) (0:Int) - r0.1) - x3)):Bool))
          (Tr.test ((Nat.ble (((2:Nat) * (List.length x2 + (1:Nat)) + (192:Nat)) * (8:Nat)) (281474976710656:Nat) && Nat.ble (List.length x2 + (1:Nat)) (281474976710656:Nat):Bool))
            (Tr.fin (.again ((x0,(x1,((x2++[wrap64 (wrap64 (wrap64 (List.getD x0 (Int.toNat x4) (0:Int) - r0.1) - x3) + (1000000000:Int))]:List Int),((1:Int),((wrap64 (x4 + (1:Int)):Int),()))))),())))
            (Tr.stop))
          (Tr.test ((Nat.ble (((2:Nat) * (List.length x2 + (1:Nat)) + (192:Nat)) * (8:Nat)) (281474976710656:Nat) && Nat.ble (List.length x2 + (1:Nat)) (281474976710656:Nat):Bool))
            (Tr.fin (.again ((x0,(x1,((x2++[wrap64 (wrap64 (List.getD x0 (Int.toNat x4) (0:Int) - r0.1) - x3)]:List Int),((0:Int),((wrap64 (x4 + (1:Int)):Int),()))))),())))
            (Tr.stop)))
        (Tr.stop))
      (Tr.stop))
    (Tr.fin (.brk ((x2,()),())))
def s137_0 (d:sh137_0.data):Option (Out sh137_0.data shb137_0.data shr137_0.data):=(t137_0 d.1.1 d.1.2.1 d.1.2.2.1 d.1.2.2.2.1 d.1.2.2.2.2.1).val
def l137_0 (d:sh137_0.data):Option (shb137_0.data ⊕ shr137_0.data):=itr s137_0 rounds d
def b137_0 (d:sh137_0.data):shb137_0.data:=outB shb137_0.dflt (l137_0 d)
def lc137_0:LoopC:=lcB sh137_0 shb137_0 shr137_0 l137_0 b137_0
theorem wk137_0 (x0:(List Int)) (x1:(List Int)) (x2:(List Int)) (x3:Int) (x4:Int):Walks (runBody (kf163 Go.Proofs.Tryz.prog).orc Go.Proofs.Tryz.prog 400 137 0 sh137_0 shb137_0 shr137_0 ((x0,x1,x2,x3,x4,()),())) (t137_0 x0 x1 x2 x3 x4) [([true,true,true,true,true],[2,0,4,6,8,10]),([true,true,true,false,true],[2,0,4,6,8,10]),([ff],[2])] :=
  ⟨by kernel_rfl,by kernel_rfl,by kernel_rfl,trivial⟩
theorem ok137_0_t (x0:(List Int)) (x1:(List Int)) (x2:(List Int)) (x3:Int) (x4:Int):TrOk (BodyRuns Go.Proofs.Tryz.prog (kf163 Go.Proofs.Tryz.prog).orc 137 0 sh137_0 shb137_0 shr137_0 ((x0,x1,x2,x3,x4,()),())) (t137_0 x0 x1 x2 x3 x4) :=
  Walks.ok (fun _ _ _=>BodyRuns.of) (wk137_0 x0 x1 x2 x3 x4) (by kernel_rfl)
theorem ok137_0:LoopOk Go.Proofs.Tryz.prog 137 0 lc137_0:=loopOk_ofB (sh:=sh137_0) (shB:=shb137_0) (shR:=shr137_0) kf163_ok.base (T:=fun (d:sh137_0.data)=>t137_0 d.1.1 d.1.2.1 d.1.2.2.1 d.1.2.2.2.1 d.1.2.2.2.2.1) (by kernel_rfl) rfl (fun (d:sh137_0.data)=>ok137_0_t d.1.1 d.1.2.1 d.1.2.2.1 d.1.2.2.2.1 d.1.2.2.2.2.1) (fun _=>rfl)
def kl137_0 (P:Go.Program):Known:=(kf163 P).loop 137 0 lc137_0
theorem kl137_0_ok:KnownOk Go.Proofs.Tryz.prog (kl137_0 Go.Proofs.Tryz.prog):=kf163_ok.loop ok137_0
end Go.Vm.Mo
