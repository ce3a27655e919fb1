import Derived.Test.YtlmcodagfhdncaaA4
import Derived.KernelRfl
import Derived.Test.YtlmcodagfhdncaaProg
import Derived.Test.YtlmcodagfhdncaaRsFc
set_option linter.unusedVariables false
set_option linter.unusedSimpArgs false

namespace Go.Vm.Mo
open Go
set_option linter.unusedVariables false

/-! ductility/ductilityref08.TestErr -/

abbrev as17:List Ty:=[(.pair (.int .i64) (.pair (.int .i64) (.pair (.int .i64) (.pair (.int .i64) (.pair (.int .i64) (.pair .bool (.pair (.int .i64) (.pair (.pair (.int .i64) (.pair (.int .i64) .unit)) .unit))))))))]
abbrev rs17:List Ty:=[(.int .i64)]

def t17 (x0:Int) (x0':Int) (x0'':Int) (x0''':Int) (x0'''':Int) (x0''''':Bool) (x0'''''':Int) (x0'''''''_:Int) (x0'''''''_':Int):Tr (Tys.data rs17) :=
  Tr.test (Option.isSome (f39 (x0,((1:Int),((1000:Int),())))))
    (let r0:=g39 (x0,((1:Int),((1000:Int),())));
    Tr.test ((!r0.1:Bool))
      (Tr.fin (((2:Int),())))
      (Tr.test (Option.isSome (f39 (x0',((0:Int),((1000:Int),())))))
        (let r1:=g39 (x0',((0:Int),((1000:Int),())));
        Tr.test ((!r1.1:Bool))
          (Tr.fin (((2:Int),())))
          (Tr.test (Option.isSome (f39 (x0'',((0:Int),((1000:Int),())))))
            (let r2:=g39 (x0'',((0:Int),((1000:Int),())));
            Tr.test ((!r2.1:Bool))
              (Tr.fin (((2:Int),())))
              (Tr.test (Option.isSome (f39 (x0''',((0:Int),((1000:Int),())))))
                (let r3:=g39 (x0''',((0:Int),((1000:Int),())));
                Tr.test ((!r3.1:Bool))
                  (Tr.fin (((2:Int),())))
                  (Tr.test (Option.isSome (f39 (x0'''',((0:Int),((2:Int),())))))
                    (let r4:=g39 (x0'''',((0:Int),((2:Int),())));
                    Tr.test ((!r4.1:Bool))
                      (Tr.fin (((2:Int),())))
                      (Tr.test (Option.isSome (f39 (x0'''''',((0:Int),((3:Int),())))))
                        (let r5:=g39 (x0'''''',((0:Int),((3:Int),())));
                        Tr.test ((!r5.1:Bool))
                          (Tr.fin (((2:Int),())))
                          (Tr.test (Option.isSome (f39 (x0'''''''_,((-1000:Int),((1000:Int),())))))
                            (let r6:=g39 (x0'''''''_,((-1000:Int),((1000:Int),())));
                            Tr.test ((!r6.1:Bool))
                              (Tr.fin (((2:Int),())))
                              (Tr.test (Option.isSome (f39 (x0'''''''_',((-1000:Int),((1000:Int),())))))
                                (let r7:=g39 (x0'''''''_',((-1000:Int),((1000:Int),())));
                                Tr.test ((!r7.1:Bool))
                                  (Tr.fin (((2:Int),())))
                                  (Tr.test ((!leF x0'''''''_ x0'''''''_':Bool))
                                    (Tr.fin (((9:Int),())))
                                    (Tr.test ((leF (9:Int) (wrap64 (x0'''''''_' - x0'''''''_)):Bool))
                                      (Tr.fin (((8:Int),())))
                                      (Tr.fin (((0:Int),()))))))
                                (Tr.stop)))
                            (Tr.stop)))
                        (Tr.stop)))
                    (Tr.stop)))
                (Tr.stop)))
            (Tr.stop)))
        (Tr.stop)))
    (Tr.stop)

def f17 (d:Tys.data as17):Option (Tys.data rs17):=(t17 d.1.1 d.1.2.1 d.1.2.2.1 d.1.2.2.2.1 d.1.2.2.2.2.1 d.1.2.2.2.2.2.1 d.1.2.2.2.2.2.2.1 d.1.2.2.2.2.2.2.2.1.1 d.1.2.2.2.2.2.2.2.1.2.1).val
def g17 (d:Tys.data as17):Tys.data rs17:=(f17 d).getD (Tys.dflt rs17)
def p17:PureC:=pcOf as17 rs17 f17 g17

theorem wk17 (x0:Int) (x0':Int) (x0'':Int) (x0''':Int) (x0'''':Int) (x0''''':Bool) (x0'''''':Int) (x0'''''''_:Int) (x0'''''''_':Int):Walks (runPure (kf39 Go.Proofs.Try.prog).orc Go.Proofs.Try.prog 400 17 as17 rs17 ((x0,x0',x0'',x0''',x0'''',x0''''',x0'''''',(x0'''''''_,x0'''''''_',()),()),())) (t17 x0 x0' x0'' x0''' x0'''' x0''''' x0'''''' x0'''''''_ x0'''''''_') [([true,true],[1,1,1,1,1,1,1,1,1,1,1,1,1,1,1,1,1,1,1,1,1,1,1,1,1,1,1,1,1,1,1,1,1,1,1,1,1,1,1,1,1,2,2,2,2,2,2,4]),([true,false,true,true],[1,1,1,1,1,1,1,1,1,1,1,1,1,1,1,1,1,1,1,1,1,1,1,1,1,1,1,1,1,1,1,1,1,1,1,2,2,2,2,2,2,6,6,4,6,6,6,6,8]),([true,false,true,false,true,true],[1,1,1,1,1,1,1,1,1,1,1,1,1,1,1,1,1,1,1,1,1,1,1,1,1,1,1,1,1,2,2,2,2,2,2,6,6,4,6,6,6,6,10,10,8,10,10,10,10,12]),([true,false,true,false,true,false,true,true],[1,1,1,1,1,1,1,1,1,1,1,1,1,1,1,1,1,1,1,1,1,1,1,1,2,2,2,2,2,6,6,4,6,6,6,6,10,10,8,10,10,10,10,14,14,12,14,14,14,14,16]),([true,false,true,false,true,false,true,false,true,true],[1,1,1,1,1,1,1,1,1,1,1,1,1,1,1,1,1,1,1,2,2,2,2,2,6,6,4,6,6,6,10,10,8,10,10,10,10,14,14,12,14,14,14,14,18,18,16,18,18,18,18,20]),([true,false,true,false,true,false,true,false,true,false,true,true],[1,1,1,1,1,1,1,1,1,1,2,2,2,2,2,2,2,2,2,6,6,4,6,6,6,10,10,8,10,10,10,14,14,12,14,14,14,14,18,18,16,18,18,18,18,22,22,20,22,22,22,22,24]),([true,false,true,false,true,false,true,false,true,false,true,false,true,true],[1,2,2,2,2,2,2,2,2,2,6,6,4,6,6,6,6,6,6,6,10,10,8,10,10,10,14,14,12,14,14,14,18,18,16,18,18,18,18,22,22,20,22,22,22,22,26,26,24,26,26,26,26,28]),([true,false,true,false,true,false,true,false,true,false,true,false,true,false,true,true],[2,6,6,4,6,6,6,6,6,6,6,10,10,8,10,10,10,10,10,10,10,14,14,12,14,14,14,18,18,16,18,18,18,22,22,20,22,22,22,22,26,26,24,26,26,26,26,30,30,28,30,30,30,30,32]),([true,false,true,false,true,false,true,false,true,false,true,false,true,false,true,false,true],[2,4,8,8,6,8,8,8,8,8,8,8,12,12,10,12,12,12,12,12,12,12,16,16,14,16,16,16,20,20,18,20,20,20,24,24,22,24,24,24,24,28,28,26,28,28,28,28,32,32,30,32,32,32,32,34]),([true,false,true,false,true,false,true,false,true,false,true,false,true,false,true,false,false,true],[2,4,6,10,10,8,10,10,10,10,10,10,10,14,14,12,14,14,14,14,14,14,14,18,18,16,18,18,18,22,22,20,22,22,22,26,26,24,26,26,26,26,30,30,28,30,30,30,30,34,34,32,34,34,34,34,36]),([true,false,true,false,true,false,true,false,true,false,true,false,true,false,true,false,false,false],[2,4,6,10,10,8,10,10,10,10,10,10,10,14,14,12,14,14,14,14,14,14,14,18,18,16,18,18,18,22,22,20,22,22,22,26,26,24,26,26,26,26,30,30,28,30,30,30,30,34,34,32,34,34,34,34,36])] :=
  ⟨by kernel_rfl,by kernel_rfl,by kernel_rfl,by kernel_rfl,by kernel_rfl,by kernel_rfl,by kernel_rfl,by kernel_rfl,by kernel_rfl,by kernel_rfl,by kernel_rfl,trivial⟩

theorem ok17_t (x0:Int) (x0':Int) (x0'':Int) (x0''':Int) (x0'''':Int) (x0''''':Bool) (x0'''''':Int) (x0'''''''_:Int) (x0'''''''_':Int):TrOk (PureRuns Go.Proofs.Try.prog (kf39 Go.Proofs.Try.prog).orc 17 as17 rs17 ((x0,x0',x0'',x0''',x0'''',x0''''',x0'''''',(x0'''''''_,x0'''''''_',()),()),())) (t17 x0 x0' x0'' x0''' x0'''' x0''''' x0'''''' x0'''''''_ x0'''''''_') :=
  Walks.ok (fun _ _ _=>PureRuns.of) (wk17 x0 x0' x0'' x0''' x0'''' x0''''' x0'''''' x0'''''''_ x0'''''''_') (by kernel_rfl)

theorem ok17:PureOk Go.Proofs.Try.prog 17 p17:=pureOk_of kf39_ok.base (T:=fun (d:Tys.data as17)=>t17 d.1.1 d.1.2.1 d.1.2.2.1 d.1.2.2.2.1 d.1.2.2.2.2.1 d.1.2.2.2.2.2.1 d.1.2.2.2.2.2.2.1 d.1.2.2.2.2.2.2.2.1.1 d.1.2.2.2.2.2.2.2.1.2.1) (by kernel_rfl) (fun (d:Tys.data as17)=>ok17_t d.1.1 d.1.2.1 d.1.2.2.1 d.1.2.2.2.1 d.1.2.2.2.2.1 d.1.2.2.2.2.2.1 d.1.2.2.2.2.2.2.1 d.1.2.2.2.2.2.2.2.1.1 d.1.2.2.2.2.2.2.2.1.2.1)
def kf17 (P:Go.Program):Known:=(kf39 P).func 17 p17
theorem kf17_ok:KnownOk Go.Proofs.Try.prog (kf17 Go.Proofs.Try.prog):=kf39_ok.func ok17

/-! loop 0 of ductility/ductilityref08.ForcesErr -/

abbrev sh27_0:Sh:={ n:=27,slots:=[1,2,5],pats:=[.ty (.slice (.int .i64)),.ptr 0 9 0,.ty (.int .i64)],boxes:=[.row [.ty (.int .i64),.ty (.int .i64),.ty (.int .i64),.ty (.int .i64),.ty (.int .i64),.ty .bool,.ty (.int .i64),.ty (.int .i64),.ty (.int .i64)]] }
abbrev shb27_0:Sh:={ n:=27,slots:=[],pats:=[],boxes:=[.row [.ty (.int .i64),.ty (.int .i64),.ty (.int .i64),.ty (.int .i64),.ty (.int .i64),.ty .bool,.ty (.int .i64),.ty (.int .i64),.ty (.int .i64)]] }
abbrev shr27_0:Sh:={ n:=27,slots:=[4],pats:=[.ty (.int .i64)],boxes:=[.row [.ty (.int .i64),.ty (.int .i64),.ty (.int .i64),.ty (.int .i64),.ty (.int .i64),.ty .bool,.ty (.int .i64),.ty (.int .i64),.ty (.int .i64)]] }

def t27_0 (x0:(List Int)) (x2:Int) (b0_0:Int) (b0_1:Int) (b0_2:Int) (b0_3:Int) (b0_4:Int) (b0_5:Bool) (b0_6:Int) (b0_7:Int) (b0_8:Int):Tr (Out sh27_0.data shb27_0.data shr27_0.data) :=
  Tr.test ((!leF (↑(List.length x0):Int) x2:Bool))
    (Tr.test (decide ((0:Int) ≤ x2) && decide (x2 < (↑(List.length x0):Int)))
      (Tr.test (Option.isSome (f39 ((List.getD x0 (Int.toNat x2) (0:Int):Int),(b0_7,(b0_8,())))))
        (let r0:=g39 ((List.getD x0 (Int.toNat x2) (0:Int):Int),(b0_7,(b0_8,())));
        Tr.test ((!r0.1:Bool))
          (Tr.fin (.ret (((2:Int),()),((b0_0,(b0_1,(b0_2,(b0_3,(b0_4,(b0_5,(b0_6,(b0_7,(b0_8,()))))))))),()))))
          (Tr.fin (.again ((x0,((wrap64 (x2 + (1:Int)):Int),())),((b0_0,(b0_1,(b0_2,(b0_3,(b0_4,(b0_5,(b0_6,(b0_7,(b0_8,()))))))))),())))))
        (Tr.stop))
      (Tr.stop))
    (Tr.fin (.brk ((),((b0_0,(b0_1,(b0_2,(b0_3,(b0_4,(b0_5,(b0_6,(b0_7,(b0_8,()))))))))),()))))

def s27_0 (d:sh27_0.data):Option (Out sh27_0.data shb27_0.data shr27_0.data):=(t27_0 d.1.1 d.1.2.1 d.2.1.1 d.2.1.2.1 d.2.1.2.2.1 d.2.1.2.2.2.1 d.2.1.2.2.2.2.1 d.2.1.2.2.2.2.2.1 d.2.1.2.2.2.2.2.2.1 d.2.1.2.2.2.2.2.2.2.1 d.2.1.2.2.2.2.2.2.2.2.1).val
def l27_0 (d:sh27_0.data):Option (shb27_0.data ⊕ shr27_0.data):=itr s27_0 rounds d
def b27_0 (d:sh27_0.data):shb27_0.data:=outB shb27_0.dflt (l27_0 d)
def r27_0 (d:sh27_0.data):shr27_0.data:=outR shr27_0.dflt (l27_0 d)
def lc27_0:LoopC:=lcOf sh27_0 shb27_0 shr27_0 l27_0 b27_0 r27_0

theorem wk27_0 (x0:(List Int)) (x2:Int) (b0_0:Int) (b0_1:Int) (b0_2:Int) (b0_3:Int) (b0_4:Int) (b0_5:Bool) (b0_6:Int) (b0_7:Int) (b0_8:Int):Walks (runBody (kf17 Go.Proofs.Try.prog).orc Go.Proofs.Try.prog 400 27 0 sh27_0 shb27_0 shr27_0 ((x0,x2,()),(b0_0,b0_1,b0_2,b0_3,b0_4,b0_5,b0_6,b0_7,b0_8,()),())) (t27_0 x0 x2 b0_0 b0_1 b0_2 b0_3 b0_4 b0_5 b0_6 b0_7 b0_8) [([true,true,true,true],[2,4,6,8]),([true,true,true,false],[2,4,6,8]),([ff],[2])] :=
  ⟨by kernel_rfl,by kernel_rfl,by kernel_rfl,trivial⟩

theorem ok27_0_t (x0:(List Int)) (x2:Int) (b0_0:Int) (b0_1:Int) (b0_2:Int) (b0_3:Int) (b0_4:Int) (b0_5:Bool) (b0_6:Int) (b0_7:Int) (b0_8:Int):TrOk (BodyRuns Go.Proofs.Try.prog (kf17 Go.Proofs.Try.prog).orc 27 0 sh27_0 shb27_0 shr27_0 ((x0,x2,()),(b0_0,b0_1,b0_2,b0_3,b0_4,b0_5,b0_6,b0_7,b0_8,()),())) (t27_0 x0 x2 b0_0 b0_1 b0_2 b0_3 b0_4 b0_5 b0_6 b0_7 b0_8) :=
  Walks.ok (fun _ _ _=>BodyRuns.of) (wk27_0 x0 x2 b0_0 b0_1 b0_2 b0_3 b0_4 b0_5 b0_6 b0_7 b0_8) (by kernel_rfl)

theorem ok27_0:LoopOk Go.Proofs.Try.prog 27 0 lc27_0:=loopOk_of (sh:=sh27_0) (shB:=shb27_0) (shR:=shr27_0) kf17_ok.base (T:=fun (d:sh27_0.data)=>t27_0 d.1.1 d.1.2.1 d.2.1.1 d.2.1.2.1 d.2.1.2.2.1 d.2.1.2.2.2.1 d.2.1.2.2.2.2.1 d.2.1.2.2.2.2.2.1 d.2.1.2.2.2.2.2.2.1 d.2.1.2.2.2.2.2.2.2.1 d.2.1.2.2.2.2.2.2.2.2.1) (by kernel_rfl) rfl (fun (d:sh27_0.data)=>ok27_0_t d.1.1 d.1.2.1 d.2.1.1 d.2.1.2.1 d.2.1.2.2.1 d.2.1.2.2.2.1 d.2.1.2.2.2.2.1 d.2.1.2.2.2.2.2.1 d.2.1.2.2.2.2.2.2.1 d.2.1.2.2.2.2.2.2.2.1 d.2.1.2.2.2.2.2.2.2.2.1) (fun _=>rfl)
def kl27_0 (P:Go.Program):Known:=(kf17 P).loop 27 0 lc27_0
theorem kl27_0_ok:KnownOk Go.Proofs.Try.prog (kl27_0 Go.Proofs.Try.prog):=kf17_ok.loop ok27_0

/-! ductility/ductilityref08.ForcesErr -/

abbrev as27:List Ty:=[(.pair (.int .i64) (.pair (.int .i64) (.pair (.int .i64) (.pair (.int .i64) (.pair (.int .i64) (.pair .bool (.pair (.int .i64) (.pair (.pair (.int .i64) (.pair (.int .i64) .unit)) .unit)))))))),(.slice (.int .i64))]
abbrev rs27:List Ty:=[(.int .i64)]

def t27 (x0:Int) (x0':Int) (x0'':Int) (x0''':Int) (x0'''':Int) (x0''''':Bool) (x0'''''':Int) (x0'''''''_:Int) (x0'''''''_':Int) (x1:(List Int)):Tr (Tys.data rs27) :=
  Tr.test ((!leF (↑(List.length x1):Int) (60:Int):Bool))
    (Tr.fin (((8:Int),())))
    (Tr.test (Option.isSome (l27_0 ((x1,((0:Int),())),((x0,(x0',(x0'',(x0''',(x0'''',(x0''''',(x0'''''',(x0'''''''_,(x0'''''''_',()))))))))),()))))
      (Tr.test (isRet (l27_0 ((x1,((0:Int),())),((x0,(x0',(x0'',(x0''',(x0'''',(x0''''',(x0'''''',(x0'''''''_,(x0'''''''_',()))))))))),()))))
        (let r0:=r27_0 ((x1,((0:Int),())),((x0,(x0',(x0'',(x0''',(x0'''',(x0''''',(x0'''''',(x0'''''''_,(x0'''''''_',()))))))))),()));
        Tr.fin ((r0.1.1,())))
        (Tr.fin (((0:Int),()))))
      (Tr.stop))

def f27 (d:Tys.data as27):Option (Tys.data rs27):=(t27 d.1.1 d.1.2.1 d.1.2.2.1 d.1.2.2.2.1 d.1.2.2.2.2.1 d.1.2.2.2.2.2.1 d.1.2.2.2.2.2.2.1 d.1.2.2.2.2.2.2.2.1.1 d.1.2.2.2.2.2.2.2.1.2.1 d.2.1).val
def g27 (d:Tys.data as27):Tys.data rs27:=(f27 d).getD (Tys.dflt rs27)
def p27:PureC:=pcOf as27 rs27 f27 g27

theorem wk27 (x0:Int) (x0':Int) (x0'':Int) (x0''':Int) (x0'''':Int) (x0''''':Bool) (x0'''''':Int) (x0'''''''_:Int) (x0'''''''_':Int) (x1:(List Int)):Walks (runPure (kl27_0 Go.Proofs.Try.prog).orc Go.Proofs.Try.prog 400 27 as27 rs27 ((x0,x0',x0'',x0''',x0'''',x0''''',x0'''''',(x0'''''''_,x0'''''''_',()),()),x1,())) (t27 x0 x0' x0'' x0''' x0'''' x0''''' x0'''''' x0'''''''_ x0'''''''_' x1) [([tt],[2]),([false,true,true],[2,4,6]),([false,true,false],[2,4,6])] :=
  ⟨by kernel_rfl,by kernel_rfl,by kernel_rfl,trivial⟩

theorem ok27_t (x0:Int) (x0':Int) (x0'':Int) (x0''':Int) (x0'''':Int) (x0''''':Bool) (x0'''''':Int) (x0'''''''_:Int) (x0'''''''_':Int) (x1:(List Int)):TrOk (PureRuns Go.Proofs.Try.prog (kl27_0 Go.Proofs.Try.prog).orc 27 as27 rs27 ((x0,x0',x0'',x0''',x0'''',x0''''',x0'''''',(x0'''''''_,x0'''''''_',()),()),x1,())) (t27 x0 x0' x0'' x0''' x0'''' x0''''' x0'''''' x0'''''''_ x0'''''''_' x1) :=
  Walks.ok (fun _ _ _=>PureRuns.of) (wk27 x0 x0' x0'' x0''' x0'''' x0''''' x0'''''' x0'''''''_ x0'''''''_' x1) (by kernel_rfl)

theorem ok27:PureOk Go.Proofs.Try.prog 27 p27:=pureOk_of kl27_0_ok.base (T:=fun (d:Tys.data as27)=>t27 d.1.1 d.1.2.1 d.1.2.2.1 d.1.2.2.2.1 d.1.2.2.2.2.1 d.1.2.2.2.2.2.1 d.1.2.2.2.2.2.2.1 d.1.2.2.2.2.2.2.2.1.1 d.1.2.2.2.2.2.2.2.1.2.1 d.2.1) (by kernel_rfl) (fun (d:Tys.data as27)=>ok27_t d.1.1 d.1.2.1 d.1.2.2.1 d.1.2.2.2.1 d.1.2.2.2.2.1 d.1.2.2.2.2.2.1 d.1.2.2.2.2.2.2.1 d.1.2.2.2.2.2.2.2.1.1 d.1.2.2.2.2.2.2.2.1.2.1 d.2.1)
def kf27 (P:Go.Program):Known:=(kl27_0 P).func 27 p27
theorem kf27_ok:KnownOk Go.Proofs.Try.prog (kf27 Go.Proofs.Try.prog):=kl27_0_ok.func ok27

/-! ductility/ductilityref08.Begin -/

abbrev as73:List Ty:=[(.pair (.int .i64) (.pair (.int .i64) (.pair (.int .i64) (.pair (.int .i64) (.pair (.int .i64) (.pair .bool (.pair (.int .i64) (.pair (.pair (.int .i64) (.pair (.int .i64) .unit)) .unit))))))))]
abbrev rs73:List Ty:=[(.slice (.int .i64))]

def t73 (x0:Int) (x0':Int) (x0'':Int) (x0''':Int) (x0'''':Int) (x0''''':Bool) (x0'''''':Int) (x0'''''''_:Int) (x0'''''''_':Int):Tr (Tys.data rs73) :=
  Tr.test ((decide ((0:Int) ≤ wrap64 (x0'''' + (2:Int))) && decide (wrap64 (x0'''' + (2:Int)) ≤ wrap64 (x0'''' + (2:Int))) && decide ((8:Int) * wrap64 (x0'''' + (2:Int)) ≤ (281474976710656:Int)) && decide (wrap64 (x0'''' + (2:Int)) ≤ (281474976710656:Int)):Bool))
    (Tr.test (Nat.beq (Int.toNat (wrap64 (x0'''' + (2:Int)))) (List.length (List.replicate (Int.toNat (wrap64 (x0'''' + (2:Int)))) (0:Int))))
      (Tr.fin (((List.replicate (Int.toNat (wrap64 (x0'''' + (2:Int)))) (0:Int):List Int),())))
      (Tr.stop))
    (Tr.stop)

def f73 (d:Tys.data as73):Option (Tys.data rs73):=(t73 d.1.1 d.1.2.1 d.1.2.2.1 d.1.2.2.2.1 d.1.2.2.2.2.1 d.1.2.2.2.2.2.1 d.1.2.2.2.2.2.2.1 d.1.2.2.2.2.2.2.2.1.1 d.1.2.2.2.2.2.2.2.1.2.1).val
def g73 (d:Tys.data as73):Tys.data rs73:=(f73 d).getD (Tys.dflt rs73)
def p73:PureC:=pcOf as73 rs73 f73 g73

theorem wk73 (x0:Int) (x0':Int) (x0'':Int) (x0''':Int) (x0'''':Int) (x0''''':Bool) (x0'''''':Int) (x0'''''''_:Int) (x0'''''''_':Int):Walks (runPure (kf27 Go.Proofs.Try.prog).orc Go.Proofs.Try.prog 400 73 as73 rs73 ((x0,x0',x0'',x0''',x0'''',x0''''',x0'''''',(x0'''''''_,x0'''''''_',()),()),())) (t73 x0 x0' x0'' x0''' x0'''' x0''''' x0'''''' x0'''''''_ x0'''''''_') [([true,true],[2,4])] :=
  ⟨by kernel_rfl,trivial⟩

theorem ok73_t (x0:Int) (x0':Int) (x0'':Int) (x0''':Int) (x0'''':Int) (x0''''':Bool) (x0'''''':Int) (x0'''''''_:Int) (x0'''''''_':Int):TrOk (PureRuns Go.Proofs.Try.prog (kf27 Go.Proofs.Try.prog).orc 73 as73 rs73 ((x0,x0',x0'',x0''',x0'''',x0''''',x0'''''',(x0'''''''_,x0'''''''_',()),()),())) (t73 x0 x0' x0'' x0''' x0'''' x0''''' x0'''''' x0'''''''_ x0'''''''_') :=
  Walks.ok (fun _ _ _=>PureRuns.of) (wk73 x0 x0' x0'' x0''' x0'''' x0''''' x0'''''' x0'''''''_ x0'''''''_') (by kernel_rfl)

theorem ok73:PureOk Go.Proofs.Try.prog 73 p73:=pureOk_of kf27_ok.base (T:=fun (d:Tys.data as73)=>t73 d.1.1 d.1.2.1 d.1.2.2.1 d.1.2.2.2.1 d.1.2.2.2.2.1 d.1.2.2.2.2.2.1 d.1.2.2.2.2.2.2.1 d.1.2.2.2.2.2.2.2.1.1 d.1.2.2.2.2.2.2.2.1.2.1) (by kernel_rfl) (fun (d:Tys.data as73)=>ok73_t d.1.1 d.1.2.1 d.1.2.2.1 d.1.2.2.2.1 d.1.2.2.2.2.1 d.1.2.2.2.2.2.1 d.1.2.2.2.2.2.2.1 d.1.2.2.2.2.2.2.2.1.1 d.1.2.2.2.2.2.2.2.1.2.1)
def kf73 (P:Go.Program):Known:=(kf27 P).func 73 p73
theorem kf73_ok:KnownOk Go.Proofs.Try.prog (kf73 Go.Proofs.Try.prog):=kf27_ok.func ok73

/-! ductility/ductilityref08.Command -/

abbrev as22:List Ty:=[(.pair (.int .i64) (.pair (.int .i64) (.pair (.int .i64) (.pair (.int .i64) (.pair (.int .i64) (.pair .bool (.pair (.int .i64) (.pair (.pair (.int .i64) (.pair (.int .i64) .unit)) .unit)))))))),(.slice (.int .i64)),(.int .i64)]
abbrev rs22:List Ty:=[(.int .i64)]

def t22 (x0:Int) (x0':Int) (x0'':Int) (x0''':Int) (x0'''':Int) (x0''''':Bool) (x0'''''':Int) (x0'''''''_:Int) (x0'''''''_':Int) (x1:(List Int)) (x2:Int):Tr (Tys.data rs22) :=
  Tr.test ((!x0''''':Bool))
    (Tr.test (decide ((0:Int) ≤ x2) && decide (x2 < (↑(List.length x1):Int)))
      (Tr.fin (((List.getD x1 (Int.toNat x2) (0:Int):Int),())))
      (Tr.stop))
    (Tr.test (decide ((0:Int) ≤ x2) && decide (x2 < (↑(List.length x1):Int)))
      (Tr.test ((decide ((0:Int) ≤ wrap64 (x2 + (1:Int))) && decide (wrap64 (x2 + (1:Int)) < (↑(List.length x1):Int)):Bool))
        (Tr.fin (((wrap64 (List.getD x1 (Int.toNat x2) (0:Int) + wrap64 (x0'''' * wrap64 (List.getD x1 (Int.toNat x2) (0:Int) - List.getD x1 (Int.toNat (wrap64 (x2 + (1:Int)))) (0:Int)))):Int),())))
        (Tr.stop))
      (Tr.stop))

def f22 (d:Tys.data as22):Option (Tys.data rs22):=(t22 d.1.1 d.1.2.1 d.1.2.2.1 d.1.2.2.2.1 d.1.2.2.2.2.1 d.1.2.2.2.2.2.1 d.1.2.2.2.2.2.2.1 d.1.2.2.2.2.2.2.2.1.1 d.1.2.2.2.2.2.2.2.1.2.1 d.2.1 d.2.2.1).val
def g22 (d:Tys.data as22):Tys.data rs22:=(f22 d).getD (Tys.dflt rs22)
def p22:PureC:=pcOf as22 rs22 f22 g22

theorem wk22 (x0:Int) (x0':Int) (x0'':Int) (x0''':Int) (x0'''':Int) (x0''''':Bool) (x0'''''':Int) (x0'''''''_:Int) (x0'''''''_':Int) (x1:(List Int)) (x2:Int):Walks (runPure (kf73 Go.Proofs.Try.prog).orc Go.Proofs.Try.prog 400 22 as22 rs22 ((x0,x0',x0'',x0''',x0'''',x0''''',x0'''''',(x0'''''''_,x0'''''''_',()),()),x1,x2,())) (t22 x0 x0' x0'' x0''' x0'''' x0''''' x0'''''' x0'''''''_ x0'''''''_' x1 x2) [([true,true],[2,4]),([false,true,true],[2,4,4,6])] :=
  ⟨by kernel_rfl,by kernel_rfl,trivial⟩

theorem ok22_t (x0:Int) (x0':Int) (x0'':Int) (x0''':Int) (x0'''':Int) (x0''''':Bool) (x0'''''':Int) (x0'''''''_:Int) (x0'''''''_':Int) (x1:(List Int)) (x2:Int):TrOk (PureRuns Go.Proofs.Try.prog (kf73 Go.Proofs.Try.prog).orc 22 as22 rs22 ((x0,x0',x0'',x0''',x0'''',x0''''',x0'''''',(x0'''''''_,x0'''''''_',()),()),x1,x2,())) (t22 x0 x0' x0'' x0''' x0'''' x0''''' x0'''''' x0'''''''_ x0'''''''_' x1 x2) :=
  Walks.ok (fun _ _ _=>PureRuns.of) (wk22 x0 x0' x0'' x0''' x0'''' x0''''' x0'''''' x0'''''''_ x0'''''''_' x1 x2) (by kernel_rfl)

theorem ok22:PureOk Go.Proofs.Try.prog 22 p22:=pureOk_of kf73_ok.base (T:=fun (d:Tys.data as22)=>t22 d.1.1 d.1.2.1 d.1.2.2.1 d.1.2.2.2.1 d.1.2.2.2.2.1 d.1.2.2.2.2.2.1 d.1.2.2.2.2.2.2.1 d.1.2.2.2.2.2.2.2.1.1 d.1.2.2.2.2.2.2.2.1.2.1 d.2.1 d.2.2.1) (by kernel_rfl) (fun (d:Tys.data as22)=>ok22_t d.1.1 d.1.2.1 d.1.2.2.1 d.1.2.2.2.1 d.1.2.2.2.2.1 d.1.2.2.2.2.2.1 d.1.2.2.2.2.2.2.1 d.1.2.2.2.2.2.2.2.1.1 d.1.2.2.2.2.2.2.2.1.2.1 d.2.1 d.2.2.1)
def kf22 (P:Go.Program):Known:=(kf73 P).func 22 p22
theorem kf22_ok:KnownOk Go.Proofs.Try.prog (kf22 Go.Proofs.Try.prog):=kf73_ok.func ok22

/-! ductility/ductilityref08.Actuators -/

abbrev as23:List Ty:=[(.pair (.int .i64) (.pair (.int .i64) (.pair (.int .i64) (.pair (.int .i64) (.pair (.int .i64) (.pair .bool (.pair (.int .i64) (.pair (.pair (.int .i64) (.pair (.int .i64) .unit)) .unit)))))))),(.slice (.int .i64))]
abbrev rs23:List Ty:=[(.int .i64)]

def t23 (x0:Int) (x0':Int) (x0'':Int) (x0''':Int) (x0'''':Int) (x0''''':Bool) (x0'''''':Int) (x0'''''''_:Int) (x0'''''''_':Int) (x1:(List Int)):Tr (Tys.data rs23) :=
  Tr.test (Option.isSome (f22 ((x0,(x0',(x0'',(x0''',(x0'''',(x0''''',(x0'''''',((x0'''''''_,(x0'''''''_',())),())))))))),(x1,(x0'''',())))))
    (let r0:=g22 ((x0,(x0',(x0'',(x0''',(x0'''',(x0''''',(x0'''''',((x0'''''''_,(x0'''''''_',())),())))))))),(x1,(x0'''',())));
    Tr.fin ((r0.1,())))
    (Tr.stop)

def f23 (d:Tys.data as23):Option (Tys.data rs23):=(t23 d.1.1 d.1.2.1 d.1.2.2.1 d.1.2.2.2.1 d.1.2.2.2.2.1 d.1.2.2.2.2.2.1 d.1.2.2.2.2.2.2.1 d.1.2.2.2.2.2.2.2.1.1 d.1.2.2.2.2.2.2.2.1.2.1 d.2.1).val
def g23 (d:Tys.data as23):Tys.data rs23:=(f23 d).getD (Tys.dflt rs23)
def p23:PureC:=pcOf as23 rs23 f23 g23

theorem wk23 (x0:Int) (x0':Int) (x0'':Int) (x0''':Int) (x0'''':Int) (x0''''':Bool) (x0'''''':Int) (x0'''''''_:Int) (x0'''''''_':Int) (x1:(List Int)):Walks (runPure (kf22 Go.Proofs.Try.prog).orc Go.Proofs.Try.prog 400 23 as23 rs23 ((x0,x0',x0'',x0''',x0'''',x0''''',x0'''''',(x0'''''''_,x0'''''''_',()),()),x1,())) (t23 x0 x0' x0'' x0''' x0'''' x0''''' x0'''''' x0'''''''_ x0'''''''_' x1) [([tt],[2])] :=
  ⟨by kernel_rfl,trivial⟩

theorem ok23_t (x0:Int) (x0':Int) (x0'':Int) (x0''':Int) (x0'''':Int) (x0''''':Bool) (x0'''''':Int) (x0'''''''_:Int) (x0'''''''_':Int) (x1:(List Int)):TrOk (PureRuns Go.Proofs.Try.prog (kf22 Go.Proofs.Try.prog).orc 23 as23 rs23 ((x0,x0',x0'',x0''',x0'''',x0''''',x0'''''',(x0'''''''_,x0'''''''_',()),()),x1,())) (t23 x0 x0' x0'' x0''' x0'''' x0''''' x0'''''' x0'''''''_ x0'''''''_' x1) :=
  Walks.ok (fun _ _ _=>PureRuns.of) (wk23 x0 x0' x0'' x0''' x0'''' x0''''' x0'''''' x0'''''''_ x0'''''''_' x1) (by kernel_rfl)

theorem ok23:PureOk Go.Proofs.Try.prog 23 p23:=pureOk_of kf22_ok.base (T:=fun (d:Tys.data as23)=>t23 d.1.1 d.1.2.1 d.1.2.2.1 d.1.2.2.2.1 d.1.2.2.2.2.1 d.1.2.2.2.2.2.1 d.1.2.2.2.2.2.2.1 d.1.2.2.2.2.2.2.2.1.1 d.1.2.2.2.2.2.2.2.1.2.1 d.2.1) (by kernel_rfl) (fun (d:Tys.data as23)=>ok23_t d.1.1 d.1.2.1 d.1.2.2.1 d.1.2.2.2.1 d.1.2.2.2.2.1 d.1.2.2.2.2.2.1 d.1.2.2.2.2.2.2.1 d.1.2.2.2.2.2.2.2.1.1 d.1.2.2.2.2.2.2.2.1.2.1 d.2.1)
def kf23 (P:Go.Program):Known:=(kf22 P).func 23 p23
theorem kf23_ok:KnownOk Go.Proofs.Try.prog (kf23 Go.Proofs.Try.prog):=kf22_ok.func ok23

/-! ductility/ductilitybase.Floor -/

abbrev as96:List Ty:=[(.int .i64),(.int .i64)]
abbrev rs96:List Ty:=[(.int .i64)]

def t96 (x0:Int) (x1:Int):Tr (Tys.data rs96) :=
  Tr.test ((x1 == (0:Int):Bool))
    (Tr.stop)
    (Tr.test (!leF (0:Int) (Int.tmod x0 x1))
      (Tr.fin (((wrap64 (Go.IntKind.wrap Go.IntKind.i64 (Int.tdiv x0 x1) - (1:Int)):Int),())))
      (Tr.fin (((Go.IntKind.wrap Go.IntKind.i64 (Int.tdiv x0 x1):Int),()))))

def f96 (d:Tys.data as96):Option (Tys.data rs96):=(t96 d.1 d.2.1).val
def g96 (d:Tys.data as96):Tys.data rs96:=(f96 d).getD (Tys.dflt rs96)
def p96:PureC:=pcOf as96 rs96 f96 g96

theorem wk96 (x0:Int) (x1:Int):Walks (runPure (kf23 Go.Proofs.Try.prog).orc Go.Proofs.Try.prog 400 96 as96 rs96 (x0,x1,())) (t96 x0 x1) [([false,true],[2,4,4]),([false,false],[2,4,4])] :=
  ⟨by kernel_rfl,by kernel_rfl,trivial⟩

theorem ok96_t (x0:Int) (x1:Int):TrOk (PureRuns Go.Proofs.Try.prog (kf23 Go.Proofs.Try.prog).orc 96 as96 rs96 (x0,x1,())) (t96 x0 x1) :=
  Walks.ok (fun _ _ _=>PureRuns.of) (wk96 x0 x1) (by kernel_rfl)

theorem ok96:PureOk Go.Proofs.Try.prog 96 p96:=pureOk_of kf23_ok.base (T:=fun (d:Tys.data as96)=>t96 d.1 d.2.1) (by kernel_rfl) (fun (d:Tys.data as96)=>ok96_t d.1 d.2.1)
def kf96 (P:Go.Program):Known:=(kf23 P).func 96 p96
theorem kf96_ok:KnownOk Go.Proofs.Try.prog (kf96 Go.Proofs.Try.prog):=kf23_ok.func ok96

/-! ductility/ductilityref08.Next -/

abbrev as70:List Ty:=[(.pair (.int .i64) (.pair (.int .i64) (.pair (.int .i64) (.pair (.int .i64) (.pair (.int .i64) (.pair .bool (.pair (.int .i64) (.pair (.pair (.int .i64) (.pair (.int .i64) .unit)) .unit)))))))),(.slice (.int .i64)),(.int .i64)]
abbrev rs70:List Ty:=[(.slice (.int .i64)),.bool]

def t70 (x0:Int) (x0':Int) (x0'':Int) (x0''':Int) (x0'''':Int) (x0''''':Bool) (x0'''''':Int) (x0'''''''_:Int) (x0'''''''_':Int) (x1:(List Int)) (x2:Int):Tr (Tys.data rs70) :=
  Tr.test ((true && decide ((0:Int) < (↑(List.length x1):Int)):Bool))
    (Tr.test (true && decide ((1:Int) < (↑(List.length x1):Int)))
      (Tr.test (Option.isSome (f23 ((x0,(x0',(x0'',(x0''',(x0'''',(x0''''',(x0'''''',((x0'''''''_,(x0'''''''_',())),())))))))),(x1,()))))
        (let r0:=g23 ((x0,(x0',(x0'',(x0''',(x0'''',(x0''''',(x0'''''',((x0'''''''_,(x0'''''''_',())),())))))))),(x1,()));
        Tr.test (Option.isSome (f96 ((wrap64 (wrap64 (wrap64 (x2 - wrap64 (x0' * wrap64 (List.getD x1 (0:Nat) (0:Int) - List.getD x1 (1:Nat) (0:Int)))) - wrap64 (x0'' * List.getD x1 (0:Nat) (0:Int))) - wrap64 (x0''' * r0.1)):Int),(x0,()))))
          (Tr.test ((decide ((0:Int) ≤ wrap64 ((↑(List.length x1):Int) - (1:Int))) && decide (wrap64 ((↑(List.length x1):Int) - (1:Int)) ≤ (↑(List.length x1):Int)):Bool))
            (Tr.test ((Nat.beq (List.length (List.take (Int.toNat (wrap64 ((↑(List.length x1):Int) - (1:Int)))) x1)) (0:Nat):Bool))
              (let r1:=g96 ((wrap64 (wrap64 (wrap64 (x2 - wrap64 (x0' * wrap64 (List.getD x1 (0:Nat) (0:Int) - List.getD x1 (1:Nat) (0:Int)))) - wrap64 (x0'' * List.getD x1 (0:Nat) (0:Int))) - wrap64 (x0''' * r0.1)):Int),(x0,()));
              Tr.test (Option.isSome (f39 ((wrap64 (wrap64 (wrap64 ((2:Int) * List.getD x1 (0:Nat) (0:Int)) - List.getD x1 (1:Nat) (0:Int)) + r1.1):Int),((Go.IntKind.wrap Go.IntKind.i64 ((0:Int) - x0''''''):Int),(x0'''''',())))))
                (let r2:=g39 ((wrap64 (wrap64 (wrap64 ((2:Int) * List.getD x1 (0:Nat) (0:Int)) - List.getD x1 (1:Nat) (0:Int)) + r1.1):Int),((Go.IntKind.wrap Go.IntKind.i64 ((0:Int) - x0''''''):Int),(x0'''''',())));
                Tr.fin ((([wrap64 (wrap64 (wrap64 ((2:Int) * List.getD x1 (0:Nat) (0:Int)) - List.getD x1 (1:Nat) (0:Int)) + r1.1)]:List Int),(r2.1,()))))
                (Tr.stop))
              (Tr.test ((Nat.ble (((2:Nat) * ((1:Nat) + List.length (List.take (Int.toNat (wrap64 ((↑(List.length x1):Int) - (1:Int)))) x1)) + (192:Nat)) * (8:Nat)) (281474976710656:Nat) && Nat.ble ((1:Nat) + List.length (List.take (Int.toNat (wrap64 ((↑(List.length x1):Int) - (1:Int)))) x1)) (281474976710656:Nat):Bool))
                (let r1:=g96 ((wrap64 (wrap64 (wrap64 (x2 - wrap64 (x0' * wrap64 (List.getD x1 (0:Nat) (0:Int) - List.getD x1 (1:Nat) (0:Int)))) - wrap64 (x0'' * List.getD x1 (0:Nat) (0:Int))) - wrap64 (x0''' * r0.1)):Int),(x0,()));
                Tr.test (Option.isSome (f39 ((wrap64 (wrap64 (wrap64 ((2:Int) * List.getD x1 (0:Nat) (0:Int)) - List.getD x1 (1:Nat) (0:Int)) + r1.1):Int),((Go.IntKind.wrap Go.IntKind.i64 ((0:Int) - x0''''''):Int),(x0'''''',())))))
                  (let r2:=g39 ((wrap64 (wrap64 (wrap64 ((2:Int) * List.getD x1 (0:Nat) (0:Int)) - List.getD x1 (1:Nat) (0:Int)) + r1.1):Int),((Go.IntKind.wrap Go.IntKind.i64 ((0:Int) - x0''''''):Int),(x0'''''',())));
                  Tr.fin ((([wrap64 (wrap64 (wrap64 ((2:Int) * List.getD x1 (0:Nat) (0:Int)) - List.getD x1 (1:Nat) (0:Int)) + r1.1)]++List.take (Int.toNat (wrap64 ((↑(List.length x1):Int) - (1:Int)))) x1:List Int),(r2.1,()))))
                  (Tr.stop))
                (Tr.stop)))
            (Tr.stop))
          (Tr.stop))
        (Tr.stop))
      (Tr.stop))
    (Tr.stop)

def f70 (d:Tys.data as70):Option (Tys.data rs70):=(t70 d.1.1 d.1.2.1 d.1.2.2.1 d.1.2.2.2.1 d.1.2.2.2.2.1 d.1.2.2.2.2.2.1 d.1.2.2.2.2.2.2.1 d.1.2.2.2.2.2.2.2.1.1 d.1.2.2.2.2.2.2.2.1.2.1 d.2.1 d.2.2.1).val
def g70 (d:Tys.data as70):Tys.data rs70:=(f70 d).getD (Tys.dflt rs70)
def p70:PureC:=pcOf as70 rs70 f70 g70

theorem wk70 (x0:Int) (x0':Int) (x0'':Int) (x0''':Int) (x0'''':Int) (x0''''':Bool) (x0'''''':Int) (x0'''''''_:Int) (x0'''''''_':Int) (x1:(List Int)) (x2:Int):Walks (runPure (kf96 Go.Proofs.Try.prog).orc Go.Proofs.Try.prog 400 70 as70 rs70 ((x0,x0',x0'',x0''',x0'''',x0''''',x0'''''',(x0'''''''_,x0'''''''_',()),()),x1,x2,())) (t70 x0 x0' x0'' x0''' x0'''' x0''''' x0'''''' x0'''''''_ x0'''''''_' x1 x2) [([true,true,true,true,true,true,true],[2,4,6,8,12,14,10,14,12,14]),([true,true,true,true,true,false,true,true],[2,4,6,8,10,14,16,12,16,14,16])] :=
  ⟨by kernel_rfl,by kernel_rfl,trivial⟩

theorem ok70_t (x0:Int) (x0':Int) (x0'':Int) (x0''':Int) (x0'''':Int) (x0''''':Bool) (x0'''''':Int) (x0'''''''_:Int) (x0'''''''_':Int) (x1:(List Int)) (x2:Int):TrOk (PureRuns Go.Proofs.Try.prog (kf96 Go.Proofs.Try.prog).orc 70 as70 rs70 ((x0,x0',x0'',x0''',x0'''',x0''''',x0'''''',(x0'''''''_,x0'''''''_',()),()),x1,x2,())) (t70 x0 x0' x0'' x0''' x0'''' x0''''' x0'''''' x0'''''''_ x0'''''''_' x1 x2) :=
  Walks.ok (fun _ _ _=>PureRuns.of) (wk70 x0 x0' x0'' x0''' x0'''' x0''''' x0'''''' x0'''''''_ x0'''''''_' x1 x2) (by kernel_rfl)

theorem ok70:PureOk Go.Proofs.Try.prog 70 p70:=pureOk_of kf96_ok.base (T:=fun (d:Tys.data as70)=>t70 d.1.1 d.1.2.1 d.1.2.2.1 d.1.2.2.2.1 d.1.2.2.2.2.1 d.1.2.2.2.2.2.1 d.1.2.2.2.2.2.2.1 d.1.2.2.2.2.2.2.2.1.1 d.1.2.2.2.2.2.2.2.1.2.1 d.2.1 d.2.2.1) (by kernel_rfl) (fun (d:Tys.data as70)=>ok70_t d.1.1 d.1.2.1 d.1.2.2.1 d.1.2.2.2.1 d.1.2.2.2.2.1 d.1.2.2.2.2.2.1 d.1.2.2.2.2.2.2.1 d.1.2.2.2.2.2.2.2.1.1 d.1.2.2.2.2.2.2.2.1.2.1 d.2.1 d.2.2.1)
def kf70 (P:Go.Program):Known:=(kf96 P).func 70 p70
theorem kf70_ok:KnownOk Go.Proofs.Try.prog (kf70 Go.Proofs.Try.prog):=kf96_ok.func ok70

/-! loop 0 of ductility/ductilityref08.Run -/

abbrev sh28_0:Sh:={ n:=40,slots:=[1,2,5,6,7],pats:=[.ty (.slice (.int .i64)),.ptr 0 9 0,.acc (.int .i64),.ty (.slice (.int .i64)),.ty (.int .i64)],boxes:=[.row [.ty (.int .i64),.ty (.int .i64),.ty (.int .i64),.ty (.int .i64),.ty (.int .i64),.ty .bool,.ty (.int .i64),.ty (.int .i64),.ty (.int .i64)]] }
abbrev shb28_0:Sh:={ n:=40,slots:=[5],pats:=[.acc (.int .i64)],boxes:=[.row [.ty (.int .i64),.ty (.int .i64),.ty (.int .i64),.ty (.int .i64),.ty (.int .i64),.ty .bool,.ty (.int .i64),.ty (.int .i64),.ty (.int .i64)]] }
abbrev shr28_0:Sh:={ n:=40,slots:=[4],pats:=[.acc (.int .i64)],boxes:=[.row [.ty (.int .i64),.ty (.int .i64),.ty (.int .i64),.ty (.int .i64),.ty (.int .i64),.ty .bool,.ty (.int .i64),.ty (.int .i64),.ty (.int .i64)]] }

def t28_0 (x0:(List Int)) (x2:(List Int)) (x3:(List Int)) (x4:Int) (b0_0:Int) (b0_1:Int) (b0_2:Int) (b0_3:Int) (b0_4:Int) (b0_5:Bool) (b0_6:Int) (b0_7:Int) (b0_8:Int):Tr (Out sh28_0.data shb28_0.data shr28_0.data) :=
  Tr.test ((!leF (↑(List.length x0):Int) x4:Bool))
    (Tr.test (decide ((0:Int) ≤ x4) && decide (x4 < (↑(List.length x0):Int)))
      (Tr.test (Option.isSome (f70 ((b0_0,(b0_1,(b0_2,(b0_3,(b0_4,(b0_5,(b0_6,((b0_7,(b0_8,())),())))))))),(x3,((List.getD x0 (Int.toNat x4) (0:Int):Int),())))))
        (let r0:=g70 ((b0_0,(b0_1,(b0_2,(b0_3,(b0_4,(b0_5,(b0_6,((b0_7,(b0_8,())),())))))))),(x3,((List.getD x0 (Int.toNat x4) (0:Int):Int),())));
        Tr.test ((true && decide ((0:Int) < (↑(List.length r0.1):Int)):Bool))
          (Tr.test ((Nat.ble (((2:Nat) * (List.length x2 + (1:Nat)) + (192:Nat)) * (8:Nat)) (281474976710656:Nat) && Nat.ble (List.length x2 + (1:Nat)) (281474976710656:Nat):Bool))
            (Tr.test ((!r0.2.1:Bool))
              (Tr.fin (.ret (((x2++[List.getD r0.1 (0:Nat) (0:Int)]:List Int),()),((b0_0,(b0_1,(b0_2,(b0_3,(b0_4,(b0_5,(b0_6,(b0_7,(b0_8,()))))))))),()))))
              (Tr.fin (.again ((x0,((x2++[List.getD r0.1 (0:Nat) (0:Int)]:List Int),(r0.1,((wrap64 (x4 + (1:Int)):Int),())))),((b0_0,(b0_1,(b0_2,(b0_3,(b0_4,(b0_5,(b0_6,(b0_7,(b0_8,()))))))))),())))))
            (Tr.stop))
          (Tr.stop))
        (Tr.stop))
      (Tr.stop))
    (Tr.fin (.brk ((x2,()),((b0_0,(b0_1,(b0_2,(b0_3,(b0_4,(b0_5,(b0_6,(b0_7,(b0_8,()))))))))),()))))

def s28_0 (d:sh28_0.data):Option (Out sh28_0.data shb28_0.data shr28_0.data):=(t28_0 d.1.1 d.1.2.1 d.1.2.2.1 d.1.2.2.2.1 d.2.1.1 d.2.1.2.1 d.2.1.2.2.1 d.2.1.2.2.2.1 d.2.1.2.2.2.2.1 d.2.1.2.2.2.2.2.1 d.2.1.2.2.2.2.2.2.1 d.2.1.2.2.2.2.2.2.2.1 d.2.1.2.2.2.2.2.2.2.2.1).val
def l28_0 (d:sh28_0.data):Option (shb28_0.data ⊕ shr28_0.data):=itr s28_0 rounds d
def b28_0 (d:sh28_0.data):shb28_0.data:=outB shb28_0.dflt (l28_0 d)
def r28_0 (d:sh28_0.data):shr28_0.data:=outR shr28_0.dflt (l28_0 d)
def lc28_0:LoopC:=lcOf sh28_0 shb28_0 shr28_0 l28_0 b28_0 r28_0

theorem wk28_0 (x0:(List Int)) (x2:(List Int)) (x3:(List Int)) (x4:Int) (b0_0:Int) (b0_1:Int) (b0_2:Int) (b0_3:Int) (b0_4:Int) (b0_5:Bool) (b0_6:Int) (b0_7:Int) (b0_8:Int):Walks (runBody (kf70 Go.Proofs.Try.prog).orc Go.Proofs.Try.prog 400 28 0 sh28_0 shb28_0 shr28_0 ((x0,x2,x3,x4,()),(b0_0,b0_1,b0_2,b0_3,b0_4,b0_5,b0_6,b0_7,b0_8,()),())) (t28_0 x0 x2 x3 x4 b0_0 b0_1 b0_2 b0_3 b0_4 b0_5 b0_6 b0_7 b0_8) [([true,true,true,true,true,true],[2,4,0,6,8,10,12]),([true,true,true,true,true,false],[2,4,0,6,8,10,12]),([ff],[2])] :=
  ⟨by kernel_rfl,by kernel_rfl,by kernel_rfl,trivial⟩

theorem ok28_0_t (x0:(List Int)) (x2:(List Int)) (x3:(List Int)) (x4:Int) (b0_0:Int) (b0_1:Int) (b0_2:Int) (b0_3:Int) (b0_4:Int) (b0_5:Bool) (b0_6:Int) (b0_7:Int) (b0_8:Int):TrOk (BodyRuns Go.Proofs.Try.prog (kf70 Go.Proofs.Try.prog).orc 28 0 sh28_0 shb28_0 shr28_0 ((x0,x2,x3,x4,()),(b0_0,b0_1,b0_2,b0_3,b0_4,b0_5,b0_6,b0_7,b0_8,()),())) (t28_0 x0 x2 x3 x4 b0_0 b0_1 b0_2 b0_3 b0_4 b0_5 b0_6 b0_7 b0_8) :=
  Walks.ok (fun _ _ _=>BodyRuns.of) (wk28_0 x0 x2 x3 x4 b0_0 b0_1 b0_2 b0_3 b0_4 b0_5 b0_6 b0_7 b0_8) (by kernel_rfl)

theorem ok28_0:LoopOk Go.Proofs.Try.prog 28 0 lc28_0:=loopOk_of (sh:=sh28_0) (shB:=shb28_0) (shR:=shr28_0) kf70_ok.base (T:=fun (d:sh28_0.data)=>t28_0 d.1.1 d.1.2.1 d.1.2.2.1 d.1.2.2.2.1 d.2.1.1 d.2.1.2.1 d.2.1.2.2.1 d.2.1.2.2.2.1 d.2.1.2.2.2.2.1 d.2.1.2.2.2.2.2.1 d.2.1.2.2.2.2.2.2.1 d.2.1.2.2.2.2.2.2.2.1 d.2.1.2.2.2.2.2.2.2.2.1) (by kernel_rfl) rfl (fun (d:sh28_0.data)=>ok28_0_t d.1.1 d.1.2.1 d.1.2.2.1 d.1.2.2.2.1 d.2.1.1 d.2.1.2.1 d.2.1.2.2.1 d.2.1.2.2.2.1 d.2.1.2.2.2.2.1 d.2.1.2.2.2.2.2.1 d.2.1.2.2.2.2.2.2.1 d.2.1.2.2.2.2.2.2.2.1 d.2.1.2.2.2.2.2.2.2.2.1) (fun _=>rfl)
def kl28_0 (P:Go.Program):Known:=(kf70 P).loop 28 0 lc28_0
theorem kl28_0_ok:KnownOk Go.Proofs.Try.prog (kl28_0 Go.Proofs.Try.prog):=kf70_ok.loop ok28_0

/-! ductility/ductilityref08.Run -/

abbrev as28:List Ty:=[(.pair (.int .i64) (.pair (.int .i64) (.pair (.int .i64) (.pair (.int .i64) (.pair (.int .i64) (.pair .bool (.pair (.int .i64) (.pair (.pair (.int .i64) (.pair (.int .i64) .unit)) .unit)))))))),(.slice (.int .i64))]
abbrev rs28:List Ty:=[(.slice (.int .i64))]

def t28 (x0:Int) (x0':Int) (x0'':Int) (x0''':Int) (x0'''':Int) (x0''''':Bool) (x0'''''':Int) (x0'''''''_:Int) (x0'''''''_':Int) (x1:(List Int)):Tr (Tys.data rs28) :=
  Tr.test (Option.isSome (f73 ((x0,(x0',(x0'',(x0''',(x0'''',(x0''''',(x0'''''',((x0'''''''_,(x0'''''''_',())),())))))))),())))
    (let r0:=g73 ((x0,(x0',(x0'',(x0''',(x0'''',(x0''''',(x0'''''',((x0'''''''_,(x0'''''''_',())),())))))))),());
    Tr.test (Option.isSome (l28_0 ((x1,(([(0:Int)]:List Int),(r0.1,((0:Int),())))),((x0,(x0',(x0'',(x0''',(x0'''',(x0''''',(x0'''''',(x0'''''''_,(x0'''''''_',()))))))))),()))))
      (Tr.test (isRet (l28_0 ((x1,(([(0:Int)]:List Int),(r0.1,((0:Int),())))),((x0,(x0',(x0'',(x0''',(x0'''',(x0''''',(x0'''''',(x0'''''''_,(x0'''''''_',()))))))))),()))))
        (let r1:=r28_0 ((x1,(([(0:Int)]:List Int),(r0.1,((0:Int),())))),((x0,(x0',(x0'',(x0''',(x0'''',(x0''''',(x0'''''',(x0'''''''_,(x0'''''''_',()))))))))),()));
        Tr.fin ((r1.1.1,())))
        (let r2:=b28_0 ((x1,(([(0:Int)]:List Int),(r0.1,((0:Int),())))),((x0,(x0',(x0'',(x0''',(x0'''',(x0''''',(x0'''''',(x0'''''''_,(x0'''''''_',()))))))))),()));
        Tr.fin ((r2.1.1,()))))
      (Tr.stop))
    (Tr.stop)

def f28 (d:Tys.data as28):Option (Tys.data rs28):=(t28 d.1.1 d.1.2.1 d.1.2.2.1 d.1.2.2.2.1 d.1.2.2.2.2.1 d.1.2.2.2.2.2.1 d.1.2.2.2.2.2.2.1 d.1.2.2.2.2.2.2.2.1.1 d.1.2.2.2.2.2.2.2.1.2.1 d.2.1).val
def g28 (d:Tys.data as28):Tys.data rs28:=(f28 d).getD (Tys.dflt rs28)
def p28:PureC:=pcOf as28 rs28 f28 g28

theorem wk28 (x0:Int) (x0':Int) (x0'':Int) (x0''':Int) (x0'''':Int) (x0''''':Bool) (x0'''''':Int) (x0'''''''_:Int) (x0'''''''_':Int) (x1:(List Int)):Walks (runPure (kl28_0 Go.Proofs.Try.prog).orc Go.Proofs.Try.prog 400 28 as28 rs28 ((x0,x0',x0'',x0''',x0'''',x0''''',x0'''''',(x0'''''''_,x0'''''''_',()),()),x1,())) (t28 x0 x0' x0'' x0''' x0'''' x0''''' x0'''''' x0'''''''_ x0'''''''_' x1) [([true,true,true],[2,4,6]),([true,true,false],[2,4,6])] :=
  ⟨by kernel_rfl,by kernel_rfl,trivial⟩

theorem ok28_t (x0:Int) (x0':Int) (x0'':Int) (x0''':Int) (x0'''':Int) (x0''''':Bool) (x0'''''':Int) (x0'''''''_:Int) (x0'''''''_':Int) (x1:(List Int)):TrOk (PureRuns Go.Proofs.Try.prog (kl28_0 Go.Proofs.Try.prog).orc 28 as28 rs28 ((x0,x0',x0'',x0''',x0'''',x0''''',x0'''''',(x0'''''''_,x0'''''''_',()),()),x1,())) (t28 x0 x0' x0'' x0''' x0'''' x0''''' x0'''''' x0'''''''_ x0'''''''_' x1) :=
  Walks.ok (fun _ _ _=>PureRuns.of) (wk28 x0 x0' x0'' x0''' x0'''' x0''''' x0'''''' x0'''''''_ x0'''''''_' x1) (by kernel_rfl)

theorem ok28:PureOk Go.Proofs.Try.prog 28 p28:=pureOk_of kl28_0_ok.base (T:=fun (d:Tys.data as28)=>t28 d.1.1 d.1.2.1 d.1.2.2.1 d.1.2.2.2.1 d.1.2.2.2.2.1 d.1.2.2.2.2.2.1 d.1.2.2.2.2.2.2.1 d.1.2.2.2.2.2.2.2.1.1 d.1.2.2.2.2.2.2.2.1.2.1 d.2.1) (by kernel_rfl) (fun (d:Tys.data as28)=>ok28_t d.1.1 d.1.2.1 d.1.2.2.1 d.1.2.2.2.1 d.1.2.2.2.2.1 d.1.2.2.2.2.2.1 d.1.2.2.2.2.2.2.1 d.1.2.2.2.2.2.2.2.1.1 d.1.2.2.2.2.2.2.2.1.2.1 d.2.1)
def kf28 (P:Go.Program):Known:=(kl28_0 P).func 28 p28
theorem kf28_ok:KnownOk Go.Proofs.Try.prog (kf28 Go.Proofs.Try.prog):=kl28_0_ok.func ok28

/-! ductility/ductilityref08.OffErr -/

abbrev as29:List Ty:=[(.int .i64)]
abbrev rs29:List Ty:=[(.int .i64)]

def t29 (x0:Int):Tr (Tys.data rs29) :=
  Tr.test (Option.isSome (f39 (x0,((0:Int),((1000:Int),())))))
    (let r0:=g39 (x0,((0:Int),((1000:Int),())));
    Tr.test ((!r0.1:Bool))
      (Tr.fin (((2:Int),())))
      (Tr.fin (((0:Int),()))))
    (Tr.stop)

def f29 (d:Tys.data as29):Option (Tys.data rs29):=(t29 d.1).val
def g29 (d:Tys.data as29):Tys.data rs29:=(f29 d).getD (Tys.dflt rs29)
def p29:PureC:=pcOf as29 rs29 f29 g29

theorem wk29 (x0:Int):Walks (runPure (kf28 Go.Proofs.Try.prog).orc Go.Proofs.Try.prog 400 29 as29 rs29 (x0,())) (t29 x0) [([true,true],[2,4]),([true,false],[2,4])] :=
  ⟨by kernel_rfl,by kernel_rfl,trivial⟩

theorem ok29_t (x0:Int):TrOk (PureRuns Go.Proofs.Try.prog (kf28 Go.Proofs.Try.prog).orc 29 as29 rs29 (x0,())) (t29 x0) :=
  Walks.ok (fun _ _ _=>PureRuns.of) (wk29 x0) (by kernel_rfl)

theorem ok29:PureOk Go.Proofs.Try.prog 29 p29:=pureOk_of kf28_ok.base (T:=fun (d:Tys.data as29)=>t29 d.1) (by kernel_rfl) (fun (d:Tys.data as29)=>ok29_t d.1)
def kf29 (P:Go.Program):Known:=(kf28 P).func 29 p29
theorem kf29_ok:KnownOk Go.Proofs.Try.prog (kf29 Go.Proofs.Try.prog):=kf28_ok.func ok29

/-! ductility/ductilitybase.Size -/

abbrev as31:List Ty:=[(.int .i64)]
abbrev rs31:List Ty:=[(.int .i64)]

def t31 (x0:Int):Tr (Tys.data rs31) :=
  Tr.fin (((if x0 < Go.IntKind.wrap Go.IntKind.i64 ((0:Int) - x0) then Go.IntKind.wrap Go.IntKind.i64 ((0:Int) - x0) else x0:Int),()))

def f31 (d:Tys.data as31):Option (Tys.data rs31):=(t31 d.1).val
def g31 (d:Tys.data as31):Tys.data rs31:=(f31 d).getD (Tys.dflt rs31)
def p31:PureC:=pcOf as31 rs31 f31 g31

theorem wk31 (x0:Int):Walks (runPure (kf29 Go.Proofs.Try.prog).orc Go.Proofs.Try.prog 400 31 as31 rs31 (x0,())) (t31 x0) [([],[])] :=
  ⟨by kernel_rfl,trivial⟩

theorem ok31_t (x0:Int):TrOk (PureRuns Go.Proofs.Try.prog (kf29 Go.Proofs.Try.prog).orc 31 as31 rs31 (x0,())) (t31 x0) :=
  Walks.ok (fun _ _ _=>PureRuns.of) (wk31 x0) (by kernel_rfl)

theorem ok31:PureOk Go.Proofs.Try.prog 31 p31:=pureOk_of kf29_ok.base (T:=fun (d:Tys.data as31)=>t31 d.1) (by kernel_rfl) (fun (d:Tys.data as31)=>ok31_t d.1)
def kf31 (P:Go.Program):Known:=(kf29 P).func 31 p31
theorem kf31_ok:KnownOk Go.Proofs.Try.prog (kf31 Go.Proofs.Try.prog):=kf29_ok.func ok31

/-! loop 0 of ductility/ductilityref08.ErrorIn -/

abbrev sh30_0:Sh:={ n:=75,slots:=[1,2,3,6,7,8,9],pats:=[.ty (.slice (.int .i64)),.ty (.int .i64),.ptr 0 9 0,.ptr 1 2 0,.ptr 2 2 0,.ty (.slice (.int .i64)),.ty (.int .i64)],boxes:=[.row [.ty (.int .i64),.ty (.int .i64),.ty (.int .i64),.ty (.int .i64),.ty (.int .i64),.ty .bool,.ty (.int .i64),.ty (.int .i64),.ty (.int .i64)],.row [.ty (.int .i64),.ty (.int .i64)],.row [.ty (.int .i64),.ty (.int .i64)]] }
abbrev shb30_0:Sh:={ n:=75,slots:=[6,7],pats:=[.ptr 1 2 0,.ptr 2 2 0],boxes:=[.row [.ty (.int .i64),.ty (.int .i64),.ty (.int .i64),.ty (.int .i64),.ty (.int .i64),.ty .bool,.ty (.int .i64),.ty (.int .i64),.ty (.int .i64)],.row [.ty (.int .i64),.ty (.int .i64)],.row [.ty (.int .i64),.ty (.int .i64)]] }
abbrev shr30_0:Sh:={ n:=75,slots:=[6],pats:=[.ptr 1 2 0],boxes:=[.row [.ty (.int .i64),.ty (.int .i64),.ty (.int .i64),.ty (.int .i64),.ty (.int .i64),.ty .bool,.ty (.int .i64),.ty (.int .i64),.ty (.int .i64)],.row [.ty (.int .i64),.ty (.int .i64)],.row [.ty (.int .i64),.ty (.int .i64)]] }

def t30_0 (x0:(List Int)) (x1:Int) (x5:(List Int)) (x6:Int) (b0_0:Int) (b0_1:Int) (b0_2:Int) (b0_3:Int) (b0_4:Int) (b0_5:Bool) (b0_6:Int) (b0_7:Int) (b0_8:Int) (b1_0:Int) (b1_1:Int) (b2_0:Int) (b2_1:Int):Tr (Out sh30_0.data shb30_0.data shr30_0.data) :=
  Tr.test ((!leF (↑(List.length x0):Int) x6:Bool))
    (Tr.test (decide ((0:Int) ≤ x6) && decide (x6 < (↑(List.length x0):Int)))
      (Tr.test (Option.isSome (f70 ((b0_0,(b0_1,(b0_2,(b0_3,(b0_4,(b0_5,(b0_6,((b0_7,(b0_8,())),())))))))),(x5,((List.getD x0 (Int.toNat x6) (0:Int):Int),())))))
        (let r0:=g70 ((b0_0,(b0_1,(b0_2,(b0_3,(b0_4,(b0_5,(b0_6,((b0_7,(b0_8,())),())))))))),(x5,((List.getD x0 (Int.toNat x6) (0:Int):Int),())));
        Tr.test ((true && decide ((0:Int) < (↑(List.length r0.1):Int)):Bool))
          (Tr.test ((true && decide ((1:Int) < (↑(List.length x5):Int)):Bool))
            (Tr.test (Option.isSome (f23 ((b0_0,(b0_1,(b0_2,(b0_3,(b0_4,(b0_5,(b0_6,((b0_7,(b0_8,())),())))))))),(x5,()))))
              (Tr.test ((true && decide ((0:Int) < (↑(List.length x5):Int)):Bool))
                (Tr.test (Option.isSome (f31 ((wrap64 (List.getD r0.1 (0:Nat) (0:Int) - List.getD x5 (1:Nat) (0:Int)):Int),())))
                  (Tr.test ((!r0.2.1:Bool))
                    (let r1:=g23 ((b0_0,(b0_1,(b0_2,(b0_3,(b0_4,(b0_5,(b0_6,((b0_7,(b0_8,())),())))))))),(x5,()));
                    let r2:=g31 ((wrap64 (List.getD r0.1 (0:Nat) (0:Int) - List.getD x5 (1:Nat) (0:Int)):Int),());
                    Tr.fin (.ret ((),((b0_0,(b0_1,(b0_2,(b0_3,(b0_4,(b0_5,(b0_6,(b0_7,(b0_8,()))))))))),(((wrap64 (wrap64 (b2_0 + wrap64 (wrap64 (b0_3 * wrap64 (r1.1 - List.getD x5 (0:Nat) (0:Int))) * wrap64 (List.getD r0.1 (0:Nat) (0:Int) - List.getD x5 (1:Nat) (0:Int)))) - wrap64 (x1 * r2.1)):Int),((wrap64 (wrap64 (b2_1 + wrap64 (wrap64 (b0_3 * wrap64 (r1.1 - List.getD x5 (0:Nat) (0:Int))) * wrap64 (List.getD r0.1 (0:Nat) (0:Int) - List.getD x5 (1:Nat) (0:Int)))) + wrap64 (x1 * r2.1)):Int),())),(((wrap64 (wrap64 (b2_0 + wrap64 (wrap64 (b0_3 * wrap64 (r1.1 - List.getD x5 (0:Nat) (0:Int))) * wrap64 (List.getD r0.1 (0:Nat) (0:Int) - List.getD x5 (1:Nat) (0:Int)))) - wrap64 (x1 * r2.1)):Int),((wrap64 (wrap64 (b2_1 + wrap64 (wrap64 (b0_3 * wrap64 (r1.1 - List.getD x5 (0:Nat) (0:Int))) * wrap64 (List.getD r0.1 (0:Nat) (0:Int) - List.getD x5 (1:Nat) (0:Int)))) + wrap64 (x1 * r2.1)):Int),())),()))))))
                    (let r1:=g23 ((b0_0,(b0_1,(b0_2,(b0_3,(b0_4,(b0_5,(b0_6,((b0_7,(b0_8,())),())))))))),(x5,()));
                    let r2:=g31 ((wrap64 (List.getD r0.1 (0:Nat) (0:Int) - List.getD x5 (1:Nat) (0:Int)):Int),());
                    Tr.fin (.again ((x0,(x1,(r0.1,((wrap64 (x6 + (1:Int)):Int),())))),((b0_0,(b0_1,(b0_2,(b0_3,(b0_4,(b0_5,(b0_6,(b0_7,(b0_8,()))))))))),((b1_0,(b1_1,())),(((wrap64 (wrap64 (b2_0 + wrap64 (wrap64 (b0_3 * wrap64 (r1.1 - List.getD x5 (0:Nat) (0:Int))) * wrap64 (List.getD r0.1 (0:Nat) (0:Int) - List.getD x5 (1:Nat) (0:Int)))) - wrap64 (x1 * r2.1)):Int),((wrap64 (wrap64 (b2_1 + wrap64 (wrap64 (b0_3 * wrap64 (r1.1 - List.getD x5 (0:Nat) (0:Int))) * wrap64 (List.getD r0.1 (0:Nat) (0:Int) - List.getD x5 (1:Nat) (0:Int)))) + wrap64 (x1 * r2.1)):Int),())),())))))))
                  (Tr.stop))
                (Tr.stop))
              (Tr.stop))
            (Tr.stop))
          (Tr.stop))
        (Tr.stop))
      (Tr.stop))
    (Tr.fin (.brk ((),((b0_0,(b0_1,(b0_2,(b0_3,(b0_4,(b0_5,(b0_6,(b0_7,(b0_8,()))))))))),((b1_0,(b1_1,())),((b2_0,(b2_1,())),()))))))

def s30_0 (d:sh30_0.data):Option (Out sh30_0.data shb30_0.data shr30_0.data):=(t30_0 d.1.1 d.1.2.1 d.1.2.2.1 d.1.2.2.2.1 d.2.1.1 d.2.1.2.1 d.2.1.2.2.1 d.2.1.2.2.2.1 d.2.1.2.2.2.2.1 d.2.1.2.2.2.2.2.1 d.2.1.2.2.2.2.2.2.1 d.2.1.2.2.2.2.2.2.2.1 d.2.1.2.2.2.2.2.2.2.2.1 d.2.2.1.1 d.2.2.1.2.1 d.2.2.2.1.1 d.2.2.2.1.2.1).val
def l30_0 (d:sh30_0.data):Option (shb30_0.data ⊕ shr30_0.data):=itr s30_0 rounds d
def b30_0 (d:sh30_0.data):shb30_0.data:=outB shb30_0.dflt (l30_0 d)
def r30_0 (d:sh30_0.data):shr30_0.data:=outR shr30_0.dflt (l30_0 d)
def lc30_0:LoopC:=lcOf sh30_0 shb30_0 shr30_0 l30_0 b30_0 r30_0

theorem wk30_0 (x0:(List Int)) (x1:Int) (x5:(List Int)) (x6:Int) (b0_0:Int) (b0_1:Int) (b0_2:Int) (b0_3:Int) (b0_4:Int) (b0_5:Bool) (b0_6:Int) (b0_7:Int) (b0_8:Int) (b1_0:Int) (b1_1:Int) (b2_0:Int) (b2_1:Int):Walks (runBody (kf31 Go.Proofs.Try.prog).orc Go.Proofs.Try.prog 400 30 0 sh30_0 shb30_0 shr30_0 ((x0,x1,x5,x6,()),(b0_0,b0_1,b0_2,b0_3,b0_4,b0_5,b0_6,b0_7,b0_8,()),(b1_0,b1_1,()),(b2_0,b2_1,()),())) (t30_0 x0 x1 x5 x6 b0_0 b0_1 b0_2 b0_3 b0_4 b0_5 b0_6 b0_7 b0_8 b1_0 b1_1 b2_0 b2_1) [([true,true,true,true,true,true,true,true,true],[2,4,4,6,8,10,12,14,16,18]),([true,true,true,true,true,true,true,true,false],[2,4,4,6,8,10,12,14,16,18]),([ff],[2])] :=
  ⟨by kernel_rfl,by kernel_rfl,by kernel_rfl,trivial⟩

theorem ok30_0_t (x0:(List Int)) (x1:Int) (x5:(List Int)) (x6:Int) (b0_0:Int) (b0_1:Int) (b0_2:Int) (b0_3:Int) (b0_4:Int) (b0_5:Bool) (b0_6:Int) (b0_7:Int) (b0_8:Int) (b1_0:Int) (b1_1:Int) (b2_0:Int) (b2_1:Int):TrOk (BodyRuns Go.Proofs.Try.prog (kf31 Go.Proofs.Try.prog).orc 30 0 sh30_0 shb30_0 shr30_0 ((x0,x1,x5,x6,()),(b0_0,b0_1,b0_2,b0_3,b0_4,b0_5,b0_6,b0_7,b0_8,()),(b1_0,b1_1,()),(b2_0,b2_1,()),())) (t30_0 x0 x1 x5 x6 b0_0 b0_1 b0_2 b0_3 b0_4 b0_5 b0_6 b0_7 b0_8 b1_0 b1_1 b2_0 b2_1) :=
  Walks.ok (fun _ _ _=>BodyRuns.of) (wk30_0 x0 x1 x5 x6 b0_0 b0_1 b0_2 b0_3 b0_4 b0_5 b0_6 b0_7 b0_8 b1_0 b1_1 b2_0 b2_1) (by kernel_rfl)

theorem ok30_0:LoopOk Go.Proofs.Try.prog 30 0 lc30_0:=loopOk_of (sh:=sh30_0) (shB:=shb30_0) (shR:=shr30_0) kf31_ok.base (T:=fun (d:sh30_0.data)=>t30_0 d.1.1 d.1.2.1 d.1.2.2.1 d.1.2.2.2.1 d.2.1.1 d.2.1.2.1 d.2.1.2.2.1 d.2.1.2.2.2.1 d.2.1.2.2.2.2.1 d.2.1.2.2.2.2.2.1 d.2.1.2.2.2.2.2.2.1 d.2.1.2.2.2.2.2.2.2.1 d.2.1.2.2.2.2.2.2.2.2.1 d.2.2.1.1 d.2.2.1.2.1 d.2.2.2.1.1 d.2.2.2.1.2.1) (by kernel_rfl) rfl (fun (d:sh30_0.data)=>ok30_0_t d.1.1 d.1.2.1 d.1.2.2.1 d.1.2.2.2.1 d.2.1.1 d.2.1.2.1 d.2.1.2.2.1 d.2.1.2.2.2.1 d.2.1.2.2.2.2.1 d.2.1.2.2.2.2.2.1 d.2.1.2.2.2.2.2.2.1 d.2.1.2.2.2.2.2.2.2.1 d.2.1.2.2.2.2.2.2.2.2.1 d.2.2.1.1 d.2.2.1.2.1 d.2.2.2.1.1 d.2.2.2.1.2.1) (fun _=>rfl)
def kl30_0 (P:Go.Program):Known:=(kf31 P).loop 30 0 lc30_0
theorem kl30_0_ok:KnownOk Go.Proofs.Try.prog (kl30_0 Go.Proofs.Try.prog):=kf31_ok.loop ok30_0

/-! ductility/ductilityref08.ErrorIn -/

abbrev as30:List Ty:=[(.pair (.int .i64) (.pair (.int .i64) (.pair (.int .i64) (.pair (.int .i64) (.pair (.int .i64) (.pair .bool (.pair (.int .i64) (.pair (.pair (.int .i64) (.pair (.int .i64) .unit)) .unit)))))))),(.slice (.int .i64)),(.int .i64)]
abbrev rs30:List Ty:=[(.pair (.int .i64) (.pair (.int .i64) .unit))]

def t30 (x0:Int) (x0':Int) (x0'':Int) (x0''':Int) (x0'''':Int) (x0''''':Bool) (x0'''''':Int) (x0'''''''_:Int) (x0'''''''_':Int) (x1:(List Int)) (x2:Int):Tr (Tys.data rs30) :=
  Tr.test (Option.isSome (f73 ((x0,(x0',(x0'',(x0''',(x0'''',(x0''''',(x0'''''',((x0'''''''_,(x0'''''''_',())),())))))))),())))
    (let r0:=g73 ((x0,(x0',(x0'',(x0''',(x0'''',(x0''''',(x0'''''',((x0'''''''_,(x0'''''''_',())),())))))))),());
    Tr.test (Option.isSome (l30_0 ((x1,(x2,(r0.1,((0:Int),())))),((x0,(x0',(x0'',(x0''',(x0'''',(x0''''',(x0'''''',(x0'''''''_,(x0'''''''_',()))))))))),(((0:Int),((0:Int),())),(((0:Int),((0:Int),())),()))))))
      (Tr.test (isRet (l30_0 ((x1,(x2,(r0.1,((0:Int),())))),((x0,(x0',(x0'',(x0''',(x0'''',(x0''''',(x0'''''',(x0'''''''_,(x0'''''''_',()))))))))),(((0:Int),((0:Int),())),(((0:Int),((0:Int),())),()))))))
        (let r1:=r30_0 ((x1,(x2,(r0.1,((0:Int),())))),((x0,(x0',(x0'',(x0''',(x0'''',(x0''''',(x0'''''',(x0'''''''_,(x0'''''''_',()))))))))),(((0:Int),((0:Int),())),(((0:Int),((0:Int),())),()))));
        Tr.fin (((r1.2.2.1.1,(r1.2.2.1.2.1,())),())))
        (let r2:=b30_0 ((x1,(x2,(r0.1,((0:Int),())))),((x0,(x0',(x0'',(x0''',(x0'''',(x0''''',(x0'''''',(x0'''''''_,(x0'''''''_',()))))))))),(((0:Int),((0:Int),())),(((0:Int),((0:Int),())),()))));
        Tr.fin (((r2.2.2.2.1.1,(r2.2.2.2.1.2.1,())),()))))
      (Tr.stop))
    (Tr.stop)

def f30 (d:Tys.data as30):Option (Tys.data rs30):=(t30 d.1.1 d.1.2.1 d.1.2.2.1 d.1.2.2.2.1 d.1.2.2.2.2.1 d.1.2.2.2.2.2.1 d.1.2.2.2.2.2.2.1 d.1.2.2.2.2.2.2.2.1.1 d.1.2.2.2.2.2.2.2.1.2.1 d.2.1 d.2.2.1).val
def g30 (d:Tys.data as30):Tys.data rs30:=(f30 d).getD (Tys.dflt rs30)
def p30:PureC:=pcOf as30 rs30 f30 g30

theorem wk30 (x0:Int) (x0':Int) (x0'':Int) (x0''':Int) (x0'''':Int) (x0''''':Bool) (x0'''''':Int) (x0'''''''_:Int) (x0'''''''_':Int) (x1:(List Int)) (x2:Int):Walks (runPure (kl30_0 Go.Proofs.Try.prog).orc Go.Proofs.Try.prog 400 30 as30 rs30 ((x0,x0',x0'',x0''',x0'''',x0''''',x0'''''',(x0'''''''_,x0'''''''_',()),()),x1,x2,())) (t30 x0 x0' x0'' x0''' x0'''' x0''''' x0'''''' x0'''''''_ x0'''''''_' x1 x2) [([true,true,true],[2,4,6]),([true,true,false],[2,4,6])] :=
  ⟨by kernel_rfl,by kernel_rfl,trivial⟩

theorem ok30_t (x0:Int) (x0':Int) (x0'':Int) (x0''':Int) (x0'''':Int) (x0''''':Bool) (x0'''''':Int) (x0'''''''_:Int) (x0'''''''_':Int) (x1:(List Int)) (x2:Int):TrOk (PureRuns Go.Proofs.Try.prog (kl30_0 Go.Proofs.Try.prog).orc 30 as30 rs30 ((x0,x0',x0'',x0''',x0'''',x0''''',x0'''''',(x0'''''''_,x0'''''''_',()),()),x1,x2,())) (t30 x0 x0' x0'' x0''' x0'''' x0''''' x0'''''' x0'''''''_ x0'''''''_' x1 x2) :=
  Walks.ok (fun _ _ _=>PureRuns.of) (wk30 x0 x0' x0'' x0''' x0'''' x0''''' x0'''''' x0'''''''_ x0'''''''_' x1 x2) (by kernel_rfl)

theorem ok30:PureOk Go.Proofs.Try.prog 30 p30:=pureOk_of kl30_0_ok.base (T:=fun (d:Tys.data as30)=>t30 d.1.1 d.1.2.1 d.1.2.2.1 d.1.2.2.2.1 d.1.2.2.2.2.1 d.1.2.2.2.2.2.1 d.1.2.2.2.2.2.2.1 d.1.2.2.2.2.2.2.2.1.1 d.1.2.2.2.2.2.2.2.1.2.1 d.2.1 d.2.2.1) (by kernel_rfl) (fun (d:Tys.data as30)=>ok30_t d.1.1 d.1.2.1 d.1.2.2.1 d.1.2.2.2.1 d.1.2.2.2.2.1 d.1.2.2.2.2.2.1 d.1.2.2.2.2.2.2.1 d.1.2.2.2.2.2.2.2.1.1 d.1.2.2.2.2.2.2.2.1.2.1 d.2.1 d.2.2.1)
def kf30 (P:Go.Program):Known:=(kl30_0 P).func 30 p30
theorem kf30_ok:KnownOk Go.Proofs.Try.prog (kf30 Go.Proofs.Try.prog):=kl30_0_ok.func ok30

/-! ductility/ductilitylaw08.HybridRuns -/

abbrev as4:List Ty:=[(.pair (.int .i64) (.pair (.int .i64) (.pair (.int .i64) (.pair (.int .i64) (.pair (.int .i64) (.pair .bool (.pair (.int .i64) (.pair (.pair (.int .i64) (.pair (.int .i64) .unit)) .unit)))))))),(.slice (.int .i64)),(.int .i64)]
abbrev rs4:List Ty:=[.bool]

def t4 (x0:Int) (x0':Int) (x0'':Int) (x0''':Int) (x0'''':Int) (x0''''':Bool) (x0'''''':Int) (x0'''''''_:Int) (x0'''''''_':Int) (x1:(List Int)) (x2:Int):Tr (Tys.data rs4) :=
  Tr.test ((!leF (↑(List.length x1):Int) (62:Int):Bool))
    (Tr.fin ((true,())))
    (Tr.test (Option.isSome (f12 (x1,())))
      (let r0:=g12 (x1,());
      Tr.test (Option.isSome (f25 ((x0,(x0',(x0'',(x0''',(x0'''',(x0''''',(x0'''''',((x0'''''''_,(x0'''''''_',())),())))))))),(r0.1,()))))
        (Tr.test (Option.isSome (f26 ((x0,(x0',(x0'',(x0''',(x0'''',(x0''''',(x0'''''',((x0'''''''_,(x0'''''''_',())),())))))))),(r0.1,(x2,())))))
          (Tr.test (Option.isSome (f17 ((x0,(x0',(x0'',(x0''',(x0'''',(x0''''',(x0'''''',((x0'''''''_,(x0'''''''_',())),())))))))),())))
            (let r3:=g17 ((x0,(x0',(x0'',(x0''',(x0'''',(x0''''',(x0'''''',((x0'''''''_,(x0'''''''_',())),())))))))),());
            Tr.test ((eqF r3.1 0:Bool))
              (Tr.test (Option.isSome (f27 ((x0,(x0',(x0'',(x0''',(x0'''',(x0''''',(x0'''''',((x0'''''''_,(x0'''''''_',())),())))))))),(x1,()))))
                (let r4:=g27 ((x0,(x0',(x0'',(x0''',(x0'''',(x0''''',(x0'''''',((x0'''''''_,(x0'''''''_',())),())))))))),(x1,()));
                Tr.test ((!eqF r4.1 0:Bool))
                  (let r1:=g25 ((x0,(x0',(x0'',(x0''',(x0'''',(x0''''',(x0'''''',((x0'''''''_,(x0'''''''_',())),())))))))),(r0.1,()));
                  Tr.test ((eqF r1.2.1 r4.1:Bool))
                    (let r2:=g26 ((x0,(x0',(x0'',(x0''',(x0'''',(x0''''',(x0'''''',((x0'''''''_,(x0'''''''_',())),())))))))),(r0.1,(x2,())));
                    Tr.test ((eqF r2.2.1 r4.1:Bool))
                      (Tr.test ((eqF (↑(List.length r1.1):Int) (0:Int):Bool))
                        (Tr.fin (((r2.1.1 == (0:Int) && (r2.1.2.1 == (0:Int) && true):Bool),())))
                        (Tr.fin (((false:Bool),()))))
                      (Tr.fin (((false:Bool),()))))
                    (Tr.fin (((false:Bool),()))))
                  (let r1:=g25 ((x0,(x0',(x0'',(x0''',(x0'''',(x0''''',(x0'''''',((x0'''''''_,(x0'''''''_',())),())))))))),(r0.1,()));
                  Tr.test ((!eqF r1.2.1 0:Bool))
                    (Tr.fin (((false:Bool),())))
                    (Tr.test (Option.isSome (f28 ((x0,(x0',(x0'',(x0''',(x0'''',(x0''''',(x0'''''',((x0'''''''_,(x0'''''''_',())),())))))))),(x1,()))))
                      (let r5:=g28 ((x0,(x0',(x0'',(x0''',(x0'''',(x0''''',(x0'''''',((x0'''''''_,(x0'''''''_',())),())))))))),(x1,()));
                      Tr.test (Option.isSome (f24 (r1.1,(r5.1,()))))
                        (let r6:=g24 (r1.1,(r5.1,()));
                        Tr.test ((!r6.1:Bool))
                          (Tr.fin (((false:Bool),())))
                          (Tr.test (Option.isSome (f29 (x2,())))
                            (let r7:=g29 (x2,());
                            Tr.test ((!eqF r7.1 0:Bool))
                              (let r2:=g26 ((x0,(x0',(x0'',(x0''',(x0'''',(x0''''',(x0'''''',((x0'''''''_,(x0'''''''_',())),())))))))),(r0.1,(x2,())));
                              Tr.test ((eqF r2.2.1 r7.1:Bool))
                                (Tr.fin (((r2.1.1 == (0:Int) && (r2.1.2.1 == (0:Int) && true):Bool),())))
                                (Tr.fin (((false:Bool),()))))
                              (let r2:=g26 ((x0,(x0',(x0'',(x0''',(x0'''',(x0''''',(x0'''''',((x0'''''''_,(x0'''''''_',())),())))))))),(r0.1,(x2,())));
                              Tr.test ((eqF r2.2.1 0:Bool))
                                (Tr.test (Option.isSome (f30 ((x0,(x0',(x0'',(x0''',(x0'''',(x0''''',(x0'''''',((x0'''''''_,(x0'''''''_',())),())))))))),(x1,(x2,())))))
                                  (let r8:=g30 ((x0,(x0',(x0'',(x0''',(x0'''',(x0''''',(x0'''''',((x0'''''''_,(x0'''''''_',())),())))))))),(x1,(x2,())));
                                  Tr.fin (((r2.1.1 == r8.1.1 && (r2.1.2.1 == r8.1.2.1 && true):Bool),())))
                                  (Tr.stop))
                                (Tr.fin (((false:Bool),())))))
                            (Tr.stop)))
                        (Tr.stop))
                      (Tr.stop))))
                (Tr.stop))
              (let r1:=g25 ((x0,(x0',(x0'',(x0''',(x0'''',(x0''''',(x0'''''',((x0'''''''_,(x0'''''''_',())),())))))))),(r0.1,()));
              Tr.test ((eqF r1.2.1 r3.1:Bool))
                (let r2:=g26 ((x0,(x0',(x0'',(x0''',(x0'''',(x0''''',(x0'''''',((x0'''''''_,(x0'''''''_',())),())))))))),(r0.1,(x2,())));
                Tr.test ((eqF r2.2.1 r3.1:Bool))
                  (Tr.test ((eqF (↑(List.length r1.1):Int) (0:Int):Bool))
                    (Tr.fin (((r2.1.1 == (0:Int) && (r2.1.2.1 == (0:Int) && true):Bool),())))
                    (Tr.fin (((false:Bool),()))))
                  (Tr.fin (((false:Bool),()))))
                (Tr.fin (((false:Bool),())))))
            (Tr.stop))
          (Tr.stop))
        (Tr.stop))
      (Tr.stop))

def f4 (d:Tys.data as4):Option (Tys.data rs4):=(t4 d.1.1 d.1.2.1 d.1.2.2.1 d.1.2.2.2.1 d.1.2.2.2.2.1 d.1.2.2.2.2.2.1 d.1.2.2.2.2.2.2.1 d.1.2.2.2.2.2.2.2.1.1 d.1.2.2.2.2.2.2.2.1.2.1 d.2.1 d.2.2.1).val
def g4 (d:Tys.data as4):Tys.data rs4:=(f4 d).getD (Tys.dflt rs4)
def p4:PureC:=pcOf as4 rs4 f4 g4

theorem wk4 (x0:Int) (x0':Int) (x0'':Int) (x0''':Int) (x0'''':Int) (x0''''':Bool) (x0'''''':Int) (x0'''''''_:Int) (x0'''''''_':Int) (x1:(List Int)) (x2:Int):Walks (runPure (kf30 Go.Proofs.Try.prog).orc Go.Proofs.Try.prog 400 4 as4 rs4 ((x0,x0',x0'',x0''',x0'''',x0''''',x0'''''',(x0'''''''_,x0'''''''_',()),()),x1,x2,())) (t4 x0 x0' x0'' x0''' x0'''' x0''''' x0'''''' x0'''''''_ x0'''''''_' x1 x2) [([tt],[2,0,1]),([false,true,true,true,true,true,true,true,true,true,true],[2,2,2,2,4,4,4,4,6,6,6,6,8,10,12,14,16,20,18,20,22,0,1]),([false,true,true,true,true,true,true,true,true,true,false],[2,2,2,2,4,4,4,4,6,6,6,6,8,10,12,14,16,20,18,20,22,0,1]),([false,true,true,true,true,true,true,true,true,false],[0,0,0,0,2,2,2,2,4,4,4,4,6,8,10,12,14,18,16,18,20,0,1]),([false,true,true,true,true,true,true,true,false],[0,0,0,0,0,0,0,0,2,2,2,2,4,6,8,10,12,16,14,16,18,0,1]),([false,true,true,true,true,true,true,false,true],[1,2,2,2,2,2,2,2,4,6,8,10,12,16,14,16,18,0,1]),([false,true,true,true,true,true,true,false,false,true,true,true],[2,8,8,4,8,6,8,8,8,8,10,12,14,16,18,22,20,22,24,0,1]),([false,true,true,true,true,true,true,false,false,true,true,false,true,true,true],[2,2,2,2,4,6,8,14,14,10,14,12,14,14,14,14,16,18,20,22,24,28,26,28,30,0,1]),([false,true,true,true,true,true,true,false,false,true,true,false,true,true,false],[2,2,2,2,4,6,8,14,14,10,14,12,14,14,14,14,16,18,20,22,24,28,26,28,30,0,1]),([false,true,true,true,true,true,true,false,false,true,true,false,true,false,true,true],[4,4,2,4,4,4,4,4,6,8,10,16,16,12,16,14,16,16,16,16,18,20,22,24,26,30,28,30,32,0,1]),([false,true,true,true,true,true,true,false,false,true,true,false,true,false,false],[2,2,2,2,2,2,2,4,6,8,14,14,10,14,12,14,14,14,14,16,18,20,22,24,28,26,28,30,0,1]),([false,true,true,true,true,false,true,true,true],[2,2,2,2,4,4,4,4,6,6,6,6,9,8,10,12,16,14,16,18,0,1]),([false,true,true,true,true,false,true,true,false],[2,2,2,2,4,4,4,4,6,6,6,6,9,8,10,12,16,14,16,18,0,1]),([false,true,true,true,true,false,true,false],[0,0,0,0,2,2,2,2,4,4,4,4,7,6,8,10,14,12,14,16,0,1]),([false,true,true,true,true,false,false],[0,0,0,0,0,0,0,0,2,2,2,2,5,4,6,8,12,10,12,14,0,1])] :=
  ⟨by kernel_rfl,by kernel_rfl,by kernel_rfl,by kernel_rfl,by kernel_rfl,by kernel_rfl,by kernel_rfl,by kernel_rfl,by kernel_rfl,by kernel_rfl,by kernel_rfl,by kernel_rfl,by kernel_rfl,by kernel_rfl,by kernel_rfl,trivial⟩

theorem ok4_t (x0:Int) (x0':Int) (x0'':Int) (x0''':Int) (x0'''':Int) (x0''''':Bool) (x0'''''':Int) (x0'''''''_:Int) (x0'''''''_':Int) (x1:(List Int)) (x2:Int):TrOk (PureRuns Go.Proofs.Try.prog (kf30 Go.Proofs.Try.prog).orc 4 as4 rs4 ((x0,x0',x0'',x0''',x0'''',x0''''',x0'''''',(x0'''''''_,x0'''''''_',()),()),x1,x2,())) (t4 x0 x0' x0'' x0''' x0'''' x0''''' x0'''''' x0'''''''_ x0'''''''_' x1 x2) :=
  Walks.ok (fun _ _ _=>PureRuns.of) (wk4 x0 x0' x0'' x0''' x0'''' x0''''' x0'''''' x0'''''''_ x0'''''''_' x1 x2) (by kernel_rfl)

theorem ok4:PureOk Go.Proofs.Try.prog 4 p4:=pureOk_of kf30_ok.base (T:=fun (d:Tys.data as4)=>t4 d.1.1 d.1.2.1 d.1.2.2.1 d.1.2.2.2.1 d.1.2.2.2.2.1 d.1.2.2.2.2.2.1 d.1.2.2.2.2.2.2.1 d.1.2.2.2.2.2.2.2.1.1 d.1.2.2.2.2.2.2.2.1.2.1 d.2.1 d.2.2.1) (by kernel_rfl) (fun (d:Tys.data as4)=>ok4_t d.1.1 d.1.2.1 d.1.2.2.1 d.1.2.2.2.1 d.1.2.2.2.2.1 d.1.2.2.2.2.2.1 d.1.2.2.2.2.2.2.1 d.1.2.2.2.2.2.2.2.1.1 d.1.2.2.2.2.2.2.2.1.2.1 d.2.1 d.2.2.1)

end Go.Vm.Mo
