import Derived.Test.YtkhlccjbpejpjaaA4
import Derived.KernelRfl
import Derived.Test.YtkhlccjbpejpjaaProg
import Derived.Test.YtkhlccjbpejpjaaRsFa
set_option linter.unusedVariables false
set_option linter.unusedSimpArgs false

namespace Go.Vm.Mo
open Go
set_option linter.unusedVariables false

/-! ductility/sensor.imageError -/

abbrev as118:List Ty:=[(.slice (.slice (.int .i64)))]
abbrev rs118:List Ty:=[(.int .i64)]

def t118 (x0:(List (List Int))):Tr (Tys.data rs118) :=
  Tr.test ((eqF (↑(List.length x0):Int) (0:Int):Bool))
    (Tr.fin (((10:Int),())))
    (Tr.test (true && decide ((0:Int) < (↑(List.length x0):Int)))
      (Tr.test (Option.isSome (l136_0_1 ((x0,((↑(List.length x0):Int),((0:Int),()))),(((↑(List.length (List.getD x0 (0:Nat) [])):Int),()),()))))
        (Tr.test (isRet (l136_0_1 ((x0,((↑(List.length x0):Int),((0:Int),()))),(((↑(List.length (List.getD x0 (0:Nat) [])):Int),()),()))))
          (Tr.test (Option.isSome (l136_0_2 ((x0,((↑(List.length x0):Int),((0:Int),()))),())))
            (Tr.test (isRet (l136_0_2 ((x0,((↑(List.length x0):Int),((0:Int),()))),())))
              (Tr.test (Option.isSome (l149_0 ((x0,((↑(List.length x0):Int),((0:Int),()))),())))
                (Tr.test (isRet (l149_0 ((x0,((↑(List.length x0):Int),((0:Int),()))),())))
                  (Tr.test ((!leF (↑(List.length x0):Int) (10:Int):Bool))
                    (Tr.test (Option.isSome (f86 ((true:Bool),((8:Int),()))))
                      (let r3:=r149_0 ((x0,((↑(List.length x0):Int),((0:Int),()))),());
                      Tr.test (Option.isSome (f86 ((!leF (0:Int) r3.1.1:Bool),((11:Int),()))))
                        (let r0:=r136_0_1 ((x0,((↑(List.length x0):Int),((0:Int),()))),(((↑(List.length (List.getD x0 (0:Nat) [])):Int),()),()));
                        let r2:=r136_0_2 ((x0,((↑(List.length x0):Int),((0:Int),()))),());
                        let r4:=g86 ((true:Bool),((8:Int),()));
                        let r6:=g86 ((!leF (0:Int) r3.1.1:Bool),((11:Int),()));
                        Tr.test (Option.isSome (f88 (([r0.1.2.1,r4.1,r2.1.2.1,r6.1]:List Int),())))
                          (let r7:=g88 (([r0.1.2.1,r4.1,r2.1.2.1,r6.1]:List Int),());
                          Tr.fin ((r7.1,())))
                          (Tr.stop))
                        (Tr.stop))
                      (Tr.stop))
                    (let r0:=r136_0_1 ((x0,((↑(List.length x0):Int),((0:Int),()))),(((↑(List.length (List.getD x0 (0:Nat) [])):Int),()),()));
                    Tr.test (Option.isSome (f86 ((!leF r0.2.1.1 10:Bool),((8:Int),()))))
                      (let r3:=r149_0 ((x0,((↑(List.length x0):Int),((0:Int),()))),());
                      Tr.test (Option.isSome (f86 ((!leF (0:Int) r3.1.1:Bool),((11:Int),()))))
                        (let r2:=r136_0_2 ((x0,((↑(List.length x0):Int),((0:Int),()))),());
                        let r5:=g86 ((!leF r0.2.1.1 10:Bool),((8:Int),()));
                        let r6:=g86 ((!leF (0:Int) r3.1.1:Bool),((11:Int),()));
                        Tr.test (Option.isSome (f88 (([r0.1.2.1,r5.1,r2.1.2.1,r6.1]:List Int),())))
                          (let r8:=g88 (([r0.1.2.1,r5.1,r2.1.2.1,r6.1]:List Int),());
                          Tr.fin ((r8.1,())))
                          (Tr.stop))
                        (Tr.stop))
                      (Tr.stop)))
                  (Tr.test ((!leF (↑(List.length x0):Int) (10:Int):Bool))
                    (Tr.test (Option.isSome (f86 ((true:Bool),((8:Int),()))))
                      (Tr.test (Option.isSome (f86 ((true:Bool),((11:Int),()))))
                        (let r0:=r136_0_1 ((x0,((↑(List.length x0):Int),((0:Int),()))),(((↑(List.length (List.getD x0 (0:Nat) [])):Int),()),()));
                        let r2:=r136_0_2 ((x0,((↑(List.length x0):Int),((0:Int),()))),());
                        let r4:=g86 ((true:Bool),((8:Int),()));
                        let r9:=g86 ((true:Bool),((11:Int),()));
                        Tr.test (Option.isSome (f88 (([r0.1.2.1,r4.1,r2.1.2.1,r9.1]:List Int),())))
                          (let r10:=g88 (([r0.1.2.1,r4.1,r2.1.2.1,r9.1]:List Int),());
                          Tr.fin ((r10.1,())))
                          (Tr.stop))
                        (Tr.stop))
                      (Tr.stop))
                    (let r0:=r136_0_1 ((x0,((↑(List.length x0):Int),((0:Int),()))),(((↑(List.length (List.getD x0 (0:Nat) [])):Int),()),()));
                    Tr.test (Option.isSome (f86 ((!leF r0.2.1.1 10:Bool),((8:Int),()))))
                      (Tr.test (Option.isSome (f86 ((true:Bool),((11:Int),()))))
                        (let r2:=r136_0_2 ((x0,((↑(List.length x0):Int),((0:Int),()))),());
                        let r5:=g86 ((!leF r0.2.1.1 10:Bool),((8:Int),()));
                        let r9:=g86 ((true:Bool),((11:Int),()));
                        Tr.test (Option.isSome (f88 (([r0.1.2.1,r5.1,r2.1.2.1,r9.1]:List Int),())))
                          (let r11:=g88 (([r0.1.2.1,r5.1,r2.1.2.1,r9.1]:List Int),());
                          Tr.fin ((r11.1,())))
                          (Tr.stop))
                        (Tr.stop))
                      (Tr.stop))))
                (Tr.stop))
              (Tr.test (Option.isSome (l149_0 ((x0,((↑(List.length x0):Int),((0:Int),()))),())))
                (Tr.test (isRet (l149_0 ((x0,((↑(List.length x0):Int),((0:Int),()))),())))
                  (Tr.test ((!leF (↑(List.length x0):Int) (10:Int):Bool))
                    (Tr.test (Option.isSome (f86 ((true:Bool),((8:Int),()))))
                      (let r3:=r149_0 ((x0,((↑(List.length x0):Int),((0:Int),()))),());
                      Tr.test (Option.isSome (f86 ((!leF (0:Int) r3.1.1:Bool),((11:Int),()))))
                        (let r0:=r136_0_1 ((x0,((↑(List.length x0):Int),((0:Int),()))),(((↑(List.length (List.getD x0 (0:Nat) [])):Int),()),()));
                        let r4:=g86 ((true:Bool),((8:Int),()));
                        let r6:=g86 ((!leF (0:Int) r3.1.1:Bool),((11:Int),()));
                        Tr.test (Option.isSome (f88 (([r0.1.2.1,r4.1,(0:Int),r6.1]:List Int),())))
                          (let r12:=g88 (([r0.1.2.1,r4.1,(0:Int),r6.1]:List Int),());
                          Tr.fin ((r12.1,())))
                          (Tr.stop))
                        (Tr.stop))
                      (Tr.stop))
                    (let r0:=r136_0_1 ((x0,((↑(List.length x0):Int),((0:Int),()))),(((↑(List.length (List.getD x0 (0:Nat) [])):Int),()),()));
                    Tr.test (Option.isSome (f86 ((!leF r0.2.1.1 10:Bool),((8:Int),()))))
                      (let r3:=r149_0 ((x0,((↑(List.length x0):Int),((0:Int),()))),());
                      Tr.test (Option.isSome (f86 ((!leF (0:Int) r3.1.1:Bool),((11:Int),()))))
                        (let r5:=g86 ((!leF r0.2.1.1 10:Bool),((8:Int),()));
                        let r6:=g86 ((!leF (0:Int) r3.1.1:Bool),((11:Int),()));
                        Tr.test (Option.isSome (f88 (([r0.1.2.1,r5.1,(0:Int),r6.1]:List Int),())))
                          (let r13:=g88 (([r0.1.2.1,r5.1,(0:Int),r6.1]:List Int),());
                          Tr.fin ((r13.1,())))
                          (Tr.stop))
                        (Tr.stop))
                      (Tr.stop)))
                  (Tr.test ((!leF (↑(List.length x0):Int) (10:Int):Bool))
                    (Tr.test (Option.isSome (f86 ((true:Bool),((8:Int),()))))
                      (Tr.test (Option.isSome (f86 ((true:Bool),((11:Int),()))))
                        (let r0:=r136_0_1 ((x0,((↑(List.length x0):Int),((0:Int),()))),(((↑(List.length (List.getD x0 (0:Nat) [])):Int),()),()));
                        let r4:=g86 ((true:Bool),((8:Int),()));
                        let r9:=g86 ((true:Bool),((11:Int),()));
                        Tr.test (Option.isSome (f88 (([r0.1.2.1,r4.1,(0:Int),r9.1]:List Int),())))
                          (let r14:=g88 (([r0.1.2.1,r4.1,(0:Int),r9.1]:List Int),());
                          Tr.fin ((r14.1,())))
                          (Tr.stop))
                        (Tr.stop))
                      (Tr.stop))
                    (let r0:=r136_0_1 ((x0,((↑(List.length x0):Int),((0:Int),()))),(((↑(List.length (List.getD x0 (0:Nat) [])):Int),()),()));
                    Tr.test (Option.isSome (f86 ((!leF r0.2.1.1 10:Bool),((8:Int),()))))
                      (Tr.test (Option.isSome (f86 ((true:Bool),((11:Int),()))))
                        (let r5:=g86 ((!leF r0.2.1.1 10:Bool),((8:Int),()));
                        let r9:=g86 ((true:Bool),((11:Int),()));
                        Tr.test (Option.isSome (f88 (([r0.1.2.1,r5.1,(0:Int),r9.1]:List Int),())))
                          (let r15:=g88 (([r0.1.2.1,r5.1,(0:Int),r9.1]:List Int),());
                          Tr.fin ((r15.1,())))
                          (Tr.stop))
                        (Tr.stop))
                      (Tr.stop))))
                (Tr.stop)))
            (Tr.stop))
          (Tr.test (Option.isSome (l136_0_2 ((x0,((↑(List.length x0):Int),((0:Int),()))),())))
            (Tr.test (isRet (l136_0_2 ((x0,((↑(List.length x0):Int),((0:Int),()))),())))
              (Tr.test (Option.isSome (l149_0 ((x0,((↑(List.length x0):Int),((0:Int),()))),())))
                (Tr.test (isRet (l149_0 ((x0,((↑(List.length x0):Int),((0:Int),()))),())))
                  (Tr.test ((!leF (↑(List.length x0):Int) (10:Int):Bool))
                    (Tr.test (Option.isSome (f86 ((true:Bool),((8:Int),()))))
                      (let r3:=r149_0 ((x0,((↑(List.length x0):Int),((0:Int),()))),());
                      Tr.test (Option.isSome (f86 ((!leF (0:Int) r3.1.1:Bool),((11:Int),()))))
                        (let r2:=r136_0_2 ((x0,((↑(List.length x0):Int),((0:Int),()))),());
                        let r4:=g86 ((true:Bool),((8:Int),()));
                        let r6:=g86 ((!leF (0:Int) r3.1.1:Bool),((11:Int),()));
                        Tr.test (Option.isSome (f88 (([(0:Int),r4.1,r2.1.2.1,r6.1]:List Int),())))
                          (let r17:=g88 (([(0:Int),r4.1,r2.1.2.1,r6.1]:List Int),());
                          Tr.fin ((r17.1,())))
                          (Tr.stop))
                        (Tr.stop))
                      (Tr.stop))
                    (let r1:=b136_0_1 ((x0,((↑(List.length x0):Int),((0:Int),()))),(((↑(List.length (List.getD x0 (0:Nat) [])):Int),()),()));
                    Tr.test (Option.isSome (f86 ((!leF r1.2.1.1 10:Bool),((8:Int),()))))
                      (let r3:=r149_0 ((x0,((↑(List.length x0):Int),((0:Int),()))),());
                      Tr.test (Option.isSome (f86 ((!leF (0:Int) r3.1.1:Bool),((11:Int),()))))
                        (let r2:=r136_0_2 ((x0,((↑(List.length x0):Int),((0:Int),()))),());
                        let r6:=g86 ((!leF (0:Int) r3.1.1:Bool),((11:Int),()));
                        let r16:=g86 ((!leF r1.2.1.1 10:Bool),((8:Int),()));
                        Tr.test (Option.isSome (f88 (([(0:Int),r16.1,r2.1.2.1,r6.1]:List Int),())))
                          (let r18:=g88 (([(0:Int),r16.1,r2.1.2.1,r6.1]:List Int),());
                          Tr.fin ((r18.1,())))
                          (Tr.stop))
                        (Tr.stop))
                      (Tr.stop)))
                  (Tr.test ((!leF (↑(List.length x0):Int) (10:Int):Bool))
                    (Tr.test (Option.isSome (f86 ((true:Bool),((8:Int),()))))
                      (Tr.test (Option.isSome (f86 ((true:Bool),((11:Int),()))))
                        (let r2:=r136_0_2 ((x0,((↑(List.length x0):Int),((0:Int),()))),());
                        let r4:=g86 ((true:Bool),((8:Int),()));
                        let r9:=g86 ((true:Bool),((11:Int),()));
                        Tr.test (Option.isSome (f88 (([(0:Int),r4.1,r2.1.2.1,r9.1]:List Int),())))
                          (let r19:=g88 (([(0:Int),r4.1,r2.1.2.1,r9.1]:List Int),());
                          Tr.fin ((r19.1,())))
                          (Tr.stop))
                        (Tr.stop))
                      (Tr.stop))
                    (let r1:=b136_0_1 ((x0,((↑(List.length x0):Int),((0:Int),()))),(((↑(List.length (List.getD x0 (0:Nat) [])):Int),()),()));
                    Tr.test (Option.isSome (f86 ((!leF r1.2.1.1 10:Bool),((8:Int),()))))
                      (Tr.test (Option.isSome (f86 ((true:Bool),((11:Int),()))))
                        (let r2:=r136_0_2 ((x0,((↑(List.length x0):Int),((0:Int),()))),());
                        let r9:=g86 ((true:Bool),((11:Int),()));
                        let r16:=g86 ((!leF r1.2.1.1 10:Bool),((8:Int),()));
                        Tr.test (Option.isSome (f88 (([(0:Int),r16.1,r2.1.2.1,r9.1]:List Int),())))
                          (let r20:=g88 (([(0:Int),r16.1,r2.1.2.1,r9.1]:List Int),());
                          Tr.fin ((r20.1,())))
                          (Tr.stop))
                        (Tr.stop))
                      (Tr.stop))))
                (Tr.stop))
              (Tr.test (Option.isSome (l149_0 ((x0,((↑(List.length x0):Int),((0:Int),()))),())))
                (Tr.test (isRet (l149_0 ((x0,((↑(List.length x0):Int),((0:Int),()))),())))
                  (Tr.test ((!leF (↑(List.length x0):Int) (10:Int):Bool))
                    (Tr.test (Option.isSome (f86 ((true:Bool),((8:Int),()))))
                      (let r3:=r149_0 ((x0,((↑(List.length x0):Int),((0:Int),()))),());
                      Tr.test (Option.isSome (f86 ((!leF (0:Int) r3.1.1:Bool),((11:Int),()))))
                        (let r4:=g86 ((true:Bool),((8:Int),()));
                        let r6:=g86 ((!leF (0:Int) r3.1.1:Bool),((11:Int),()));
                        Tr.test (Option.isSome (f88 (([(0:Int),r4.1,(0:Int),r6.1]:List Int),())))
                          (let r21:=g88 (([(0:Int),r4.1,(0:Int),r6.1]:List Int),());
                          Tr.fin ((r21.1,())))
                          (Tr.stop))
                        (Tr.stop))
                      (Tr.stop))
                    (let r1:=b136_0_1 ((x0,((↑(List.length x0):Int),((0:Int),()))),(((↑(List.length (List.getD x0 (0:Nat) [])):Int),()),()));
                    Tr.test (Option.isSome (f86 ((!leF r1.2.1.1 10:Bool),((8:Int),()))))
                      (let r3:=r149_0 ((x0,((↑(List.length x0):Int),((0:Int),()))),());
                      Tr.test (Option.isSome (f86 ((!leF (0:Int) r3.1.1:Bool),((11:Int),()))))
                        (let r6:=g86 ((!leF (0:Int) r3.1.1:Bool),((11:Int),()));
                        let r16:=g86 ((!leF r1.2.1.1 10:Bool),((8:Int),()));
                        Tr.test (Option.isSome (f88 (([(0:Int),r16.1,(0:Int),r6.1]:List Int),())))
                          (let r22:=g88 (([(0:Int),r16.1,(0:Int),r6.1]:List Int),());
                          Tr.fin ((r22.1,())))
                          (Tr.stop))
                        (Tr.stop))
                      (Tr.stop)))
                  (Tr.test ((!leF (↑(List.length x0):Int) (10:Int):Bool))
                    (Tr.test (Option.isSome (f86 ((true:Bool),((8:Int),()))))
                      (Tr.test (Option.isSome (f86 ((true:Bool),((11:Int),()))))
                        (let r4:=g86 ((true:Bool),((8:Int),()));
                        let r9:=g86 ((true:Bool),((11:Int),()));
                        Tr.test (Option.isSome (f88 (([(0:Int),r4.1,(0:Int),r9.1]:List Int),())))
                          (let r23:=g88 (([(0:Int),r4.1,(0:Int),r9.1]:List Int),());
                          Tr.fin ((r23.1,())))
                          (Tr.stop))
                        (Tr.stop))
                      (Tr.stop))
                    (let r1:=b136_0_1 ((x0,((↑(List.length x0):Int),((0:Int),()))),(((↑(List.length (List.getD x0 (0:Nat) [])):Int),()),()));
                    Tr.test (Option.isSome (f86 ((!leF r1.2.1.1 10:Bool),((8:Int),()))))
                      (Tr.test (Option.isSome (f86 ((true:Bool),((11:Int),()))))
                        (let r9:=g86 ((true:Bool),((11:Int),()));
                        let r16:=g86 ((!leF r1.2.1.1 10:Bool),((8:Int),()));
                        Tr.test (Option.isSome (f88 (([(0:Int),r16.1,(0:Int),r9.1]:List Int),())))
                          (let r24:=g88 (([(0:Int),r16.1,(0:Int),r9.1]:List Int),());
                          Tr.fin ((r24.1,())))
                          (Tr.stop))
                        (Tr.stop))
                      (Tr.stop))))
                (Tr.stop)))
            (Tr.stop)))
        (Tr.stop))
      (Tr.stop))

def f118 (d:Tys.data as118):Option (Tys.data rs118):=(t118 d.1).val
def g118 (d:Tys.data as118):Tys.data rs118:=(f118 d).getD (Tys.dflt rs118)
def p118:PureC:=pcOf as118 rs118 f118 g118

theorem wk118 (x0:(List (List Int))):Walks (runPure (kl149_0 Go.Proofs.Try.prog).orc Go.Proofs.Try.prog 400 118 as118 rs118 (x0,())) (t118 x0) [([tt],[2]),([false,true,true,true,true,true,true,true,true,true,true,true],[2,1,4,6,8,8,8,10,12,14,16,18,20,22,24]),([false,true,true,true,true,true,true,true,false,true,true,true],[2,1,4,6,8,8,8,10,12,14,16,18,20,22,24]),([false,true,true,true,true,true,true,false,true,true,true,true],[2,1,4,6,8,8,8,10,12,14,16,18,20,22,24]),([false,true,true,true,true,true,true,false,false,true,true,true],[2,1,4,6,8,8,8,10,12,14,16,18,20,22,24]),([false,true,true,true,true,false,true,true,true,true,true,true],[2,1,4,6,8,8,8,10,12,14,16,18,20,22,24]),([false,true,true,true,true,false,true,true,false,true,true,true],[2,1,4,6,8,8,8,10,12,14,16,18,20,22,24]),([false,true,true,true,true,false,true,false,true,true,true,true],[2,1,4,6,8,8,8,10,12,14,16,18,20,22,24]),([false,true,true,true,true,false,true,false,false,true,true,true],[2,1,4,6,8,8,8,10,12,14,16,18,20,22,24]),([false,true,true,false,true,true,true,true,true,true,true,true],[2,1,4,6,8,8,8,10,12,14,16,18,20,22,24]),([false,true,true,false,true,true,true,true,false,true,true,true],[2,1,4,6,8,8,8,10,12,14,16,18,20,22,24]),([false,true,true,false,true,true,true,false,true,true,true,true],[2,1,4,6,8,8,8,10,12,14,16,18,20,22,24]),([false,true,true,false,true,true,true,false,false,true,true,true],[2,1,4,6,8,8,8,10,12,14,16,18,20,22,24]),([false,true,true,false,true,false,true,true,true,true,true,true],[2,1,4,6,8,8,8,10,12,14,16,18,20,22,24]),([false,true,true,false,true,false,true,true,false,true,true,true],[2,1,4,6,8,8,8,10,12,14,16,18,20,22,24]),([false,true,true,false,true,false,true,false,true,true,true,true],[2,1,4,6,8,8,8,10,12,14,16,18,20,22,24]),([false,true,true,false,true,false,true,false,false,true,true,true],[2,1,4,6,8,8,8,10,12,14,16,18,20,22,24])] :=
  ⟨by kernel_rfl,by kernel_rfl,by kernel_rfl,by kernel_rfl,by kernel_rfl,by kernel_rfl,by kernel_rfl,by kernel_rfl,by kernel_rfl,by kernel_rfl,by kernel_rfl,by kernel_rfl,by kernel_rfl,by kernel_rfl,by kernel_rfl,by kernel_rfl,by kernel_rfl,trivial⟩

theorem ok118_t (x0:(List (List Int))):TrOk (PureRuns Go.Proofs.Try.prog (kl149_0 Go.Proofs.Try.prog).orc 118 as118 rs118 (x0,())) (t118 x0) :=
  Walks.ok (fun _ _ _=>PureRuns.of) (wk118 x0) (by kernel_rfl)

theorem ok118:PureOk Go.Proofs.Try.prog 118 p118:=pureOk_of kl149_0_ok.base (T:=fun (d:Tys.data as118)=>t118 d.1) (by kernel_rfl) (fun (d:Tys.data as118)=>ok118_t d.1)
def kf118 (P:Go.Program):Known:=(kl149_0 P).func 118 p118
theorem kf118_ok:KnownOk Go.Proofs.Try.prog (kf118 Go.Proofs.Try.prog):=kl149_0_ok.func ok118

/-! ductility/sensor.fraction -/

abbrev as141:List Ty:=[(.int .i64),(.int .i64)]
abbrev rs141:List Ty:=[(.pair (.int .i64) (.pair (.int .i64) .unit))]

def t141 (x0:Int) (x1:Int):Tr (Tys.data rs141) :=
  Tr.test (Option.isSome (f92 (x1,(([x0]:List Int),()))))
    (let r0:=g92 (x1,(([x0]:List Int),()));
    Tr.test ((r0.1 == (0:Int):Bool))
      (Tr.stop)
      (Tr.fin ((((Go.IntKind.wrap Go.IntKind.i64 (Int.tdiv x0 r0.1):Int),((Go.IntKind.wrap Go.IntKind.i64 (Int.tdiv x1 r0.1):Int),())),()))))
    (Tr.stop)

def f141 (d:Tys.data as141):Option (Tys.data rs141):=(t141 d.1 d.2.1).val
def g141 (d:Tys.data as141):Tys.data rs141:=(f141 d).getD (Tys.dflt rs141)
def p141:PureC:=pcOf as141 rs141 f141 g141

theorem wk141 (x0:Int) (x1:Int):Walks (runPure (kf118 Go.Proofs.Try.prog).orc Go.Proofs.Try.prog 400 141 as141 rs141 (x0,x1,())) (t141 x0 x1) [([true,false],[2,2,4,1])] :=
  ⟨by kernel_rfl,trivial⟩

theorem ok141_t (x0:Int) (x1:Int):TrOk (PureRuns Go.Proofs.Try.prog (kf118 Go.Proofs.Try.prog).orc 141 as141 rs141 (x0,x1,())) (t141 x0 x1) :=
  Walks.ok (fun _ _ _=>PureRuns.of) (wk141 x0 x1) (by kernel_rfl)

theorem ok141:PureOk Go.Proofs.Try.prog 141 p141:=pureOk_of kf118_ok.base (T:=fun (d:Tys.data as141)=>t141 d.1 d.2.1) (by kernel_rfl) (fun (d:Tys.data as141)=>ok141_t d.1 d.2.1)
def kf141 (P:Go.Program):Known:=(kf118 P).func 141 p141
theorem kf141_ok:KnownOk Go.Proofs.Try.prog (kf141 Go.Proofs.Try.prog):=kf118_ok.func ok141

/-! loop 2 of ductility/sensor.centerOf -/

abbrev sh119_2:Sh:={ n:=46,slots:=[2,3,4,5,6,10,11,12,17,18,19],pats:=[.ptr 0 4 0,.ty (.int .i64),.ty (.int .i64),.ty (.int .i64),.ty (.int .i64),.ty (.slice (.slice (.int .i64))),.ty (.int .i64),.ty (.int .i64),.ty (.slice (.int .i64)),.ty (.int .i64),.ty (.int .i64)],boxes:=[.row [.ty (.int .i64),.ty (.int .i64),.ty (.int .i64),.ty (.int .i64)]] }
abbrev shb119_2:Sh:={ n:=46,slots:=[2,3,4,5,10,11,12],pats:=[.ptr 0 4 0,.ty (.int .i64),.ty (.int .i64),.ty (.int .i64),.ty (.slice (.slice (.int .i64))),.ty (.int .i64),.ty (.int .i64)],boxes:=[.row [.ty (.int .i64),.ty (.int .i64),.ty (.int .i64),.ty (.int .i64)]] }
abbrev shr119_2:Sh:={ n:=46,slots:=[],pats:=[],boxes:=[.row [.ty (.int .i64),.ty (.int .i64),.ty (.int .i64),.ty (.int .i64)]] }

def t119_2 (x1:Int) (x2:Int) (x3:Int) (x4:Int) (x5:(List (List Int))) (x6:Int) (x7:Int) (x8:(List Int)) (x9:Int) (x10:Int) (b0_0:Int) (b0_1:Int) (b0_2:Int) (b0_3:Int):Tr (Out sh119_2.data shb119_2.data shr119_2.data) :=
  Tr.test ((!leF x9 x10:Bool))
    (Tr.test (decide ((0:Int) ≤ x10) && decide (x10 < (↑(List.length x8):Int)))
      (Tr.fin (.again (((wrap64 (x1 + wrap64 (x10 * List.getD x8 (Int.toNat x10) (0:Int))):Int),((wrap64 (x2 + wrap64 (x4 * List.getD x8 (Int.toNat x10) (0:Int))):Int),((wrap64 (x3 + List.getD x8 (Int.toNat x10) (0:Int)):Int),(x4,(x5,(x6,(x7,(x8,(x9,((wrap64 (x10 + (1:Int)):Int),())))))))))),((b0_0,(b0_1,(b0_2,(b0_3,())))),()))))
      (Tr.stop))
    (Tr.fin (.brk ((x1,(x2,(x3,(x5,(x6,(x7,())))))),((b0_0,(b0_1,(b0_2,(b0_3,())))),()))))

def s119_2 (d:sh119_2.data):Option (Out sh119_2.data shb119_2.data shr119_2.data):=(t119_2 d.1.1 d.1.2.1 d.1.2.2.1 d.1.2.2.2.1 d.1.2.2.2.2.1 d.1.2.2.2.2.2.1 d.1.2.2.2.2.2.2.1 d.1.2.2.2.2.2.2.2.1 d.1.2.2.2.2.2.2.2.2.1 d.1.2.2.2.2.2.2.2.2.2.1 d.2.1.1 d.2.1.2.1 d.2.1.2.2.1 d.2.1.2.2.2.1).val
def l119_2 (d:sh119_2.data):Option (shb119_2.data ⊕ shr119_2.data):=itr s119_2 rounds d
def b119_2 (d:sh119_2.data):shb119_2.data:=outB shb119_2.dflt (l119_2 d)
def lc119_2:LoopC:=lcB sh119_2 shb119_2 shr119_2 l119_2 b119_2

theorem wk119_2 (x1:Int) (x2:Int) (x3:Int) (x4:Int) (x5:(List (List Int))) (x6:Int) (x7:Int) (x8:(List Int)) (x9:Int) (x10:Int) (b0_0:Int) (b0_1:Int) (b0_2:Int) (b0_3:Int):Walks (runBody (kf141 Go.Proofs.Try.prog).orc Go.Proofs.Try.prog 400 119 2 sh119_2 shb119_2 shr119_2 ((x1,x2,x3,x4,x5,x6,x7,x8,x9,x10,()),(b0_0,b0_1,b0_2,b0_3,()),())) (t119_2 x1 x2 x3 x4 x5 x6 x7 x8 x9 x10 b0_0 b0_1 b0_2 b0_3) [([true,true],[2,4]),([ff],[2])] :=
  ⟨by kernel_rfl,by kernel_rfl,trivial⟩

theorem ok119_2_t (x1:Int) (x2:Int) (x3:Int) (x4:Int) (x5:(List (List Int))) (x6:Int) (x7:Int) (x8:(List Int)) (x9:Int) (x10:Int) (b0_0:Int) (b0_1:Int) (b0_2:Int) (b0_3:Int):TrOk (BodyRuns Go.Proofs.Try.prog (kf141 Go.Proofs.Try.prog).orc 119 2 sh119_2 shb119_2 shr119_2 ((x1,x2,x3,x4,x5,x6,x7,x8,x9,x10,()),(b0_0,b0_1,b0_2,b0_3,()),())) (t119_2 x1 x2 x3 x4 x5 x6 x7 x8 x9 x10 b0_0 b0_1 b0_2 b0_3) :=
  Walks.ok (fun _ _ _=>BodyRuns.of) (wk119_2 x1 x2 x3 x4 x5 x6 x7 x8 x9 x10 b0_0 b0_1 b0_2 b0_3) (by kernel_rfl)

theorem ok119_2:LoopOk Go.Proofs.Try.prog 119 2 lc119_2:=loopOk_ofB (sh:=sh119_2) (shB:=shb119_2) (shR:=shr119_2) kf141_ok.base (T:=fun (d:sh119_2.data)=>t119_2 d.1.1 d.1.2.1 d.1.2.2.1 d.1.2.2.2.1 d.1.2.2.2.2.1 d.1.2.2.2.2.2.1 d.1.2.2.2.2.2.2.1 d.1.2.2.2.2.2.2.2.1 d.1.2.2.2.2.2.2.2.2.1 d.1.2.2.2.2.2.2.2.2.2.1 d.2.1.1 d.2.1.2.1 d.2.1.2.2.1 d.2.1.2.2.2.1) (by kernel_rfl) rfl (fun (d:sh119_2.data)=>ok119_2_t d.1.1 d.1.2.1 d.1.2.2.1 d.1.2.2.2.1 d.1.2.2.2.2.1 d.1.2.2.2.2.2.1 d.1.2.2.2.2.2.2.1 d.1.2.2.2.2.2.2.2.1 d.1.2.2.2.2.2.2.2.2.1 d.1.2.2.2.2.2.2.2.2.2.1 d.2.1.1 d.2.1.2.1 d.2.1.2.2.1 d.2.1.2.2.2.1) (fun _=>rfl)
def kl119_2 (P:Go.Program):Known:=(kf141 P).loop 119 2 lc119_2
theorem kl119_2_ok:KnownOk Go.Proofs.Try.prog (kl119_2 Go.Proofs.Try.prog):=kf141_ok.loop ok119_2

/-! loop 0 of ductility/sensor.centerOf -/

abbrev sh119_0:Sh:={ n:=46,slots:=[2,3,4,5,10,11,12],pats:=[.ptr 0 4 0,.ty (.int .i64),.ty (.int .i64),.ty (.int .i64),.ty (.slice (.slice (.int .i64))),.ty (.int .i64),.ty (.int .i64)],boxes:=[.row [.ty (.int .i64),.ty (.int .i64),.ty (.int .i64),.ty (.int .i64)]] }
abbrev shb119_0:Sh:={ n:=46,slots:=[2,3,4,5],pats:=[.ptr 0 4 0,.ty (.int .i64),.ty (.int .i64),.ty (.int .i64)],boxes:=[.row [.ty (.int .i64),.ty (.int .i64),.ty (.int .i64),.ty (.int .i64)]] }
abbrev shr119_0:Sh:={ n:=46,slots:=[],pats:=[],boxes:=[.row [.ty (.int .i64),.ty (.int .i64),.ty (.int .i64),.ty (.int .i64)]] }

def t119_0 (x1:Int) (x2:Int) (x3:Int) (x4:(List (List Int))) (x5:Int) (x6:Int) (b0_0:Int) (b0_1:Int) (b0_2:Int) (b0_3:Int):Tr (Out sh119_0.data shb119_0.data shr119_0.data) :=
  Tr.test ((!leF x5 x6:Bool))
    (Tr.test (decide ((0:Int) ≤ x6) && decide (x6 < (↑(List.length x4):Int)))
      (Tr.test (isBrk (l119_2 ((x1,(x2,(x3,(x6,(x4,(x5,(x6,((List.getD x4 (Int.toNat x6) []:List Int),((↑(List.length (List.getD x4 (Int.toNat x6) [])):Int),((0:Int),())))))))))),((b0_0,(b0_1,(b0_2,(b0_3,())))),()))))
        (let r0:=b119_2 ((x1,(x2,(x3,(x6,(x4,(x5,(x6,((List.getD x4 (Int.toNat x6) []:List Int),((↑(List.length (List.getD x4 (Int.toNat x6) [])):Int),((0:Int),())))))))))),((b0_0,(b0_1,(b0_2,(b0_3,())))),()));
        Tr.fin (.again ((r0.1.1,(r0.1.2.1,(r0.1.2.2.1,(r0.1.2.2.2.1,(r0.1.2.2.2.2.1,((wrap64 (r0.1.2.2.2.2.2.1 + (1:Int)):Int),())))))),((r0.2.1.1,(r0.2.1.2.1,(r0.2.1.2.2.1,(r0.2.1.2.2.2.1,())))),()))))
        (Tr.stop))
      (Tr.stop))
    (Tr.fin (.brk ((x1,(x2,(x3,()))),((b0_0,(b0_1,(b0_2,(b0_3,())))),()))))

def s119_0 (d:sh119_0.data):Option (Out sh119_0.data shb119_0.data shr119_0.data):=(t119_0 d.1.1 d.1.2.1 d.1.2.2.1 d.1.2.2.2.1 d.1.2.2.2.2.1 d.1.2.2.2.2.2.1 d.2.1.1 d.2.1.2.1 d.2.1.2.2.1 d.2.1.2.2.2.1).val
def l119_0 (d:sh119_0.data):Option (shb119_0.data ⊕ shr119_0.data):=itr s119_0 rounds d
def b119_0 (d:sh119_0.data):shb119_0.data:=outB shb119_0.dflt (l119_0 d)
def lc119_0:LoopC:=lcB sh119_0 shb119_0 shr119_0 l119_0 b119_0

theorem wk119_0 (x1:Int) (x2:Int) (x3:Int) (x4:(List (List Int))) (x5:Int) (x6:Int) (b0_0:Int) (b0_1:Int) (b0_2:Int) (b0_3:Int):Walks (runBody (kl119_2 Go.Proofs.Try.prog).orc Go.Proofs.Try.prog 400 119 0 sh119_0 shb119_0 shr119_0 ((x1,x2,x3,x4,x5,x6,()),(b0_0,b0_1,b0_2,b0_3,()),())) (t119_0 x1 x2 x3 x4 x5 x6 b0_0 b0_1 b0_2 b0_3) [([true,true,true],[1,2,4,6]),([ff],[2])] :=
  ⟨by kernel_rfl,by kernel_rfl,trivial⟩

theorem ok119_0_t (x1:Int) (x2:Int) (x3:Int) (x4:(List (List Int))) (x5:Int) (x6:Int) (b0_0:Int) (b0_1:Int) (b0_2:Int) (b0_3:Int):TrOk (BodyRuns Go.Proofs.Try.prog (kl119_2 Go.Proofs.Try.prog).orc 119 0 sh119_0 shb119_0 shr119_0 ((x1,x2,x3,x4,x5,x6,()),(b0_0,b0_1,b0_2,b0_3,()),())) (t119_0 x1 x2 x3 x4 x5 x6 b0_0 b0_1 b0_2 b0_3) :=
  Walks.ok (fun _ _ _=>BodyRuns.of) (wk119_0 x1 x2 x3 x4 x5 x6 b0_0 b0_1 b0_2 b0_3) (by kernel_rfl)

theorem ok119_0:LoopOk Go.Proofs.Try.prog 119 0 lc119_0:=loopOk_ofB (sh:=sh119_0) (shB:=shb119_0) (shR:=shr119_0) kl119_2_ok.base (T:=fun (d:sh119_0.data)=>t119_0 d.1.1 d.1.2.1 d.1.2.2.1 d.1.2.2.2.1 d.1.2.2.2.2.1 d.1.2.2.2.2.2.1 d.2.1.1 d.2.1.2.1 d.2.1.2.2.1 d.2.1.2.2.2.1) (by kernel_rfl) rfl (fun (d:sh119_0.data)=>ok119_0_t d.1.1 d.1.2.1 d.1.2.2.1 d.1.2.2.2.1 d.1.2.2.2.2.1 d.1.2.2.2.2.2.1 d.2.1.1 d.2.1.2.1 d.2.1.2.2.1 d.2.1.2.2.2.1) (fun _=>rfl)
def kl119_0 (P:Go.Program):Known:=(kl119_2 P).loop 119 0 lc119_0
theorem kl119_0_ok:KnownOk Go.Proofs.Try.prog (kl119_0 Go.Proofs.Try.prog):=kl119_2_ok.loop ok119_0

/-! ductility/sensor.centerOf -/

abbrev as119:List Ty:=[(.slice (.slice (.int .i64)))]
abbrev rs119:List Ty:=[(.pair (.pair (.int .i64) (.pair (.int .i64) .unit)) (.pair (.pair (.int .i64) (.pair (.int .i64) .unit)) .unit))]

def t119 (x0:(List (List Int))):Tr (Tys.data rs119) :=
  Tr.test (isBrk (l119_0 (((0:Int),((0:Int),((0:Int),(x0,((↑(List.length x0):Int),((0:Int),())))))),(((0:Int),((0:Int),((0:Int),((0:Int),())))),()))))
    (let r0:=b119_0 (((0:Int),((0:Int),((0:Int),(x0,((↑(List.length x0):Int),((0:Int),())))))),(((0:Int),((0:Int),((0:Int),((0:Int),())))),()));
    Tr.test (Option.isSome (f141 (r0.1.1,(r0.1.2.2.1,()))))
      (Tr.test (Option.isSome (f141 (r0.1.2.1,(r0.1.2.2.1,()))))
        (let r1:=g141 (r0.1.1,(r0.1.2.2.1,()));
        let r2:=g141 (r0.1.2.1,(r0.1.2.2.1,()));
        Tr.fin ((((r1.1.1,(r1.1.2.1,())),((r2.1.1,(r2.1.2.1,())),())),())))
        (Tr.stop))
      (Tr.stop))
    (Tr.stop)

def f119 (d:Tys.data as119):Option (Tys.data rs119):=(t119 d.1).val
def g119 (d:Tys.data as119):Tys.data rs119:=(f119 d).getD (Tys.dflt rs119)
def p119:PureC:=pcOf as119 rs119 f119 g119

theorem wk119 (x0:(List (List Int))):Walks (runPure (kl119_0 Go.Proofs.Try.prog).orc Go.Proofs.Try.prog 400 119 as119 rs119 (x0,())) (t119 x0) [([true,true,true],[2,4,1,6])] :=
  ⟨by kernel_rfl,trivial⟩

theorem ok119_t (x0:(List (List Int))):TrOk (PureRuns Go.Proofs.Try.prog (kl119_0 Go.Proofs.Try.prog).orc 119 as119 rs119 (x0,())) (t119 x0) :=
  Walks.ok (fun _ _ _=>PureRuns.of) (wk119 x0) (by kernel_rfl)

theorem ok119:PureOk Go.Proofs.Try.prog 119 p119:=pureOk_of kl119_0_ok.base (T:=fun (d:Tys.data as119)=>t119 d.1) (by kernel_rfl) (fun (d:Tys.data as119)=>ok119_t d.1)
def kf119 (P:Go.Program):Known:=(kl119_0 P).func 119 p119
theorem kf119_ok:KnownOk Go.Proofs.Try.prog (kf119 Go.Proofs.Try.prog):=kl119_0_ok.func ok119

/-! ductility/sensor.CenterOf -/

abbrev as71:List Ty:=[(.slice (.slice (.int .i64)))]
abbrev rs71:List Ty:=[(.pair (.pair (.int .i64) (.pair (.int .i64) .unit)) (.pair (.pair (.int .i64) (.pair (.int .i64) .unit)) .unit)),(.int .i64)]

def t71 (x0:(List (List Int))):Tr (Tys.data rs71) :=
  Tr.test (Option.isSome (f118 (x0,())))
    (let r0:=g118 (x0,());
    Tr.test ((!eqF r0.1 0:Bool))
      (Tr.fin (((((0:Int),((0:Int),())),(((0:Int),((0:Int),())),())),(r0.1,()))))
      (Tr.test (Option.isSome (f119 (x0,())))
        (let r1:=g119 (x0,());
        Tr.fin ((((r1.1.1.1,(r1.1.1.2.1,())),((r1.1.2.1.1,(r1.1.2.1.2.1,())),())),((0:Int),()))))
        (Tr.stop)))
    (Tr.stop)

def f71 (d:Tys.data as71):Option (Tys.data rs71):=(t71 d.1).val
def g71 (d:Tys.data as71):Tys.data rs71:=(f71 d).getD (Tys.dflt rs71)
def p71:PureC:=pcOf as71 rs71 f71 g71

theorem wk71 (x0:(List (List Int))):Walks (runPure (kf119 Go.Proofs.Try.prog).orc Go.Proofs.Try.prog 400 71 as71 rs71 (x0,())) (t71 x0) [([true,true],[2,4]),([true,false,true],[2,4,6])] :=
  ⟨by kernel_rfl,by kernel_rfl,trivial⟩

theorem ok71_t (x0:(List (List Int))):TrOk (PureRuns Go.Proofs.Try.prog (kf119 Go.Proofs.Try.prog).orc 71 as71 rs71 (x0,())) (t71 x0) :=
  Walks.ok (fun _ _ _=>PureRuns.of) (wk71 x0) (by kernel_rfl)

theorem ok71:PureOk Go.Proofs.Try.prog 71 p71:=pureOk_of kf119_ok.base (T:=fun (d:Tys.data as71)=>t71 d.1) (by kernel_rfl) (fun (d:Tys.data as71)=>ok71_t d.1)
def kf71 (P:Go.Program):Known:=(kf119 P).func 71 p71
theorem kf71_ok:KnownOk Go.Proofs.Try.prog (kf71 Go.Proofs.Try.prog):=kf119_ok.func ok71

/-! loop 0 of ductility/ductilitybase.Ranges -/

abbrev sh23_0:Sh:={ n:=26,slots:=[0,1,5],pats:=[.ty (.slice (.pair (.int .i64) (.pair (.int .i64) .unit))),.ty (.slice (.pair (.int .i64) (.pair (.int .i64) .unit))),.ty (.int .i64)],boxes:=[] }
abbrev shb23_0:Sh:={ n:=26,slots:=[],pats:=[],boxes:=[] }
abbrev shr23_0:Sh:={ n:=26,slots:=[4],pats:=[.ty .bool],boxes:=[] }

def t23_0 (x0:(List (Int×(Int×Unit)))) (x1:(List (Int×(Int×Unit)))) (x2:Int):Tr (Out sh23_0.data shb23_0.data shr23_0.data) :=
  Tr.test ((!leF (↑(List.length x0):Int) x2:Bool))
    (Tr.test (decide ((0:Int) ≤ x2) && decide (x2 < (↑(List.length x0):Int)))
      (Tr.test ((decide ((0:Int) ≤ x2) && decide (x2 < (↑(List.length x1):Int)):Bool))
        (Tr.test ((!((List.getD x0 (Int.toNat x2) ((0:Int),(0:Int),())).1 == (List.getD x1 (Int.toNat x2) ((0:Int),(0:Int),())).1 && ((List.getD x0 (Int.toNat x2) ((0:Int),(0:Int),())).2.1 == (List.getD x1 (Int.toNat x2) ((0:Int),(0:Int),())).2.1 && true)):Bool))
          (Tr.fin (.ret (((false:Bool),()),())))
          (Tr.fin (.again ((x0,(x1,((wrap64 (x2 + (1:Int)):Int),()))),()))))
        (Tr.stop))
      (Tr.stop))
    (Tr.fin (.brk ((),())))

def s23_0 (d:sh23_0.data):Option (Out sh23_0.data shb23_0.data shr23_0.data):=(t23_0 d.1.1 d.1.2.1 d.1.2.2.1).val
def l23_0 (d:sh23_0.data):Option (shb23_0.data ⊕ shr23_0.data):=itr s23_0 rounds d
def b23_0 (d:sh23_0.data):shb23_0.data:=outB shb23_0.dflt (l23_0 d)
def r23_0 (d:sh23_0.data):shr23_0.data:=outR shr23_0.dflt (l23_0 d)
def lc23_0:LoopC:=lcOf sh23_0 shb23_0 shr23_0 l23_0 b23_0 r23_0

theorem wk23_0 (x0:(List (Int×(Int×Unit)))) (x1:(List (Int×(Int×Unit)))) (x2:Int):Walks (runBody (kf71 Go.Proofs.Try.prog).orc Go.Proofs.Try.prog 400 23 0 sh23_0 shb23_0 shr23_0 ((x0,x1,x2,()),())) (t23_0 x0 x1 x2) [([true,true,true,true],[2,4,6,8]),([true,true,true,false],[2,4,6,8]),([ff],[2])] :=
  ⟨by kernel_rfl,by kernel_rfl,by kernel_rfl,trivial⟩

theorem ok23_0_t (x0:(List (Int×(Int×Unit)))) (x1:(List (Int×(Int×Unit)))) (x2:Int):TrOk (BodyRuns Go.Proofs.Try.prog (kf71 Go.Proofs.Try.prog).orc 23 0 sh23_0 shb23_0 shr23_0 ((x0,x1,x2,()),())) (t23_0 x0 x1 x2) :=
  Walks.ok (fun _ _ _=>BodyRuns.of) (wk23_0 x0 x1 x2) (by kernel_rfl)

theorem ok23_0:LoopOk Go.Proofs.Try.prog 23 0 lc23_0:=loopOk_of (sh:=sh23_0) (shB:=shb23_0) (shR:=shr23_0) kf71_ok.base (T:=fun (d:sh23_0.data)=>t23_0 d.1.1 d.1.2.1 d.1.2.2.1) (by kernel_rfl) rfl (fun (d:sh23_0.data)=>ok23_0_t d.1.1 d.1.2.1 d.1.2.2.1) (fun _=>rfl)
def kl23_0 (P:Go.Program):Known:=(kf71 P).loop 23 0 lc23_0
theorem kl23_0_ok:KnownOk Go.Proofs.Try.prog (kl23_0 Go.Proofs.Try.prog):=kf71_ok.loop ok23_0

/-! ductility/ductilitybase.Ranges -/

abbrev as23:List Ty:=[(.slice (.pair (.int .i64) (.pair (.int .i64) .unit))),(.slice (.pair (.int .i64) (.pair (.int .i64) .unit)))]
abbrev rs23:List Ty:=[.bool]

def t23 (x0:(List (Int×(Int×Unit)))) (x1:(List (Int×(Int×Unit)))):Tr (Tys.data rs23) :=
  Tr.test ((!eqF (↑(List.length x0):Int) (↑(List.length x1):Int):Bool))
    (Tr.fin ((false,())))
    (Tr.test (Option.isSome (l23_0 ((x0,(x1,((0:Int),()))),())))
      (Tr.test (isRet (l23_0 ((x0,(x1,((0:Int),()))),())))
        (let r0:=r23_0 ((x0,(x1,((0:Int),()))),());
        Tr.fin ((r0.1.1,())))
        (Tr.fin (((true:Bool),()))))
      (Tr.stop))

def f23 (d:Tys.data as23):Option (Tys.data rs23):=(t23 d.1 d.2.1).val
def g23 (d:Tys.data as23):Tys.data rs23:=(f23 d).getD (Tys.dflt rs23)
def p23:PureC:=pcOf as23 rs23 f23 g23

theorem wk23 (x0:(List (Int×(Int×Unit)))) (x1:(List (Int×(Int×Unit)))):Walks (runPure (kl23_0 Go.Proofs.Try.prog).orc Go.Proofs.Try.prog 400 23 as23 rs23 (x0,x1,())) (t23 x0 x1) [([tt],[2]),([false,true,true],[2,4,6]),([false,true,false],[2,4,6])] :=
  ⟨by kernel_rfl,by kernel_rfl,by kernel_rfl,trivial⟩

theorem ok23_t (x0:(List (Int×(Int×Unit)))) (x1:(List (Int×(Int×Unit)))):TrOk (PureRuns Go.Proofs.Try.prog (kl23_0 Go.Proofs.Try.prog).orc 23 as23 rs23 (x0,x1,())) (t23 x0 x1) :=
  Walks.ok (fun _ _ _=>PureRuns.of) (wk23 x0 x1) (by kernel_rfl)

theorem ok23:PureOk Go.Proofs.Try.prog 23 p23:=pureOk_of kl23_0_ok.base (T:=fun (d:Tys.data as23)=>t23 d.1 d.2.1) (by kernel_rfl) (fun (d:Tys.data as23)=>ok23_t d.1 d.2.1)
def kf23 (P:Go.Program):Known:=(kl23_0 P).func 23 p23
theorem kf23_ok:KnownOk Go.Proofs.Try.prog (kf23 Go.Proofs.Try.prog):=kl23_0_ok.func ok23

/-! loop 0 of ductility/ductilitybase.Ints -/

abbrev sh35_0:Sh:={ n:=26,slots:=[0,1,5],pats:=[.ty (.slice (.int .i64)),.ty (.slice (.int .i64)),.ty (.int .i64)],boxes:=[] }
abbrev shb35_0:Sh:={ n:=26,slots:=[],pats:=[],boxes:=[] }
abbrev shr35_0:Sh:={ n:=26,slots:=[4],pats:=[.ty .bool],boxes:=[] }

def t35_0 (x0:(List Int)) (x1:(List Int)) (x2:Int):Tr (Out sh35_0.data shb35_0.data shr35_0.data) :=
  Tr.test ((!leF (↑(List.length x0):Int) x2:Bool))
    (Tr.test (decide ((0:Int) ≤ x2) && decide (x2 < (↑(List.length x0):Int)))
      (Tr.test ((decide ((0:Int) ≤ x2) && decide (x2 < (↑(List.length x1):Int)):Bool))
        (Tr.test ((!eqF (List.getD x0 (Int.toNat x2) (0:Int)) (List.getD x1 (Int.toNat x2) (0:Int)):Bool))
          (Tr.fin (.ret (((false:Bool),()),())))
          (Tr.fin (.again ((x0,(x1,((wrap64 (x2 + (1:Int)):Int),()))),()))))
        (Tr.stop))
      (Tr.stop))
    (Tr.fin (.brk ((),())))

def s35_0 (d:sh35_0.data):Option (Out sh35_0.data shb35_0.data shr35_0.data):=(t35_0 d.1.1 d.1.2.1 d.1.2.2.1).val
def l35_0 (d:sh35_0.data):Option (shb35_0.data ⊕ shr35_0.data):=itr s35_0 rounds d
def b35_0 (d:sh35_0.data):shb35_0.data:=outB shb35_0.dflt (l35_0 d)
def r35_0 (d:sh35_0.data):shr35_0.data:=outR shr35_0.dflt (l35_0 d)
def lc35_0:LoopC:=lcOf sh35_0 shb35_0 shr35_0 l35_0 b35_0 r35_0

theorem wk35_0 (x0:(List Int)) (x1:(List Int)) (x2:Int):Walks (runBody (kf23 Go.Proofs.Try.prog).orc Go.Proofs.Try.prog 400 35 0 sh35_0 shb35_0 shr35_0 ((x0,x1,x2,()),())) (t35_0 x0 x1 x2) [([true,true,true,true],[2,4,6,8]),([true,true,true,false],[2,4,6,8]),([ff],[2])] :=
  ⟨by kernel_rfl,by kernel_rfl,by kernel_rfl,trivial⟩

theorem ok35_0_t (x0:(List Int)) (x1:(List Int)) (x2:Int):TrOk (BodyRuns Go.Proofs.Try.prog (kf23 Go.Proofs.Try.prog).orc 35 0 sh35_0 shb35_0 shr35_0 ((x0,x1,x2,()),())) (t35_0 x0 x1 x2) :=
  Walks.ok (fun _ _ _=>BodyRuns.of) (wk35_0 x0 x1 x2) (by kernel_rfl)

theorem ok35_0:LoopOk Go.Proofs.Try.prog 35 0 lc35_0:=loopOk_of (sh:=sh35_0) (shB:=shb35_0) (shR:=shr35_0) kf23_ok.base (T:=fun (d:sh35_0.data)=>t35_0 d.1.1 d.1.2.1 d.1.2.2.1) (by kernel_rfl) rfl (fun (d:sh35_0.data)=>ok35_0_t d.1.1 d.1.2.1 d.1.2.2.1) (fun _=>rfl)
def kl35_0 (P:Go.Program):Known:=(kf23 P).loop 35 0 lc35_0
theorem kl35_0_ok:KnownOk Go.Proofs.Try.prog (kl35_0 Go.Proofs.Try.prog):=kf23_ok.loop ok35_0

/-! ductility/ductilitybase.Ints -/

abbrev as35:List Ty:=[(.slice (.int .i64)),(.slice (.int .i64))]
abbrev rs35:List Ty:=[.bool]

def t35 (x0:(List Int)) (x1:(List Int)):Tr (Tys.data rs35) :=
  Tr.test ((!eqF (↑(List.length x0):Int) (↑(List.length x1):Int):Bool))
    (Tr.fin ((false,())))
    (Tr.test (Option.isSome (l35_0 ((x0,(x1,((0:Int),()))),())))
      (Tr.test (isRet (l35_0 ((x0,(x1,((0:Int),()))),())))
        (let r0:=r35_0 ((x0,(x1,((0:Int),()))),());
        Tr.fin ((r0.1.1,())))
        (Tr.fin (((true:Bool),()))))
      (Tr.stop))

def f35 (d:Tys.data as35):Option (Tys.data rs35):=(t35 d.1 d.2.1).val
def g35 (d:Tys.data as35):Tys.data rs35:=(f35 d).getD (Tys.dflt rs35)
def p35:PureC:=pcOf as35 rs35 f35 g35

theorem wk35 (x0:(List Int)) (x1:(List Int)):Walks (runPure (kl35_0 Go.Proofs.Try.prog).orc Go.Proofs.Try.prog 400 35 as35 rs35 (x0,x1,())) (t35 x0 x1) [([tt],[2]),([false,true,true],[2,4,6]),([false,true,false],[2,4,6])] :=
  ⟨by kernel_rfl,by kernel_rfl,by kernel_rfl,trivial⟩

theorem ok35_t (x0:(List Int)) (x1:(List Int)):TrOk (PureRuns Go.Proofs.Try.prog (kl35_0 Go.Proofs.Try.prog).orc 35 as35 rs35 (x0,x1,())) (t35 x0 x1) :=
  Walks.ok (fun _ _ _=>PureRuns.of) (wk35 x0 x1) (by kernel_rfl)

theorem ok35:PureOk Go.Proofs.Try.prog 35 p35:=pureOk_of kl35_0_ok.base (T:=fun (d:Tys.data as35)=>t35 d.1 d.2.1) (by kernel_rfl) (fun (d:Tys.data as35)=>ok35_t d.1 d.2.1)
def kf35 (P:Go.Program):Known:=(kl35_0 P).func 35 p35
theorem kf35_ok:KnownOk Go.Proofs.Try.prog (kf35 Go.Proofs.Try.prog):=kl35_0_ok.func ok35

/-! loop 0 of ductility/ductilityref07.SameExplanation -/

abbrev sh51_0:Sh:={ n:=39,slots:=[2,3,5],pats:=[.ptr 0 2 0,.ptr 1 2 0,.ty (.int .i64)],boxes:=[.row [.ty (.slice (.int .i64)),.ty (.slice .bool)],.row [.ty (.slice (.int .i64)),.ty (.slice .bool)]] }
abbrev shb51_0:Sh:={ n:=39,slots:=[],pats:=[],boxes:=[.row [.ty (.slice (.int .i64)),.ty (.slice .bool)],.row [.ty (.slice (.int .i64)),.ty (.slice .bool)]] }
abbrev shr51_0:Sh:={ n:=39,slots:=[4],pats:=[.ty .bool],boxes:=[.row [.ty (.slice (.int .i64)),.ty (.slice .bool)],.row [.ty (.slice (.int .i64)),.ty (.slice .bool)]] }

def t51_0 (x2:Int) (b0_0:(List Int)) (b0_1:(List Bool)) (b1_0:(List Int)) (b1_1:(List Bool)):Tr (Out sh51_0.data shb51_0.data shr51_0.data) :=
  Tr.test ((!leF (↑(List.length b0_1):Int) x2:Bool))
    (Tr.test (decide ((0:Int) ≤ x2) && decide (x2 < (↑(List.length b0_1):Int)))
      (Tr.test ((decide ((0:Int) ≤ x2) && decide (x2 < (↑(List.length b1_1):Int)):Bool))
        (Tr.test ((!List.getD b0_1 (Int.toNat x2) false == List.getD b1_1 (Int.toNat x2) false:Bool))
          (Tr.fin (.ret (((false:Bool),()),((b0_0,(b0_1,())),((b1_0,(b1_1,())),())))))
          (Tr.fin (.again (((wrap64 (x2 + (1:Int)):Int),()),((b0_0,(b0_1,())),((b1_0,(b1_1,())),()))))))
        (Tr.stop))
      (Tr.stop))
    (Tr.fin (.brk ((),((b0_0,(b0_1,())),((b1_0,(b1_1,())),())))))

def s51_0 (d:sh51_0.data):Option (Out sh51_0.data shb51_0.data shr51_0.data):=(t51_0 d.1.1 d.2.1.1 d.2.1.2.1 d.2.2.1.1 d.2.2.1.2.1).val
def l51_0 (d:sh51_0.data):Option (shb51_0.data ⊕ shr51_0.data):=itr s51_0 rounds d
def b51_0 (d:sh51_0.data):shb51_0.data:=outB shb51_0.dflt (l51_0 d)
def r51_0 (d:sh51_0.data):shr51_0.data:=outR shr51_0.dflt (l51_0 d)
def lc51_0:LoopC:=lcOf sh51_0 shb51_0 shr51_0 l51_0 b51_0 r51_0

theorem wk51_0 (x2:Int) (b0_0:(List Int)) (b0_1:(List Bool)) (b1_0:(List Int)) (b1_1:(List Bool)):Walks (runBody (kf35 Go.Proofs.Try.prog).orc Go.Proofs.Try.prog 400 51 0 sh51_0 shb51_0 shr51_0 ((x2,()),(b0_0,b0_1,()),(b1_0,b1_1,()),())) (t51_0 x2 b0_0 b0_1 b1_0 b1_1) [([true,true,true,true],[2,4,6,8]),([true,true,true,false],[2,4,6,8]),([ff],[2])] :=
  ⟨by kernel_rfl,by kernel_rfl,by kernel_rfl,trivial⟩

theorem ok51_0_t (x2:Int) (b0_0:(List Int)) (b0_1:(List Bool)) (b1_0:(List Int)) (b1_1:(List Bool)):TrOk (BodyRuns Go.Proofs.Try.prog (kf35 Go.Proofs.Try.prog).orc 51 0 sh51_0 shb51_0 shr51_0 ((x2,()),(b0_0,b0_1,()),(b1_0,b1_1,()),())) (t51_0 x2 b0_0 b0_1 b1_0 b1_1) :=
  Walks.ok (fun _ _ _=>BodyRuns.of) (wk51_0 x2 b0_0 b0_1 b1_0 b1_1) (by kernel_rfl)

theorem ok51_0:LoopOk Go.Proofs.Try.prog 51 0 lc51_0:=loopOk_of (sh:=sh51_0) (shB:=shb51_0) (shR:=shr51_0) kf35_ok.base (T:=fun (d:sh51_0.data)=>t51_0 d.1.1 d.2.1.1 d.2.1.2.1 d.2.2.1.1 d.2.2.1.2.1) (by kernel_rfl) rfl (fun (d:sh51_0.data)=>ok51_0_t d.1.1 d.2.1.1 d.2.1.2.1 d.2.2.1.1 d.2.2.1.2.1) (fun _=>rfl)
def kl51_0 (P:Go.Program):Known:=(kf35 P).loop 51 0 lc51_0
theorem kl51_0_ok:KnownOk Go.Proofs.Try.prog (kl51_0 Go.Proofs.Try.prog):=kf35_ok.loop ok51_0

/-! ductility/ductilityref07.SameExplanation -/

abbrev as51:List Ty:=[(.pair (.slice (.int .i64)) (.pair (.slice .bool) .unit)),(.pair (.slice (.int .i64)) (.pair (.slice .bool) .unit))]
abbrev rs51:List Ty:=[.bool]

def t51 (x0:(List Int)) (x0':(List Bool)) (x1:(List Int)) (x1':(List Bool)):Tr (Tys.data rs51) :=
  Tr.test (Option.isSome (f35 (x0,(x1,()))))
    (let r0:=g35 (x0,(x1,()));
    Tr.test ((!r0.1:Bool))
      (Tr.fin (((false:Bool),())))
      (Tr.test ((!eqF (↑(List.length x0'):Int) (↑(List.length x1'):Int):Bool))
        (Tr.fin (((false:Bool),())))
        (Tr.test (Option.isSome (l51_0 (((0:Int),()),((x0,(x0',())),((x1,(x1',())),())))))
          (Tr.test (isRet (l51_0 (((0:Int),()),((x0,(x0',())),((x1,(x1',())),())))))
            (let r1:=r51_0 (((0:Int),()),((x0,(x0',())),((x1,(x1',())),())));
            Tr.fin ((r1.1.1,())))
            (Tr.fin (((true:Bool),()))))
          (Tr.stop))))
    (Tr.stop)

def f51 (d:Tys.data as51):Option (Tys.data rs51):=(t51 d.1.1 d.1.2.1 d.2.1.1 d.2.1.2.1).val
def g51 (d:Tys.data as51):Tys.data rs51:=(f51 d).getD (Tys.dflt rs51)
def p51:PureC:=pcOf as51 rs51 f51 g51

theorem wk51 (x0:(List Int)) (x0':(List Bool)) (x1:(List Int)) (x1':(List Bool)):Walks (runPure (kl51_0 Go.Proofs.Try.prog).orc Go.Proofs.Try.prog 400 51 as51 rs51 ((x0,x0',()),(x1,x1',()),())) (t51 x0 x0' x1 x1') [([true,true],[1,2,2,2,2,2,2,2,2,4]),([true,false,true],[2,4,4,4,4,4,4,4,4,6]),([true,false,false,true,true],[2,4,6,8,8,8,8,8,8,8,8,10]),([true,false,false,true,false],[2,4,6,8,8,8,8,8,8,8,8,10])] :=
  ⟨by kernel_rfl,by kernel_rfl,by kernel_rfl,by kernel_rfl,trivial⟩

theorem ok51_t (x0:(List Int)) (x0':(List Bool)) (x1:(List Int)) (x1':(List Bool)):TrOk (PureRuns Go.Proofs.Try.prog (kl51_0 Go.Proofs.Try.prog).orc 51 as51 rs51 ((x0,x0',()),(x1,x1',()),())) (t51 x0 x0' x1 x1') :=
  Walks.ok (fun _ _ _=>PureRuns.of) (wk51 x0 x0' x1 x1') (by kernel_rfl)

theorem ok51:PureOk Go.Proofs.Try.prog 51 p51:=pureOk_of kl51_0_ok.base (T:=fun (d:Tys.data as51)=>t51 d.1.1 d.1.2.1 d.2.1.1 d.2.1.2.1) (by kernel_rfl) (fun (d:Tys.data as51)=>ok51_t d.1.1 d.1.2.1 d.2.1.1 d.2.1.2.1)
def kf51 (P:Go.Program):Known:=(kl51_0 P).func 51 p51
theorem kf51_ok:KnownOk Go.Proofs.Try.prog (kf51 Go.Proofs.Try.prog):=kl51_0_ok.func ok51

/-! ductility/ductilitybase.Size -/

abbrev as104:List Ty:=[(.int .i64)]
abbrev rs104:List Ty:=[(.int .i64)]

def t104 (x0:Int):Tr (Tys.data rs104) :=
  Tr.fin (((if x0 < Go.IntKind.wrap Go.IntKind.i64 ((0:Int) - x0) then Go.IntKind.wrap Go.IntKind.i64 ((0:Int) - x0) else x0:Int),()))

def f104 (d:Tys.data as104):Option (Tys.data rs104):=(t104 d.1).val
def g104 (d:Tys.data as104):Tys.data rs104:=(f104 d).getD (Tys.dflt rs104)
def p104:PureC:=pcOf as104 rs104 f104 g104

theorem wk104 (x0:Int):Walks (runPure (kf51 Go.Proofs.Try.prog).orc Go.Proofs.Try.prog 400 104 as104 rs104 (x0,())) (t104 x0) [([],[])] :=
  ⟨by kernel_rfl,trivial⟩

theorem ok104_t (x0:Int):TrOk (PureRuns Go.Proofs.Try.prog (kf51 Go.Proofs.Try.prog).orc 104 as104 rs104 (x0,())) (t104 x0) :=
  Walks.ok (fun _ _ _=>PureRuns.of) (wk104 x0) (by kernel_rfl)

theorem ok104:PureOk Go.Proofs.Try.prog 104 p104:=pureOk_of kf51_ok.base (T:=fun (d:Tys.data as104)=>t104 d.1) (by kernel_rfl) (fun (d:Tys.data as104)=>ok104_t d.1)
def kf104 (P:Go.Program):Known:=(kf51 P).func 104 p104
theorem kf104_ok:KnownOk Go.Proofs.Try.prog (kf104 Go.Proofs.Try.prog):=kf51_ok.func ok104

/-! loop 0 of ductility/ductilitybase.Gcd -/

abbrev sh103_0:Sh:={ n:=13,slots:=[0,1],pats:=[.ty (.int .i64),.ty (.int .i64)],boxes:=[] }
abbrev shb103_0:Sh:={ n:=13,slots:=[0],pats:=[.ty (.int .i64)],boxes:=[] }
abbrev shr103_0:Sh:={ n:=13,slots:=[],pats:=[],boxes:=[] }

def t103_0 (x0:Int) (x1:Int):Tr (Out sh103_0.data shb103_0.data shr103_0.data) :=
  Tr.test ((!eqF x1 0:Bool))
    (Tr.test (x1 == (0:Int))
      (Tr.stop)
      (Tr.fin (.again ((x1,((Int.tmod x0 x1:Int),())),()))))
    (Tr.fin (.brk ((x0,()),())))

def s103_0 (d:sh103_0.data):Option (Out sh103_0.data shb103_0.data shr103_0.data):=(t103_0 d.1.1 d.1.2.1).val
def l103_0 (d:sh103_0.data):Option (shb103_0.data ⊕ shr103_0.data):=itr s103_0 rounds d
def b103_0 (d:sh103_0.data):shb103_0.data:=outB shb103_0.dflt (l103_0 d)
def lc103_0:LoopC:=lcB sh103_0 shb103_0 shr103_0 l103_0 b103_0

theorem wk103_0 (x0:Int) (x1:Int):Walks (runBody (kf104 Go.Proofs.Try.prog).orc Go.Proofs.Try.prog 400 103 0 sh103_0 shb103_0 shr103_0 ((x0,x1,()),())) (t103_0 x0 x1) [([true,false],[2,4]),([ff],[2])] :=
  ⟨by kernel_rfl,by kernel_rfl,trivial⟩

theorem ok103_0_t (x0:Int) (x1:Int):TrOk (BodyRuns Go.Proofs.Try.prog (kf104 Go.Proofs.Try.prog).orc 103 0 sh103_0 shb103_0 shr103_0 ((x0,x1,()),())) (t103_0 x0 x1) :=
  Walks.ok (fun _ _ _=>BodyRuns.of) (wk103_0 x0 x1) (by kernel_rfl)

theorem ok103_0:LoopOk Go.Proofs.Try.prog 103 0 lc103_0:=loopOk_ofB (sh:=sh103_0) (shB:=shb103_0) (shR:=shr103_0) kf104_ok.base (T:=fun (d:sh103_0.data)=>t103_0 d.1.1 d.1.2.1) (by kernel_rfl) rfl (fun (d:sh103_0.data)=>ok103_0_t d.1.1 d.1.2.1) (fun _=>rfl)
def kl103_0 (P:Go.Program):Known:=(kf104 P).loop 103 0 lc103_0
theorem kl103_0_ok:KnownOk Go.Proofs.Try.prog (kl103_0 Go.Proofs.Try.prog):=kf104_ok.loop ok103_0

/-! ductility/ductilitybase.Gcd -/

abbrev as103:List Ty:=[(.int .i64),(.int .i64)]
abbrev rs103:List Ty:=[(.int .i64)]

def t103 (x0:Int) (x1:Int):Tr (Tys.data rs103) :=
  Tr.test (isBrk (l103_0 ((x0,(x1,())),())))
    (let r0:=b103_0 ((x0,(x1,())),());
    Tr.test (Option.isSome (f104 (r0.1.1,())))
      (let r1:=g104 (r0.1.1,());
      Tr.fin ((r1.1,())))
      (Tr.stop))
    (Tr.stop)

def f103 (d:Tys.data as103):Option (Tys.data rs103):=(t103 d.1 d.2.1).val
def g103 (d:Tys.data as103):Tys.data rs103:=(f103 d).getD (Tys.dflt rs103)
def p103:PureC:=pcOf as103 rs103 f103 g103

theorem wk103 (x0:Int) (x1:Int):Walks (runPure (kl103_0 Go.Proofs.Try.prog).orc Go.Proofs.Try.prog 400 103 as103 rs103 (x0,x1,())) (t103 x0 x1) [([true,true],[2,1,4])] :=
  ⟨by kernel_rfl,trivial⟩

theorem ok103_t (x0:Int) (x1:Int):TrOk (PureRuns Go.Proofs.Try.prog (kl103_0 Go.Proofs.Try.prog).orc 103 as103 rs103 (x0,x1,())) (t103 x0 x1) :=
  Walks.ok (fun _ _ _=>PureRuns.of) (wk103 x0 x1) (by kernel_rfl)

theorem ok103:PureOk Go.Proofs.Try.prog 103 p103:=pureOk_of kl103_0_ok.base (T:=fun (d:Tys.data as103)=>t103 d.1 d.2.1) (by kernel_rfl) (fun (d:Tys.data as103)=>ok103_t d.1 d.2.1)
def kf103 (P:Go.Program):Known:=(kl103_0 P).func 103 p103
theorem kf103_ok:KnownOk Go.Proofs.Try.prog (kf103 Go.Proofs.Try.prog):=kl103_0_ok.func ok103

/-! ductility/ductilitybase.Lowest -/

abbrev as82:List Ty:=[(.int .i64),(.int .i64)]
abbrev rs82:List Ty:=[(.pair (.int .i64) (.pair (.int .i64) .unit))]

def t82 (x0:Int) (x1:Int):Tr (Tys.data rs82) :=
  Tr.test (Option.isSome (f103 (x0,(x1,()))))
    (Tr.test (!leF (0:Int) x1)
      (let r0:=g103 (x0,(x1,()));
      Tr.test ((Go.IntKind.wrap Go.IntKind.i64 ((0:Int) - r0.1) == (0:Int):Bool))
        (Tr.stop)
        (Tr.fin ((((Go.IntKind.wrap Go.IntKind.i64 (Int.tdiv x0 (Go.IntKind.wrap Go.IntKind.i64 ((0:Int) - r0.1))):Int),((Go.IntKind.wrap Go.IntKind.i64 (Int.tdiv x1 (Go.IntKind.wrap Go.IntKind.i64 ((0:Int) - r0.1))):Int),())),()))))
      (let r0:=g103 (x0,(x1,()));
      Tr.test ((r0.1 == (0:Int):Bool))
        (Tr.stop)
        (Tr.fin ((((Go.IntKind.wrap Go.IntKind.i64 (Int.tdiv x0 r0.1):Int),((Go.IntKind.wrap Go.IntKind.i64 (Int.tdiv x1 r0.1):Int),())),())))))
    (Tr.stop)

def f82 (d:Tys.data as82):Option (Tys.data rs82):=(t82 d.1 d.2.1).val
def g82 (d:Tys.data as82):Tys.data rs82:=(f82 d).getD (Tys.dflt rs82)
def p82:PureC:=pcOf as82 rs82 f82 g82

theorem wk82 (x0:Int) (x1:Int):Walks (runPure (kf103 Go.Proofs.Try.prog).orc Go.Proofs.Try.prog 400 82 as82 rs82 (x0,x1,())) (t82 x0 x1) [([true,true,false],[2,2,4,6]),([true,false,false],[2,2,4,6])] :=
  ⟨by kernel_rfl,by kernel_rfl,trivial⟩

theorem ok82_t (x0:Int) (x1:Int):TrOk (PureRuns Go.Proofs.Try.prog (kf103 Go.Proofs.Try.prog).orc 82 as82 rs82 (x0,x1,())) (t82 x0 x1) :=
  Walks.ok (fun _ _ _=>PureRuns.of) (wk82 x0 x1) (by kernel_rfl)

theorem ok82:PureOk Go.Proofs.Try.prog 82 p82:=pureOk_of kf103_ok.base (T:=fun (d:Tys.data as82)=>t82 d.1 d.2.1) (by kernel_rfl) (fun (d:Tys.data as82)=>ok82_t d.1 d.2.1)
def kf82 (P:Go.Program):Known:=(kf103 P).func 82 p82
theorem kf82_ok:KnownOk Go.Proofs.Try.prog (kf82 Go.Proofs.Try.prog):=kf103_ok.func ok82

/-! ductility/ductilitylaw07.awake -/

abbrev as11:List Ty:=[]
abbrev rs11:List Ty:=[.bool]
def f11 (_:Tys.data as11):Option (Tys.data rs11):=some (true,())
def g11 (_:Tys.data as11):Tys.data rs11:=(true,())
def p11:PureC:=pcOf as11 rs11 f11 g11

theorem e11:runAsk (kf82 Go.Proofs.Try.prog).orc Go.Proofs.Try.prog 400 11 as11 rs11 () none = some ((true,()),[]):=by kernel_rfl
theorem ok11:PureOk Go.Proofs.Try.prog 11 p11:=pureOk_closed kf82_ok.base (by kernel_rfl) e11 All.nil
def kf11 (P:Go.Program):Known:=(kf82 P).func 11 p11
theorem kf11_ok:KnownOk Go.Proofs.Try.prog (kf11 Go.Proofs.Try.prog):=kf82_ok.func ok11

/-! ductility/ductilitylaw07.samples -/

abbrev as12:List Ty:=[(.slice (.int .i64))]
abbrev rs12:List Ty:=[.bool]

def t12 (x0:(List Int)):Tr (Tys.data rs12) :=
  Tr.fin (((leF (↑(List.length x0):Int) (62:Int):Bool),()))

def f12 (d:Tys.data as12):Option (Tys.data rs12):=(t12 d.1).val
def g12 (d:Tys.data as12):Tys.data rs12:=(f12 d).getD (Tys.dflt rs12)
def p12:PureC:=pcOf as12 rs12 f12 g12

theorem wk12 (x0:(List Int)):Walks (runPure (kf11 Go.Proofs.Try.prog).orc Go.Proofs.Try.prog 400 12 as12 rs12 (x0,())) (t12 x0) [([],[])] :=
  ⟨by kernel_rfl,trivial⟩

theorem ok12_t (x0:(List Int)):TrOk (PureRuns Go.Proofs.Try.prog (kf11 Go.Proofs.Try.prog).orc 12 as12 rs12 (x0,())) (t12 x0) :=
  Walks.ok (fun _ _ _=>PureRuns.of) (wk12 x0) (by kernel_rfl)

theorem ok12:PureOk Go.Proofs.Try.prog 12 p12:=pureOk_of kf11_ok.base (T:=fun (d:Tys.data as12)=>t12 d.1) (by kernel_rfl) (fun (d:Tys.data as12)=>ok12_t d.1)
def kf12 (P:Go.Program):Known:=(kf11 P).func 12 p12
theorem kf12_ok:KnownOk Go.Proofs.Try.prog (kf12 Go.Proofs.Try.prog):=kf11_ok.func ok12

/-! ductility/ductilitybase.Within -/

abbrev as22:List Ty:=[(.int .i64),(.int .i64),(.int .i64)]
abbrev rs22:List Ty:=[.bool]

def t22 (x0:Int) (x1:Int) (x2:Int):Tr (Tys.data rs22) :=
  Tr.test ((leF x1 x0:Bool))
    (Tr.fin ((leF x0 x2,())))
    (Tr.fin ((false,())))

def f22 (d:Tys.data as22):Option (Tys.data rs22):=(t22 d.1 d.2.1 d.2.2.1).val
def g22 (d:Tys.data as22):Tys.data rs22:=(f22 d).getD (Tys.dflt rs22)
def p22:PureC:=pcOf as22 rs22 f22 g22

theorem wk22 (x0:Int) (x1:Int) (x2:Int):Walks (runPure (kf12 Go.Proofs.Try.prog).orc Go.Proofs.Try.prog 400 22 as22 rs22 (x0,x1,x2,())) (t22 x0 x1 x2) [([tt],[2,2,2,2]),([ff],[2,2,2,2])] :=
  ⟨by kernel_rfl,by kernel_rfl,trivial⟩

theorem ok22_t (x0:Int) (x1:Int) (x2:Int):TrOk (PureRuns Go.Proofs.Try.prog (kf12 Go.Proofs.Try.prog).orc 22 as22 rs22 (x0,x1,x2,())) (t22 x0 x1 x2) :=
  Walks.ok (fun _ _ _=>PureRuns.of) (wk22 x0 x1 x2) (by kernel_rfl)

theorem ok22:PureOk Go.Proofs.Try.prog 22 p22:=pureOk_of kf12_ok.base (T:=fun (d:Tys.data as22)=>t22 d.1 d.2.1 d.2.2.1) (by kernel_rfl) (fun (d:Tys.data as22)=>ok22_t d.1 d.2.1 d.2.2.1)
def kf22 (P:Go.Program):Known:=(kf12 P).func 22 p22
theorem kf22_ok:KnownOk Go.Proofs.Try.prog (kf22 Go.Proofs.Try.prog):=kf12_ok.func ok22

/-! loop 0 of ductility/ductilityref07.CheckRaw -/

abbrev sh19_0:Sh:={ n:=24,slots:=[0,4],pats:=[.ty (.slice (.int .i64)),.ty (.int .i64)],boxes:=[] }
abbrev shb19_0:Sh:={ n:=24,slots:=[],pats:=[],boxes:=[] }
abbrev shr19_0:Sh:={ n:=24,slots:=[2,3],pats:=[.ty (.int .i64),.ty (.int .i64)],boxes:=[] }

def t19_0 (x0:(List Int)) (x1:Int):Tr (Out sh19_0.data shb19_0.data shr19_0.data) :=
  Tr.test ((!leF (↑(List.length x0):Int) x1:Bool))
    (Tr.test (decide ((0:Int) ≤ x1) && decide (x1 < (↑(List.length x0):Int)))
      (Tr.test (Option.isSome (f22 ((List.getD x0 (Int.toNat x1) (0:Int):Int),((-100000:Int),((100000:Int),())))))
        (let r0:=g22 ((List.getD x0 (Int.toNat x1) (0:Int):Int),((-100000:Int),((100000:Int),())));
        Tr.test ((!r0.1:Bool))
          (Tr.fin (.ret ((x1,((2:Int),())),())))
          (Tr.fin (.again ((x0,((wrap64 (x1 + (1:Int)):Int),())),()))))
        (Tr.stop))
      (Tr.stop))
    (Tr.fin (.brk ((),())))

def s19_0 (d:sh19_0.data):Option (Out sh19_0.data shb19_0.data shr19_0.data):=(t19_0 d.1.1 d.1.2.1).val
def l19_0 (d:sh19_0.data):Option (shb19_0.data ⊕ shr19_0.data):=itr s19_0 rounds d
def b19_0 (d:sh19_0.data):shb19_0.data:=outB shb19_0.dflt (l19_0 d)
def r19_0 (d:sh19_0.data):shr19_0.data:=outR shr19_0.dflt (l19_0 d)
def lc19_0:LoopC:=lcOf sh19_0 shb19_0 shr19_0 l19_0 b19_0 r19_0

theorem wk19_0 (x0:(List Int)) (x1:Int):Walks (runBody (kf22 Go.Proofs.Try.prog).orc Go.Proofs.Try.prog 400 19 0 sh19_0 shb19_0 shr19_0 ((x0,x1,()),())) (t19_0 x0 x1) [([true,true,true,true],[2,4,6,8]),([true,true,true,false],[2,4,6,8]),([ff],[2])] :=
  ⟨by kernel_rfl,by kernel_rfl,by kernel_rfl,trivial⟩

theorem ok19_0_t (x0:(List Int)) (x1:Int):TrOk (BodyRuns Go.Proofs.Try.prog (kf22 Go.Proofs.Try.prog).orc 19 0 sh19_0 shb19_0 shr19_0 ((x0,x1,()),())) (t19_0 x0 x1) :=
  Walks.ok (fun _ _ _=>BodyRuns.of) (wk19_0 x0 x1) (by kernel_rfl)

theorem ok19_0:LoopOk Go.Proofs.Try.prog 19 0 lc19_0:=loopOk_of (sh:=sh19_0) (shB:=shb19_0) (shR:=shr19_0) kf22_ok.base (T:=fun (d:sh19_0.data)=>t19_0 d.1.1 d.1.2.1) (by kernel_rfl) rfl (fun (d:sh19_0.data)=>ok19_0_t d.1.1 d.1.2.1) (fun _=>rfl)
def kl19_0 (P:Go.Program):Known:=(kf22 P).loop 19 0 lc19_0
theorem kl19_0_ok:KnownOk Go.Proofs.Try.prog (kl19_0 Go.Proofs.Try.prog):=kf22_ok.loop ok19_0

/-! ductility/ductilityref07.CheckRaw -/

abbrev as19:List Ty:=[(.slice (.int .i64))]
abbrev rs19:List Ty:=[(.int .i64),(.int .i64)]

def t19 (x0:(List Int)):Tr (Tys.data rs19) :=
  Tr.test ((eqF (↑(List.length x0):Int) (0:Int):Bool))
    (Tr.fin (((0:Int),((10:Int),()))))
    (Tr.test (!leF (↑(List.length x0):Int) (60:Int))
      (Tr.fin (((0:Int),((8:Int),()))))
      (Tr.test (Option.isSome (l19_0 ((x0,((0:Int),())),())))
        (Tr.test (isRet (l19_0 ((x0,((0:Int),())),())))
          (let r0:=r19_0 ((x0,((0:Int),())),());
          Tr.fin ((r0.1.1,(r0.1.2.1,()))))
          (Tr.fin (((0:Int),((0:Int),())))))
        (Tr.stop)))

def f19 (d:Tys.data as19):Option (Tys.data rs19):=(t19 d.1).val
def g19 (d:Tys.data as19):Tys.data rs19:=(f19 d).getD (Tys.dflt rs19)
def p19:PureC:=pcOf as19 rs19 f19 g19

theorem wk19 (x0:(List Int)):Walks (runPure (kl19_0 Go.Proofs.Try.prog).orc Go.Proofs.Try.prog 400 19 as19 rs19 (x0,())) (t19 x0) [([tt],[2]),([false,true],[2,4]),([false,false,true,true],[2,4,6,8]),([false,false,true,false],[2,4,6,8])] :=
  ⟨by kernel_rfl,by kernel_rfl,by kernel_rfl,by kernel_rfl,trivial⟩

theorem ok19_t (x0:(List Int)):TrOk (PureRuns Go.Proofs.Try.prog (kl19_0 Go.Proofs.Try.prog).orc 19 as19 rs19 (x0,())) (t19 x0) :=
  Walks.ok (fun _ _ _=>PureRuns.of) (wk19 x0) (by kernel_rfl)

theorem ok19:PureOk Go.Proofs.Try.prog 19 p19:=pureOk_of kl19_0_ok.base (T:=fun (d:Tys.data as19)=>t19 d.1) (by kernel_rfl) (fun (d:Tys.data as19)=>ok19_t d.1)
def kf19 (P:Go.Program):Known:=(kl19_0 P).func 19 p19
theorem kf19_ok:KnownOk Go.Proofs.Try.prog (kf19 Go.Proofs.Try.prog):=kl19_0_ok.func ok19

/-! ductility/ductilityref07.RawErr -/

abbrev as34:List Ty:=[(.slice (.int .i64))]
abbrev rs34:List Ty:=[(.int .i64)]

def t34 (x0:(List Int)):Tr (Tys.data rs34) :=
  Tr.test (Option.isSome (f19 (x0,())))
    (let r0:=g19 (x0,());
    Tr.fin ((r0.2.1,())))
    (Tr.stop)

def f34 (d:Tys.data as34):Option (Tys.data rs34):=(t34 d.1).val
def g34 (d:Tys.data as34):Tys.data rs34:=(f34 d).getD (Tys.dflt rs34)
def p34:PureC:=pcOf as34 rs34 f34 g34

theorem wk34 (x0:(List Int)):Walks (runPure (kf19 Go.Proofs.Try.prog).orc Go.Proofs.Try.prog 400 34 as34 rs34 (x0,())) (t34 x0) [([tt],[2])] :=
  ⟨by kernel_rfl,trivial⟩

theorem ok34_t (x0:(List Int)):TrOk (PureRuns Go.Proofs.Try.prog (kf19 Go.Proofs.Try.prog).orc 34 as34 rs34 (x0,())) (t34 x0) :=
  Walks.ok (fun _ _ _=>PureRuns.of) (wk34 x0) (by kernel_rfl)

theorem ok34:PureOk Go.Proofs.Try.prog 34 p34:=pureOk_of kf19_ok.base (T:=fun (d:Tys.data as34)=>t34 d.1) (by kernel_rfl) (fun (d:Tys.data as34)=>ok34_t d.1)
def kf34 (P:Go.Program):Known:=(kf19 P).func 34 p34
theorem kf34_ok:KnownOk Go.Proofs.Try.prog (kf34 Go.Proofs.Try.prog):=kf19_ok.func ok34

/-! ductility/ductilityref07.ShiftErr -/

abbrev as37:List Ty:=[(.slice (.int .i64)),(.slice (.int .i64)),(.int .i64),(.int .i64)]
abbrev rs37:List Ty:=[(.int .i64)]

def t37 (x0:(List Int)) (x1:(List Int)) (x2:Int) (x3:Int):Tr (Tys.data rs37) :=
  Tr.test (Option.isSome (f34 (x0,())))
    (let r0:=g34 (x0,());
    Tr.test ((!eqF r0.1 0:Bool))
      (Tr.fin ((r0.1,())))
      (Tr.test (Option.isSome (f34 (x1,())))
        (let r1:=g34 (x1,());
        Tr.test ((!eqF r1.1 0:Bool))
          (Tr.fin ((r1.1,())))
          (Tr.test ((!eqF (↑(List.length x0):Int) (↑(List.length x1):Int):Bool))
            (Tr.fin (((13:Int),())))
            (Tr.test (Option.isSome (f22 (x2,((0:Int),(x3,())))))
              (let r2:=g22 (x2,((0:Int),(x3,())));
              Tr.test ((!r2.1:Bool))
                (Tr.fin (((2:Int),())))
                (Tr.fin (((0:Int),()))))
              (Tr.stop))))
        (Tr.stop)))
    (Tr.stop)

def f37 (d:Tys.data as37):Option (Tys.data rs37):=(t37 d.1 d.2.1 d.2.2.1 d.2.2.2.1).val
def g37 (d:Tys.data as37):Tys.data rs37:=(f37 d).getD (Tys.dflt rs37)
def p37:PureC:=pcOf as37 rs37 f37 g37

theorem wk37 (x0:(List Int)) (x1:(List Int)) (x2:Int) (x3:Int):Walks (runPure (kf34 Go.Proofs.Try.prog).orc Go.Proofs.Try.prog 400 37 as37 rs37 (x0,x1,x2,x3,())) (t37 x0 x1 x2 x3) [([true,true],[2,4]),([true,false,true,true],[2,4,6,8]),([true,false,true,false,true],[2,4,6,8,10]),([true,false,true,false,false,true,true],[2,4,6,8,10,12,14]),([true,false,true,false,false,true,false],[2,4,6,8,10,12,14])] :=
  ⟨by kernel_rfl,by kernel_rfl,by kernel_rfl,by kernel_rfl,by kernel_rfl,trivial⟩

theorem ok37_t (x0:(List Int)) (x1:(List Int)) (x2:Int) (x3:Int):TrOk (PureRuns Go.Proofs.Try.prog (kf34 Go.Proofs.Try.prog).orc 37 as37 rs37 (x0,x1,x2,x3,())) (t37 x0 x1 x2 x3) :=
  Walks.ok (fun _ _ _=>PureRuns.of) (wk37 x0 x1 x2 x3) (by kernel_rfl)

theorem ok37:PureOk Go.Proofs.Try.prog 37 p37:=pureOk_of kf34_ok.base (T:=fun (d:Tys.data as37)=>t37 d.1 d.2.1 d.2.2.1 d.2.2.2.1) (by kernel_rfl) (fun (d:Tys.data as37)=>ok37_t d.1 d.2.1 d.2.2.1 d.2.2.2.1)
def kf37 (P:Go.Program):Known:=(kf34 P).func 37 p37
theorem kf37_ok:KnownOk Go.Proofs.Try.prog (kf37 Go.Proofs.Try.prog):=kf34_ok.func ok37

/-! ductility/ductilitybase.CopyInts -/

abbrev as14:List Ty:=[(.slice (.int .i64))]
abbrev rs14:List Ty:=[(.slice (.int .i64))]

def t14 (x0:(List Int)):Tr (Tys.data rs14) :=
  Tr.test ((Nat.beq (List.length x0) (0:Nat):Bool))
    (Tr.fin ((([]:List Int),())))
    (Tr.test (Nat.ble ((0:Nat) + List.length x0) (0:Nat))
      (Tr.stop)
      (Tr.test ((Nat.ble (((2:Nat) * ((0:Nat) + List.length x0) + (192:Nat)) * (8:Nat)) (281474976710656:Nat) && Nat.ble ((0:Nat) + List.length x0) (281474976710656:Nat):Bool))
        (Tr.test ((Nat.beq ((0:Nat) + List.length x0) (List.length ([]++x0)):Bool))
          (Tr.fin ((([]++x0:List Int),())))
          (Tr.stop))
        (Tr.stop)))

def f14 (d:Tys.data as14):Option (Tys.data rs14):=(t14 d.1).val
def g14 (d:Tys.data as14):Tys.data rs14:=(f14 d).getD (Tys.dflt rs14)
def p14:PureC:=pcOf as14 rs14 f14 g14

theorem wk14 (x0:(List Int)):Walks (runPure (kf37 Go.Proofs.Try.prog).orc Go.Proofs.Try.prog 400 14 as14 rs14 (x0,())) (t14 x0) [([tt],[2]),([false,false,true,true],[2,4,6,8])] :=
  ⟨by kernel_rfl,by kernel_rfl,trivial⟩

theorem ok14_t (x0:(List Int)):TrOk (PureRuns Go.Proofs.Try.prog (kf37 Go.Proofs.Try.prog).orc 14 as14 rs14 (x0,())) (t14 x0) :=
  Walks.ok (fun _ _ _=>PureRuns.of) (wk14 x0) (by kernel_rfl)

theorem ok14:PureOk Go.Proofs.Try.prog 14 p14:=pureOk_of kf37_ok.base (T:=fun (d:Tys.data as14)=>t14 d.1) (by kernel_rfl) (fun (d:Tys.data as14)=>ok14_t d.1)
def kf14 (P:Go.Program):Known:=(kf37 P).func 14 p14
theorem kf14_ok:KnownOk Go.Proofs.Try.prog (kf14 Go.Proofs.Try.prog):=kf37_ok.func ok14

/-! loop 0 of ductility/ductilityref07.SumAt -/

abbrev sh40_0:Sh:={ n:=36,slots:=[0,1,2,7,8],pats:=[.ty (.slice (.int .i64)),.ty (.slice (.int .i64)),.ty (.int .i64),.ty (.int .i64),.ty (.int .i64)],boxes:=[] }
abbrev shb40_0:Sh:={ n:=36,slots:=[7],pats:=[.ty (.int .i64)],boxes:=[] }
abbrev shr40_0:Sh:={ n:=36,slots:=[],pats:=[],boxes:=[] }

def t40_0 (x0:(List Int)) (x1:(List Int)) (x2:Int) (x3:Int) (x4:Int):Tr (Out sh40_0.data shb40_0.data shr40_0.data) :=
  Tr.test ((!leF (↑(List.length x0):Int) x4:Bool))
    (Tr.test (Option.isSome (f22 ((wrap64 (x4 + x2):Int),((0:Int),((wrap64 ((↑(List.length x1):Int) - (1:Int)):Int),())))))
      (let r0:=g22 ((wrap64 (x4 + x2):Int),((0:Int),((wrap64 ((↑(List.length x1):Int) - (1:Int)):Int),())));
      Tr.test (r0.1)
        (Tr.test ((decide ((0:Int) ≤ x4) && decide (x4 < (↑(List.length x0):Int)):Bool))
          (Tr.test ((decide ((0:Int) ≤ wrap64 (x4 + x2)) && decide (wrap64 (x4 + x2) < (↑(List.length x1):Int)):Bool))
            (Tr.fin (.again ((x0,(x1,(x2,((wrap64 (x3 + wrap64 (List.getD x0 (Int.toNat x4) (0:Int) * List.getD x1 (Int.toNat (wrap64 (x4 + x2))) (0:Int))):Int),((wrap64 (x4 + (1:Int)):Int),()))))),())))
            (Tr.stop))
          (Tr.stop))
        (Tr.fin (.again ((x0,(x1,(x2,(x3,((wrap64 (x4 + (1:Int)):Int),()))))),()))))
      (Tr.stop))
    (Tr.fin (.brk ((x3,()),())))

def s40_0 (d:sh40_0.data):Option (Out sh40_0.data shb40_0.data shr40_0.data):=(t40_0 d.1.1 d.1.2.1 d.1.2.2.1 d.1.2.2.2.1 d.1.2.2.2.2.1).val
def l40_0 (d:sh40_0.data):Option (shb40_0.data ⊕ shr40_0.data):=itr s40_0 rounds d
def b40_0 (d:sh40_0.data):shb40_0.data:=outB shb40_0.dflt (l40_0 d)
def lc40_0:LoopC:=lcB sh40_0 shb40_0 shr40_0 l40_0 b40_0

theorem wk40_0 (x0:(List Int)) (x1:(List Int)) (x2:Int) (x3:Int) (x4:Int):Walks (runBody (kf14 Go.Proofs.Try.prog).orc Go.Proofs.Try.prog 400 40 0 sh40_0 shb40_0 shr40_0 ((x0,x1,x2,x3,x4,()),())) (t40_0 x0 x1 x2 x3 x4) [([true,true,true,true,true],[2,4,6,8,10]),([true,true,false],[2,4,6]),([ff],[2])] :=
  ⟨by kernel_rfl,by kernel_rfl,by kernel_rfl,trivial⟩

theorem ok40_0_t (x0:(List Int)) (x1:(List Int)) (x2:Int) (x3:Int) (x4:Int):TrOk (BodyRuns Go.Proofs.Try.prog (kf14 Go.Proofs.Try.prog).orc 40 0 sh40_0 shb40_0 shr40_0 ((x0,x1,x2,x3,x4,()),())) (t40_0 x0 x1 x2 x3 x4) :=
  Walks.ok (fun _ _ _=>BodyRuns.of) (wk40_0 x0 x1 x2 x3 x4) (by kernel_rfl)

theorem ok40_0:LoopOk Go.Proofs.Try.prog 40 0 lc40_0:=loopOk_ofB (sh:=sh40_0) (shB:=shb40_0) (shR:=shr40_0) kf14_ok.base (T:=fun (d:sh40_0.data)=>t40_0 d.1.1 d.1.2.1 d.1.2.2.1 d.1.2.2.2.1 d.1.2.2.2.2.1) (by kernel_rfl) rfl (fun (d:sh40_0.data)=>ok40_0_t d.1.1 d.1.2.1 d.1.2.2.1 d.1.2.2.2.1 d.1.2.2.2.2.1) (fun _=>rfl)
def kl40_0 (P:Go.Program):Known:=(kf14 P).loop 40 0 lc40_0
theorem kl40_0_ok:KnownOk Go.Proofs.Try.prog (kl40_0 Go.Proofs.Try.prog):=kf14_ok.loop ok40_0

/-! ductility/ductilityref07.SumAt -/

abbrev as40:List Ty:=[(.slice (.int .i64)),(.slice (.int .i64)),(.int .i64)]
abbrev rs40:List Ty:=[(.int .i64)]

def t40 (x0:(List Int)) (x1:(List Int)) (x2:Int):Tr (Tys.data rs40) :=
  Tr.test (isBrk (l40_0 ((x0,(x1,(x2,((0:Int),((0:Int),()))))),())))
    (let r0:=b40_0 ((x0,(x1,(x2,((0:Int),((0:Int),()))))),());
    Tr.fin ((r0.1.1,())))
    (Tr.stop)

def f40 (d:Tys.data as40):Option (Tys.data rs40):=(t40 d.1 d.2.1 d.2.2.1).val
def g40 (d:Tys.data as40):Tys.data rs40:=(f40 d).getD (Tys.dflt rs40)
def p40:PureC:=pcOf as40 rs40 f40 g40

theorem wk40 (x0:(List Int)) (x1:(List Int)) (x2:Int):Walks (runPure (kl40_0 Go.Proofs.Try.prog).orc Go.Proofs.Try.prog 400 40 as40 rs40 (x0,x1,x2,())) (t40 x0 x1 x2) [([tt],[1,2])] :=
  ⟨by kernel_rfl,trivial⟩

theorem ok40_t (x0:(List Int)) (x1:(List Int)) (x2:Int):TrOk (PureRuns Go.Proofs.Try.prog (kl40_0 Go.Proofs.Try.prog).orc 40 as40 rs40 (x0,x1,x2,())) (t40 x0 x1 x2) :=
  Walks.ok (fun _ _ _=>PureRuns.of) (wk40 x0 x1 x2) (by kernel_rfl)

theorem ok40:PureOk Go.Proofs.Try.prog 40 p40:=pureOk_of kl40_0_ok.base (T:=fun (d:Tys.data as40)=>t40 d.1 d.2.1 d.2.2.1) (by kernel_rfl) (fun (d:Tys.data as40)=>ok40_t d.1 d.2.1 d.2.2.1)
def kf40 (P:Go.Program):Known:=(kl40_0 P).func 40 p40
theorem kf40_ok:KnownOk Go.Proofs.Try.prog (kf40 Go.Proofs.Try.prog):=kl40_0_ok.func ok40

/-! loop 0 of ductility/sensor.curvesOf -/

abbrev sh107_0:Sh:={ n:=33,slots:=[0,3,4],pats:=[.ty (.slice (.int .i64)),.acc (.int .i64),.ty (.int .i64)],boxes:=[] }
abbrev shb107_0:Sh:={ n:=33,slots:=[3],pats:=[.acc (.int .i64)],boxes:=[] }
abbrev shr107_0:Sh:={ n:=33,slots:=[],pats:=[],boxes:=[] }

def t107_0 (x0:(List Int)) (x1:(List Int)) (x2:Int):Tr (Out sh107_0.data shb107_0.data shr107_0.data) :=
  Tr.test ((!leF (wrap64 ((↑(List.length x0):Int) - (1:Int))) x2:Bool))
    (Tr.test (decide ((0:Int) ≤ wrap64 (x2 - (1:Int))) && decide (wrap64 (x2 - (1:Int)) < (↑(List.length x0):Int)))
      (Tr.test ((decide ((0:Int) ≤ x2) && decide (x2 < (↑(List.length x0):Int)):Bool))
        (Tr.test ((decide ((0:Int) ≤ wrap64 (x2 + (1:Int))) && decide (wrap64 (x2 + (1:Int)) < (↑(List.length x0):Int)):Bool))
          (Tr.test ((Nat.ble (((2:Nat) * (List.length x1 + (1:Nat)) + (192:Nat)) * (8:Nat)) (281474976710656:Nat) && Nat.ble (List.length x1 + (1:Nat)) (281474976710656:Nat):Bool))
            (Tr.fin (.again ((x0,((x1++[wrap64 (wrap64 (List.getD x0 (Int.toNat (wrap64 (x2 - (1:Int)))) (0:Int) - wrap64 ((2:Int) * List.getD x0 (Int.toNat x2) (0:Int))) + List.getD x0 (Int.toNat (wrap64 (x2 + (1:Int)))) (0:Int))]:List Int),((wrap64 (x2 + (1:Int)):Int),()))),())))
            (Tr.stop))
          (Tr.stop))
        (Tr.stop))
      (Tr.stop))
    (Tr.fin (.brk ((x1,()),())))

def s107_0 (d:sh107_0.data):Option (Out sh107_0.data shb107_0.data shr107_0.data):=(t107_0 d.1.1 d.1.2.1 d.1.2.2.1).val
def l107_0 (d:sh107_0.data):Option (shb107_0.data ⊕ shr107_0.data):=itr s107_0 rounds d
def b107_0 (d:sh107_0.data):shb107_0.data:=outB shb107_0.dflt (l107_0 d)
def lc107_0:LoopC:=lcB sh107_0 shb107_0 shr107_0 l107_0 b107_0

theorem wk107_0 (x0:(List Int)) (x1:(List Int)) (x2:Int):Walks (runBody (kf40 Go.Proofs.Try.prog).orc Go.Proofs.Try.prog 400 107 0 sh107_0 shb107_0 shr107_0 ((x0,x1,x2,()),())) (t107_0 x0 x1 x2) [([true,true,true,true,true],[1,2,0,4,6,8,10]),([ff],[2])] :=
  ⟨by kernel_rfl,by kernel_rfl,trivial⟩

theorem ok107_0_t (x0:(List Int)) (x1:(List Int)) (x2:Int):TrOk (BodyRuns Go.Proofs.Try.prog (kf40 Go.Proofs.Try.prog).orc 107 0 sh107_0 shb107_0 shr107_0 ((x0,x1,x2,()),())) (t107_0 x0 x1 x2) :=
  Walks.ok (fun _ _ _=>BodyRuns.of) (wk107_0 x0 x1 x2) (by kernel_rfl)

theorem ok107_0:LoopOk Go.Proofs.Try.prog 107 0 lc107_0:=loopOk_ofB (sh:=sh107_0) (shB:=shb107_0) (shR:=shr107_0) kf40_ok.base (T:=fun (d:sh107_0.data)=>t107_0 d.1.1 d.1.2.1 d.1.2.2.1) (by kernel_rfl) rfl (fun (d:sh107_0.data)=>ok107_0_t d.1.1 d.1.2.1 d.1.2.2.1) (fun _=>rfl)
def kl107_0 (P:Go.Program):Known:=(kf40 P).loop 107 0 lc107_0
theorem kl107_0_ok:KnownOk Go.Proofs.Try.prog (kl107_0 Go.Proofs.Try.prog):=kf40_ok.loop ok107_0

/-! ductility/sensor.curvesOf -/

abbrev as107:List Ty:=[(.slice (.int .i64))]
abbrev rs107:List Ty:=[(.slice (.int .i64))]

def t107 (x0:(List Int)):Tr (Tys.data rs107) :=
  Tr.test (isBrk (l107_0 ((x0,(([]:List Int),((1:Int),()))),())))
    (let r0:=b107_0 ((x0,(([]:List Int),((1:Int),()))),());
    Tr.fin ((r0.1.1,())))
    (Tr.stop)

def f107 (d:Tys.data as107):Option (Tys.data rs107):=(t107 d.1).val
def g107 (d:Tys.data as107):Tys.data rs107:=(f107 d).getD (Tys.dflt rs107)
def p107:PureC:=pcOf as107 rs107 f107 g107

theorem wk107 (x0:(List Int)):Walks (runPure (kl107_0 Go.Proofs.Try.prog).orc Go.Proofs.Try.prog 400 107 as107 rs107 (x0,())) (t107 x0) [([tt],[1,2])] :=
  ⟨by kernel_rfl,trivial⟩

theorem ok107_t (x0:(List Int)):TrOk (PureRuns Go.Proofs.Try.prog (kl107_0 Go.Proofs.Try.prog).orc 107 as107 rs107 (x0,())) (t107 x0) :=
  Walks.ok (fun _ _ _=>PureRuns.of) (wk107 x0) (by kernel_rfl)

theorem ok107:PureOk Go.Proofs.Try.prog 107 p107:=pureOk_of kl107_0_ok.base (T:=fun (d:Tys.data as107)=>t107 d.1) (by kernel_rfl) (fun (d:Tys.data as107)=>ok107_t d.1)
def kf107 (P:Go.Program):Known:=(kl107_0 P).func 107 p107
theorem kf107_ok:KnownOk Go.Proofs.Try.prog (kf107 Go.Proofs.Try.prog):=kl107_0_ok.func ok107

/-! loop 0 of ductility/sensor.StrangeIn -/

abbrev sh33_0:Sh:={ n:=53,slots:=[1,2,10,29,30,31],pats:=[.ty (.slice (.int .i64)),.ty (.int .i64),.acc (.int .i64),.ty (.slice (.int .i64)),.ty (.int .i64),.ty (.int .i64)],boxes:=[] }
abbrev shb33_0:Sh:={ n:=53,slots:=[10],pats:=[.acc (.int .i64)],boxes:=[] }
abbrev shr33_0:Sh:={ n:=53,slots:=[],pats:=[],boxes:=[] }

def t33_0 (x0:(List Int)) (x1:Int) (x2:(List Int)) (x3:(List Int)) (x4:Int) (x5:Int):Tr (Out sh33_0.data shb33_0.data shr33_0.data) :=
  Tr.test ((!leF x4 x5:Bool))
    (Tr.test (decide ((0:Int) ≤ x5) && decide (x5 < (↑(List.length x3):Int)))
      (Tr.test ((decide ((0:Int) ≤ wrap64 (x5 + (1:Int))) && decide (wrap64 (x5 + (1:Int)) < (↑(List.length x0):Int)):Bool))
        (Tr.test (Option.isSome (f87 (x1,(([wrap64 (List.getD x3 (Int.toNat x5) (0:Int) - List.getD x0 (Int.toNat (wrap64 (x5 + (1:Int)))) (0:Int))]:List Int),()))))
          (let r0:=g87 (x1,(([wrap64 (List.getD x3 (Int.toNat x5) (0:Int) - List.getD x0 (Int.toNat (wrap64 (x5 + (1:Int)))) (0:Int))]:List Int),()));
          Tr.test (r0.1)
            (Tr.test ((Nat.ble (((2:Nat) * (List.length x2 + (1:Nat)) + (192:Nat)) * (8:Nat)) (281474976710656:Nat) && Nat.ble (List.length x2 + (1:Nat)) (281474976710656:Nat):Bool))
              (Tr.fin (.again ((x0,(x1,((x2++[wrap64 (x5 + (1:Int))]:List Int),(x3,(x4,((wrap64 (x5 + (1:Int)):Int),())))))),())))
              (Tr.stop))
            (Tr.fin (.again ((x0,(x1,(x2,(x3,(x4,((wrap64 (x5 + (1:Int)):Int),())))))),()))))
          (Tr.stop))
        (Tr.stop))
      (Tr.stop))
    (Tr.fin (.brk ((x2,()),())))

def s33_0 (d:sh33_0.data):Option (Out sh33_0.data shb33_0.data shr33_0.data):=(t33_0 d.1.1 d.1.2.1 d.1.2.2.1 d.1.2.2.2.1 d.1.2.2.2.2.1 d.1.2.2.2.2.2.1).val
def l33_0 (d:sh33_0.data):Option (shb33_0.data ⊕ shr33_0.data):=itr s33_0 rounds d
def b33_0 (d:sh33_0.data):shb33_0.data:=outB shb33_0.dflt (l33_0 d)
def lc33_0:LoopC:=lcB sh33_0 shb33_0 shr33_0 l33_0 b33_0

theorem wk33_0 (x0:(List Int)) (x1:Int) (x2:(List Int)) (x3:(List Int)) (x4:Int) (x5:Int):Walks (runBody (kf107 Go.Proofs.Try.prog).orc Go.Proofs.Try.prog 400 33 0 sh33_0 shb33_0 shr33_0 ((x0,x1,x2,x3,x4,x5,()),())) (t33_0 x0 x1 x2 x3 x4 x5) [([true,true,true,true,true,true],[1,2,0,4,6,1,8,10,12]),([true,true,true,true,false],[2,4,1,6,8,10]),([ff],[2])] :=
  ⟨by kernel_rfl,by kernel_rfl,by kernel_rfl,trivial⟩

theorem ok33_0_t (x0:(List Int)) (x1:Int) (x2:(List Int)) (x3:(List Int)) (x4:Int) (x5:Int):TrOk (BodyRuns Go.Proofs.Try.prog (kf107 Go.Proofs.Try.prog).orc 33 0 sh33_0 shb33_0 shr33_0 ((x0,x1,x2,x3,x4,x5,()),())) (t33_0 x0 x1 x2 x3 x4 x5) :=
  Walks.ok (fun _ _ _=>BodyRuns.of) (wk33_0 x0 x1 x2 x3 x4 x5) (by kernel_rfl)

theorem ok33_0:LoopOk Go.Proofs.Try.prog 33 0 lc33_0:=loopOk_ofB (sh:=sh33_0) (shB:=shb33_0) (shR:=shr33_0) kf107_ok.base (T:=fun (d:sh33_0.data)=>t33_0 d.1.1 d.1.2.1 d.1.2.2.1 d.1.2.2.2.1 d.1.2.2.2.2.1 d.1.2.2.2.2.2.1) (by kernel_rfl) rfl (fun (d:sh33_0.data)=>ok33_0_t d.1.1 d.1.2.1 d.1.2.2.1 d.1.2.2.2.1 d.1.2.2.2.2.1 d.1.2.2.2.2.2.1) (fun _=>rfl)
def kl33_0 (P:Go.Program):Known:=(kf107 P).loop 33 0 lc33_0
theorem kl33_0_ok:KnownOk Go.Proofs.Try.prog (kl33_0 Go.Proofs.Try.prog):=kf107_ok.loop ok33_0

/-! ductility/sensor.StrangeIn -/

abbrev as33:List Ty:=[(.slice (.int .i64)),(.slice (.int .i64)),(.int .i64)]
abbrev rs33:List Ty:=[(.slice (.int .i64)),(.int .i64)]

def t33 (x0:(List Int)) (x1:(List Int)) (x2:Int):Tr (Tys.data rs33) :=
  Tr.test (Option.isSome (f100 ((0:Int),((100000:Int),(([x2]:List Int),())))))
    (Tr.test (Option.isSome (f105 (x0,(x1,()))))
      (let r0:=g100 ((0:Int),((100000:Int),(([x2]:List Int),())));
      Tr.test (Option.isSome (f86 ((!r0.1:Bool),((2:Int),()))))
        (let r1:=g105 (x0,(x1,()));
        let r2:=g86 ((!r0.1:Bool),((2:Int),()));
        Tr.test (Option.isSome (f88 (([r1.1,r2.1]:List Int),())))
          (let r3:=g88 (([r1.1,r2.1]:List Int),());
          Tr.test ((!eqF r3.1 0:Bool))
            (Tr.fin ((([]:List Int),(r3.1,()))))
            (Tr.test (Option.isSome (f107 (x0,())))
              (let r4:=g107 (x0,());
              Tr.test (isBrk (l33_0 ((x1,(x2,(([]:List Int),(r4.1,((↑(List.length r4.1):Int),((0:Int),())))))),())))
                (let r5:=b33_0 ((x1,(x2,(([]:List Int),(r4.1,((↑(List.length r4.1):Int),((0:Int),())))))),());
                Tr.fin ((r5.1.1,((0:Int),()))))
                (Tr.stop))
              (Tr.stop)))
          (Tr.stop))
        (Tr.stop))
      (Tr.stop))
    (Tr.stop)

def f33 (d:Tys.data as33):Option (Tys.data rs33):=(t33 d.1 d.2.1 d.2.2.1).val
def g33 (d:Tys.data as33):Tys.data rs33:=(f33 d).getD (Tys.dflt rs33)
def p33:PureC:=pcOf as33 rs33 f33 g33

theorem wk33 (x0:(List Int)) (x1:(List Int)) (x2:Int):Walks (runPure (kl33_0 Go.Proofs.Try.prog).orc Go.Proofs.Try.prog 400 33 as33 rs33 (x0,x1,x2,())) (t33 x0 x1 x2) [([true,true,true,true,true],[2,4,1,6,8,10,1]),([true,true,true,true,false,true,true],[1,2,4,6,8,1,10,12,14,1])] :=
  ⟨by kernel_rfl,by kernel_rfl,trivial⟩

theorem ok33_t (x0:(List Int)) (x1:(List Int)) (x2:Int):TrOk (PureRuns Go.Proofs.Try.prog (kl33_0 Go.Proofs.Try.prog).orc 33 as33 rs33 (x0,x1,x2,())) (t33 x0 x1 x2) :=
  Walks.ok (fun _ _ _=>PureRuns.of) (wk33 x0 x1 x2) (by kernel_rfl)

theorem ok33:PureOk Go.Proofs.Try.prog 33 p33:=pureOk_of kl33_0_ok.base (T:=fun (d:Tys.data as33)=>t33 d.1 d.2.1 d.2.2.1) (by kernel_rfl) (fun (d:Tys.data as33)=>ok33_t d.1 d.2.1 d.2.2.1)
def kf33 (P:Go.Program):Known:=(kl33_0 P).func 33 p33
theorem kf33_ok:KnownOk Go.Proofs.Try.prog (kf33 Go.Proofs.Try.prog):=kl33_0_ok.func ok33

/-! loop 0 of ductility/ductilitybase.Has -/

abbrev sh41_0:Sh:={ n:=18,slots:=[0,1,5],pats:=[.ty (.slice (.int .i64)),.ty (.int .i64),.ty (.int .i64)],boxes:=[] }
abbrev shb41_0:Sh:={ n:=18,slots:=[],pats:=[],boxes:=[] }
abbrev shr41_0:Sh:={ n:=18,slots:=[4],pats:=[.ty .bool],boxes:=[] }

def t41_0 (x0:(List Int)) (x1:Int) (x2:Int):Tr (Out sh41_0.data shb41_0.data shr41_0.data) :=
  Tr.test ((!leF (↑(List.length x0):Int) x2:Bool))
    (Tr.test (decide ((0:Int) ≤ x2) && decide (x2 < (↑(List.length x0):Int)))
      (Tr.test ((eqF (List.getD x0 (Int.toNat x2) (0:Int)) x1:Bool))
        (Tr.fin (.ret (((true:Bool),()),())))
        (Tr.fin (.again ((x0,(x1,((wrap64 (x2 + (1:Int)):Int),()))),()))))
      (Tr.stop))
    (Tr.fin (.brk ((),())))

def s41_0 (d:sh41_0.data):Option (Out sh41_0.data shb41_0.data shr41_0.data):=(t41_0 d.1.1 d.1.2.1 d.1.2.2.1).val
def l41_0 (d:sh41_0.data):Option (shb41_0.data ⊕ shr41_0.data):=itr s41_0 rounds d
def b41_0 (d:sh41_0.data):shb41_0.data:=outB shb41_0.dflt (l41_0 d)
def r41_0 (d:sh41_0.data):shr41_0.data:=outR shr41_0.dflt (l41_0 d)
def lc41_0:LoopC:=lcOf sh41_0 shb41_0 shr41_0 l41_0 b41_0 r41_0

theorem wk41_0 (x0:(List Int)) (x1:Int) (x2:Int):Walks (runBody (kf33 Go.Proofs.Try.prog).orc Go.Proofs.Try.prog 400 41 0 sh41_0 shb41_0 shr41_0 ((x0,x1,x2,()),())) (t41_0 x0 x1 x2) [([true,true,true],[2,4,6]),([true,true,false],[2,4,6]),([ff],[2])] :=
  ⟨by kernel_rfl,by kernel_rfl,by kernel_rfl,trivial⟩

theorem ok41_0_t (x0:(List Int)) (x1:Int) (x2:Int):TrOk (BodyRuns Go.Proofs.Try.prog (kf33 Go.Proofs.Try.prog).orc 41 0 sh41_0 shb41_0 shr41_0 ((x0,x1,x2,()),())) (t41_0 x0 x1 x2) :=
  Walks.ok (fun _ _ _=>BodyRuns.of) (wk41_0 x0 x1 x2) (by kernel_rfl)

theorem ok41_0:LoopOk Go.Proofs.Try.prog 41 0 lc41_0:=loopOk_of (sh:=sh41_0) (shB:=shb41_0) (shR:=shr41_0) kf33_ok.base (T:=fun (d:sh41_0.data)=>t41_0 d.1.1 d.1.2.1 d.1.2.2.1) (by kernel_rfl) rfl (fun (d:sh41_0.data)=>ok41_0_t d.1.1 d.1.2.1 d.1.2.2.1) (fun _=>rfl)
def kl41_0 (P:Go.Program):Known:=(kf33 P).loop 41 0 lc41_0
theorem kl41_0_ok:KnownOk Go.Proofs.Try.prog (kl41_0 Go.Proofs.Try.prog):=kf33_ok.loop ok41_0

/-! ductility/ductilitybase.Has -/

abbrev as41:List Ty:=[(.slice (.int .i64)),(.int .i64)]
abbrev rs41:List Ty:=[.bool]

def t41 (x0:(List Int)) (x1:Int):Tr (Tys.data rs41) :=
  Tr.test (Option.isSome (l41_0 ((x0,(x1,((0:Int),()))),())))
    (Tr.test (isRet (l41_0 ((x0,(x1,((0:Int),()))),())))
      (let r0:=r41_0 ((x0,(x1,((0:Int),()))),());
      Tr.fin ((r0.1.1,())))
      (Tr.fin (((false:Bool),()))))
    (Tr.stop)

def f41 (d:Tys.data as41):Option (Tys.data rs41):=(t41 d.1 d.2.1).val
def g41 (d:Tys.data as41):Tys.data rs41:=(f41 d).getD (Tys.dflt rs41)
def p41:PureC:=pcOf as41 rs41 f41 g41

theorem wk41 (x0:(List Int)) (x1:Int):Walks (runPure (kl41_0 Go.Proofs.Try.prog).orc Go.Proofs.Try.prog 400 41 as41 rs41 (x0,x1,())) (t41 x0 x1) [([true,true],[2,4]),([true,false],[2,4])] :=
  ⟨by kernel_rfl,by kernel_rfl,trivial⟩

theorem ok41_t (x0:(List Int)) (x1:Int):TrOk (PureRuns Go.Proofs.Try.prog (kl41_0 Go.Proofs.Try.prog).orc 41 as41 rs41 (x0,x1,())) (t41 x0 x1) :=
  Walks.ok (fun _ _ _=>PureRuns.of) (wk41 x0 x1) (by kernel_rfl)

theorem ok41:PureOk Go.Proofs.Try.prog 41 p41:=pureOk_of kl41_0_ok.base (T:=fun (d:Tys.data as41)=>t41 d.1 d.2.1) (by kernel_rfl) (fun (d:Tys.data as41)=>ok41_t d.1 d.2.1)
def kf41 (P:Go.Program):Known:=(kl41_0 P).func 41 p41
theorem kf41_ok:KnownOk Go.Proofs.Try.prog (kf41 Go.Proofs.Try.prog):=kl41_0_ok.func ok41

/-! ductility/sensor.CurvesOf -/

abbrev as32:List Ty:=[(.slice (.int .i64))]
abbrev rs32:List Ty:=[(.slice (.int .i64)),(.int .i64)]

def t32 (x0:(List Int)):Tr (Tys.data rs32) :=
  Tr.test (Option.isSome (f107 (x0,())))
    (Tr.test (Option.isSome (f90 (x0,())))
      (let r0:=g107 (x0,());
      Tr.test (Option.isSome (f86 ((eqF (↑(List.length r0.1):Int) (0:Int):Bool),((12:Int),()))))
        (let r1:=g90 (x0,());
        let r2:=g86 ((eqF (↑(List.length r0.1):Int) (0:Int):Bool),((12:Int),()));
        Tr.test (Option.isSome (f88 (([r1.1,r2.1]:List Int),())))
          (let r3:=g88 (([r1.1,r2.1]:List Int),());
          Tr.test ((!eqF r3.1 0:Bool))
            (Tr.fin ((([]:List Int),(r3.1,()))))
            (Tr.fin ((r0.1,((0:Int),())))))
          (Tr.stop))
        (Tr.stop))
      (Tr.stop))
    (Tr.stop)

def f32 (d:Tys.data as32):Option (Tys.data rs32):=(t32 d.1).val
def g32 (d:Tys.data as32):Tys.data rs32:=(f32 d).getD (Tys.dflt rs32)
def p32:PureC:=pcOf as32 rs32 f32 g32

theorem wk32 (x0:(List Int)):Walks (runPure (kf41 Go.Proofs.Try.prog).orc Go.Proofs.Try.prog 400 32 as32 rs32 (x0,())) (t32 x0) [([true,true,true,true,true],[2,4,1,6,8,10]),([true,true,true,true,false],[2,4,1,6,8,10])] :=
  ⟨by kernel_rfl,by kernel_rfl,trivial⟩

theorem ok32_t (x0:(List Int)):TrOk (PureRuns Go.Proofs.Try.prog (kf41 Go.Proofs.Try.prog).orc 32 as32 rs32 (x0,())) (t32 x0) :=
  Walks.ok (fun _ _ _=>PureRuns.of) (wk32 x0) (by kernel_rfl)

theorem ok32:PureOk Go.Proofs.Try.prog 32 p32:=pureOk_of kf41_ok.base (T:=fun (d:Tys.data as32)=>t32 d.1) (by kernel_rfl) (fun (d:Tys.data as32)=>ok32_t d.1)
def kf32 (P:Go.Program):Known:=(kf41 P).func 32 p32
theorem kf32_ok:KnownOk Go.Proofs.Try.prog (kf32 Go.Proofs.Try.prog):=kf41_ok.func ok32

/-! loop 0 of ductility/ductilitylaw07.SensorMoved -/

abbrev sh5_0:Sh:={ n:=244,slots:=[0,1,5,7],pats:=[.ty (.slice (.int .i64)),.ty (.slice (.int .i64)),.ptr 0 2 0,.ty (.int .i64)],boxes:=[.row [.ty (.int .i64),.ty (.int .i64)]] }
abbrev shb5_0:Sh:={ n:=244,slots:=[0,1,5],pats:=[.ty (.slice (.int .i64)),.ty (.slice (.int .i64)),.ptr 0 2 0],boxes:=[.row [.ty (.int .i64),.ty (.int .i64)]] }
abbrev shr5_0:Sh:={ n:=244,slots:=[6],pats:=[.ty .bool],boxes:=[.row [.ty (.int .i64),.ty (.int .i64)]] }

def t5_0 (x0:(List Int)) (x1:(List Int)) (x3:Int) (b0_0:Int) (b0_1:Int):Tr (Out sh5_0.data shb5_0.data shr5_0.data) :=
  Tr.test ((!leF (↑(List.length x0):Int) x3:Bool))
    (Tr.test (decide ((0:Int) ≤ x3) && decide (x3 < (↑(List.length x0):Int)))
      (Tr.test (Option.isSome (f22 ((List.getD x0 (Int.toNat x3) (0:Int):Int),((-1000:Int),((1000:Int),())))))
        (let r0:=g22 ((List.getD x0 (Int.toNat x3) (0:Int):Int),((-1000:Int),((1000:Int),())));
        Tr.test ((!r0.1:Bool))
          (Tr.fin (.ret (((true:Bool),()),((b0_0,(b0_1,())),()))))
          (Tr.test ((decide ((0:Int) ≤ x3) && decide (x3 < (↑(List.length x1):Int)):Bool))
            (Tr.test (Option.isSome (f22 ((List.getD x1 (Int.toNat x3) (0:Int):Int),((-1000:Int),((1000:Int),())))))
              (let r1:=g22 ((List.getD x1 (Int.toNat x3) (0:Int):Int),((-1000:Int),((1000:Int),())));
              Tr.test ((!r1.1:Bool))
                (Tr.fin (.ret (((true:Bool),()),((b0_0,(b0_1,())),()))))
                (Tr.fin (.again ((x0,(x1,((wrap64 (x3 + (1:Int)):Int),()))),((b0_0,(b0_1,())),())))))
              (Tr.stop))
            (Tr.stop)))
        (Tr.stop))
      (Tr.stop))
    (Tr.fin (.brk ((x0,(x1,())),((b0_0,(b0_1,())),()))))

def s5_0 (d:sh5_0.data):Option (Out sh5_0.data shb5_0.data shr5_0.data):=(t5_0 d.1.1 d.1.2.1 d.1.2.2.1 d.2.1.1 d.2.1.2.1).val
def l5_0 (d:sh5_0.data):Option (shb5_0.data ⊕ shr5_0.data):=itr s5_0 rounds d
def b5_0 (d:sh5_0.data):shb5_0.data:=outB shb5_0.dflt (l5_0 d)
def r5_0 (d:sh5_0.data):shr5_0.data:=outR shr5_0.dflt (l5_0 d)
def lc5_0:LoopC:=lcOf sh5_0 shb5_0 shr5_0 l5_0 b5_0 r5_0

theorem wk5_0 (x0:(List Int)) (x1:(List Int)) (x3:Int) (b0_0:Int) (b0_1:Int):Walks (runBody (kf32 Go.Proofs.Try.prog).orc Go.Proofs.Try.prog 400 5 0 sh5_0 shb5_0 shr5_0 ((x0,x1,x3,()),(b0_0,b0_1,()),())) (t5_0 x0 x1 x3 b0_0 b0_1) [([true,true,true,true],[1,2,2,2,2,2,2,2,4,6,8]),([true,true,true,false,true,true,true],[2,8,8,4,8,8,6,8,8,8,10,12,14]),([true,true,true,false,true,true,false],[2,8,8,4,8,8,6,8,8,8,10,12,14]),([ff],[2])] :=
  ⟨by kernel_rfl,by kernel_rfl,by kernel_rfl,by kernel_rfl,trivial⟩

theorem ok5_0_t (x0:(List Int)) (x1:(List Int)) (x3:Int) (b0_0:Int) (b0_1:Int):TrOk (BodyRuns Go.Proofs.Try.prog (kf32 Go.Proofs.Try.prog).orc 5 0 sh5_0 shb5_0 shr5_0 ((x0,x1,x3,()),(b0_0,b0_1,()),())) (t5_0 x0 x1 x3 b0_0 b0_1) :=
  Walks.ok (fun _ _ _=>BodyRuns.of) (wk5_0 x0 x1 x3 b0_0 b0_1) (by kernel_rfl)

theorem ok5_0:LoopOk Go.Proofs.Try.prog 5 0 lc5_0:=loopOk_of (sh:=sh5_0) (shB:=shb5_0) (shR:=shr5_0) kf32_ok.base (T:=fun (d:sh5_0.data)=>t5_0 d.1.1 d.1.2.1 d.1.2.2.1 d.2.1.1 d.2.1.2.1) (by kernel_rfl) rfl (fun (d:sh5_0.data)=>ok5_0_t d.1.1 d.1.2.1 d.1.2.2.1 d.2.1.1 d.2.1.2.1) (fun _=>rfl)
def kl5_0 (P:Go.Program):Known:=(kf32 P).loop 5 0 lc5_0
theorem kl5_0_ok:KnownOk Go.Proofs.Try.prog (kl5_0 Go.Proofs.Try.prog):=kf32_ok.loop ok5_0

/-! loop 2 of ductility/ductilitylaw07.SensorMoved -/

abbrev sh5_2:Sh:={ n:=244,slots:=[0,1,5,8,10],pats:=[.ty (.slice (.int .i64)),.ty (.slice (.int .i64)),.ptr 0 2 0,.ty (.int .i64),.ty (.int .i64)],boxes:=[.row [.ty (.int .i64),.ty (.int .i64)]] }
abbrev shb5_2:Sh:={ n:=244,slots:=[0,1,5,8],pats:=[.ty (.slice (.int .i64)),.ty (.slice (.int .i64)),.ptr 0 2 0,.ty (.int .i64)],boxes:=[.row [.ty (.int .i64),.ty (.int .i64)]] }
abbrev shr5_2:Sh:={ n:=244,slots:=[6],pats:=[.ty .bool],boxes:=[.row [.ty (.int .i64),.ty (.int .i64)]] }

def t5_2 (x0:(List Int)) (x1:(List Int)) (x3:Int) (x4:Int) (b0_0:Int) (b0_1:Int):Tr (Out sh5_2.data shb5_2.data shr5_2.data) :=
  Tr.test ((leF x4 b0_0:Bool))
    (Tr.test (Option.isSome (f40 (x0,(x1,(x4,())))))
      (Tr.test (Option.isSome (f40 (x0,(x1,(x3,())))))
        (let r0:=g40 (x0,(x1,(x4,())));
        let r1:=g40 (x0,(x1,(x3,())));
        Tr.test ((!leF r0.1 r1.1:Bool))
          (Tr.fin (.ret (((false:Bool),()),((b0_0,(b0_1,())),()))))
          (Tr.test (Option.isSome (f40 (x1,(x0,((Go.IntKind.wrap Go.IntKind.i64 ((0:Int) - x4):Int),())))))
            (let r2:=g40 (x1,(x0,((Go.IntKind.wrap Go.IntKind.i64 ((0:Int) - x4):Int),())));
            Tr.test ((!eqF r0.1 r2.1:Bool))
              (Tr.fin (.ret (((false:Bool),()),((b0_0,(b0_1,())),()))))
              (Tr.fin (.again ((x0,(x1,(x3,((wrap64 (x4 + (1:Int)):Int),())))),((b0_0,(b0_1,())),())))))
            (Tr.stop)))
        (Tr.stop))
      (Tr.stop))
    (Tr.fin (.brk ((x0,(x1,(x3,()))),((b0_0,(b0_1,())),()))))

def s5_2 (d:sh5_2.data):Option (Out sh5_2.data shb5_2.data shr5_2.data):=(t5_2 d.1.1 d.1.2.1 d.1.2.2.1 d.1.2.2.2.1 d.2.1.1 d.2.1.2.1).val
def l5_2 (d:sh5_2.data):Option (shb5_2.data ⊕ shr5_2.data):=itr s5_2 rounds d
def b5_2 (d:sh5_2.data):shb5_2.data:=outB shb5_2.dflt (l5_2 d)
def r5_2 (d:sh5_2.data):shr5_2.data:=outR shr5_2.dflt (l5_2 d)
def lc5_2:LoopC:=lcOf sh5_2 shb5_2 shr5_2 l5_2 b5_2 r5_2

theorem wk5_2 (x0:(List Int)) (x1:(List Int)) (x3:Int) (x4:Int) (b0_0:Int) (b0_1:Int):Walks (runBody (kl5_0 Go.Proofs.Try.prog).orc Go.Proofs.Try.prog 400 5 2 sh5_2 shb5_2 shr5_2 ((x0,x1,x3,x4,()),(b0_0,b0_1,()),())) (t5_2 x0 x1 x3 x4 b0_0 b0_1) [([true,true,true,true],[1,2,2,2,2,2,2,2,2,2,2,2,4,6,8,1]),([true,true,true,false,true,true],[2,6,6,4,6,6,6,6,6,10,6,6,6,6,8,10,12,1]),([true,true,true,false,true,false],[2,6,6,4,6,6,6,6,6,10,6,6,6,6,8,10,12,1]),([ff],[2,1])] :=
  ⟨by kernel_rfl,by kernel_rfl,by kernel_rfl,by kernel_rfl,trivial⟩

theorem ok5_2_t (x0:(List Int)) (x1:(List Int)) (x3:Int) (x4:Int) (b0_0:Int) (b0_1:Int):TrOk (BodyRuns Go.Proofs.Try.prog (kl5_0 Go.Proofs.Try.prog).orc 5 2 sh5_2 shb5_2 shr5_2 ((x0,x1,x3,x4,()),(b0_0,b0_1,()),())) (t5_2 x0 x1 x3 x4 b0_0 b0_1) :=
  Walks.ok (fun _ _ _=>BodyRuns.of) (wk5_2 x0 x1 x3 x4 b0_0 b0_1) (by kernel_rfl)

theorem ok5_2:LoopOk Go.Proofs.Try.prog 5 2 lc5_2:=loopOk_of (sh:=sh5_2) (shB:=shb5_2) (shR:=shr5_2) kl5_0_ok.base (T:=fun (d:sh5_2.data)=>t5_2 d.1.1 d.1.2.1 d.1.2.2.1 d.1.2.2.2.1 d.2.1.1 d.2.1.2.1) (by kernel_rfl) rfl (fun (d:sh5_2.data)=>ok5_2_t d.1.1 d.1.2.1 d.1.2.2.1 d.1.2.2.2.1 d.2.1.1 d.2.1.2.1) (fun _=>rfl)
def kl5_2 (P:Go.Program):Known:=(kl5_0 P).loop 5 2 lc5_2
theorem kl5_2_ok:KnownOk Go.Proofs.Try.prog (kl5_2 Go.Proofs.Try.prog):=kl5_0_ok.loop ok5_2

/-! loop 4 of ductility/ductilitylaw07.SensorMoved -/

abbrev sh5_4:Sh:={ n:=244,slots:=[0,13,15,17],pats:=[.ty (.slice (.int .i64)),.ty (.slice (.int .i64)),.ty (.slice (.int .i64)),.ty (.int .i64)],boxes:=[] }
abbrev shb5_4:Sh:={ n:=244,slots:=[0],pats:=[.ty (.slice (.int .i64))],boxes:=[] }
abbrev shr5_4:Sh:={ n:=244,slots:=[6],pats:=[.ty .bool],boxes:=[] }

def t5_4 (x0:(List Int)) (x1:(List Int)) (x2:(List Int)) (x3:Int):Tr (Out sh5_4.data shb5_4.data shr5_4.data) :=
  Tr.test ((!leF (↑(List.length x2):Int) x3:Bool))
    (Tr.test (decide ((0:Int) ≤ x3) && decide (x3 < (↑(List.length x2):Int)))
      (Tr.test (Option.isSome (f41 (x1,((List.getD x2 (Int.toNat x3) (0:Int):Int),()))))
        (let r0:=g41 (x1,((List.getD x2 (Int.toNat x3) (0:Int):Int),()));
        Tr.test ((!r0.1:Bool))
          (Tr.fin (.ret (((false:Bool),()),())))
          (Tr.fin (.again ((x0,(x1,(x2,((wrap64 (x3 + (1:Int)):Int),())))),()))))
        (Tr.stop))
      (Tr.stop))
    (Tr.fin (.brk ((x0,()),())))

def s5_4 (d:sh5_4.data):Option (Out sh5_4.data shb5_4.data shr5_4.data):=(t5_4 d.1.1 d.1.2.1 d.1.2.2.1 d.1.2.2.2.1).val
def l5_4 (d:sh5_4.data):Option (shb5_4.data ⊕ shr5_4.data):=itr s5_4 rounds d
def b5_4 (d:sh5_4.data):shb5_4.data:=outB shb5_4.dflt (l5_4 d)
def r5_4 (d:sh5_4.data):shr5_4.data:=outR shr5_4.dflt (l5_4 d)
def lc5_4:LoopC:=lcOf sh5_4 shb5_4 shr5_4 l5_4 b5_4 r5_4

theorem wk5_4 (x0:(List Int)) (x1:(List Int)) (x2:(List Int)) (x3:Int):Walks (runBody (kl5_2 Go.Proofs.Try.prog).orc Go.Proofs.Try.prog 400 5 4 sh5_4 shb5_4 shr5_4 ((x0,x1,x2,x3,()),())) (t5_4 x0 x1 x2 x3) [([true,true,true,true],[2,4,6,8]),([true,true,true,false],[2,4,6,8]),([ff],[2])] :=
  ⟨by kernel_rfl,by kernel_rfl,by kernel_rfl,trivial⟩

theorem ok5_4_t (x0:(List Int)) (x1:(List Int)) (x2:(List Int)) (x3:Int):TrOk (BodyRuns Go.Proofs.Try.prog (kl5_2 Go.Proofs.Try.prog).orc 5 4 sh5_4 shb5_4 shr5_4 ((x0,x1,x2,x3,()),())) (t5_4 x0 x1 x2 x3) :=
  Walks.ok (fun _ _ _=>BodyRuns.of) (wk5_4 x0 x1 x2 x3) (by kernel_rfl)

theorem ok5_4:LoopOk Go.Proofs.Try.prog 5 4 lc5_4:=loopOk_of (sh:=sh5_4) (shB:=shb5_4) (shR:=shr5_4) kl5_2_ok.base (T:=fun (d:sh5_4.data)=>t5_4 d.1.1 d.1.2.1 d.1.2.2.1 d.1.2.2.2.1) (by kernel_rfl) rfl (fun (d:sh5_4.data)=>ok5_4_t d.1.1 d.1.2.1 d.1.2.2.1 d.1.2.2.2.1) (fun _=>rfl)
def kl5_4 (P:Go.Program):Known:=(kl5_2 P).loop 5 4 lc5_4
theorem kl5_4_ok:KnownOk Go.Proofs.Try.prog (kl5_4 Go.Proofs.Try.prog):=kl5_2_ok.loop ok5_4

/-! ductility/ductilitylaw07.SensorMoved -/

abbrev as5:List Ty:=[(.slice (.int .i64)),(.slice (.int .i64)),(.pair (.int .i64) (.pair (.int .i64) .unit))]
abbrev rs5:List Ty:=[.bool]

def t5 (x0:(List Int)) (x1:(List Int)) (x2:Int) (x2':Int):Tr (Tys.data rs5) :=
  Tr.test (Option.isSome (f12 (x0,())))
    (let r0:=g12 (x0,());
    Tr.test ((!r0.1:Bool))
      (Tr.fin (((true:Bool),())))
      (Tr.test (Option.isSome (f12 (x1,())))
        (let r1:=g12 (x1,());
        Tr.test ((!r1.1:Bool))
          (Tr.fin (((true:Bool),())))
          (Tr.test (Option.isSome (f37 (x0,(x1,(x2,((20:Int),()))))))
            (let r2:=g37 (x0,(x1,(x2,((20:Int),()))));
            Tr.test ((!eqF r2.1 0:Bool))
              (Tr.fin (((true:Bool),())))
              (Tr.test (Option.isSome (f22 (x2',((0:Int),((3000:Int),())))))
                (let r3:=g22 (x2',((0:Int),((3000:Int),())));
                Tr.test ((!r3.1:Bool))
                  (Tr.fin (((true:Bool),())))
                  (Tr.test (Option.isSome (l5_0 ((x0,(x1,((0:Int),()))),((x2,(x2',())),()))))
                    (Tr.test (isRet (l5_0 ((x0,(x1,((0:Int),()))),((x2,(x2',())),()))))
                      (let r4:=r5_0 ((x0,(x1,((0:Int),()))),((x2,(x2',())),()));
                      Tr.fin ((r4.1.1,())))
                      (let r5:=b5_0 ((x0,(x1,((0:Int),()))),((x2,(x2',())),()));
                      Tr.test (Option.isSome (f14 (r5.1.1,())))
                        (Tr.test (Option.isSome (f14 (r5.1.2.1,())))
                          (let r6:=g14 (r5.1.1,());
                          let r7:=g14 (r5.1.2.1,());
                          Tr.test (Option.isSome (f31 (r6.1,(r7.1,(r5.2.1.1,())))))
                            (let r8:=g31 (r6.1,(r7.1,(r5.2.1.1,())));
                            Tr.test ((!eqF r8.2.1 0:Bool))
                              (Tr.fin (((false:Bool),())))
                              (Tr.test (Option.isSome (f22 (r8.1,((Go.IntKind.wrap Go.IntKind.i64 ((0:Int) - r5.2.1.1):Int),(r5.2.1.1,())))))
                                (let r9:=g22 (r8.1,((Go.IntKind.wrap Go.IntKind.i64 ((0:Int) - r5.2.1.1):Int),(r5.2.1.1,())));
                                Tr.test ((!r9.1:Bool))
                                  (Tr.fin (((false:Bool),())))
                                  (Tr.test (Option.isSome (l5_2 ((r5.1.1,(r5.1.2.1,(r8.1,((Go.IntKind.wrap Go.IntKind.i64 ((0:Int) - r5.2.1.1):Int),())))),((r5.2.1.1,(r5.2.1.2.1,())),()))))
                                    (Tr.test (isRet (l5_2 ((r5.1.1,(r5.1.2.1,(r8.1,((Go.IntKind.wrap Go.IntKind.i64 ((0:Int) - r5.2.1.1):Int),())))),((r5.2.1.1,(r5.2.1.2.1,())),()))))
                                      (let r10:=r5_2 ((r5.1.1,(r5.1.2.1,(r8.1,((Go.IntKind.wrap Go.IntKind.i64 ((0:Int) - r5.2.1.1):Int),())))),((r5.2.1.1,(r5.2.1.2.1,())),()));
                                      Tr.fin ((r10.1.1,())))
                                      (let r11:=b5_2 ((r5.1.1,(r5.1.2.1,(r8.1,((Go.IntKind.wrap Go.IntKind.i64 ((0:Int) - r5.2.1.1):Int),())))),((r5.2.1.1,(r5.2.1.2.1,())),()));
                                      Tr.test (Option.isSome (f14 (r11.1.2.1,())))
                                        (Tr.test (Option.isSome (f14 (r11.1.1,())))
                                          (let r12:=g14 (r11.1.2.1,());
                                          let r13:=g14 (r11.1.1,());
                                          Tr.test (Option.isSome (f31 (r12.1,(r13.1,(r11.2.1.1,())))))
                                            (let r14:=g31 (r12.1,(r13.1,(r11.2.1.1,())));
                                            Tr.test ((!eqF r14.2.1 0:Bool))
                                              (Tr.fin (((false:Bool),())))
                                              (Tr.test (Option.isSome (f22 (r14.1,((Go.IntKind.wrap Go.IntKind.i64 ((0:Int) - r11.2.1.1):Int),(r11.2.1.1,())))))
                                                (let r15:=g22 (r14.1,((Go.IntKind.wrap Go.IntKind.i64 ((0:Int) - r11.2.1.1):Int),(r11.2.1.1,())));
                                                Tr.test ((!r15.1:Bool))
                                                  (Tr.fin (((false:Bool),())))
                                                  (Tr.test (Option.isSome (f40 (r11.1.2.1,(r11.1.1,(r14.1,())))))
                                                    (Tr.test (Option.isSome (f40 (r11.1.1,(r11.1.2.1,(r11.1.2.2.1,())))))
                                                      (let r16:=g40 (r11.1.2.1,(r11.1.1,(r14.1,())));
                                                      let r17:=g40 (r11.1.1,(r11.1.2.1,(r11.1.2.2.1,())));
                                                      Tr.test ((!eqF r16.1 r17.1:Bool))
                                                        (Tr.fin (((false:Bool),())))
                                                        (Tr.test (Option.isSome (f33 (r13.1,(r12.1,(r11.2.1.2.1,())))))
                                                          (Tr.test (Option.isSome (f33 (r13.1,(r12.1,((wrap64 (r11.2.1.2.1 + (1:Int)):Int),())))))
                                                            (let r18:=g33 (r13.1,(r12.1,(r11.2.1.2.1,())));
                                                            Tr.test ((!eqF r18.2.1 0:Bool))
                                                              (Tr.fin (((false:Bool),())))
                                                              (let r19:=g33 (r13.1,(r12.1,((wrap64 (r11.2.1.2.1 + (1:Int)):Int),())));
                                                              Tr.test ((!eqF r19.2.1 0:Bool))
                                                                (Tr.fin (((false:Bool),())))
                                                                (Tr.test ((!leF (↑(List.length r19.1):Int) (↑(List.length r18.1):Int):Bool))
                                                                  (Tr.fin (((false:Bool),())))
                                                                  (Tr.test ((!leF (↑(List.length r18.1):Int) (↑(List.length r11.1.1):Int):Bool))
                                                                    (Tr.fin (((false:Bool),())))
                                                                    (Tr.test (Option.isSome (l5_4 ((r11.1.1,(r18.1,(r19.1,((0:Int),())))),())))
                                                                      (Tr.test (isRet (l5_4 ((r11.1.1,(r18.1,(r19.1,((0:Int),())))),())))
                                                                        (let r20:=r5_4 ((r11.1.1,(r18.1,(r19.1,((0:Int),())))),());
                                                                        Tr.fin ((r20.1.1,())))
                                                                        (let r21:=b5_4 ((r11.1.1,(r18.1,(r19.1,((0:Int),())))),());
                                                                        Tr.test ((!leF (3:Int) (↑(List.length r21.1.1):Int):Bool))
                                                                          (Tr.fin (((true:Bool),())))
                                                                          (Tr.test (Option.isSome (f14 (r21.1.1,())))
                                                                            (let r22:=g14 (r21.1.1,());
                                                                            Tr.test (Option.isSome (f32 (r22.1,())))
                                                                              (let r23:=g32 (r22.1,());
                                                                              Tr.test ((!eqF r23.2.1 0:Bool))
                                                                                (Tr.fin (((false:Bool),())))
                                                                                (Tr.test ((!eqF (↑(List.length r23.1):Int) (wrap64 ((↑(List.length r21.1.1):Int) - (2:Int))):Bool))
                                                                                  (Tr.fin (((false:Bool),())))
                                                                                  (Tr.test ((Nat.beq (List.length r23.1) (0:Nat):Bool))
                                                                                    (Tr.test (Option.isSome (f33 (r22.1,(([(0:Int),(0:Int)]:List Int),((0:Int),())))))
                                                                                      (let r24:=g33 (r22.1,(([(0:Int),(0:Int)]:List Int),((0:Int),())));
                                                                                      Tr.test ((eqF r24.2.1 0:Bool))
                                                                                        (Tr.fin (((eqF (↑(List.length r24.1):Int) (0:Int):Bool),())))
                                                                                        (Tr.fin (((false:Bool),()))))
                                                                                      (Tr.stop))
                                                                                    (Tr.test ((Nat.ble ((1:Nat) + List.length r23.1) (1:Nat):Bool))
                                                                                      (Tr.stop)
                                                                                      (Tr.test ((Nat.ble (((2:Nat) * ((1:Nat) + List.length r23.1) + (192:Nat)) * (8:Nat)) (281474976710656:Nat) && Nat.ble ((1:Nat) + List.length r23.1) (281474976710656:Nat):Bool))
                                                                                        (Tr.test ((Nat.ble (((2:Nat) * ((1:Nat) + List.length r23.1 + (1:Nat)) + (192:Nat)) * (8:Nat)) (281474976710656:Nat) && Nat.ble ((1:Nat) + List.length r23.1 + (1:Nat)) (281474976710656:Nat):Bool))
                                                                                          (Tr.test ((Nat.beq ((1:Nat) + List.length r23.1) (List.length ([(0:Int)]++r23.1)):Bool))
                                                                                            (Tr.test ((Nat.beq ((1:Nat) + List.length r23.1 + (1:Nat)) (List.length ([(0:Int)]++r23.1++[(0:Int)])):Bool))
                                                                                              (Tr.test (Option.isSome (f33 (r22.1,(([(0:Int)]++r23.1++[(0:Int)]:List Int),((0:Int),())))))
                                                                                                (let r25:=g33 (r22.1,(([(0:Int)]++r23.1++[(0:Int)]:List Int),((0:Int),())));
                                                                                                Tr.test ((eqF r25.2.1 0:Bool))
                                                                                                  (Tr.fin (((eqF (↑(List.length r25.1):Int) (0:Int):Bool),())))
                                                                                                  (Tr.fin (((false:Bool),()))))
                                                                                                (Tr.stop))
                                                                                              (Tr.stop))
                                                                                            (Tr.stop))
                                                                                          (Tr.stop))
                                                                                        (Tr.stop))))))
                                                                              (Tr.stop))
                                                                            (Tr.stop))))
                                                                      (Tr.stop))))))
                                                            (Tr.stop))
                                                          (Tr.stop)))
                                                      (Tr.stop))
                                                    (Tr.stop)))
                                                (Tr.stop)))
                                            (Tr.stop))
                                          (Tr.stop))
                                        (Tr.stop)))
                                    (Tr.stop)))
                                (Tr.stop)))
                            (Tr.stop))
                          (Tr.stop))
                        (Tr.stop)))
                    (Tr.stop)))
                (Tr.stop)))
            (Tr.stop)))
        (Tr.stop)))
    (Tr.stop)

def f5 (d:Tys.data as5):Option (Tys.data rs5):=(t5 d.1 d.2.1 d.2.2.1.1 d.2.2.1.2.1).val
def g5 (d:Tys.data as5):Tys.data rs5:=(f5 d).getD (Tys.dflt rs5)
def p5:PureC:=pcOf as5 rs5 f5 g5

theorem wk5 (x0:(List Int)) (x1:(List Int)) (x2:Int) (x2':Int):Walks (runPure (kl5_4 Go.Proofs.Try.prog).orc Go.Proofs.Try.prog 400 5 as5 rs5 (x0,x1,(x2,x2',()),())) (t5 x0 x1 x2 x2') [([true,true],[1,1,1,1,1,1,1,1,1,1,1,1,1,2,2,2,2,4,0,1]),([true,false,true,true],[1,1,1,1,1,1,2,2,2,2,2,2,2,6,6,4,6,6,8,0,1]),([true,false,true,false,true,true],[1,2,2,2,2,2,6,6,4,6,6,1,6,6,6,10,10,8,10,10,12,0,1]),([true,false,true,false,true,false,true,true],[2,6,6,4,6,6,1,6,10,10,8,10,10,1,10,10,10,14,14,12,14,14,16,0,1]),([true,false,true,false,true,false,true,false,true,true],[2,4,6,10,10,8,10,10,1,10,14,14,12,14,14,1,14,14,14,18,18,16,18,18,20,0,1]),([true,false,true,false,true,false,true,false,true,false,true,true,true,true],[1,2,2,2,2,2,2,2,2,2,4,1,6,8,10,12,14,18,18,16,18,18,1,18,22,22,20,22,22,1,22,22,22,26,26,24,26,26,28,0,1]),([true,false,true,false,true,false,true,false,true,false,true,true,true,false,true,true],[2,6,6,4,6,6,1,6,6,6,1,6,6,8,1,10,12,14,16,18,22,22,20,22,22,1,22,26,26,24,26,26,1,26,26,26,30,30,28,30,30,32,0,1]),([true,false,true,false,true,false,true,false,true,false,true,true,true,false,true,false,true,true],[2,4,1,6,10,10,8,10,10,1,10,10,10,1,10,10,12,1,14,16,18,20,22,26,26,24,26,26,1,26,30,30,28,30,30,1,30,30,30,34,34,32,34,34,36,0,1]),([true,false,true,false,true,false,true,false,true,false,true,true,true,false,true,false,true,false,true,true,true,true],[1,1,1,1,1,1,1,1,1,1,1,2,2,2,2,2,2,2,2,2,4,1,6,8,10,12,1,14,18,18,16,18,18,1,18,18,18,1,18,18,20,1,22,24,26,28,30,34,34,32,34,34,1,34,38,38,36,38,38,1,38,38,38,42,42,40,42,42,44,0,1]),([true,false,true,false,true,false,true,false,true,false,true,true,true,false,true,false,true,false,true,true,true,false,true,true],[1,2,2,2,2,2,2,2,2,2,2,6,6,4,6,6,1,6,6,6,1,6,6,8,1,10,12,14,16,1,18,22,22,20,22,22,1,22,22,22,1,22,22,24,1,26,28,30,32,34,38,38,36,38,38,1,38,42,42,40,42,42,1,42,42,42,46,46,44,46,46,48,0,1]),([true,false,true,false,true,false,true,false,true,false,true,true,true,false,true,false,true,false,true,true,true,false,true,false,true,true,true],[2,8,8,4,8,8,8,8,6,8,8,8,8,12,12,10,12,12,1,12,12,12,1,12,12,14,1,16,18,20,22,1,24,28,28,26,28,28,1,28,28,28,1,28,28,30,1,32,34,36,38,40,44,44,42,44,44,1,44,48,48,46,48,48,1,48,48,48,52,52,50,52,52,54,0,1]),([true,false,true,false,true,false,true,false,true,false,true,true,true,false,true,false,true,false,true,true,true,false,true,false,true,true,false,true,true,true],[1,1,1,1,1,1,1,1,1,1,1,1,1,2,2,2,4,1,24,22,6,1,24,22,8,14,14,10,14,14,14,14,12,14,14,14,14,18,18,16,18,18,1,18,18,18,1,18,18,20,1,22,24,26,28,1,30,34,34,32,34,34,1,34,34,34,1,34,34,36,1,38,40,42,44,46,50,50,48,50,50,1,50,54,54,52,54,54,1,54,54,54,58,58,56,58,58,60,0,1]),([true,false,true,false,true,false,true,false,true,false,true,true,true,false,true,false,true,false,true,true,true,false,true,false,true,true,false,true,true,false,true],[1,1,1,1,1,1,1,2,2,2,2,2,2,4,4,4,6,1,26,24,8,1,26,24,10,16,16,12,16,16,16,16,14,16,16,16,16,20,20,18,20,20,1,20,20,20,1,20,20,22,1,24,26,28,30,1,32,36,36,34,36,36,1,36,36,36,1,36,36,38,1,40,42,44,46,48,52,52,50,52,52,1,52,56,56,54,56,56,1,56,56,56,60,60,58,60,60,62,0,1]),([true,false,true,false,true,false,true,false,true,false,true,true,true,false,true,false,true,false,true,true,true,false,true,false,true,true,false,true,true,false,false,true],[1,2,2,2,2,2,2,4,4,4,4,4,4,6,6,6,8,1,28,26,10,1,28,26,12,18,18,14,18,18,18,18,16,18,18,18,18,22,22,20,22,22,1,22,22,22,1,22,22,24,1,26,28,30,32,1,34,38,38,36,38,38,1,38,38,38,1,38,38,40,1,42,44,46,48,50,54,54,52,54,54,1,54,58,58,56,58,58,1,58,58,58,62,62,60,62,62,64,0,1]),([true,false,true,false,true,false,true,false,true,false,true,true,true,false,true,false,true,false,true,true,true,false,true,false,true,true,false,true,true,false,false,false,true],[2,4,4,4,4,4,4,6,6,6,6,6,6,8,8,8,10,1,30,28,12,1,30,28,14,20,20,16,20,20,20,20,18,20,20,20,20,24,24,22,24,24,1,24,24,24,1,24,24,26,1,28,30,32,34,1,36,40,40,38,40,40,1,40,40,40,1,40,40,42,1,44,46,48,50,52,56,56,54,56,56,1,56,60,60,58,60,60,1,60,60,60,64,64,62,64,64,66,0,1]),([true,false,true,false,true,false,true,false,true,false,true,true,true,false,true,false,true,false,true,true,true,false,true,false,true,true,false,true,true,false,false,false,false,true,true],[2,4,6,8,8,8,8,8,8,10,10,10,10,10,10,12,12,12,14,1,34,32,16,1,34,32,18,24,24,20,24,24,24,24,22,24,24,24,24,28,28,26,28,28,1,28,28,28,1,28,28,30,1,32,34,36,38,1,40,44,44,42,44,44,1,44,44,44,1,44,44,46,1,48,50,52,54,56,60,60,58,60,60,1,60,64,64,62,64,64,1,64,64,64,68,68,66,68,68,70,0,1]),([true,false,true,false,true,false,true,false,true,false,true,true,true,false,true,false,true,false,true,true,true,false,true,false,true,true,false,true,true,false,false,false,false,true,false,true],[2,4,6,8,10,10,10,10,10,10,12,12,12,12,12,12,14,14,14,16,1,36,34,18,1,36,34,20,26,26,22,26,26,26,26,24,26,26,26,26,30,30,28,30,30,1,30,30,30,1,30,30,32,1,34,36,38,40,1,42,46,46,44,46,46,1,46,46,46,1,46,46,48,1,50,52,54,56,58,62,62,60,62,62,1,62,66,66,64,66,66,1,66,66,66,70,70,68,70,70,72,0,1]),([true,false,true,false,true,false,true,false,true,false,true,true,true,false,true,false,true,false,true,true,true,false,true,false,true,true,false,true,true,false,false,false,false,true,false,false,true,true,true],[1,2,2,2,2,2,2,2,4,6,8,10,12,14,16,16,16,16,16,16,18,18,18,18,18,18,20,20,20,22,1,42,40,24,1,42,40,26,32,32,28,32,32,32,32,30,32,32,32,32,36,36,34,36,36,1,36,36,36,1,36,36,38,1,40,42,44,46,1,48,52,52,50,52,52,1,52,52,52,1,52,52,54,1,56,58,60,62,64,68,68,66,68,68,1,68,72,72,70,72,72,1,72,72,72,76,76,74,76,76,78,0,1]),([true,false,true,false,true,false,true,false,true,false,true,true,true,false,true,false,true,false,true,true,true,false,true,false,true,true,false,true,true,false,false,false,false,true,false,false,true,true,false,true],[2,4,4,4,4,4,4,4,6,8,10,12,14,16,18,18,18,18,18,18,20,20,20,20,20,20,22,22,22,24,1,44,42,26,1,44,42,28,34,34,30,34,34,34,34,32,34,34,34,34,38,38,36,38,38,1,38,38,38,1,38,38,40,1,42,44,46,48,1,50,54,54,52,54,54,1,54,54,54,1,54,54,56,1,58,60,62,64,66,70,70,68,70,70,1,70,74,74,72,74,74,1,74,74,74,78,78,76,78,78,80,0,1]),([true,false,true,false,true,false,true,false,true,false,true,true,true,false,true,false,true,false,true,true,true,false,true,false,true,true,false,true,true,false,false,false,false,true,false,false,true,true,false,false,true,true,true],[2,2,2,2,4,1,14,1,1,1,0,0,6,8,10,10,10,10,10,10,10,12,14,16,18,20,22,24,24,24,24,24,24,26,26,26,26,26,26,28,28,28,30,1,50,48,32,1,50,48,34,40,40,36,40,40,40,40,38,40,40,40,40,44,44,42,44,44,1,44,44,44,1,44,44,46,1,48,50,52,54,1,56,60,60,58,60,60,1,60,60,60,1,60,60,62,1,64,66,68,70,72,76,76,74,76,76,1,76,80,80,78,80,80,1,80,80,80,84,84,82,84,84,86,0,1]),([true,false,true,false,true,false,true,false,true,false,true,true,true,false,true,false,true,false,true,true,true,false,true,false,true,true,false,true,true,false,false,false,false,true,false,false,true,true,false,false,true,true,false],[2,2,2,2,4,1,14,1,1,1,0,0,6,8,10,10,10,10,10,10,10,12,14,16,18,20,22,24,24,24,24,24,24,26,26,26,26,26,26,28,28,28,30,1,50,48,32,1,50,48,34,40,40,36,40,40,40,40,38,40,40,40,40,44,44,42,44,44,1,44,44,44,1,44,44,46,1,48,50,52,54,1,56,60,60,58,60,60,1,60,60,60,1,60,60,62,1,64,66,68,70,72,76,76,74,76,76,1,76,80,80,78,80,80,1,80,80,80,84,84,82,84,84,86,0,1]),([true,false,true,false,true,false,true,false,true,false,true,true,true,false,true,false,true,false,true,true,true,false,true,false,true,true,false,true,true,false,false,false,false,true,false,false,true,true,false,false,false,false,true,true,true,true,true,true],[2,2,2,2,4,6,24,1,8,10,0,1,12,14,16,18,20,20,20,20,20,20,20,22,24,26,28,30,32,34,34,34,34,34,34,36,36,36,36,36,36,38,38,38,40,1,60,58,42,1,60,58,44,50,50,46,50,50,50,50,48,50,50,50,50,54,54,52,54,54,1,54,54,54,1,54,54,56,1,58,60,62,64,1,66,70,70,68,70,70,1,70,70,70,1,70,70,72,1,74,76,78,80,82,86,86,84,86,86,1,86,90,90,88,90,90,1,90,90,90,94,94,92,94,94,96,0,1]),([true,false,true,false,true,false,true,false,true,false,true,true,true,false,true,false,true,false,true,true,true,false,true,false,true,true,false,true,true,false,false,false,false,true,false,false,true,true,false,false,false,false,true,true,true,true,true,false],[2,2,2,2,4,6,24,1,8,10,0,1,12,14,16,18,20,20,20,20,20,20,20,22,24,26,28,30,32,34,34,34,34,34,34,36,36,36,36,36,36,38,38,38,40,1,60,58,42,1,60,58,44,50,50,46,50,50,50,50,48,50,50,50,50,54,54,52,54,54,1,54,54,54,1,54,54,56,1,58,60,62,64,1,66,70,70,68,70,70,1,70,70,70,1,70,70,72,1,74,76,78,80,82,86,86,84,86,86,1,86,90,90,88,90,90,1,90,90,90,94,94,92,94,94,96,0,1])] :=
  ⟨by kernel_rfl,by kernel_rfl,by kernel_rfl,by kernel_rfl,by kernel_rfl,by kernel_rfl,by kernel_rfl,by kernel_rfl,by kernel_rfl,by kernel_rfl,by kernel_rfl,by kernel_rfl,by kernel_rfl,by kernel_rfl,by kernel_rfl,by kernel_rfl,by kernel_rfl,by kernel_rfl,by kernel_rfl,by kernel_rfl,by kernel_rfl,by kernel_rfl,by kernel_rfl,trivial⟩

theorem ok5_t (x0:(List Int)) (x1:(List Int)) (x2:Int) (x2':Int):TrOk (PureRuns Go.Proofs.Try.prog (kl5_4 Go.Proofs.Try.prog).orc 5 as5 rs5 (x0,x1,(x2,x2',()),())) (t5 x0 x1 x2 x2') :=
  Walks.ok (fun _ _ _=>PureRuns.of) (wk5 x0 x1 x2 x2') (by kernel_rfl)

theorem ok5:PureOk Go.Proofs.Try.prog 5 p5:=pureOk_of kl5_4_ok.base (T:=fun (d:Tys.data as5)=>t5 d.1 d.2.1 d.2.2.1.1 d.2.2.1.2.1) (by kernel_rfl) (fun (d:Tys.data as5)=>ok5_t d.1 d.2.1 d.2.2.1.1 d.2.2.1.2.1)

end Go.Vm.Mo
