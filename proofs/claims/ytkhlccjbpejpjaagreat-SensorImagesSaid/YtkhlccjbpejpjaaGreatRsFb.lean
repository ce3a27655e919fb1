import Derived.Test.YtkhlccjbpejpjaaGreatA4
import Derived.KernelRfl
import Derived.Test.YtkhlccjbpejpjaaGreatProg
import Derived.Test.YtkhlccjbpejpjaaGreatRsFa
set_option linter.unusedVariables false
set_option linter.unusedSimpArgs false

namespace Go.Vm.Mo
open Go
set_option linter.unusedVariables false

/-! loop 0 of slices.IndexFunc[[][]int,[]int] -/

abbrev sh125_0:Sh:={ n:=19,slots:=[0,1,7,8],pats:=[.ty (.slice (.slice (.int .i64))),.fn 106 [],.ty (.int .i64),.ty (.int .i64)],boxes:=[] }
abbrev shb125_0:Sh:={ n:=19,slots:=[],pats:=[],boxes:=[] }
abbrev shr125_0:Sh:={ n:=19,slots:=[4],pats:=[.ty (.int .i64)],boxes:=[] }

def t125_0 (x0:(List (List Int))) (x2:Int) (x3:Int):Tr (Out sh125_0.data shb125_0.data shr125_0.data) :=
  Tr.test ((!leF x2 x3:Bool))
    (Tr.test (decide ((0:Int) ≤ x3) && decide (x3 < (↑(List.length x0):Int)))
      (Tr.test (Option.isSome (f66 ((0:Int),((0:Int),((List.getD x0 (Int.toNat x3) []:List Int),())))))
        (let r0:=g66 ((0:Int),((0:Int),((List.getD x0 (Int.toNat x3) []:List Int),())));
        Tr.test ((!r0.1:Bool))
          (Tr.fin (.ret ((x3,()),())))
          (Tr.fin (.again ((x0,(x2,((wrap64 (x3 + (1:Int)):Int),()))),()))))
        (Tr.stop))
      (Tr.stop))
    (Tr.fin (.brk ((),())))

def s125_0 (d:sh125_0.data):Option (Out sh125_0.data shb125_0.data shr125_0.data):=(t125_0 d.1.1 d.1.2.1 d.1.2.2.1).val
def l125_0 (d:sh125_0.data):Option (shb125_0.data ⊕ shr125_0.data):=itr s125_0 rounds d
def b125_0 (d:sh125_0.data):shb125_0.data:=outB shb125_0.dflt (l125_0 d)
def r125_0 (d:sh125_0.data):shr125_0.data:=outR shr125_0.dflt (l125_0 d)
def lc125_0:LoopC:=lcOf sh125_0 shb125_0 shr125_0 l125_0 b125_0 r125_0

theorem wk125_0 (x0:(List (List Int))) (x2:Int) (x3:Int):Walks (runBody (kl102_0_2 Go.Proofs.Tryz.prog).orc Go.Proofs.Tryz.prog 400 125 0 sh125_0 shb125_0 shr125_0 ((x0,x2,x3,()),())) (t125_0 x0 x2 x3) [([true,true,true,true],[2,4,6,8]),([true,true,true,false],[2,4,6,8]),([ff],[2])] :=
  ⟨by kernel_rfl,by kernel_rfl,by kernel_rfl,trivial⟩

theorem ok125_0_t (x0:(List (List Int))) (x2:Int) (x3:Int):TrOk (BodyRuns Go.Proofs.Tryz.prog (kl102_0_2 Go.Proofs.Tryz.prog).orc 125 0 sh125_0 shb125_0 shr125_0 ((x0,x2,x3,()),())) (t125_0 x0 x2 x3) :=
  Walks.ok (fun _ _ _=>BodyRuns.of) (wk125_0 x0 x2 x3) (by kernel_rfl)

theorem ok125_0:LoopOk Go.Proofs.Tryz.prog 125 0 lc125_0:=loopOk_of (sh:=sh125_0) (shB:=shb125_0) (shR:=shr125_0) kl102_0_2_ok.base (T:=fun (d:sh125_0.data)=>t125_0 d.1.1 d.1.2.1 d.1.2.2.1) (by kernel_rfl) rfl (fun (d:sh125_0.data)=>ok125_0_t d.1.1 d.1.2.1 d.1.2.2.1) (fun _=>rfl)
def kl125_0 (P:Go.Program):Known:=(kl102_0_2 P).loop 125 0 lc125_0
theorem kl125_0_ok:KnownOk Go.Proofs.Tryz.prog (kl125_0 Go.Proofs.Tryz.prog):=kl102_0_2_ok.loop ok125_0

/-! ductility/sensor.imageError -/

abbrev as76:List Ty:=[(.slice (.slice (.int .i64)))]
abbrev rs76:List Ty:=[(.int .i64)]

def t76 (x0:(List (List Int))):Tr (Tys.data rs76) :=
  Tr.test ((eqF (↑(List.length x0):Int) (0:Int):Bool))
    (Tr.fin (((10:Int),())))
    (Tr.test (true && decide ((0:Int) < (↑(List.length x0):Int)))
      (Tr.test (Option.isSome (l102_0_1 ((x0,((↑(List.length x0):Int),((0:Int),()))),(((↑(List.length (List.getD x0 (0:Nat) [])):Int),()),()))))
        (Tr.test (isRet (l102_0_1 ((x0,((↑(List.length x0):Int),((0:Int),()))),(((↑(List.length (List.getD x0 (0:Nat) [])):Int),()),()))))
          (Tr.test (Option.isSome (l102_0_2 ((x0,((↑(List.length x0):Int),((0:Int),()))),())))
            (Tr.test (isRet (l102_0_2 ((x0,((↑(List.length x0):Int),((0:Int),()))),())))
              (Tr.test (Option.isSome (l125_0 ((x0,((↑(List.length x0):Int),((0:Int),()))),())))
                (Tr.test (isRet (l125_0 ((x0,((↑(List.length x0):Int),((0:Int),()))),())))
                  (Tr.test ((!leF (↑(List.length x0):Int) (10:Int):Bool))
                    (Tr.test (Option.isSome (f62 ((true:Bool),((8:Int),()))))
                      (let r3:=r125_0 ((x0,((↑(List.length x0):Int),((0:Int),()))),());
                      Tr.test (Option.isSome (f62 ((!leF (0:Int) r3.1.1:Bool),((11:Int),()))))
                        (let r0:=r102_0_1 ((x0,((↑(List.length x0):Int),((0:Int),()))),(((↑(List.length (List.getD x0 (0:Nat) [])):Int),()),()));
                        let r2:=r102_0_2 ((x0,((↑(List.length x0):Int),((0:Int),()))),());
                        let r4:=g62 ((true:Bool),((8:Int),()));
                        let r6:=g62 ((!leF (0:Int) r3.1.1:Bool),((11:Int),()));
                        Tr.test (Option.isSome (f48 (([r0.1.2.1,r4.1,r2.1.2.1,r6.1]:List Int),())))
                          (let r7:=g48 (([r0.1.2.1,r4.1,r2.1.2.1,r6.1]:List Int),());
                          Tr.fin ((r7.1,())))
                          (Tr.stop))
                        (Tr.stop))
                      (Tr.stop))
                    (let r0:=r102_0_1 ((x0,((↑(List.length x0):Int),((0:Int),()))),(((↑(List.length (List.getD x0 (0:Nat) [])):Int),()),()));
                    Tr.test (Option.isSome (f62 ((!leF r0.2.1.1 10:Bool),((8:Int),()))))
                      (let r3:=r125_0 ((x0,((↑(List.length x0):Int),((0:Int),()))),());
                      Tr.test (Option.isSome (f62 ((!leF (0:Int) r3.1.1:Bool),((11:Int),()))))
                        (let r2:=r102_0_2 ((x0,((↑(List.length x0):Int),((0:Int),()))),());
                        let r5:=g62 ((!leF r0.2.1.1 10:Bool),((8:Int),()));
                        let r6:=g62 ((!leF (0:Int) r3.1.1:Bool),((11:Int),()));
                        Tr.test (Option.isSome (f48 (([r0.1.2.1,r5.1,r2.1.2.1,r6.1]:List Int),())))
                          (let r8:=g48 (([r0.1.2.1,r5.1,r2.1.2.1,r6.1]:List Int),());
                          Tr.fin ((r8.1,())))
                          (Tr.stop))
                        (Tr.stop))
                      (Tr.stop)))
                  (Tr.test ((!leF (↑(List.length x0):Int) (10:Int):Bool))
                    (Tr.test (Option.isSome (f62 ((true:Bool),((8:Int),()))))
                      (Tr.test (Option.isSome (f62 ((true:Bool),((11:Int),()))))
                        (let r0:=r102_0_1 ((x0,((↑(List.length x0):Int),((0:Int),()))),(((↑(List.length (List.getD x0 (0:Nat) [])):Int),()),()));
                        let r2:=r102_0_2 ((x0,((↑(List.length x0):Int),((0:Int),()))),());
                        let r4:=g62 ((true:Bool),((8:Int),()));
                        let r9:=g62 ((true:Bool),((11:Int),()));
                        Tr.test (Option.isSome (f48 (([r0.1.2.1,r4.1,r2.1.2.1,r9.1]:List Int),())))
                          (let r10:=g48 (([r0.1.2.1,r4.1,r2.1.2.1,r9.1]:List Int),());
                          Tr.fin ((r10.1,())))
                          (Tr.stop))
                        (Tr.stop))
                      (Tr.stop))
                    (let r0:=r102_0_1 ((x0,((↑(List.length x0):Int),((0:Int),()))),(((↑(List.length (List.getD x0 (0:Nat) [])):Int),()),()));
                    Tr.test (Option.isSome (f62 ((!leF r0.2.1.1 10:Bool),((8:Int),()))))
                      (Tr.test (Option.isSome (f62 ((true:Bool),((11:Int),()))))
                        (let r2:=r102_0_2 ((x0,((↑(List.length x0):Int),((0:Int),()))),());
                        let r5:=g62 ((!leF r0.2.1.1 10:Bool),((8:Int),()));
                        let r9:=g62 ((true:Bool),((11:Int),()));
                        Tr.test (Option.isSome (f48 (([r0.1.2.1,r5.1,r2.1.2.1,r9.1]:List Int),())))
                          (let r11:=g48 (([r0.1.2.1,r5.1,r2.1.2.1,r9.1]:List Int),());
                          Tr.fin ((r11.1,())))
                          (Tr.stop))
                        (Tr.stop))
                      (Tr.stop))))
                (Tr.stop))
              (Tr.test (Option.isSome (l125_0 ((x0,((↑(List.length x0):Int),((0:Int),()))),())))
                (Tr.test (isRet (l125_0 ((x0,((↑(List.length x0):Int),((0:Int),()))),())))
                  (Tr.test ((!leF (↑(List.length x0):Int) (10:Int):Bool))
                    (Tr.test (Option.isSome (f62 ((true:Bool),((8:Int),()))))
                      (let r3:=r125_0 ((x0,((↑(List.length x0):Int),((0:Int),()))),());
                      Tr.test (Option.isSome (f62 ((!leF (0:Int) r3.1.1:Bool),((11:Int),()))))
                        (let r0:=r102_0_1 ((x0,((↑(List.length x0):Int),((0:Int),()))),(((↑(List.length (List.getD x0 (0:Nat) [])):Int),()),()));
                        let r4:=g62 ((true:Bool),((8:Int),()));
                        let r6:=g62 ((!leF (0:Int) r3.1.1:Bool),((11:Int),()));
                        Tr.test (Option.isSome (f48 (([r0.1.2.1,r4.1,(0:Int),r6.1]:List Int),())))
                          (let r12:=g48 (([r0.1.2.1,r4.1,(0:Int),r6.1]:List Int),());
                          Tr.fin ((r12.1,())))
                          (Tr.stop))
                        (Tr.stop))
                      (Tr.stop))
                    (let r0:=r102_0_1 ((x0,((↑(List.length x0):Int),((0:Int),()))),(((↑(List.length (List.getD x0 (0:Nat) [])):Int),()),()));
                    Tr.test (Option.isSome (f62 ((!leF r0.2.1.1 10:Bool),((8:Int),()))))
                      (let r3:=r125_0 ((x0,((↑(List.length x0):Int),((0:Int),()))),());
                      Tr.test (Option.isSome (f62 ((!leF (0:Int) r3.1.1:Bool),((11:Int),()))))
                        (let r5:=g62 ((!leF r0.2.1.1 10:Bool),((8:Int),()));
                        let r6:=g62 ((!leF (0:Int) r3.1.1:Bool),((11:Int),()));
                        Tr.test (Option.isSome (f48 (([r0.1.2.1,r5.1,(0:Int),r6.1]:List Int),())))
                          (let r13:=g48 (([r0.1.2.1,r5.1,(0:Int),r6.1]:List Int),());
                          Tr.fin ((r13.1,())))
                          (Tr.stop))
                        (Tr.stop))
                      (Tr.stop)))
                  (Tr.test ((!leF (↑(List.length x0):Int) (10:Int):Bool))
                    (Tr.test (Option.isSome (f62 ((true:Bool),((8:Int),()))))
                      (Tr.test (Option.isSome (f62 ((true:Bool),((11:Int),()))))
                        (let r0:=r102_0_1 ((x0,((↑(List.length x0):Int),((0:Int),()))),(((↑(List.length (List.getD x0 (0:Nat) [])):Int),()),()));
                        let r4:=g62 ((true:Bool),((8:Int),()));
                        let r9:=g62 ((true:Bool),((11:Int),()));
                        Tr.test (Option.isSome (f48 (([r0.1.2.1,r4.1,(0:Int),r9.1]:List Int),())))
                          (let r14:=g48 (([r0.1.2.1,r4.1,(0:Int),r9.1]:List Int),());
                          Tr.fin ((r14.1,())))
                          (Tr.stop))
                        (Tr.stop))
                      (Tr.stop))
                    (let r0:=r102_0_1 ((x0,((↑(List.length x0):Int),((0:Int),()))),(((↑(List.length (List.getD x0 (0:Nat) [])):Int),()),()));
                    Tr.test (Option.isSome (f62 ((!leF r0.2.1.1 10:Bool),((8:Int),()))))
                      (Tr.test (Option.isSome (f62 ((true:Bool),((11:Int),()))))
                        (let r5:=g62 ((!leF r0.2.1.1 10:Bool),((8:Int),()));
                        let r9:=g62 ((true:Bool),((11:Int),()));
                        Tr.test (Option.isSome (f48 (([r0.1.2.1,r5.1,(0:Int),r9.1]:List Int),())))
                          (let r15:=g48 (([r0.1.2.1,r5.1,(0:Int),r9.1]:List Int),());
                          Tr.fin ((r15.1,())))
                          (Tr.stop))
                        (Tr.stop))
                      (Tr.stop))))
                (Tr.stop)))
            (Tr.stop))
          (Tr.test (Option.isSome (l102_0_2 ((x0,((↑(List.length x0):Int),((0:Int),()))),())))
            (Tr.test (isRet (l102_0_2 ((x0,((↑(List.length x0):Int),((0:Int),()))),())))
              (Tr.test (Option.isSome (l125_0 ((x0,((↑(List.length x0):Int),((0:Int),()))),())))
                (Tr.test (isRet (l125_0 ((x0,((↑(List.length x0):Int),((0:Int),()))),())))
                  (Tr.test ((!leF (↑(List.length x0):Int) (10:Int):Bool))
                    (Tr.test (Option.isSome (f62 ((true:Bool),((8:Int),()))))
                      (let r3:=r125_0 ((x0,((↑(List.length x0):Int),((0:Int),()))),());
                      Tr.test (Option.isSome (f62 ((!leF (0:Int) r3.1.1:Bool),((11:Int),()))))
                        (let r2:=r102_0_2 ((x0,((↑(List.length x0):Int),((0:Int),()))),());
                        let r4:=g62 ((true:Bool),((8:Int),()));
                        let r6:=g62 ((!leF (0:Int) r3.1.1:Bool),((11:Int),()));
                        Tr.test (Option.isSome (f48 (([(0:Int),r4.1,r2.1.2.1,r6.1]:List Int),())))
                          (let r17:=g48 (([(0:Int),r4.1,r2.1.2.1,r6.1]:List Int),());
                          Tr.fin ((r17.1,())))
                          (Tr.stop))
                        (Tr.stop))
                      (Tr.stop))
                    (let r1:=b102_0_1 ((x0,((↑(List.length x0):Int),((0:Int),()))),(((↑(List.length (List.getD x0 (0:Nat) [])):Int),()),()));
                    Tr.test (Option.isSome (f62 ((!leF r1.2.1.1 10:Bool),((8:Int),()))))
                      (let r3:=r125_0 ((x0,((↑(List.length x0):Int),((0:Int),()))),());
                      Tr.test (Option.isSome (f62 ((!leF (0:Int) r3.1.1:Bool),((11:Int),()))))
                        (let r2:=r102_0_2 ((x0,((↑(List.length x0):Int),((0:Int),()))),());
                        let r6:=g62 ((!leF (0:Int) r3.1.1:Bool),((11:Int),()));
                        let r16:=g62 ((!leF r1.2.1.1 10:Bool),((8:Int),()));
                        Tr.test (Option.isSome (f48 (([(0:Int),r16.1,r2.1.2.1,r6.1]:List Int),())))
                          (let r18:=g48 (([(0:Int),r16.1,r2.1.2.1,r6.1]:List Int),());
                          Tr.fin ((r18.1,())))
                          (Tr.stop))
                        (Tr.stop))
                      (Tr.stop)))
                  (Tr.test ((!leF (↑(List.length x0):Int) (10:Int):Bool))
                    (Tr.test (Option.isSome (f62 ((true:Bool),((8:Int),()))))
                      (Tr.test (Option.isSome (f62 ((true:Bool),((11:Int),()))))
                        (let r2:=r102_0_2 ((x0,((↑(List.length x0):Int),((0:Int),()))),());
                        let r4:=g62 ((true:Bool),((8:Int),()));
                        let r9:=g62 ((true:Bool),((11:Int),()));
                        Tr.test (Option.isSome (f48 (([(0:Int),r4.1,r2.1.2.1,r9.1]:List Int),())))
                          (let r19:=g48 (([(0:Int),r4.1,r2.1.2.1,r9.1]:List Int),());
                          Tr.fin ((r19.1,())))
                          (Tr.stop))
                        (Tr.stop))
                      (Tr.stop))
                    (let r1:=b102_0_1 ((x0,((↑(List.length x0):Int),((0:Int),()))),(((↑(List.length (List.getD x0 (0:Nat) [])):Int),()),()));
                    Tr.test (Option.isSome (f62 ((!leF r1.2.1.1 10:Bool),((8:Int),()))))
                      (Tr.test (Option.isSome (f62 ((true:Bool),((11:Int),()))))
                        (let r2:=r102_0_2 ((x0,((↑(List.length x0):Int),((0:Int),()))),());
                        let r9:=g62 ((true:Bool),((11:Int),()));
                        let r16:=g62 ((!leF r1.2.1.1 10:Bool),((8:Int),()));
                        Tr.test (Option.isSome (f48 (([(0:Int),r16.1,r2.1.2.1,r9.1]:List Int),())))
                          (let r20:=g48 (([(0:Int),r16.1,r2.1.2.1,r9.1]:List Int),());
                          Tr.fin ((r20.1,())))
                          (Tr.stop))
                        (Tr.stop))
                      (Tr.stop))))
                (Tr.stop))
              (Tr.test (Option.isSome (l125_0 ((x0,((↑(List.length x0):Int),((0:Int),()))),())))
                (Tr.test (isRet (l125_0 ((x0,((↑(List.length x0):Int),((0:Int),()))),())))
                  (Tr.test ((!leF (↑(List.length x0):Int) (10:Int):Bool))
                    (Tr.test (Option.isSome (f62 ((true:Bool),((8:Int),()))))
                      (let r3:=r125_0 ((x0,((↑(List.length x0):Int),((0:Int),()))),());
                      Tr.test (Option.isSome (f62 ((!leF (0:Int) r3.1.1:Bool),((11:Int),()))))
                        (let r4:=g62 ((true:Bool),((8:Int),()));
                        let r6:=g62 ((!leF (0:Int) r3.1.1:Bool),((11:Int),()));
                        Tr.test (Option.isSome (f48 (([(0:Int),r4.1,(0:Int),r6.1]:List Int),())))
                          (let r21:=g48 (([(0:Int),r4.1,(0:Int),r6.1]:List Int),());
                          Tr.fin ((r21.1,())))
                          (Tr.stop))
                        (Tr.stop))
                      (Tr.stop))
                    (let r1:=b102_0_1 ((x0,((↑(List.length x0):Int),((0:Int),()))),(((↑(List.length (List.getD x0 (0:Nat) [])):Int),()),()));
                    Tr.test (Option.isSome (f62 ((!leF r1.2.1.1 10:Bool),((8:Int),()))))
                      (let r3:=r125_0 ((x0,((↑(List.length x0):Int),((0:Int),()))),());
                      Tr.test (Option.isSome (f62 ((!leF (0:Int) r3.1.1:Bool),((11:Int),()))))
                        (let r6:=g62 ((!leF (0:Int) r3.1.1:Bool),((11:Int),()));
                        let r16:=g62 ((!leF r1.2.1.1 10:Bool),((8:Int),()));
                        Tr.test (Option.isSome (f48 (([(0:Int),r16.1,(0:Int),r6.1]:List Int),())))
                          (let r22:=g48 (([(0:Int),r16.1,(0:Int),r6.1]:List Int),());
                          Tr.fin ((r22.1,())))
                          (Tr.stop))
                        (Tr.stop))
                      (Tr.stop)))
                  (Tr.test ((!leF (↑(List.length x0):Int) (10:Int):Bool))
                    (Tr.test (Option.isSome (f62 ((true:Bool),((8:Int),()))))
                      (Tr.test (Option.isSome (f62 ((true:Bool),((11:Int),()))))
                        (let r4:=g62 ((true:Bool),((8:Int),()));
                        let r9:=g62 ((true:Bool),((11:Int),()));
                        Tr.test (Option.isSome (f48 (([(0:Int),r4.1,(0:Int),r9.1]:List Int),())))
                          (let r23:=g48 (([(0:Int),r4.1,(0:Int),r9.1]:List Int),());
                          Tr.fin ((r23.1,())))
                          (Tr.stop))
                        (Tr.stop))
                      (Tr.stop))
                    (let r1:=b102_0_1 ((x0,((↑(List.length x0):Int),((0:Int),()))),(((↑(List.length (List.getD x0 (0:Nat) [])):Int),()),()));
                    Tr.test (Option.isSome (f62 ((!leF r1.2.1.1 10:Bool),((8:Int),()))))
                      (Tr.test (Option.isSome (f62 ((true:Bool),((11:Int),()))))
                        (let r9:=g62 ((true:Bool),((11:Int),()));
                        let r16:=g62 ((!leF r1.2.1.1 10:Bool),((8:Int),()));
                        Tr.test (Option.isSome (f48 (([(0:Int),r16.1,(0:Int),r9.1]:List Int),())))
                          (let r24:=g48 (([(0:Int),r16.1,(0:Int),r9.1]:List Int),());
                          Tr.fin ((r24.1,())))
                          (Tr.stop))
                        (Tr.stop))
                      (Tr.stop))))
                (Tr.stop)))
            (Tr.stop)))
        (Tr.stop))
      (Tr.stop))

def f76 (d:Tys.data as76):Option (Tys.data rs76):=(t76 d.1).val
def g76 (d:Tys.data as76):Tys.data rs76:=(f76 d).getD (Tys.dflt rs76)
def p76:PureC:=pcOf as76 rs76 f76 g76

theorem wk76 (x0:(List (List Int))):Walks (runPure (kl125_0 Go.Proofs.Tryz.prog).orc Go.Proofs.Tryz.prog 400 76 as76 rs76 (x0,())) (t76 x0) [([tt],[2]),([false,true,true,true,true,true,true,true,true,true,true,true],[2,1,4,6,8,8,8,10,12,14,16,18,20,22,24]),([false,true,true,true,true,true,true,true,false,true,true,true],[2,1,4,6,8,8,8,10,12,14,16,18,20,22,24]),([false,true,true,true,true,true,true,false,true,true,true,true],[2,1,4,6,8,8,8,10,12,14,16,18,20,22,24]),([false,true,true,true,true,true,true,false,false,true,true,true],[2,1,4,6,8,8,8,10,12,14,16,18,20,22,24]),([false,true,true,true,true,false,true,true,true,true,true,true],[2,1,4,6,8,8,8,10,12,14,16,18,20,22,24]),([false,true,true,true,true,false,true,true,false,true,true,true],[2,1,4,6,8,8,8,10,12,14,16,18,20,22,24]),([false,true,true,true,true,false,true,false,true,true,true,true],[2,1,4,6,8,8,8,10,12,14,16,18,20,22,24]),([false,true,true,true,true,false,true,false,false,true,true,true],[2,1,4,6,8,8,8,10,12,14,16,18,20,22,24]),([false,true,true,false,true,true,true,true,true,true,true,true],[2,1,4,6,8,8,8,10,12,14,16,18,20,22,24]),([false,true,true,false,true,true,true,true,false,true,true,true],[2,1,4,6,8,8,8,10,12,14,16,18,20,22,24]),([false,true,true,false,true,true,true,false,true,true,true,true],[2,1,4,6,8,8,8,10,12,14,16,18,20,22,24]),([false,true,true,false,true,true,true,false,false,true,true,true],[2,1,4,6,8,8,8,10,12,14,16,18,20,22,24]),([false,true,true,false,true,false,true,true,true,true,true,true],[2,1,4,6,8,8,8,10,12,14,16,18,20,22,24]),([false,true,true,false,true,false,true,true,false,true,true,true],[2,1,4,6,8,8,8,10,12,14,16,18,20,22,24]),([false,true,true,false,true,false,true,false,true,true,true,true],[2,1,4,6,8,8,8,10,12,14,16,18,20,22,24]),([false,true,true,false,true,false,true,false,false,true,true,true],[2,1,4,6,8,8,8,10,12,14,16,18,20,22,24])] :=
  ⟨by kernel_rfl,by kernel_rfl,by kernel_rfl,by kernel_rfl,by kernel_rfl,by kernel_rfl,by kernel_rfl,by kernel_rfl,by kernel_rfl,by kernel_rfl,by kernel_rfl,by kernel_rfl,by kernel_rfl,by kernel_rfl,by kernel_rfl,by kernel_rfl,by kernel_rfl,trivial⟩

theorem ok76_t (x0:(List (List Int))):TrOk (PureRuns Go.Proofs.Tryz.prog (kl125_0 Go.Proofs.Tryz.prog).orc 76 as76 rs76 (x0,())) (t76 x0) :=
  Walks.ok (fun _ _ _=>PureRuns.of) (wk76 x0) (by kernel_rfl)

theorem ok76:PureOk Go.Proofs.Tryz.prog 76 p76:=pureOk_of kl125_0_ok.base (T:=fun (d:Tys.data as76)=>t76 d.1) (by kernel_rfl) (fun (d:Tys.data as76)=>ok76_t d.1)
def kf76 (P:Go.Program):Known:=(kl125_0 P).func 76 p76
theorem kf76_ok:KnownOk Go.Proofs.Tryz.prog (kf76 Go.Proofs.Tryz.prog):=kl125_0_ok.func ok76

/-! ductility/sensor.fraction -/

abbrev as65:List Ty:=[(.int .i64),(.int .i64)]
abbrev rs65:List Ty:=[(.pair (.int .i64) (.pair (.int .i64) .unit))]

def t65 (x0:Int) (x1:Int):Tr (Tys.data rs65) :=
  Tr.test (Option.isSome (f56 (x1,(([x0]:List Int),()))))
    (let r0:=g56 (x1,(([x0]:List Int),()));
    Tr.test ((r0.1 == (0:Int):Bool))
      (Tr.stop)
      (Tr.fin ((((Go.IntKind.wrap Go.IntKind.i64 (Int.tdiv x0 r0.1):Int),((Go.IntKind.wrap Go.IntKind.i64 (Int.tdiv x1 r0.1):Int),())),()))))
    (Tr.stop)

def f65 (d:Tys.data as65):Option (Tys.data rs65):=(t65 d.1 d.2.1).val
def g65 (d:Tys.data as65):Tys.data rs65:=(f65 d).getD (Tys.dflt rs65)
def p65:PureC:=pcOf as65 rs65 f65 g65

theorem wk65 (x0:Int) (x1:Int):Walks (runPure (kf76 Go.Proofs.Tryz.prog).orc Go.Proofs.Tryz.prog 400 65 as65 rs65 (x0,x1,())) (t65 x0 x1) [([true,false],[2,2,4,1])] :=
  ⟨by kernel_rfl,trivial⟩

theorem ok65_t (x0:Int) (x1:Int):TrOk (PureRuns Go.Proofs.Tryz.prog (kf76 Go.Proofs.Tryz.prog).orc 65 as65 rs65 (x0,x1,())) (t65 x0 x1) :=
  Walks.ok (fun _ _ _=>PureRuns.of) (wk65 x0 x1) (by kernel_rfl)

theorem ok65:PureOk Go.Proofs.Tryz.prog 65 p65:=pureOk_of kf76_ok.base (T:=fun (d:Tys.data as65)=>t65 d.1 d.2.1) (by kernel_rfl) (fun (d:Tys.data as65)=>ok65_t d.1 d.2.1)
def kf65 (P:Go.Program):Known:=(kf76 P).func 65 p65
theorem kf65_ok:KnownOk Go.Proofs.Tryz.prog (kf65 Go.Proofs.Tryz.prog):=kf76_ok.func ok65

/-! loop 2 of ductility/sensor.centerOf -/

abbrev sh77_2:Sh:={ n:=46,slots:=[2,3,4,5,6,10,11,12,17,18,19],pats:=[.ptr 0 4 0,.ty (.int .i64),.ty (.int .i64),.ty (.int .i64),.ty (.int .i64),.ty (.slice (.slice (.int .i64))),.ty (.int .i64),.ty (.int .i64),.ty (.slice (.int .i64)),.ty (.int .i64),.ty (.int .i64)],boxes:=[.row [.ty (.int .i64),.ty (.int .i64),.ty (.int .i64),.ty (.int .i64)]] }
abbrev shb77_2:Sh:={ n:=46,slots:=[2,3,4,5,10,11,12],pats:=[.ptr 0 4 0,.ty (.int .i64),.ty (.int .i64),.ty (.int .i64),.ty (.slice (.slice (.int .i64))),.ty (.int .i64),.ty (.int .i64)],boxes:=[.row [.ty (.int .i64),.ty (.int .i64),.ty (.int .i64),.ty (.int .i64)]] }
abbrev shr77_2:Sh:={ n:=46,slots:=[],pats:=[],boxes:=[.row [.ty (.int .i64),.ty (.int .i64),.ty (.int .i64),.ty (.int .i64)]] }

def t77_2 (x1:Int) (x2:Int) (x3:Int) (x4:Int) (x5:(List (List Int))) (x6:Int) (x7:Int) (x8:(List Int)) (x9:Int) (x10:Int) (b0_0:Int) (b0_1:Int) (b0_2:Int) (b0_3:Int):Tr (Out sh77_2.data shb77_2.data shr77_2.data) :=
  Tr.test ((!leF x9 x10:Bool))
    (Tr.test (decide ((0:Int) ≤ x10) && decide (x10 < (↑(List.length x8):Int)))
      (Tr.fin (.again (((wrap64 (x1 + wrap64 (x10 * List.getD x8 (Int.toNat x10) (0:Int))):Int),((wrap64 (x2 + wrap64 (x4 * List.getD x8 (Int.toNat x10) (0:Int))):Int),((wrap64 (x3 + List.getD x8 (Int.toNat x10) (0:Int)):Int),(x4,(x5,(x6,(x7,(x8,(x9,((wrap64 (x10 + (1:Int)):Int),())))))))))),((b0_0,(b0_1,(b0_2,(b0_3,())))),()))))
      (Tr.stop))
    (Tr.fin (.brk ((x1,(x2,(x3,(x5,(x6,(x7,())))))),((b0_0,(b0_1,(b0_2,(b0_3,())))),()))))

def s77_2 (d:sh77_2.data):Option (Out sh77_2.data shb77_2.data shr77_2.data):=(t77_2 d.1.1 d.1.2.1 d.1.2.2.1 d.1.2.2.2.1 d.1.2.2.2.2.1 d.1.2.2.2.2.2.1 d.1.2.2.2.2.2.2.1 d.1.2.2.2.2.2.2.2.1 d.1.2.2.2.2.2.2.2.2.1 d.1.2.2.2.2.2.2.2.2.2.1 d.2.1.1 d.2.1.2.1 d.2.1.2.2.1 d.2.1.2.2.2.1).val
def l77_2 (d:sh77_2.data):Option (shb77_2.data ⊕ shr77_2.data):=itr s77_2 rounds d
def b77_2 (d:sh77_2.data):shb77_2.data:=outB shb77_2.dflt (l77_2 d)
def lc77_2:LoopC:=lcB sh77_2 shb77_2 shr77_2 l77_2 b77_2

theorem wk77_2 (x1:Int) (x2:Int) (x3:Int) (x4:Int) (x5:(List (List Int))) (x6:Int) (x7:Int) (x8:(List Int)) (x9:Int) (x10:Int) (b0_0:Int) (b0_1:Int) (b0_2:Int) (b0_3:Int):Walks (runBody (kf65 Go.Proofs.Tryz.prog).orc Go.Proofs.Tryz.prog 400 77 2 sh77_2 shb77_2 shr77_2 ((x1,x2,x3,x4,x5,x6,x7,x8,x9,x10,()),(b0_0,b0_1,b0_2,b0_3,()),())) (t77_2 x1 x2 x3 x4 x5 x6 x7 x8 x9 x10 b0_0 b0_1 b0_2 b0_3) [([true,true],[2,4]),([ff],[2])] :=
  ⟨by kernel_rfl,by kernel_rfl,trivial⟩

theorem ok77_2_t (x1:Int) (x2:Int) (x3:Int) (x4:Int) (x5:(List (List Int))) (x6:Int) (x7:Int) (x8:(List Int)) (x9:Int) (x10:Int) (b0_0:Int) (b0_1:Int) (b0_2:Int) (b0_3:Int):TrOk (BodyRuns Go.Proofs.Tryz.prog (kf65 Go.Proofs.Tryz.prog).orc 77 2 sh77_2 shb77_2 shr77_2 ((x1,x2,x3,x4,x5,x6,x7,x8,x9,x10,()),(b0_0,b0_1,b0_2,b0_3,()),())) (t77_2 x1 x2 x3 x4 x5 x6 x7 x8 x9 x10 b0_0 b0_1 b0_2 b0_3) :=
  Walks.ok (fun _ _ _=>BodyRuns.of) (wk77_2 x1 x2 x3 x4 x5 x6 x7 x8 x9 x10 b0_0 b0_1 b0_2 b0_3) (by kernel_rfl)

theorem ok77_2:LoopOk Go.Proofs.Tryz.prog 77 2 lc77_2:=loopOk_ofB (sh:=sh77_2) (shB:=shb77_2) (shR:=shr77_2) kf65_ok.base (T:=fun (d:sh77_2.data)=>t77_2 d.1.1 d.1.2.1 d.1.2.2.1 d.1.2.2.2.1 d.1.2.2.2.2.1 d.1.2.2.2.2.2.1 d.1.2.2.2.2.2.2.1 d.1.2.2.2.2.2.2.2.1 d.1.2.2.2.2.2.2.2.2.1 d.1.2.2.2.2.2.2.2.2.2.1 d.2.1.1 d.2.1.2.1 d.2.1.2.2.1 d.2.1.2.2.2.1) (by kernel_rfl) rfl (fun (d:sh77_2.data)=>ok77_2_t d.1.1 d.1.2.1 d.1.2.2.1 d.1.2.2.2.1 d.1.2.2.2.2.1 d.1.2.2.2.2.2.1 d.1.2.2.2.2.2.2.1 d.1.2.2.2.2.2.2.2.1 d.1.2.2.2.2.2.2.2.2.1 d.1.2.2.2.2.2.2.2.2.2.1 d.2.1.1 d.2.1.2.1 d.2.1.2.2.1 d.2.1.2.2.2.1) (fun _=>rfl)
def kl77_2 (P:Go.Program):Known:=(kf65 P).loop 77 2 lc77_2
theorem kl77_2_ok:KnownOk Go.Proofs.Tryz.prog (kl77_2 Go.Proofs.Tryz.prog):=kf65_ok.loop ok77_2

/-! loop 0 of ductility/sensor.centerOf -/

abbrev sh77_0:Sh:={ n:=46,slots:=[2,3,4,5,10,11,12],pats:=[.ptr 0 4 0,.ty (.int .i64),.ty (.int .i64),.ty (.int .i64),.ty (.slice (.slice (.int .i64))),.ty (.int .i64),.ty (.int .i64)],boxes:=[.row [.ty (.int .i64),.ty (.int .i64),.ty (.int .i64),.ty (.int .i64)]] }
abbrev shb77_0:Sh:={ n:=46,slots:=[2,3,4,5],pats:=[.ptr 0 4 0,.ty (.int .i64),.ty (.int .i64),.ty (.int .i64)],boxes:=[.row [.ty (.int .i64),.ty (.int .i64),.ty (.int .i64),.ty (.int .i64)]] }
abbrev shr77_0:Sh:={ n:=46,slots:=[],pats:=[],boxes:=[.row [.ty (.int .i64),.ty (.int .i64),.ty (.int .i64),.ty (.int .i64)]] }

def t77_0 (x1:Int) (x2:Int) (x3:Int) (x4:(List (List Int))) (x5:Int) (x6:Int) (b0_0:Int) (b0_1:Int) (b0_2:Int) (b0_3:Int):Tr (Out sh77_0.data shb77_0.data shr77_0.data) :=
  Tr.test ((!leF x5 x6:Bool))
    (Tr.test (decide ((0:Int) ≤ x6) && decide (x6 < (↑(List.length x4):Int)))
      (Tr.test (isBrk (l77_2 ((x1,(x2,(x3,(x6,(x4,(x5,(x6,((List.getD x4 (Int.toNat x6) []:List Int),((↑(List.length (List.getD x4 (Int.toNat x6) [])):Int),((0:Int),())))))))))),((b0_0,(b0_1,(b0_2,(b0_3,())))),()))))
        (let r0:=b77_2 ((x1,(x2,(x3,(x6,(x4,(x5,(x6,((List.getD x4 (Int.toNat x6) []:List Int),((↑(List.length (List.getD x4 (Int.toNat x6) [])):Int),((0:Int),())))))))))),((b0_0,(b0_1,(b0_2,(b0_3,())))),()));
        Tr.fin (.again ((r0.1.1,(r0.1.2.1,(r0.1.2.2.1,(r0.1.2.2.2.1,(r0.1.2.2.2.2.1,((wrap64 (r0.1.2.2.2.2.2.1 + (1:Int)):Int),())))))),((r0.2.1.1,(r0.2.1.2.1,(r0.2.1.2.2.1,(r0.2.1.2.2.2.1,())))),()))))
        (Tr.stop))
      (Tr.stop))
    (Tr.fin (.brk ((x1,(x2,(x3,()))),((b0_0,(b0_1,(b0_2,(b0_3,())))),()))))

def s77_0 (d:sh77_0.data):Option (Out sh77_0.data shb77_0.data shr77_0.data):=(t77_0 d.1.1 d.1.2.1 d.1.2.2.1 d.1.2.2.2.1 d.1.2.2.2.2.1 d.1.2.2.2.2.2.1 d.2.1.1 d.2.1.2.1 d.2.1.2.2.1 d.2.1.2.2.2.1).val
def l77_0 (d:sh77_0.data):Option (shb77_0.data ⊕ shr77_0.data):=itr s77_0 rounds d
def b77_0 (d:sh77_0.data):shb77_0.data:=outB shb77_0.dflt (l77_0 d)
def lc77_0:LoopC:=lcB sh77_0 shb77_0 shr77_0 l77_0 b77_0

theorem wk77_0 (x1:Int) (x2:Int) (x3:Int) (x4:(List (List Int))) (x5:Int) (x6:Int) (b0_0:Int) (b0_1:Int) (b0_2:Int) (b0_3:Int):Walks (runBody (kl77_2 Go.Proofs.Tryz.prog).orc Go.Proofs.Tryz.prog 400 77 0 sh77_0 shb77_0 shr77_0 ((x1,x2,x3,x4,x5,x6,()),(b0_0,b0_1,b0_2,b0_3,()),())) (t77_0 x1 x2 x3 x4 x5 x6 b0_0 b0_1 b0_2 b0_3) [([true,true,true],[1,2,4,6]),([ff],[2])] :=
  ⟨by kernel_rfl,by kernel_rfl,trivial⟩

theorem ok77_0_t (x1:Int) (x2:Int) (x3:Int) (x4:(List (List Int))) (x5:Int) (x6:Int) (b0_0:Int) (b0_1:Int) (b0_2:Int) (b0_3:Int):TrOk (BodyRuns Go.Proofs.Tryz.prog (kl77_2 Go.Proofs.Tryz.prog).orc 77 0 sh77_0 shb77_0 shr77_0 ((x1,x2,x3,x4,x5,x6,()),(b0_0,b0_1,b0_2,b0_3,()),())) (t77_0 x1 x2 x3 x4 x5 x6 b0_0 b0_1 b0_2 b0_3) :=
  Walks.ok (fun _ _ _=>BodyRuns.of) (wk77_0 x1 x2 x3 x4 x5 x6 b0_0 b0_1 b0_2 b0_3) (by kernel_rfl)

theorem ok77_0:LoopOk Go.Proofs.Tryz.prog 77 0 lc77_0:=loopOk_ofB (sh:=sh77_0) (shB:=shb77_0) (shR:=shr77_0) kl77_2_ok.base (T:=fun (d:sh77_0.data)=>t77_0 d.1.1 d.1.2.1 d.1.2.2.1 d.1.2.2.2.1 d.1.2.2.2.2.1 d.1.2.2.2.2.2.1 d.2.1.1 d.2.1.2.1 d.2.1.2.2.1 d.2.1.2.2.2.1) (by kernel_rfl) rfl (fun (d:sh77_0.data)=>ok77_0_t d.1.1 d.1.2.1 d.1.2.2.1 d.1.2.2.2.1 d.1.2.2.2.2.1 d.1.2.2.2.2.2.1 d.2.1.1 d.2.1.2.1 d.2.1.2.2.1 d.2.1.2.2.2.1) (fun _=>rfl)
def kl77_0 (P:Go.Program):Known:=(kl77_2 P).loop 77 0 lc77_0
theorem kl77_0_ok:KnownOk Go.Proofs.Tryz.prog (kl77_0 Go.Proofs.Tryz.prog):=kl77_2_ok.loop ok77_0

/-! ductility/sensor.centerOf -/

abbrev as77:List Ty:=[(.slice (.slice (.int .i64)))]
abbrev rs77:List Ty:=[(.pair (.pair (.int .i64) (.pair (.int .i64) .unit)) (.pair (.pair (.int .i64) (.pair (.int .i64) .unit)) .unit))]

def t77 (x0:(List (List Int))):Tr (Tys.data rs77) :=
  Tr.test (isBrk (l77_0 (((0:Int),((0:Int),((0:Int),(x0,((↑(List.length x0):Int),((0:Int),())))))),(((0:Int),((0:Int),((0:Int),((0:Int),())))),()))))
    (let r0:=b77_0 (((0:Int),((0:Int),((0:Int),(x0,((↑(List.length x0):Int),((0:Int),())))))),(((0:Int),((0:Int),((0:Int),((0:Int),())))),()));
    Tr.test (Option.isSome (f65 (r0.1.1,(r0.1.2.2.1,()))))
      (Tr.test (Option.isSome (f65 (r0.1.2.1,(r0.1.2.2.1,()))))
        (let r1:=g65 (r0.1.1,(r0.1.2.2.1,()));
        let r2:=g65 (r0.1.2.1,(r0.1.2.2.1,()));
        Tr.fin ((((r1.1.1,(r1.1.2.1,())),((r2.1.1,(r2.1.2.1,())),())),())))
        (Tr.stop))
      (Tr.stop))
    (Tr.stop)

def f77 (d:Tys.data as77):Option (Tys.data rs77):=(t77 d.1).val
def g77 (d:Tys.data as77):Tys.data rs77:=(f77 d).getD (Tys.dflt rs77)
def p77:PureC:=pcOf as77 rs77 f77 g77

theorem wk77 (x0:(List (List Int))):Walks (runPure (kl77_0 Go.Proofs.Tryz.prog).orc Go.Proofs.Tryz.prog 400 77 as77 rs77 (x0,())) (t77 x0) [([true,true,true],[2,4,1,6])] :=
  ⟨by kernel_rfl,trivial⟩

theorem ok77_t (x0:(List (List Int))):TrOk (PureRuns Go.Proofs.Tryz.prog (kl77_0 Go.Proofs.Tryz.prog).orc 77 as77 rs77 (x0,())) (t77 x0) :=
  Walks.ok (fun _ _ _=>PureRuns.of) (wk77 x0) (by kernel_rfl)

theorem ok77:PureOk Go.Proofs.Tryz.prog 77 p77:=pureOk_of kl77_0_ok.base (T:=fun (d:Tys.data as77)=>t77 d.1) (by kernel_rfl) (fun (d:Tys.data as77)=>ok77_t d.1)
def kf77 (P:Go.Program):Known:=(kl77_0 P).func 77 p77
theorem kf77_ok:KnownOk Go.Proofs.Tryz.prog (kf77 Go.Proofs.Tryz.prog):=kl77_0_ok.func ok77

/-! ductility/sensor.CenterOf -/

abbrev as28:List Ty:=[(.slice (.slice (.int .i64)))]
abbrev rs28:List Ty:=[(.pair (.pair (.int .i64) (.pair (.int .i64) .unit)) (.pair (.pair (.int .i64) (.pair (.int .i64) .unit)) .unit)),(.int .i64)]

def t28 (x0:(List (List Int))):Tr (Tys.data rs28) :=
  Tr.test (Option.isSome (f76 (x0,())))
    (let r0:=g76 (x0,());
    Tr.test ((!eqF r0.1 0:Bool))
      (Tr.fin (((((0:Int),((0:Int),())),(((0:Int),((0:Int),())),())),(r0.1,()))))
      (Tr.test (Option.isSome (f77 (x0,())))
        (let r1:=g77 (x0,());
        Tr.fin ((((r1.1.1.1,(r1.1.1.2.1,())),((r1.1.2.1.1,(r1.1.2.1.2.1,())),())),((0:Int),()))))
        (Tr.stop)))
    (Tr.stop)

def f28 (d:Tys.data as28):Option (Tys.data rs28):=(t28 d.1).val
def g28 (d:Tys.data as28):Tys.data rs28:=(f28 d).getD (Tys.dflt rs28)
def p28:PureC:=pcOf as28 rs28 f28 g28

theorem wk28 (x0:(List (List Int))):Walks (runPure (kf77 Go.Proofs.Tryz.prog).orc Go.Proofs.Tryz.prog 400 28 as28 rs28 (x0,())) (t28 x0) [([true,true],[2,4]),([true,false,true],[2,4,6])] :=
  ⟨by kernel_rfl,by kernel_rfl,trivial⟩

theorem ok28_t (x0:(List (List Int))):TrOk (PureRuns Go.Proofs.Tryz.prog (kf77 Go.Proofs.Tryz.prog).orc 28 as28 rs28 (x0,())) (t28 x0) :=
  Walks.ok (fun _ _ _=>PureRuns.of) (wk28 x0) (by kernel_rfl)

theorem ok28:PureOk Go.Proofs.Tryz.prog 28 p28:=pureOk_of kf77_ok.base (T:=fun (d:Tys.data as28)=>t28 d.1) (by kernel_rfl) (fun (d:Tys.data as28)=>ok28_t d.1)
def kf28 (P:Go.Program):Known:=(kf77 P).func 28 p28
theorem kf28_ok:KnownOk Go.Proofs.Tryz.prog (kf28 Go.Proofs.Tryz.prog):=kf77_ok.func ok28

/-! loop 0 of ductility/ductilitybase.Ranges -/

abbrev sh45_0:Sh:={ n:=26,slots:=[0,1,5],pats:=[.ty (.slice (.pair (.int .i64) (.pair (.int .i64) .unit))),.ty (.slice (.pair (.int .i64) (.pair (.int .i64) .unit))),.ty (.int .i64)],boxes:=[] }
abbrev shb45_0:Sh:={ n:=26,slots:=[],pats:=[],boxes:=[] }
abbrev shr45_0:Sh:={ n:=26,slots:=[4],pats:=[.ty .bool],boxes:=[] }

def t45_0 (x0:(List (Int×(Int×Unit)))) (x1:(List (Int×(Int×Unit)))) (x2:Int):Tr (Out sh45_0.data shb45_0.data shr45_0.data) :=
  Tr.test ((!leF (↑(List.length x0):Int) x2:Bool))
    (Tr.test (decide ((0:Int) ≤ x2) && decide (x2 < (↑(List.length x0):Int)))
      (Tr.test ((decide ((0:Int) ≤ x2) && decide (x2 < (↑(List.length x1):Int)):Bool))
        (Tr.test ((!((List.getD x0 (Int.toNat x2) ((0:Int),(0:Int),())).1 == (List.getD x1 (Int.toNat x2) ((0:Int),(0:Int),())).1 && ((List.getD x0 (Int.toNat x2) ((0:Int),(0:Int),())).2.1 == (List.getD x1 (Int.toNat x2) ((0:Int),(0:Int),())).2.1 && true)):Bool))
          (Tr.fin (.ret (((false:Bool),()),())))
          (Tr.fin (.again ((x0,(x1,((wrap64 (x2 + (1:Int)):Int),()))),()))))
        (Tr.stop))
      (Tr.stop))
    (Tr.fin (.brk ((),())))

def s45_0 (d:sh45_0.data):Option (Out sh45_0.data shb45_0.data shr45_0.data):=(t45_0 d.1.1 d.1.2.1 d.1.2.2.1).val
def l45_0 (d:sh45_0.data):Option (shb45_0.data ⊕ shr45_0.data):=itr s45_0 rounds d
def b45_0 (d:sh45_0.data):shb45_0.data:=outB shb45_0.dflt (l45_0 d)
def r45_0 (d:sh45_0.data):shr45_0.data:=outR shr45_0.dflt (l45_0 d)
def lc45_0:LoopC:=lcOf sh45_0 shb45_0 shr45_0 l45_0 b45_0 r45_0

theorem wk45_0 (x0:(List (Int×(Int×Unit)))) (x1:(List (Int×(Int×Unit)))) (x2:Int):Walks (runBody (kf28 Go.Proofs.Tryz.prog).orc Go.Proofs.Tryz.prog 400 45 0 sh45_0 shb45_0 shr45_0 ((x0,x1,x2,()),())) (t45_0 x0 x1 x2) [([true,true,true,true],[2,4,6,8]),([true,true,true,false],[2,4,6,8]),([ff],[2])] :=
  ⟨by kernel_rfl,by kernel_rfl,by kernel_rfl,trivial⟩

theorem ok45_0_t (x0:(List (Int×(Int×Unit)))) (x1:(List (Int×(Int×Unit)))) (x2:Int):TrOk (BodyRuns Go.Proofs.Tryz.prog (kf28 Go.Proofs.Tryz.prog).orc 45 0 sh45_0 shb45_0 shr45_0 ((x0,x1,x2,()),())) (t45_0 x0 x1 x2) :=
  Walks.ok (fun _ _ _=>BodyRuns.of) (wk45_0 x0 x1 x2) (by kernel_rfl)

theorem ok45_0:LoopOk Go.Proofs.Tryz.prog 45 0 lc45_0:=loopOk_of (sh:=sh45_0) (shB:=shb45_0) (shR:=shr45_0) kf28_ok.base (T:=fun (d:sh45_0.data)=>t45_0 d.1.1 d.1.2.1 d.1.2.2.1) (by kernel_rfl) rfl (fun (d:sh45_0.data)=>ok45_0_t d.1.1 d.1.2.1 d.1.2.2.1) (fun _=>rfl)
def kl45_0 (P:Go.Program):Known:=(kf28 P).loop 45 0 lc45_0
theorem kl45_0_ok:KnownOk Go.Proofs.Tryz.prog (kl45_0 Go.Proofs.Tryz.prog):=kf28_ok.loop ok45_0

/-! ductility/ductilitybase.Ranges -/

abbrev as45:List Ty:=[(.slice (.pair (.int .i64) (.pair (.int .i64) .unit))),(.slice (.pair (.int .i64) (.pair (.int .i64) .unit)))]
abbrev rs45:List Ty:=[.bool]

def t45 (x0:(List (Int×(Int×Unit)))) (x1:(List (Int×(Int×Unit)))):Tr (Tys.data rs45) :=
  Tr.test ((!eqF (↑(List.length x0):Int) (↑(List.length x1):Int):Bool))
    (Tr.fin ((false,())))
    (Tr.test (Option.isSome (l45_0 ((x0,(x1,((0:Int),()))),())))
      (Tr.test (isRet (l45_0 ((x0,(x1,((0:Int),()))),())))
        (let r0:=r45_0 ((x0,(x1,((0:Int),()))),());
        Tr.fin ((r0.1.1,())))
        (Tr.fin (((true:Bool),()))))
      (Tr.stop))

def f45 (d:Tys.data as45):Option (Tys.data rs45):=(t45 d.1 d.2.1).val
def g45 (d:Tys.data as45):Tys.data rs45:=(f45 d).getD (Tys.dflt rs45)
def p45:PureC:=pcOf as45 rs45 f45 g45

theorem wk45 (x0:(List (Int×(Int×Unit)))) (x1:(List (Int×(Int×Unit)))):Walks (runPure (kl45_0 Go.Proofs.Tryz.prog).orc Go.Proofs.Tryz.prog 400 45 as45 rs45 (x0,x1,())) (t45 x0 x1) [([tt],[2]),([false,true,true],[2,4,6]),([false,true,false],[2,4,6])] :=
  ⟨by kernel_rfl,by kernel_rfl,by kernel_rfl,trivial⟩

theorem ok45_t (x0:(List (Int×(Int×Unit)))) (x1:(List (Int×(Int×Unit)))):TrOk (PureRuns Go.Proofs.Tryz.prog (kl45_0 Go.Proofs.Tryz.prog).orc 45 as45 rs45 (x0,x1,())) (t45 x0 x1) :=
  Walks.ok (fun _ _ _=>PureRuns.of) (wk45 x0 x1) (by kernel_rfl)

theorem ok45:PureOk Go.Proofs.Tryz.prog 45 p45:=pureOk_of kl45_0_ok.base (T:=fun (d:Tys.data as45)=>t45 d.1 d.2.1) (by kernel_rfl) (fun (d:Tys.data as45)=>ok45_t d.1 d.2.1)
def kf45 (P:Go.Program):Known:=(kl45_0 P).func 45 p45
theorem kf45_ok:KnownOk Go.Proofs.Tryz.prog (kf45 Go.Proofs.Tryz.prog):=kl45_0_ok.func ok45

/-! loop 0 of ductility/ductilitybase.Ints -/

abbrev sh90_0:Sh:={ n:=26,slots:=[0,1,5],pats:=[.ty (.slice (.int .i64)),.ty (.slice (.int .i64)),.ty (.int .i64)],boxes:=[] }
abbrev shb90_0:Sh:={ n:=26,slots:=[],pats:=[],boxes:=[] }
abbrev shr90_0:Sh:={ n:=26,slots:=[4],pats:=[.ty .bool],boxes:=[] }

def t90_0 (x0:(List Int)) (x1:(List Int)) (x2:Int):Tr (Out sh90_0.data shb90_0.data shr90_0.data) :=
  Tr.test ((!leF (↑(List.length x0):Int) x2:Bool))
    (Tr.test (decide ((0:Int) ≤ x2) && decide (x2 < (↑(List.length x0):Int)))
      (Tr.test ((decide ((0:Int) ≤ x2) && decide (x2 < (↑(List.length x1):Int)):Bool))
        (Tr.test ((!eqF (List.getD x0 (Int.toNat x2) (0:Int)) (List.getD x1 (Int.toNat x2) (0:Int)):Bool))
          (Tr.fin (.ret (((false:Bool),()),())))
          (Tr.fin (.again ((x0,(x1,((wrap64 (x2 + (1:Int)):Int),()))),()))))
        (Tr.stop))
      (Tr.stop))
    (Tr.fin (.brk ((),())))

def s90_0 (d:sh90_0.data):Option (Out sh90_0.data shb90_0.data shr90_0.data):=(t90_0 d.1.1 d.1.2.1 d.1.2.2.1).val
def l90_0 (d:sh90_0.data):Option (shb90_0.data ⊕ shr90_0.data):=itr s90_0 rounds d
def b90_0 (d:sh90_0.data):shb90_0.data:=outB shb90_0.dflt (l90_0 d)
def r90_0 (d:sh90_0.data):shr90_0.data:=outR shr90_0.dflt (l90_0 d)
def lc90_0:LoopC:=lcOf sh90_0 shb90_0 shr90_0 l90_0 b90_0 r90_0

theorem wk90_0 (x0:(List Int)) (x1:(List Int)) (x2:Int):Walks (runBody (kf45 Go.Proofs.Tryz.prog).orc Go.Proofs.Tryz.prog 400 90 0 sh90_0 shb90_0 shr90_0 ((x0,x1,x2,()),())) (t90_0 x0 x1 x2) [([true,true,true,true],[2,4,6,8]),([true,true,true,false],[2,4,6,8]),([ff],[2])] :=
  ⟨by kernel_rfl,by kernel_rfl,by kernel_rfl,trivial⟩

theorem ok90_0_t (x0:(List Int)) (x1:(List Int)) (x2:Int):TrOk (BodyRuns Go.Proofs.Tryz.prog (kf45 Go.Proofs.Tryz.prog).orc 90 0 sh90_0 shb90_0 shr90_0 ((x0,x1,x2,()),())) (t90_0 x0 x1 x2) :=
  Walks.ok (fun _ _ _=>BodyRuns.of) (wk90_0 x0 x1 x2) (by kernel_rfl)

theorem ok90_0:LoopOk Go.Proofs.Tryz.prog 90 0 lc90_0:=loopOk_of (sh:=sh90_0) (shB:=shb90_0) (shR:=shr90_0) kf45_ok.base (T:=fun (d:sh90_0.data)=>t90_0 d.1.1 d.1.2.1 d.1.2.2.1) (by kernel_rfl) rfl (fun (d:sh90_0.data)=>ok90_0_t d.1.1 d.1.2.1 d.1.2.2.1) (fun _=>rfl)
def kl90_0 (P:Go.Program):Known:=(kf45 P).loop 90 0 lc90_0
theorem kl90_0_ok:KnownOk Go.Proofs.Tryz.prog (kl90_0 Go.Proofs.Tryz.prog):=kf45_ok.loop ok90_0

/-! ductility/ductilitybase.Ints -/

abbrev as90:List Ty:=[(.slice (.int .i64)),(.slice (.int .i64))]
abbrev rs90:List Ty:=[.bool]

def t90 (x0:(List Int)) (x1:(List Int)):Tr (Tys.data rs90) :=
  Tr.test ((!eqF (↑(List.length x0):Int) (↑(List.length x1):Int):Bool))
    (Tr.fin ((false,())))
    (Tr.test (Option.isSome (l90_0 ((x0,(x1,((0:Int),()))),())))
      (Tr.test (isRet (l90_0 ((x0,(x1,((0:Int),()))),())))
        (let r0:=r90_0 ((x0,(x1,((0:Int),()))),());
        Tr.fin ((r0.1.1,())))
        (Tr.fin (((true:Bool),()))))
      (Tr.stop))

def f90 (d:Tys.data as90):Option (Tys.data rs90):=(t90 d.1 d.2.1).val
def g90 (d:Tys.data as90):Tys.data rs90:=(f90 d).getD (Tys.dflt rs90)
def p90:PureC:=pcOf as90 rs90 f90 g90

theorem wk90 (x0:(List Int)) (x1:(List Int)):Walks (runPure (kl90_0 Go.Proofs.Tryz.prog).orc Go.Proofs.Tryz.prog 400 90 as90 rs90 (x0,x1,())) (t90 x0 x1) [([tt],[2]),([false,true,true],[2,4,6]),([false,true,false],[2,4,6])] :=
  ⟨by kernel_rfl,by kernel_rfl,by kernel_rfl,trivial⟩

theorem ok90_t (x0:(List Int)) (x1:(List Int)):TrOk (PureRuns Go.Proofs.Tryz.prog (kl90_0 Go.Proofs.Tryz.prog).orc 90 as90 rs90 (x0,x1,())) (t90 x0 x1) :=
  Walks.ok (fun _ _ _=>PureRuns.of) (wk90 x0 x1) (by kernel_rfl)

theorem ok90:PureOk Go.Proofs.Tryz.prog 90 p90:=pureOk_of kl90_0_ok.base (T:=fun (d:Tys.data as90)=>t90 d.1 d.2.1) (by kernel_rfl) (fun (d:Tys.data as90)=>ok90_t d.1 d.2.1)
def kf90 (P:Go.Program):Known:=(kl90_0 P).func 90 p90
theorem kf90_ok:KnownOk Go.Proofs.Tryz.prog (kf90 Go.Proofs.Tryz.prog):=kl90_0_ok.func ok90

/-! loop 0 of ductility/ductilityref07.SameExplanation -/

abbrev sh46_0:Sh:={ n:=39,slots:=[2,3,5],pats:=[.ptr 0 2 0,.ptr 1 2 0,.ty (.int .i64)],boxes:=[.row [.ty (.slice (.int .i64)),.ty (.slice .bool)],.row [.ty (.slice (.int .i64)),.ty (.slice .bool)]] }
abbrev shb46_0:Sh:={ n:=39,slots:=[],pats:=[],boxes:=[.row [.ty (.slice (.int .i64)),.ty (.slice .bool)],.row [.ty (.slice (.int .i64)),.ty (.slice .bool)]] }
abbrev shr46_0:Sh:={ n:=39,slots:=[4],pats:=[.ty .bool],boxes:=[.row [.ty (.slice (.int .i64)),.ty (.slice .bool)],.row [.ty (.slice (.int .i64)),.ty (.slice .bool)]] }

def t46_0 (x2:Int) (b0_0:(List Int)) (b0_1:(List Bool)) (b1_0:(List Int)) (b1_1:(List Bool)):Tr (Out sh46_0.data shb46_0.data shr46_0.data) :=
  Tr.test ((!leF (↑(List.length b0_1):Int) x2:Bool))
    (Tr.test (decide ((0:Int) ≤ x2) && decide (x2 < (↑(List.length b0_1):Int)))
      (Tr.test ((decide ((0:Int) ≤ x2) && decide (x2 < (↑(List.length b1_1):Int)):Bool))
        (Tr.test ((!List.getD b0_1 (Int.toNat x2) false == List.getD b1_1 (Int.toNat x2) false:Bool))
          (Tr.fin (.ret (((false:Bool),()),((b0_0,(b0_1,())),((b1_0,(b1_1,())),())))))
          (Tr.fin (.again (((wrap64 (x2 + (1:Int)):Int),()),((b0_0,(b0_1,())),((b1_0,(b1_1,())),()))))))
        (Tr.stop))
      (Tr.stop))
    (Tr.fin (.brk ((),((b0_0,(b0_1,())),((b1_0,(b1_1,())),())))))

def s46_0 (d:sh46_0.data):Option (Out sh46_0.data shb46_0.data shr46_0.data):=(t46_0 d.1.1 d.2.1.1 d.2.1.2.1 d.2.2.1.1 d.2.2.1.2.1).val
def l46_0 (d:sh46_0.data):Option (shb46_0.data ⊕ shr46_0.data):=itr s46_0 rounds d
def b46_0 (d:sh46_0.data):shb46_0.data:=outB shb46_0.dflt (l46_0 d)
def r46_0 (d:sh46_0.data):shr46_0.data:=outR shr46_0.dflt (l46_0 d)
def lc46_0:LoopC:=lcOf sh46_0 shb46_0 shr46_0 l46_0 b46_0 r46_0

theorem wk46_0 (x2:Int) (b0_0:(List Int)) (b0_1:(List Bool)) (b1_0:(List Int)) (b1_1:(List Bool)):Walks (runBody (kf90 Go.Proofs.Tryz.prog).orc Go.Proofs.Tryz.prog 400 46 0 sh46_0 shb46_0 shr46_0 ((x2,()),(b0_0,b0_1,()),(b1_0,b1_1,()),())) (t46_0 x2 b0_0 b0_1 b1_0 b1_1) [([true,true,true,true],[2,4,6,8]),([true,true,true,false],[2,4,6,8]),([ff],[2])] :=
  ⟨by kernel_rfl,by kernel_rfl,by kernel_rfl,trivial⟩

theorem ok46_0_t (x2:Int) (b0_0:(List Int)) (b0_1:(List Bool)) (b1_0:(List Int)) (b1_1:(List Bool)):TrOk (BodyRuns Go.Proofs.Tryz.prog (kf90 Go.Proofs.Tryz.prog).orc 46 0 sh46_0 shb46_0 shr46_0 ((x2,()),(b0_0,b0_1,()),(b1_0,b1_1,()),())) (t46_0 x2 b0_0 b0_1 b1_0 b1_1) :=
  Walks.ok (fun _ _ _=>BodyRuns.of) (wk46_0 x2 b0_0 b0_1 b1_0 b1_1) (by kernel_rfl)

theorem ok46_0:LoopOk Go.Proofs.Tryz.prog 46 0 lc46_0:=loopOk_of (sh:=sh46_0) (shB:=shb46_0) (shR:=shr46_0) kf90_ok.base (T:=fun (d:sh46_0.data)=>t46_0 d.1.1 d.2.1.1 d.2.1.2.1 d.2.2.1.1 d.2.2.1.2.1) (by kernel_rfl) rfl (fun (d:sh46_0.data)=>ok46_0_t d.1.1 d.2.1.1 d.2.1.2.1 d.2.2.1.1 d.2.2.1.2.1) (fun _=>rfl)
def kl46_0 (P:Go.Program):Known:=(kf90 P).loop 46 0 lc46_0
theorem kl46_0_ok:KnownOk Go.Proofs.Tryz.prog (kl46_0 Go.Proofs.Tryz.prog):=kf90_ok.loop ok46_0

/-! ductility/ductilityref07.SameExplanation -/

abbrev as46:List Ty:=[(.pair (.slice (.int .i64)) (.pair (.slice .bool) .unit)),(.pair (.slice (.int .i64)) (.pair (.slice .bool) .unit))]
abbrev rs46:List Ty:=[.bool]

def t46 (x0:(List Int)) (x0':(List Bool)) (x1:(List Int)) (x1':(List Bool)):Tr (Tys.data rs46) :=
  Tr.test (Option.isSome (f90 (x0,(x1,()))))
    (let r0:=g90 (x0,(x1,()));
    Tr.test ((!r0.1:Bool))
      (Tr.fin (((false:Bool),())))
      (Tr.test ((!eqF (↑(List.length x0'):Int) (↑(List.length x1'):Int):Bool))
        (Tr.fin (((false:Bool),())))
        (Tr.test (Option.isSome (l46_0 (((0:Int),()),((x0,(x0',())),((x1,(x1',())),())))))
          (Tr.test (isRet (l46_0 (((0:Int),()),((x0,(x0',())),((x1,(x1',())),())))))
            (let r1:=r46_0 (((0:Int),()),((x0,(x0',())),((x1,(x1',())),())));
            Tr.fin ((r1.1.1,())))
            (Tr.fin (((true:Bool),()))))
          (Tr.stop))))
    (Tr.stop)

def f46 (d:Tys.data as46):Option (Tys.data rs46):=(t46 d.1.1 d.1.2.1 d.2.1.1 d.2.1.2.1).val
def g46 (d:Tys.data as46):Tys.data rs46:=(f46 d).getD (Tys.dflt rs46)
def p46:PureC:=pcOf as46 rs46 f46 g46

theorem wk46 (x0:(List Int)) (x0':(List Bool)) (x1:(List Int)) (x1':(List Bool)):Walks (runPure (kl46_0 Go.Proofs.Tryz.prog).orc Go.Proofs.Tryz.prog 400 46 as46 rs46 ((x0,x0',()),(x1,x1',()),())) (t46 x0 x0' x1 x1') [([true,true],[1,2,2,2,2,2,2,2,2,4]),([true,false,true],[2,4,4,4,4,4,4,4,4,6]),([true,false,false,true,true],[2,4,6,8,8,8,8,8,8,8,8,10]),([true,false,false,true,false],[2,4,6,8,8,8,8,8,8,8,8,10])] :=
  ⟨by kernel_rfl,by kernel_rfl,by kernel_rfl,by kernel_rfl,trivial⟩

theorem ok46_t (x0:(List Int)) (x0':(List Bool)) (x1:(List Int)) (x1':(List Bool)):TrOk (PureRuns Go.Proofs.Tryz.prog (kl46_0 Go.Proofs.Tryz.prog).orc 46 as46 rs46 ((x0,x0',()),(x1,x1',()),())) (t46 x0 x0' x1 x1') :=
  Walks.ok (fun _ _ _=>PureRuns.of) (wk46 x0 x0' x1 x1') (by kernel_rfl)

theorem ok46:PureOk Go.Proofs.Tryz.prog 46 p46:=pureOk_of kl46_0_ok.base (T:=fun (d:Tys.data as46)=>t46 d.1.1 d.1.2.1 d.2.1.1 d.2.1.2.1) (by kernel_rfl) (fun (d:Tys.data as46)=>ok46_t d.1.1 d.1.2.1 d.2.1.1 d.2.1.2.1)
def kf46 (P:Go.Program):Known:=(kl46_0 P).func 46 p46
theorem kf46_ok:KnownOk Go.Proofs.Tryz.prog (kf46 Go.Proofs.Tryz.prog):=kl46_0_ok.func ok46

/-! ductility/ductilitybase.Size -/

abbrev as21:List Ty:=[(.int .i64)]
abbrev rs21:List Ty:=[(.int .i64)]

def t21 (x0:Int):Tr (Tys.data rs21) :=
  Tr.fin (((if x0 < Go.IntKind.wrap Go.IntKind.i64 ((0:Int) - x0) then Go.IntKind.wrap Go.IntKind.i64 ((0:Int) - x0) else x0:Int),()))

def f21 (d:Tys.data as21):Option (Tys.data rs21):=(t21 d.1).val
def g21 (d:Tys.data as21):Tys.data rs21:=(f21 d).getD (Tys.dflt rs21)
def p21:PureC:=pcOf as21 rs21 f21 g21

theorem wk21 (x0:Int):Walks (runPure (kf46 Go.Proofs.Tryz.prog).orc Go.Proofs.Tryz.prog 400 21 as21 rs21 (x0,())) (t21 x0) [([],[])] :=
  ⟨by kernel_rfl,trivial⟩

theorem ok21_t (x0:Int):TrOk (PureRuns Go.Proofs.Tryz.prog (kf46 Go.Proofs.Tryz.prog).orc 21 as21 rs21 (x0,())) (t21 x0) :=
  Walks.ok (fun _ _ _=>PureRuns.of) (wk21 x0) (by kernel_rfl)

theorem ok21:PureOk Go.Proofs.Tryz.prog 21 p21:=pureOk_of kf46_ok.base (T:=fun (d:Tys.data as21)=>t21 d.1) (by kernel_rfl) (fun (d:Tys.data as21)=>ok21_t d.1)
def kf21 (P:Go.Program):Known:=(kf46 P).func 21 p21
theorem kf21_ok:KnownOk Go.Proofs.Tryz.prog (kf21 Go.Proofs.Tryz.prog):=kf46_ok.func ok21

/-! loop 0 of ductility/ductilitybase.Gcd -/

abbrev sh67_0:Sh:={ n:=13,slots:=[0,1],pats:=[.ty (.int .i64),.ty (.int .i64)],boxes:=[] }
abbrev shb67_0:Sh:={ n:=13,slots:=[0],pats:=[.ty (.int .i64)],boxes:=[] }
abbrev shr67_0:Sh:={ n:=13,slots:=[],pats:=[],boxes:=[] }

def t67_0 (x0:Int) (x1:Int):Tr (Out sh67_0.data shb67_0.data shr67_0.data) :=
  Tr.test ((!eqF x1 0:Bool))
    (Tr.test (x1 == (0:Int))
      (Tr.stop)
      (Tr.fin (.again ((x1,((Int.tmod x0 x1:Int),())),()))))
    (Tr.fin (.brk ((x0,()),())))

def s67_0 (d:sh67_0.data):Option (Out sh67_0.data shb67_0.data shr67_0.data):=(t67_0 d.1.1 d.1.2.1).val
def l67_0 (d:sh67_0.data):Option (shb67_0.data ⊕ shr67_0.data):=itr s67_0 rounds d
def b67_0 (d:sh67_0.data):shb67_0.data:=outB shb67_0.dflt (l67_0 d)
def lc67_0:LoopC:=lcB sh67_0 shb67_0 shr67_0 l67_0 b67_0

theorem wk67_0 (x0:Int) (x1:Int):Walks (runBody (kf21 Go.Proofs.Tryz.prog).orc Go.Proofs.Tryz.prog 400 67 0 sh67_0 shb67_0 shr67_0 ((x0,x1,()),())) (t67_0 x0 x1) [([true,false],[2,4]),([ff],[2])] :=
  ⟨by kernel_rfl,by kernel_rfl,trivial⟩

theorem ok67_0_t (x0:Int) (x1:Int):TrOk (BodyRuns Go.Proofs.Tryz.prog (kf21 Go.Proofs.Tryz.prog).orc 67 0 sh67_0 shb67_0 shr67_0 ((x0,x1,()),())) (t67_0 x0 x1) :=
  Walks.ok (fun _ _ _=>BodyRuns.of) (wk67_0 x0 x1) (by kernel_rfl)

theorem ok67_0:LoopOk Go.Proofs.Tryz.prog 67 0 lc67_0:=loopOk_ofB (sh:=sh67_0) (shB:=shb67_0) (shR:=shr67_0) kf21_ok.base (T:=fun (d:sh67_0.data)=>t67_0 d.1.1 d.1.2.1) (by kernel_rfl) rfl (fun (d:sh67_0.data)=>ok67_0_t d.1.1 d.1.2.1) (fun _=>rfl)
def kl67_0 (P:Go.Program):Known:=(kf21 P).loop 67 0 lc67_0
theorem kl67_0_ok:KnownOk Go.Proofs.Tryz.prog (kl67_0 Go.Proofs.Tryz.prog):=kf21_ok.loop ok67_0

/-! ductility/ductilitybase.Gcd -/

abbrev as67:List Ty:=[(.int .i64),(.int .i64)]
abbrev rs67:List Ty:=[(.int .i64)]

def t67 (x0:Int) (x1:Int):Tr (Tys.data rs67) :=
  Tr.test (isBrk (l67_0 ((x0,(x1,())),())))
    (let r0:=b67_0 ((x0,(x1,())),());
    Tr.test (Option.isSome (f21 (r0.1.1,())))
      (let r1:=g21 (r0.1.1,());
      Tr.fin ((r1.1,())))
      (Tr.stop))
    (Tr.stop)

def f67 (d:Tys.data as67):Option (Tys.data rs67):=(t67 d.1 d.2.1).val
def g67 (d:Tys.data as67):Tys.data rs67:=(f67 d).getD (Tys.dflt rs67)
def p67:PureC:=pcOf as67 rs67 f67 g67

theorem wk67 (x0:Int) (x1:Int):Walks (runPure (kl67_0 Go.Proofs.Tryz.prog).orc Go.Proofs.Tryz.prog 400 67 as67 rs67 (x0,x1,())) (t67 x0 x1) [([true,true],[2,1,4])] :=
  ⟨by kernel_rfl,trivial⟩

theorem ok67_t (x0:Int) (x1:Int):TrOk (PureRuns Go.Proofs.Tryz.prog (kl67_0 Go.Proofs.Tryz.prog).orc 67 as67 rs67 (x0,x1,())) (t67 x0 x1) :=
  Walks.ok (fun _ _ _=>PureRuns.of) (wk67 x0 x1) (by kernel_rfl)

theorem ok67:PureOk Go.Proofs.Tryz.prog 67 p67:=pureOk_of kl67_0_ok.base (T:=fun (d:Tys.data as67)=>t67 d.1 d.2.1) (by kernel_rfl) (fun (d:Tys.data as67)=>ok67_t d.1 d.2.1)
def kf67 (P:Go.Program):Known:=(kl67_0 P).func 67 p67
theorem kf67_ok:KnownOk Go.Proofs.Tryz.prog (kf67 Go.Proofs.Tryz.prog):=kl67_0_ok.func ok67

/-! ductility/ductilitybase.Lowest -/

abbrev as47:List Ty:=[(.int .i64),(.int .i64)]
abbrev rs47:List Ty:=[(.pair (.int .i64) (.pair (.int .i64) .unit))]

def t47 (x0:Int) (x1:Int):Tr (Tys.data rs47) :=
  Tr.test (Option.isSome (f67 (x0,(x1,()))))
    (Tr.test (!leF (0:Int) x1)
      (let r0:=g67 (x0,(x1,()));
      Tr.test ((Go.IntKind.wrap Go.IntKind.i64 ((0:Int) - r0.1) == (0:Int):Bool))
        (Tr.stop)
        (Tr.fin ((((Go.IntKind.wrap Go.IntKind.i64 (Int.tdiv x0 (Go.IntKind.wrap Go.IntKind.i64 ((0:Int) - r0.1))):Int),((Go.IntKind.wrap Go.IntKind.i64 (Int.tdiv x1 (Go.IntKind.wrap Go.IntKind.i64 ((0:Int) - r0.1))):Int),())),()))))
      (let r0:=g67 (x0,(x1,()));
      Tr.test ((r0.1 == (0:Int):Bool))
        (Tr.stop)
        (Tr.fin ((((Go.IntKind.wrap Go.IntKind.i64 (Int.tdiv x0 r0.1):Int),((Go.IntKind.wrap Go.IntKind.i64 (Int.tdiv x1 r0.1):Int),())),())))))
    (Tr.stop)

def f47 (d:Tys.data as47):Option (Tys.data rs47):=(t47 d.1 d.2.1).val
def g47 (d:Tys.data as47):Tys.data rs47:=(f47 d).getD (Tys.dflt rs47)
def p47:PureC:=pcOf as47 rs47 f47 g47

theorem wk47 (x0:Int) (x1:Int):Walks (runPure (kf67 Go.Proofs.Tryz.prog).orc Go.Proofs.Tryz.prog 400 47 as47 rs47 (x0,x1,())) (t47 x0 x1) [([true,true,false],[2,2,4,6]),([true,false,false],[2,2,4,6])] :=
  ⟨by kernel_rfl,by kernel_rfl,trivial⟩

theorem ok47_t (x0:Int) (x1:Int):TrOk (PureRuns Go.Proofs.Tryz.prog (kf67 Go.Proofs.Tryz.prog).orc 47 as47 rs47 (x0,x1,())) (t47 x0 x1) :=
  Walks.ok (fun _ _ _=>PureRuns.of) (wk47 x0 x1) (by kernel_rfl)

theorem ok47:PureOk Go.Proofs.Tryz.prog 47 p47:=pureOk_of kf67_ok.base (T:=fun (d:Tys.data as47)=>t47 d.1 d.2.1) (by kernel_rfl) (fun (d:Tys.data as47)=>ok47_t d.1 d.2.1)
def kf47 (P:Go.Program):Known:=(kf67 P).func 47 p47
theorem kf47_ok:KnownOk Go.Proofs.Tryz.prog (kf47 Go.Proofs.Tryz.prog):=kf67_ok.func ok47

/-! ductility/ductilitylaw07.awake -/

abbrev as6:List Ty:=[]
abbrev rs6:List Ty:=[.bool]
def f6 (_:Tys.data as6):Option (Tys.data rs6):=some (true,())
def g6 (_:Tys.data as6):Tys.data rs6:=(true,())
def p6:PureC:=pcOf as6 rs6 f6 g6

theorem e6:runAsk (kf47 Go.Proofs.Tryz.prog).orc Go.Proofs.Tryz.prog 400 6 as6 rs6 () none = some ((true,()),[]):=by kernel_rfl
theorem ok6:PureOk Go.Proofs.Tryz.prog 6 p6:=pureOk_closed kf47_ok.base (by kernel_rfl) e6 All.nil
def kf6 (P:Go.Program):Known:=(kf47 P).func 6 p6
theorem kf6_ok:KnownOk Go.Proofs.Tryz.prog (kf6 Go.Proofs.Tryz.prog):=kf47_ok.func ok6

/-! loop 0 of ductility/ductilitylaw07.images -/

abbrev sh27_0:Sh:={ n:=19,slots:=[0,3],pats:=[.ty (.slice (.slice (.int .i64))),.ty (.int .i64)],boxes:=[] }
abbrev shb27_0:Sh:={ n:=19,slots:=[0],pats:=[.ty (.slice (.slice (.int .i64)))],boxes:=[] }
abbrev shr27_0:Sh:={ n:=19,slots:=[2],pats:=[.ty .bool],boxes:=[] }

def t27_0 (x0:(List (List Int))) (x1:Int):Tr (Out sh27_0.data shb27_0.data shr27_0.data) :=
  Tr.test ((!leF (↑(List.length x0):Int) x1:Bool))
    (Tr.test (decide ((0:Int) ≤ x1) && decide (x1 < (↑(List.length x0):Int)))
      (Tr.test ((!leF (↑(List.length (List.getD x0 (Int.toNat x1) [])):Int) (12:Int):Bool))
        (Tr.fin (.ret (((false:Bool),()),())))
        (Tr.fin (.again ((x0,((wrap64 (x1 + (1:Int)):Int),())),()))))
      (Tr.stop))
    (Tr.fin (.brk ((x0,()),())))

def s27_0 (d:sh27_0.data):Option (Out sh27_0.data shb27_0.data shr27_0.data):=(t27_0 d.1.1 d.1.2.1).val
def l27_0 (d:sh27_0.data):Option (shb27_0.data ⊕ shr27_0.data):=itr s27_0 rounds d
def b27_0 (d:sh27_0.data):shb27_0.data:=outB shb27_0.dflt (l27_0 d)
def r27_0 (d:sh27_0.data):shr27_0.data:=outR shr27_0.dflt (l27_0 d)
def lc27_0:LoopC:=lcOf sh27_0 shb27_0 shr27_0 l27_0 b27_0 r27_0

theorem wk27_0 (x0:(List (List Int))) (x1:Int):Walks (runBody (kf6 Go.Proofs.Tryz.prog).orc Go.Proofs.Tryz.prog 400 27 0 sh27_0 shb27_0 shr27_0 ((x0,x1,()),())) (t27_0 x0 x1) [([true,true,true],[2,4,6]),([true,true,false],[2,4,6]),([ff],[2])] :=
  ⟨by kernel_rfl,by kernel_rfl,by kernel_rfl,trivial⟩

theorem ok27_0_t (x0:(List (List Int))) (x1:Int):TrOk (BodyRuns Go.Proofs.Tryz.prog (kf6 Go.Proofs.Tryz.prog).orc 27 0 sh27_0 shb27_0 shr27_0 ((x0,x1,()),())) (t27_0 x0 x1) :=
  Walks.ok (fun _ _ _=>BodyRuns.of) (wk27_0 x0 x1) (by kernel_rfl)

theorem ok27_0:LoopOk Go.Proofs.Tryz.prog 27 0 lc27_0:=loopOk_of (sh:=sh27_0) (shB:=shb27_0) (shR:=shr27_0) kf6_ok.base (T:=fun (d:sh27_0.data)=>t27_0 d.1.1 d.1.2.1) (by kernel_rfl) rfl (fun (d:sh27_0.data)=>ok27_0_t d.1.1 d.1.2.1) (fun _=>rfl)
def kl27_0 (P:Go.Program):Known:=(kf6 P).loop 27 0 lc27_0
theorem kl27_0_ok:KnownOk Go.Proofs.Tryz.prog (kl27_0 Go.Proofs.Tryz.prog):=kf6_ok.loop ok27_0

/-! ductility/ductilitylaw07.images -/

abbrev as27:List Ty:=[(.slice (.slice (.int .i64)))]
abbrev rs27:List Ty:=[.bool]

def t27 (x0:(List (List Int))):Tr (Tys.data rs27) :=
  Tr.test (Option.isSome (l27_0 ((x0,((0:Int),())),())))
    (Tr.test (isRet (l27_0 ((x0,((0:Int),())),())))
      (let r0:=r27_0 ((x0,((0:Int),())),());
      Tr.fin ((r0.1.1,())))
      (let r1:=b27_0 ((x0,((0:Int),())),());
      Tr.fin (((leF (↑(List.length r1.1.1):Int) (12:Int):Bool),()))))
    (Tr.stop)

def f27 (d:Tys.data as27):Option (Tys.data rs27):=(t27 d.1).val
def g27 (d:Tys.data as27):Tys.data rs27:=(f27 d).getD (Tys.dflt rs27)
def p27:PureC:=pcOf as27 rs27 f27 g27

theorem wk27 (x0:(List (List Int))):Walks (runPure (kl27_0 Go.Proofs.Tryz.prog).orc Go.Proofs.Tryz.prog 400 27 as27 rs27 (x0,())) (t27 x0) [([true,true],[2,4]),([true,false],[2,4])] :=
  ⟨by kernel_rfl,by kernel_rfl,trivial⟩

theorem ok27_t (x0:(List (List Int))):TrOk (PureRuns Go.Proofs.Tryz.prog (kl27_0 Go.Proofs.Tryz.prog).orc 27 as27 rs27 (x0,())) (t27 x0) :=
  Walks.ok (fun _ _ _=>PureRuns.of) (wk27 x0) (by kernel_rfl)

theorem ok27:PureOk Go.Proofs.Tryz.prog 27 p27:=pureOk_of kl27_0_ok.base (T:=fun (d:Tys.data as27)=>t27 d.1) (by kernel_rfl) (fun (d:Tys.data as27)=>ok27_t d.1)
def kf27 (P:Go.Program):Known:=(kl27_0 P).func 27 p27
theorem kf27_ok:KnownOk Go.Proofs.Tryz.prog (kf27 Go.Proofs.Tryz.prog):=kl27_0_ok.func ok27

/-! ductility/ductilitybase.CopyInts -/

abbrev as23:List Ty:=[(.slice (.int .i64))]
abbrev rs23:List Ty:=[(.slice (.int .i64))]

def t23 (x0:(List Int)):Tr (Tys.data rs23) :=
  Tr.test ((Nat.beq (List.length x0) (0:Nat):Bool))
    (Tr.fin ((([]:List Int),())))
    (Tr.test (Nat.ble ((0:Nat) + List.length x0) (0:Nat))
      (Tr.stop)
      (Tr.test ((Nat.ble (((2:Nat) * ((0:Nat) + List.length x0) + (192:Nat)) * (8:Nat)) (281474976710656:Nat) && Nat.ble ((0:Nat) + List.length x0) (281474976710656:Nat):Bool))
        (Tr.test ((Nat.beq ((0:Nat) + List.length x0) (List.length ([]++x0)):Bool))
          (Tr.fin ((([]++x0:List Int),())))
          (Tr.stop))
        (Tr.stop)))

def f23 (d:Tys.data as23):Option (Tys.data rs23):=(t23 d.1).val
def g23 (d:Tys.data as23):Tys.data rs23:=(f23 d).getD (Tys.dflt rs23)
def p23:PureC:=pcOf as23 rs23 f23 g23

theorem wk23 (x0:(List Int)):Walks (runPure (kf27 Go.Proofs.Tryz.prog).orc Go.Proofs.Tryz.prog 400 23 as23 rs23 (x0,())) (t23 x0) [([tt],[2]),([false,false,true,true],[2,4,6,8])] :=
  ⟨by kernel_rfl,by kernel_rfl,trivial⟩

theorem ok23_t (x0:(List Int)):TrOk (PureRuns Go.Proofs.Tryz.prog (kf27 Go.Proofs.Tryz.prog).orc 23 as23 rs23 (x0,())) (t23 x0) :=
  Walks.ok (fun _ _ _=>PureRuns.of) (wk23 x0) (by kernel_rfl)

theorem ok23:PureOk Go.Proofs.Tryz.prog 23 p23:=pureOk_of kf27_ok.base (T:=fun (d:Tys.data as23)=>t23 d.1) (by kernel_rfl) (fun (d:Tys.data as23)=>ok23_t d.1)
def kf23 (P:Go.Program):Known:=(kf27 P).func 23 p23
theorem kf23_ok:KnownOk Go.Proofs.Tryz.prog (kf23 Go.Proofs.Tryz.prog):=kf27_ok.func ok23

/-! loop 0 of ductility/ductilitybase.CopyLists -/

abbrev sh29_0:Sh:={ n:=20,slots:=[0,3,4],pats:=[.ty (.slice (.slice (.int .i64))),.acc (.slice (.int .i64)),.ty (.int .i64)],boxes:=[] }
abbrev shb29_0:Sh:={ n:=20,slots:=[3],pats:=[.acc (.slice (.int .i64))],boxes:=[] }
abbrev shr29_0:Sh:={ n:=20,slots:=[],pats:=[],boxes:=[] }

def t29_0 (x0:(List (List Int))) (x1:(List (List Int))) (x2:Int):Tr (Out sh29_0.data shb29_0.data shr29_0.data) :=
  Tr.test ((!leF (↑(List.length x0):Int) x2:Bool))
    (Tr.test (decide ((0:Int) ≤ x2) && decide (x2 < (↑(List.length x0):Int)))
      (Tr.test (Option.isSome (f23 ((List.getD x0 (Int.toNat x2) []:List Int),())))
        (Tr.test ((Nat.ble (((2:Nat) * (List.length x1 + (1:Nat)) + (192:Nat)) * (24:Nat)) (281474976710656:Nat) && Nat.ble (List.length x1 + (1:Nat)) (281474976710656:Nat):Bool))
          (let r0:=g23 ((List.getD x0 (Int.toNat x2) []:List Int),());
          Tr.fin (.again ((x0,((x1++[r0.1]:List (List Int)),((wrap64 (x2 + (1:Int)):Int),()))),())))
          (Tr.stop))
        (Tr.stop))
      (Tr.stop))
    (Tr.fin (.brk ((x1,()),())))

def s29_0 (d:sh29_0.data):Option (Out sh29_0.data shb29_0.data shr29_0.data):=(t29_0 d.1.1 d.1.2.1 d.1.2.2.1).val
def l29_0 (d:sh29_0.data):Option (shb29_0.data ⊕ shr29_0.data):=itr s29_0 rounds d
def b29_0 (d:sh29_0.data):shb29_0.data:=outB shb29_0.dflt (l29_0 d)
def lc29_0:LoopC:=lcB sh29_0 shb29_0 shr29_0 l29_0 b29_0

theorem wk29_0 (x0:(List (List Int))) (x1:(List (List Int))) (x2:Int):Walks (runBody (kf23 Go.Proofs.Tryz.prog).orc Go.Proofs.Tryz.prog 400 29 0 sh29_0 shb29_0 shr29_0 ((x0,x1,x2,()),())) (t29_0 x0 x1 x2) [([true,true,true,true],[1,2,0,4,6,8]),([ff],[2])] :=
  ⟨by kernel_rfl,by kernel_rfl,trivial⟩

theorem ok29_0_t (x0:(List (List Int))) (x1:(List (List Int))) (x2:Int):TrOk (BodyRuns Go.Proofs.Tryz.prog (kf23 Go.Proofs.Tryz.prog).orc 29 0 sh29_0 shb29_0 shr29_0 ((x0,x1,x2,()),())) (t29_0 x0 x1 x2) :=
  Walks.ok (fun _ _ _=>BodyRuns.of) (wk29_0 x0 x1 x2) (by kernel_rfl)

theorem ok29_0:LoopOk Go.Proofs.Tryz.prog 29 0 lc29_0:=loopOk_ofB (sh:=sh29_0) (shB:=shb29_0) (shR:=shr29_0) kf23_ok.base (T:=fun (d:sh29_0.data)=>t29_0 d.1.1 d.1.2.1 d.1.2.2.1) (by kernel_rfl) rfl (fun (d:sh29_0.data)=>ok29_0_t d.1.1 d.1.2.1 d.1.2.2.1) (fun _=>rfl)
def kl29_0 (P:Go.Program):Known:=(kf23 P).loop 29 0 lc29_0
theorem kl29_0_ok:KnownOk Go.Proofs.Tryz.prog (kl29_0 Go.Proofs.Tryz.prog):=kf23_ok.loop ok29_0

/-! ductility/ductilitybase.CopyLists -/

abbrev as29:List Ty:=[(.slice (.slice (.int .i64)))]
abbrev rs29:List Ty:=[(.slice (.slice (.int .i64)))]

def t29 (x0:(List (List Int))):Tr (Tys.data rs29) :=
  Tr.test (isBrk (l29_0 ((x0,(([]:List (List Int)),((0:Int),()))),())))
    (let r0:=b29_0 ((x0,(([]:List (List Int)),((0:Int),()))),());
    Tr.fin ((r0.1.1,())))
    (Tr.stop)

def f29 (d:Tys.data as29):Option (Tys.data rs29):=(t29 d.1).val
def g29 (d:Tys.data as29):Tys.data rs29:=(f29 d).getD (Tys.dflt rs29)
def p29:PureC:=pcOf as29 rs29 f29 g29

theorem wk29 (x0:(List (List Int))):Walks (runPure (kl29_0 Go.Proofs.Tryz.prog).orc Go.Proofs.Tryz.prog 400 29 as29 rs29 (x0,())) (t29 x0) [([tt],[1,2])] :=
  ⟨by kernel_rfl,trivial⟩

theorem ok29_t (x0:(List (List Int))):TrOk (PureRuns Go.Proofs.Tryz.prog (kl29_0 Go.Proofs.Tryz.prog).orc 29 as29 rs29 (x0,())) (t29 x0) :=
  Walks.ok (fun _ _ _=>PureRuns.of) (wk29 x0) (by kernel_rfl)

theorem ok29:PureOk Go.Proofs.Tryz.prog 29 p29:=pureOk_of kl29_0_ok.base (T:=fun (d:Tys.data as29)=>t29 d.1) (by kernel_rfl) (fun (d:Tys.data as29)=>ok29_t d.1)
def kf29 (P:Go.Program):Known:=(kl29_0 P).func 29 p29
theorem kf29_ok:KnownOk Go.Proofs.Tryz.prog (kf29 Go.Proofs.Tryz.prog):=kl29_0_ok.func ok29

/-! ductility/sensor.minus -/

abbrev as78:List Ty:=[(.pair (.int .i64) (.pair (.int .i64) .unit)),(.pair (.int .i64) (.pair (.int .i64) .unit))]
abbrev rs78:List Ty:=[(.pair (.int .i64) (.pair (.int .i64) .unit))]

def t78 (x0:Int) (x0':Int) (x1:Int) (x1':Int):Tr (Tys.data rs78) :=
  Tr.test (Option.isSome (f65 ((wrap64 (wrap64 (x0 * x1') - wrap64 (x1 * x0')):Int),((wrap64 (x0' * x1'):Int),()))))
    (let r0:=g65 ((wrap64 (wrap64 (x0 * x1') - wrap64 (x1 * x0')):Int),((wrap64 (x0' * x1'):Int),()));
    Tr.fin (((r0.1.1,(r0.1.2.1,())),())))
    (Tr.stop)

def f78 (d:Tys.data as78):Option (Tys.data rs78):=(t78 d.1.1 d.1.2.1 d.2.1.1 d.2.1.2.1).val
def g78 (d:Tys.data as78):Tys.data rs78:=(f78 d).getD (Tys.dflt rs78)
def p78:PureC:=pcOf as78 rs78 f78 g78

theorem wk78 (x0:Int) (x0':Int) (x1:Int) (x1':Int):Walks (runPure (kf29 Go.Proofs.Tryz.prog).orc Go.Proofs.Tryz.prog 400 78 as78 rs78 ((x0,x0',()),(x1,x1',()),())) (t78 x0 x0' x1 x1') [([tt],[2])] :=
  ⟨by kernel_rfl,trivial⟩

theorem ok78_t (x0:Int) (x0':Int) (x1:Int) (x1':Int):TrOk (PureRuns Go.Proofs.Tryz.prog (kf29 Go.Proofs.Tryz.prog).orc 78 as78 rs78 ((x0,x0',()),(x1,x1',()),())) (t78 x0 x0' x1 x1') :=
  Walks.ok (fun _ _ _=>PureRuns.of) (wk78 x0 x0' x1 x1') (by kernel_rfl)

theorem ok78:PureOk Go.Proofs.Tryz.prog 78 p78:=pureOk_of kf29_ok.base (T:=fun (d:Tys.data as78)=>t78 d.1.1 d.1.2.1 d.2.1.1 d.2.1.2.1) (by kernel_rfl) (fun (d:Tys.data as78)=>ok78_t d.1.1 d.1.2.1 d.2.1.1 d.2.1.2.1)
def kf78 (P:Go.Program):Known:=(kf29 P).func 78 p78
theorem kf78_ok:KnownOk Go.Proofs.Tryz.prog (kf78 Go.Proofs.Tryz.prog):=kf29_ok.func ok78

/-! ductility/sensor.MovedBy -/

abbrev as30:List Ty:=[(.slice (.slice (.int .i64))),(.slice (.slice (.int .i64)))]
abbrev rs30:List Ty:=[(.pair (.pair (.int .i64) (.pair (.int .i64) .unit)) (.pair (.pair (.int .i64) (.pair (.int .i64) .unit)) .unit)),(.int .i64)]

def t30 (x0:(List (List Int))) (x1:(List (List Int))):Tr (Tys.data rs30) :=
  Tr.test (Option.isSome (f76 (x0,())))
    (Tr.test (Option.isSome (f76 (x1,())))
      (let r0:=g76 (x0,());
      let r1:=g76 (x1,());
      Tr.test (Option.isSome (f48 (([r0.1,r1.1]:List Int),())))
        (let r2:=g48 (([r0.1,r1.1]:List Int),());
        Tr.test ((!eqF r2.1 0:Bool))
          (Tr.fin (((((0:Int),((0:Int),())),(((0:Int),((0:Int),())),())),(r2.1,()))))
          (Tr.test ((!eqF (↑(List.length x0):Int) (↑(List.length x1):Int):Bool))
            (Tr.fin (((((0:Int),((0:Int),())),(((0:Int),((0:Int),())),())),((13:Int),()))))
            (Tr.test ((true && decide ((0:Int) < (↑(List.length x0):Int)):Bool))
              (Tr.test ((true && decide ((0:Int) < (↑(List.length x1):Int)):Bool))
                (Tr.test ((!eqF (↑(List.length (List.getD x0 (0:Nat) [])):Int) (↑(List.length (List.getD x1 (0:Nat) [])):Int):Bool))
                  (Tr.fin (((((0:Int),((0:Int),())),(((0:Int),((0:Int),())),())),((13:Int),()))))
                  (Tr.test (Option.isSome (f77 (x0,())))
                    (Tr.test (Option.isSome (f77 (x1,())))
                      (let r3:=g77 (x0,());
                      let r4:=g77 (x1,());
                      Tr.test (Option.isSome (f78 ((r4.1.1.1,(r4.1.1.2.1,())),((r3.1.1.1,(r3.1.1.2.1,())),()))))
                        (Tr.test (Option.isSome (f78 ((r4.1.2.1.1,(r4.1.2.1.2.1,())),((r3.1.2.1.1,(r3.1.2.1.2.1,())),()))))
                          (let r5:=g78 ((r4.1.1.1,(r4.1.1.2.1,())),((r3.1.1.1,(r3.1.1.2.1,())),()));
                          let r6:=g78 ((r4.1.2.1.1,(r4.1.2.1.2.1,())),((r3.1.2.1.1,(r3.1.2.1.2.1,())),()));
                          Tr.fin ((((r5.1.1,(r5.1.2.1,())),((r6.1.1,(r6.1.2.1,())),())),((0:Int),()))))
                          (Tr.stop))
                        (Tr.stop))
                      (Tr.stop))
                    (Tr.stop)))
                (Tr.stop))
              (Tr.stop))))
        (Tr.stop))
      (Tr.stop))
    (Tr.stop)

def f30 (d:Tys.data as30):Option (Tys.data rs30):=(t30 d.1 d.2.1).val
def g30 (d:Tys.data as30):Tys.data rs30:=(f30 d).getD (Tys.dflt rs30)
def p30:PureC:=pcOf as30 rs30 f30 g30

theorem wk30 (x0:(List (List Int))) (x1:(List (List Int))):Walks (runPure (kf78 Go.Proofs.Tryz.prog).orc Go.Proofs.Tryz.prog 400 30 as30 rs30 (x0,x1,())) (t30 x0 x1) [([true,true,true,true],[2,4,1,6,8]),([true,true,true,false,true],[1,2,2,2,2,2,2,2,2,2,2,4,6,1,8,10]),([true,true,true,false,false,true,true,true],[2,8,8,8,8,4,8,8,8,8,6,8,8,10,12,1,14,16]),([true,true,true,false,false,true,true,false,true,true,true,true],[2,4,6,8,10,16,16,16,16,12,16,16,16,16,14,16,16,18,20,1,22,24])] :=
  ⟨by kernel_rfl,by kernel_rfl,by kernel_rfl,by kernel_rfl,trivial⟩

theorem ok30_t (x0:(List (List Int))) (x1:(List (List Int))):TrOk (PureRuns Go.Proofs.Tryz.prog (kf78 Go.Proofs.Tryz.prog).orc 30 as30 rs30 (x0,x1,())) (t30 x0 x1) :=
  Walks.ok (fun _ _ _=>PureRuns.of) (wk30 x0 x1) (by kernel_rfl)

theorem ok30:PureOk Go.Proofs.Tryz.prog 30 p30:=pureOk_of kf78_ok.base (T:=fun (d:Tys.data as30)=>t30 d.1 d.2.1) (by kernel_rfl) (fun (d:Tys.data as30)=>ok30_t d.1 d.2.1)
def kf30 (P:Go.Program):Known:=(kf78 P).func 30 p30
theorem kf30_ok:KnownOk Go.Proofs.Tryz.prog (kf30 Go.Proofs.Tryz.prog):=kf78_ok.func ok30

/-! ductility/ductilitybase.Within -/

abbrev as20:List Ty:=[(.int .i64),(.int .i64),(.int .i64)]
abbrev rs20:List Ty:=[.bool]

def t20 (x0:Int) (x1:Int) (x2:Int):Tr (Tys.data rs20) :=
  Tr.test ((leF x1 x0:Bool))
    (Tr.fin ((leF x0 x2,())))
    (Tr.fin ((false,())))

def f20 (d:Tys.data as20):Option (Tys.data rs20):=(t20 d.1 d.2.1 d.2.2.1).val
def g20 (d:Tys.data as20):Tys.data rs20:=(f20 d).getD (Tys.dflt rs20)
def p20:PureC:=pcOf as20 rs20 f20 g20

theorem wk20 (x0:Int) (x1:Int) (x2:Int):Walks (runPure (kf30 Go.Proofs.Tryz.prog).orc Go.Proofs.Tryz.prog 400 20 as20 rs20 (x0,x1,x2,())) (t20 x0 x1 x2) [([tt],[2,2,2,2]),([ff],[2,2,2,2])] :=
  ⟨by kernel_rfl,by kernel_rfl,trivial⟩

theorem ok20_t (x0:Int) (x1:Int) (x2:Int):TrOk (PureRuns Go.Proofs.Tryz.prog (kf30 Go.Proofs.Tryz.prog).orc 20 as20 rs20 (x0,x1,x2,())) (t20 x0 x1 x2) :=
  Walks.ok (fun _ _ _=>PureRuns.of) (wk20 x0 x1 x2) (by kernel_rfl)

theorem ok20:PureOk Go.Proofs.Tryz.prog 20 p20:=pureOk_of kf30_ok.base (T:=fun (d:Tys.data as20)=>t20 d.1 d.2.1 d.2.2.1) (by kernel_rfl) (fun (d:Tys.data as20)=>ok20_t d.1 d.2.1 d.2.2.1)
def kf20 (P:Go.Program):Known:=(kf30 P).func 20 p20
theorem kf20_ok:KnownOk Go.Proofs.Tryz.prog (kf20 Go.Proofs.Tryz.prog):=kf30_ok.func ok20

/-! loop 0 of ductility/ductilityref07.ImageErr -/

abbrev sh31_0:Sh:={ n:=78,slots:=[0,3],pats:=[.ty (.slice (.slice (.int .i64))),.ty (.int .i64)],boxes:=[] }
abbrev shb31_0:Sh:={ n:=78,slots:=[0],pats:=[.ty (.slice (.slice (.int .i64)))],boxes:=[] }
abbrev shr31_0:Sh:={ n:=78,slots:=[2],pats:=[.ty (.int .i64)],boxes:=[] }

def t31_0 (x0:(List (List Int))) (x1:Int):Tr (Out sh31_0.data shb31_0.data shr31_0.data) :=
  Tr.test ((!leF (↑(List.length x0):Int) x1:Bool))
    (Tr.test (decide ((0:Int) ≤ x1) && decide (x1 < (↑(List.length x0):Int)))
      (Tr.test ((true && decide ((0:Int) < (↑(List.length x0):Int)):Bool))
        (Tr.test ((!eqF (↑(List.length (List.getD x0 (Int.toNat x1) [])):Int) (↑(List.length (List.getD x0 (0:Nat) [])):Int):Bool))
          (Tr.fin (.ret (((10:Int),()),())))
          (Tr.fin (.again ((x0,((wrap64 (x1 + (1:Int)):Int),())),()))))
        (Tr.stop))
      (Tr.stop))
    (Tr.fin (.brk ((x0,()),())))

def s31_0 (d:sh31_0.data):Option (Out sh31_0.data shb31_0.data shr31_0.data):=(t31_0 d.1.1 d.1.2.1).val
def l31_0 (d:sh31_0.data):Option (shb31_0.data ⊕ shr31_0.data):=itr s31_0 rounds d
def b31_0 (d:sh31_0.data):shb31_0.data:=outB shb31_0.dflt (l31_0 d)
def r31_0 (d:sh31_0.data):shr31_0.data:=outR shr31_0.dflt (l31_0 d)
def lc31_0:LoopC:=lcOf sh31_0 shb31_0 shr31_0 l31_0 b31_0 r31_0

theorem wk31_0 (x0:(List (List Int))) (x1:Int):Walks (runBody (kf20 Go.Proofs.Tryz.prog).orc Go.Proofs.Tryz.prog 400 31 0 sh31_0 shb31_0 shr31_0 ((x0,x1,()),())) (t31_0 x0 x1) [([true,true,true,true],[2,4,6,8]),([true,true,true,false],[2,4,6,8]),([ff],[2])] :=
  ⟨by kernel_rfl,by kernel_rfl,by kernel_rfl,trivial⟩

theorem ok31_0_t (x0:(List (List Int))) (x1:Int):TrOk (BodyRuns Go.Proofs.Tryz.prog (kf20 Go.Proofs.Tryz.prog).orc 31 0 sh31_0 shb31_0 shr31_0 ((x0,x1,()),())) (t31_0 x0 x1) :=
  Walks.ok (fun _ _ _=>BodyRuns.of) (wk31_0 x0 x1) (by kernel_rfl)

theorem ok31_0:LoopOk Go.Proofs.Tryz.prog 31 0 lc31_0:=loopOk_of (sh:=sh31_0) (shB:=shb31_0) (shR:=shr31_0) kf20_ok.base (T:=fun (d:sh31_0.data)=>t31_0 d.1.1 d.1.2.1) (by kernel_rfl) rfl (fun (d:sh31_0.data)=>ok31_0_t d.1.1 d.1.2.1) (fun _=>rfl)
def kl31_0 (P:Go.Program):Known:=(kf20 P).loop 31 0 lc31_0
theorem kl31_0_ok:KnownOk Go.Proofs.Tryz.prog (kl31_0 Go.Proofs.Tryz.prog):=kf20_ok.loop ok31_0

/-! loop 4 of ductility/ductilityref07.ImageErr -/

abbrev sh31_4:Sh:={ n:=78,slots:=[0,4,5,6],pats:=[.ty (.slice (.slice (.int .i64))),.ty (.int .i64),.ty (.int .i64),.ty (.int .i64)],boxes:=[] }
abbrev shb31_4:Sh:={ n:=78,slots:=[0,4,5],pats:=[.ty (.slice (.slice (.int .i64))),.ty (.int .i64),.ty (.int .i64)],boxes:=[] }
abbrev shr31_4:Sh:={ n:=78,slots:=[2],pats:=[.ty (.int .i64)],boxes:=[] }

def t31_4 (x0:(List (List Int))) (x1:Int) (x2:Int) (x3:Int):Tr (Out sh31_4.data shb31_4.data shr31_4.data) :=
  Tr.test ((decide ((0:Int) ≤ x2) && decide (x2 < (↑(List.length x0):Int)):Bool))
    (Tr.test (!leF (↑(List.length (List.getD x0 (Int.toNat x2) [])):Int) x3)
      (Tr.test ((decide ((0:Int) ≤ x3) && decide (x3 < (↑(List.length (List.getD x0 (Int.toNat x2) [])):Int)):Bool))
        (Tr.test (Option.isSome (f20 ((List.getD (List.getD x0 (Int.toNat x2) []) (Int.toNat x3) (0:Int):Int),((0:Int),((255:Int),())))))
          (let r0:=g20 ((List.getD (List.getD x0 (Int.toNat x2) []) (Int.toNat x3) (0:Int):Int),((0:Int),((255:Int),())));
          Tr.test ((!r0.1:Bool))
            (Tr.fin (.ret (((2:Int),()),())))
            (Tr.fin (.again ((x0,((wrap64 (x1 + List.getD (List.getD x0 (Int.toNat x2) []) (Int.toNat x3) (0:Int)):Int),(x2,((wrap64 (x3 + (1:Int)):Int),())))),()))))
          (Tr.stop))
        (Tr.stop))
      (Tr.fin (.brk ((x0,(x1,(x2,()))),()))))
    (Tr.stop)

def s31_4 (d:sh31_4.data):Option (Out sh31_4.data shb31_4.data shr31_4.data):=(t31_4 d.1.1 d.1.2.1 d.1.2.2.1 d.1.2.2.2.1).val
def l31_4 (d:sh31_4.data):Option (shb31_4.data ⊕ shr31_4.data):=itr s31_4 rounds d
def b31_4 (d:sh31_4.data):shb31_4.data:=outB shb31_4.dflt (l31_4 d)
def r31_4 (d:sh31_4.data):shr31_4.data:=outR shr31_4.dflt (l31_4 d)
def lc31_4:LoopC:=lcOf sh31_4 shb31_4 shr31_4 l31_4 b31_4 r31_4

theorem wk31_4 (x0:(List (List Int))) (x1:Int) (x2:Int) (x3:Int):Walks (runBody (kl31_0 Go.Proofs.Tryz.prog).orc Go.Proofs.Tryz.prog 400 31 4 sh31_4 shb31_4 shr31_4 ((x0,x1,x2,x3,()),())) (t31_4 x0 x1 x2 x3) [([true,true,true,true,true],[2,4,6,10,8,10]),([true,true,true,true,false],[6,10,2,4,6,10,8,10]),([true,false],[2,4])] :=
  ⟨by kernel_rfl,by kernel_rfl,by kernel_rfl,trivial⟩

theorem ok31_4_t (x0:(List (List Int))) (x1:Int) (x2:Int) (x3:Int):TrOk (BodyRuns Go.Proofs.Tryz.prog (kl31_0 Go.Proofs.Tryz.prog).orc 31 4 sh31_4 shb31_4 shr31_4 ((x0,x1,x2,x3,()),())) (t31_4 x0 x1 x2 x3) :=
  Walks.ok (fun _ _ _=>BodyRuns.of) (wk31_4 x0 x1 x2 x3) (by kernel_rfl)

theorem ok31_4:LoopOk Go.Proofs.Tryz.prog 31 4 lc31_4:=loopOk_of (sh:=sh31_4) (shB:=shb31_4) (shR:=shr31_4) kl31_0_ok.base (T:=fun (d:sh31_4.data)=>t31_4 d.1.1 d.1.2.1 d.1.2.2.1 d.1.2.2.2.1) (by kernel_rfl) rfl (fun (d:sh31_4.data)=>ok31_4_t d.1.1 d.1.2.1 d.1.2.2.1 d.1.2.2.2.1) (fun _=>rfl)
def kl31_4 (P:Go.Program):Known:=(kl31_0 P).loop 31 4 lc31_4
theorem kl31_4_ok:KnownOk Go.Proofs.Tryz.prog (kl31_4 Go.Proofs.Tryz.prog):=kl31_0_ok.loop ok31_4

/-! loop 2 of ductility/ductilityref07.ImageErr -/

abbrev sh31_2:Sh:={ n:=78,slots:=[0,4,5],pats:=[.ty (.slice (.slice (.int .i64))),.ty (.int .i64),.ty (.int .i64)],boxes:=[] }
abbrev shb31_2:Sh:={ n:=78,slots:=[4],pats:=[.ty (.int .i64)],boxes:=[] }
abbrev shr31_2:Sh:={ n:=78,slots:=[2],pats:=[.ty (.int .i64)],boxes:=[] }

def t31_2 (x0:(List (List Int))) (x1:Int) (x2:Int):Tr (Out sh31_2.data shb31_2.data shr31_2.data) :=
  Tr.test ((!leF (↑(List.length x0):Int) x2:Bool))
    (Tr.test (Option.isSome (l31_4 ((x0,(x1,(x2,((0:Int),())))),())))
      (Tr.test (isRet (l31_4 ((x0,(x1,(x2,((0:Int),())))),())))
        (let r0:=r31_4 ((x0,(x1,(x2,((0:Int),())))),());
        Tr.fin (.ret ((r0.1.1,()),())))
        (let r1:=b31_4 ((x0,(x1,(x2,((0:Int),())))),());
        Tr.fin (.again ((r1.1.1,(r1.1.2.1,((wrap64 (r1.1.2.2.1 + (1:Int)):Int),()))),()))))
      (Tr.stop))
    (Tr.fin (.brk ((x1,()),())))

def s31_2 (d:sh31_2.data):Option (Out sh31_2.data shb31_2.data shr31_2.data):=(t31_2 d.1.1 d.1.2.1 d.1.2.2.1).val
def l31_2 (d:sh31_2.data):Option (shb31_2.data ⊕ shr31_2.data):=itr s31_2 rounds d
def b31_2 (d:sh31_2.data):shb31_2.data:=outB shb31_2.dflt (l31_2 d)
def r31_2 (d:sh31_2.data):shr31_2.data:=outR shr31_2.dflt (l31_2 d)
def lc31_2:LoopC:=lcOf sh31_2 shb31_2 shr31_2 l31_2 b31_2 r31_2

theorem wk31_2 (x0:(List (List Int))) (x1:Int) (x2:Int):Walks (runBody (kl31_4 Go.Proofs.Tryz.prog).orc Go.Proofs.Tryz.prog 400 31 2 sh31_2 shb31_2 shr31_2 ((x0,x1,x2,()),())) (t31_2 x0 x1 x2) [([true,true,true],[2,4,6]),([true,true,false],[2,4,6]),([ff],[2])] :=
  ⟨by kernel_rfl,by kernel_rfl,by kernel_rfl,trivial⟩

theorem ok31_2_t (x0:(List (List Int))) (x1:Int) (x2:Int):TrOk (BodyRuns Go.Proofs.Tryz.prog (kl31_4 Go.Proofs.Tryz.prog).orc 31 2 sh31_2 shb31_2 shr31_2 ((x0,x1,x2,()),())) (t31_2 x0 x1 x2) :=
  Walks.ok (fun _ _ _=>BodyRuns.of) (wk31_2 x0 x1 x2) (by kernel_rfl)

theorem ok31_2:LoopOk Go.Proofs.Tryz.prog 31 2 lc31_2:=loopOk_of (sh:=sh31_2) (shB:=shb31_2) (shR:=shr31_2) kl31_4_ok.base (T:=fun (d:sh31_2.data)=>t31_2 d.1.1 d.1.2.1 d.1.2.2.1) (by kernel_rfl) rfl (fun (d:sh31_2.data)=>ok31_2_t d.1.1 d.1.2.1 d.1.2.2.1) (fun _=>rfl)
def kl31_2 (P:Go.Program):Known:=(kl31_4 P).loop 31 2 lc31_2
theorem kl31_2_ok:KnownOk Go.Proofs.Tryz.prog (kl31_2 Go.Proofs.Tryz.prog):=kl31_4_ok.loop ok31_2

/-! ductility/ductilityref07.ImageErr -/

abbrev as31:List Ty:=[(.slice (.slice (.int .i64)))]
abbrev rs31:List Ty:=[(.int .i64)]

def t31 (x0:(List (List Int))):Tr (Tys.data rs31) :=
  Tr.test ((eqF (↑(List.length x0):Int) (0:Int):Bool))
    (Tr.fin (((10:Int),())))
    (Tr.test (true && decide ((0:Int) < (↑(List.length x0):Int)))
      (Tr.test ((eqF (↑(List.length (List.getD x0 (0:Nat) [])):Int) (0:Int):Bool))
        (Tr.fin (((10:Int),())))
        (Tr.test (Option.isSome (l31_0 ((x0,((0:Int),())),())))
          (Tr.test (isRet (l31_0 ((x0,((0:Int),())),())))
            (let r0:=r31_0 ((x0,((0:Int),())),());
            Tr.fin ((r0.1.1,())))
            (let r1:=b31_0 ((x0,((0:Int),())),());
            Tr.test ((!leF (↑(List.length r1.1.1):Int) (10:Int):Bool))
              (Tr.fin (((8:Int),())))
              (Tr.test ((true && decide ((0:Int) < (↑(List.length r1.1.1):Int)):Bool))
                (Tr.test ((!leF (↑(List.length (List.getD r1.1.1 (0:Nat) [])):Int) (10:Int):Bool))
                  (Tr.fin (((8:Int),())))
                  (Tr.test (Option.isSome (l31_2 ((r1.1.1,((0:Int),((0:Int),()))),())))
                    (Tr.test (isRet (l31_2 ((r1.1.1,((0:Int),((0:Int),()))),())))
                      (let r2:=r31_2 ((r1.1.1,((0:Int),((0:Int),()))),());
                      Tr.fin ((r2.1.1,())))
                      (let r3:=b31_2 ((r1.1.1,((0:Int),((0:Int),()))),());
                      Tr.test ((eqF r3.1.1 0:Bool))
                        (Tr.fin (((11:Int),())))
                        (Tr.fin (((0:Int),())))))
                    (Tr.stop)))
                (Tr.stop))))
          (Tr.stop)))
      (Tr.stop))

def f31 (d:Tys.data as31):Option (Tys.data rs31):=(t31 d.1).val
def g31 (d:Tys.data as31):Tys.data rs31:=(f31 d).getD (Tys.dflt rs31)
def p31:PureC:=pcOf as31 rs31 f31 g31

theorem wk31 (x0:(List (List Int))):Walks (runPure (kl31_2 Go.Proofs.Tryz.prog).orc Go.Proofs.Tryz.prog 400 31 as31 rs31 (x0,())) (t31 x0) [([tt],[1,2,2,2,2,2,2]),([false,true,true],[2,6,6,6,6,4,6,6]),([false,true,false,true,true],[2,4,6,10,10,10,10,8,10,10]),([false,true,false,true,false,true],[1,2,2,2,2,2,2,4,6,8,12,12,12,12,10,12,12]),([false,true,false,true,false,false,true,true],[2,6,6,6,6,4,6,6,8,10,12,16,16,16,16,14,16,16]),([false,true,false,true,false,false,true,false,true,true],[2,4,6,10,10,10,10,8,10,10,12,14,16,20,20,20,20,18,20,20]),([false,true,false,true,false,false,true,false,true,false,true],[2,4,6,8,12,12,12,12,10,12,12,14,16,18,22,22,22,22,20,22,22]),([false,true,false,true,false,false,true,false,true,false,false],[2,4,6,8,12,12,12,12,10,12,12,14,16,18,22,22,22,22,20,22,22])] :=
  ⟨by kernel_rfl,by kernel_rfl,by kernel_rfl,by kernel_rfl,by kernel_rfl,by kernel_rfl,by kernel_rfl,by kernel_rfl,trivial⟩

theorem ok31_t (x0:(List (List Int))):TrOk (PureRuns Go.Proofs.Tryz.prog (kl31_2 Go.Proofs.Tryz.prog).orc 31 as31 rs31 (x0,())) (t31 x0) :=
  Walks.ok (fun _ _ _=>PureRuns.of) (wk31 x0) (by kernel_rfl)

theorem ok31:PureOk Go.Proofs.Tryz.prog 31 p31:=pureOk_of kl31_2_ok.base (T:=fun (d:Tys.data as31)=>t31 d.1) (by kernel_rfl) (fun (d:Tys.data as31)=>ok31_t d.1)
def kf31 (P:Go.Program):Known:=(kl31_2 P).func 31 p31
theorem kf31_ok:KnownOk Go.Proofs.Tryz.prog (kf31 Go.Proofs.Tryz.prog):=kl31_2_ok.func ok31

/-! loop 0 of ductility/ductilitybase.trimmed -/

abbrev sh122_0:Sh:={ n:=21,slots:=[0,3],pats:=[.ty (.slice (.int .i64)),.ty (.int .i64)],boxes:=[] }
abbrev shb122_0:Sh:={ n:=21,slots:=[0,3],pats:=[.ty (.slice (.int .i64)),.ty (.int .i64)],boxes:=[] }
abbrev shr122_0:Sh:={ n:=21,slots:=[],pats:=[],boxes:=[] }

def t122_0 (x0:(List Int)) (x1:Int):Tr (Out sh122_0.data shb122_0.data shr122_0.data) :=
  Tr.test ((!leF x1 0:Bool))
    (Tr.test (decide ((0:Int) ≤ wrap64 (x1 - (1:Int))) && decide (wrap64 (x1 - (1:Int)) < (↑(List.length x0):Int)))
      (Tr.test ((eqF (List.getD x0 (Int.toNat (wrap64 (x1 - (1:Int)))) (0:Int)) (0:Int):Bool))
        (Tr.fin (.again ((x0,((wrap64 (x1 - (1:Int)):Int),())),())))
        (Tr.fin (.brk ((x0,(x1,())),()))))
      (Tr.stop))
    (Tr.fin (.brk ((x0,(x1,())),())))

def s122_0 (d:sh122_0.data):Option (Out sh122_0.data shb122_0.data shr122_0.data):=(t122_0 d.1.1 d.1.2.1).val
def l122_0 (d:sh122_0.data):Option (shb122_0.data ⊕ shr122_0.data):=itr s122_0 rounds d
def b122_0 (d:sh122_0.data):shb122_0.data:=outB shb122_0.dflt (l122_0 d)
def lc122_0:LoopC:=lcB sh122_0 shb122_0 shr122_0 l122_0 b122_0

theorem wk122_0 (x0:(List Int)) (x1:Int):Walks (runBody (kf31 Go.Proofs.Tryz.prog).orc Go.Proofs.Tryz.prog 400 122 0 sh122_0 shb122_0 shr122_0 ((x0,x1,()),())) (t122_0 x0 x1) [([true,true,true],[2,6,6,6,4,6,6,6,6]),([true,true,false],[2,6,6,6,4,6,6,6,6]),([ff],[0,2,2,2,2,2,2,2])] :=
  ⟨by kernel_rfl,by kernel_rfl,by kernel_rfl,trivial⟩

theorem ok122_0_t (x0:(List Int)) (x1:Int):TrOk (BodyRuns Go.Proofs.Tryz.prog (kf31 Go.Proofs.Tryz.prog).orc 122 0 sh122_0 shb122_0 shr122_0 ((x0,x1,()),())) (t122_0 x0 x1) :=
  Walks.ok (fun _ _ _=>BodyRuns.of) (wk122_0 x0 x1) (by kernel_rfl)

theorem ok122_0:LoopOk Go.Proofs.Tryz.prog 122 0 lc122_0:=loopOk_ofB (sh:=sh122_0) (shB:=shb122_0) (shR:=shr122_0) kf31_ok.base (T:=fun (d:sh122_0.data)=>t122_0 d.1.1 d.1.2.1) (by kernel_rfl) rfl (fun (d:sh122_0.data)=>ok122_0_t d.1.1 d.1.2.1) (fun _=>rfl)
def kl122_0 (P:Go.Program):Known:=(kf31 P).loop 122 0 lc122_0
theorem kl122_0_ok:KnownOk Go.Proofs.Tryz.prog (kl122_0 Go.Proofs.Tryz.prog):=kf31_ok.loop ok122_0

/-! ductility/ductilitybase.trimmed -/

abbrev as122:List Ty:=[(.slice (.int .i64))]
abbrev rs122:List Ty:=[(.slice (.int .i64))]

def t122 (x0:(List Int)):Tr (Tys.data rs122) :=
  Tr.test (isBrk (l122_0 ((x0,((↑(List.length x0):Int),())),())))
    (let r0:=b122_0 ((x0,((↑(List.length x0):Int),())),());
    Tr.test ((decide ((0:Int) ≤ r0.1.2.1) && decide (r0.1.2.1 ≤ (↑(List.length r0.1.1):Int)):Bool))
      (Tr.fin (((List.take (Int.toNat r0.1.2.1) r0.1.1:List Int),())))
      (Tr.stop))
    (Tr.stop)

def f122 (d:Tys.data as122):Option (Tys.data rs122):=(t122 d.1).val
def g122 (d:Tys.data as122):Tys.data rs122:=(f122 d).getD (Tys.dflt rs122)
def p122:PureC:=pcOf as122 rs122 f122 g122

theorem wk122 (x0:(List Int)):Walks (runPure (kl122_0 Go.Proofs.Tryz.prog).orc Go.Proofs.Tryz.prog 400 122 as122 rs122 (x0,())) (t122 x0) [([true,true],[2,1,4])] :=
  ⟨by kernel_rfl,trivial⟩

theorem ok122_t (x0:(List Int)):TrOk (PureRuns Go.Proofs.Tryz.prog (kl122_0 Go.Proofs.Tryz.prog).orc 122 as122 rs122 (x0,())) (t122 x0) :=
  Walks.ok (fun _ _ _=>PureRuns.of) (wk122 x0) (by kernel_rfl)

theorem ok122:PureOk Go.Proofs.Tryz.prog 122 p122:=pureOk_of kl122_0_ok.base (T:=fun (d:Tys.data as122)=>t122 d.1) (by kernel_rfl) (fun (d:Tys.data as122)=>ok122_t d.1)
def kf122 (P:Go.Program):Known:=(kl122_0 P).func 122 p122
theorem kf122_ok:KnownOk Go.Proofs.Tryz.prog (kf122 Go.Proofs.Tryz.prog):=kl122_0_ok.func ok122

/-! ductility/ductilitybase.wideOf -/

abbrev as100:List Ty:=[(.int .i64),(.slice (.int .i64))]
abbrev rs100:List Ty:=[(.pair (.int .i64) (.pair (.slice (.int .i64)) .unit))]

def t100 (x0:Int) (x1:(List Int)):Tr (Tys.data rs100) :=
  Tr.test (Option.isSome (f122 (x1,())))
    (let r0:=g122 (x1,());
    Tr.test ((eqF (↑(List.length r0.1):Int) (0:Int):Bool))
      (Tr.fin ((((0:Int),(r0.1,())),())))
      (Tr.fin (((x0,(r0.1,())),()))))
    (Tr.stop)

def f100 (d:Tys.data as100):Option (Tys.data rs100):=(t100 d.1 d.2.1).val
def g100 (d:Tys.data as100):Tys.data rs100:=(f100 d).getD (Tys.dflt rs100)
def p100:PureC:=pcOf as100 rs100 f100 g100

theorem wk100 (x0:Int) (x1:(List Int)):Walks (runPure (kf122 Go.Proofs.Tryz.prog).orc Go.Proofs.Tryz.prog 400 100 as100 rs100 (x0,x1,())) (t100 x0 x1) [([true,true],[2,4]),([true,false],[2,4])] :=
  ⟨by kernel_rfl,by kernel_rfl,trivial⟩

theorem ok100_t (x0:Int) (x1:(List Int)):TrOk (PureRuns Go.Proofs.Tryz.prog (kf122 Go.Proofs.Tryz.prog).orc 100 as100 rs100 (x0,x1,())) (t100 x0 x1) :=
  Walks.ok (fun _ _ _=>PureRuns.of) (wk100 x0 x1) (by kernel_rfl)

theorem ok100:PureOk Go.Proofs.Tryz.prog 100 p100:=pureOk_of kf122_ok.base (T:=fun (d:Tys.data as100)=>t100 d.1 d.2.1) (by kernel_rfl) (fun (d:Tys.data as100)=>ok100_t d.1 d.2.1)
def kf100 (P:Go.Program):Known:=(kf122 P).func 100 p100
theorem kf100_ok:KnownOk Go.Proofs.Tryz.prog (kf100 Go.Proofs.Tryz.prog):=kf122_ok.func ok100

/-! loop 0 of ductility/ductilitybase.WideOf -/

abbrev sh98_0:Sh:={ n:=20,slots:=[0,2,3,4],pats:=[.ty (.int .i64),.ptr 0 2 0,.ty (.int .i64),.acc (.int .i64)],boxes:=[.row [.ty (.int .i64),.nil]] }
abbrev shb98_0:Sh:={ n:=20,slots:=[2,3,4],pats:=[.ptr 0 2 0,.ty (.int .i64),.acc (.int .i64)],boxes:=[.row [.ty (.int .i64),.nil]] }
abbrev shr98_0:Sh:={ n:=20,slots:=[],pats:=[],boxes:=[.row [.ty (.int .i64),.nil]] }

def t98_0 (x0:Int) (x2:Int) (x3:(List Int)) (b0_0:Int):Tr (Out sh98_0.data shb98_0.data shr98_0.data) :=
  Tr.test ((!eqF x0 0:Bool))
    (Tr.test (Option.isSome (f21 ((Int.tmod x0 (1000000000:Int):Int),())))
      (Tr.test ((Nat.ble (((2:Nat) * (List.length x3 + (1:Nat)) + (192:Nat)) * (8:Nat)) (281474976710656:Nat) && Nat.ble (List.length x3 + (1:Nat)) (281474976710656:Nat):Bool))
        (let r0:=g21 ((Int.tmod x0 (1000000000:Int):Int),());
        Tr.fin (.again (((Go.IntKind.wrap Go.IntKind.i64 (Int.tdiv x0 (1000000000:Int)):Int),(x2,((x3++[r0.1]:List Int),()))),((b0_0,()),()))))
        (Tr.stop))
      (Tr.stop))
    (Tr.fin (.brk ((x2,(x3,())),((b0_0,()),()))))

def s98_0 (d:sh98_0.data):Option (Out sh98_0.data shb98_0.data shr98_0.data):=(t98_0 d.1.1 d.1.2.1 d.1.2.2.1 d.2.1.1).val
def l98_0 (d:sh98_0.data):Option (shb98_0.data ⊕ shr98_0.data):=itr s98_0 rounds d
def b98_0 (d:sh98_0.data):shb98_0.data:=outB shb98_0.dflt (l98_0 d)
def lc98_0:LoopC:=lcB sh98_0 shb98_0 shr98_0 l98_0 b98_0

theorem wk98_0 (x0:Int) (x2:Int) (x3:(List Int)) (b0_0:Int):Walks (runBody (kf100 Go.Proofs.Tryz.prog).orc Go.Proofs.Tryz.prog 400 98 0 sh98_0 shb98_0 shr98_0 ((x0,x2,x3,()),(b0_0,()),())) (t98_0 x0 x2 x3 b0_0) [([true,true,true],[0,1,2,0,4,0,6]),([ff],[2])] :=
  ⟨by kernel_rfl,by kernel_rfl,trivial⟩

theorem ok98_0_t (x0:Int) (x2:Int) (x3:(List Int)) (b0_0:Int):TrOk (BodyRuns Go.Proofs.Tryz.prog (kf100 Go.Proofs.Tryz.prog).orc 98 0 sh98_0 shb98_0 shr98_0 ((x0,x2,x3,()),(b0_0,()),())) (t98_0 x0 x2 x3 b0_0) :=
  Walks.ok (fun _ _ _=>BodyRuns.of) (wk98_0 x0 x2 x3 b0_0) (by kernel_rfl)

theorem ok98_0:LoopOk Go.Proofs.Tryz.prog 98 0 lc98_0:=loopOk_ofB (sh:=sh98_0) (shB:=shb98_0) (shR:=shr98_0) kf100_ok.base (T:=fun (d:sh98_0.data)=>t98_0 d.1.1 d.1.2.1 d.1.2.2.1 d.2.1.1) (by kernel_rfl) rfl (fun (d:sh98_0.data)=>ok98_0_t d.1.1 d.1.2.1 d.1.2.2.1 d.2.1.1) (fun _=>rfl)
def kl98_0 (P:Go.Program):Known:=(kf100 P).loop 98 0 lc98_0
theorem kl98_0_ok:KnownOk Go.Proofs.Tryz.prog (kl98_0 Go.Proofs.Tryz.prog):=kf100_ok.loop ok98_0

/-! ductility/ductilitybase.WideOf -/

abbrev as98:List Ty:=[(.int .i64)]
abbrev rs98:List Ty:=[(.pair (.int .i64) (.pair (.slice (.int .i64)) .unit))]

def t98 (x0:Int):Tr (Tys.data rs98) :=
  Tr.test ((!leF (0:Int) x0:Bool))
    (Tr.test (isBrk (l98_0 ((x0,((-1:Int),(([]:List Int),()))),(((0:Int),()),()))))
      (let r0:=b98_0 ((x0,((-1:Int),(([]:List Int),()))),(((0:Int),()),()));
      Tr.test (Option.isSome (f100 (r0.1.1,(r0.1.2.1,()))))
        (let r1:=g100 (r0.1.1,(r0.1.2.1,()));
        Tr.fin (((r1.1.1,(r1.1.2.1,())),())))
        (Tr.stop))
      (Tr.stop))
    (Tr.test (isBrk (l98_0 ((x0,((1:Int),(([]:List Int),()))),(((0:Int),()),()))))
      (let r2:=b98_0 ((x0,((1:Int),(([]:List Int),()))),(((0:Int),()),()));
      Tr.test (Option.isSome (f100 (r2.1.1,(r2.1.2.1,()))))
        (let r3:=g100 (r2.1.1,(r2.1.2.1,()));
        Tr.fin (((r3.1.1,(r3.1.2.1,())),())))
        (Tr.stop))
      (Tr.stop))

def f98 (d:Tys.data as98):Option (Tys.data rs98):=(t98 d.1).val
def g98 (d:Tys.data as98):Tys.data rs98:=(f98 d).getD (Tys.dflt rs98)
def p98:PureC:=pcOf as98 rs98 f98 g98

theorem wk98 (x0:Int):Walks (runPure (kl98_0 Go.Proofs.Tryz.prog).orc Go.Proofs.Tryz.prog 400 98 as98 rs98 (x0,())) (t98 x0) [([true,true,true],[2,1,4,6]),([false,true,true],[2,1,4,6])] :=
  ⟨by kernel_rfl,by kernel_rfl,trivial⟩

theorem ok98_t (x0:Int):TrOk (PureRuns Go.Proofs.Tryz.prog (kl98_0 Go.Proofs.Tryz.prog).orc 98 as98 rs98 (x0,())) (t98 x0) :=
  Walks.ok (fun _ _ _=>PureRuns.of) (wk98 x0) (by kernel_rfl)

theorem ok98:PureOk Go.Proofs.Tryz.prog 98 p98:=pureOk_of kl98_0_ok.base (T:=fun (d:Tys.data as98)=>t98 d.1) (by kernel_rfl) (fun (d:Tys.data as98)=>ok98_t d.1)
def kf98 (P:Go.Program):Known:=(kl98_0 P).func 98 p98
theorem kf98_ok:KnownOk Go.Proofs.Tryz.prog (kf98 Go.Proofs.Tryz.prog):=kl98_0_ok.func ok98

/-! ductility/ductilitybase.WideSign -/

abbrev as70:List Ty:=[(.pair (.int .i64) (.pair (.slice (.int .i64)) .unit))]
abbrev rs70:List Ty:=[(.int .i64)]

def t70 (x0:Int) (x0':(List Int)):Tr (Tys.data rs70) :=
  Tr.fin ((x0,()))

def f70 (d:Tys.data as70):Option (Tys.data rs70):=(t70 d.1.1 d.1.2.1).val
def g70 (d:Tys.data as70):Tys.data rs70:=(f70 d).getD (Tys.dflt rs70)
def p70:PureC:=pcOf as70 rs70 f70 g70

theorem wk70 (x0:Int) (x0':(List Int)):Walks (runPure (kf98 Go.Proofs.Tryz.prog).orc Go.Proofs.Tryz.prog 400 70 as70 rs70 ((x0,x0',()),())) (t70 x0 x0') [([],[])] :=
  ⟨by kernel_rfl,trivial⟩

theorem ok70_t (x0:Int) (x0':(List Int)):TrOk (PureRuns Go.Proofs.Tryz.prog (kf98 Go.Proofs.Tryz.prog).orc 70 as70 rs70 ((x0,x0',()),())) (t70 x0 x0') :=
  Walks.ok (fun _ _ _=>PureRuns.of) (wk70 x0 x0') (by kernel_rfl)

theorem ok70:PureOk Go.Proofs.Tryz.prog 70 p70:=pureOk_of kf98_ok.base (T:=fun (d:Tys.data as70)=>t70 d.1.1 d.1.2.1) (by kernel_rfl) (fun (d:Tys.data as70)=>ok70_t d.1.1 d.1.2.1)
def kf70 (P:Go.Program):Known:=(kf98 P).func 70 p70
theorem kf70_ok:KnownOk Go.Proofs.Tryz.prog (kf70 Go.Proofs.Tryz.prog):=kf98_ok.func ok70

/-! ductility/ductilitybase.WideNeg -/

abbrev as117:List Ty:=[(.pair (.int .i64) (.pair (.slice (.int .i64)) .unit))]
abbrev rs117:List Ty:=[(.pair (.int .i64) (.pair (.slice (.int .i64)) .unit))]

def t117 (x0:Int) (x0':(List Int)):Tr (Tys.data rs117) :=
  Tr.fin ((((Go.IntKind.wrap Go.IntKind.i64 ((0:Int) - x0):Int),(x0',())),()))

def f117 (d:Tys.data as117):Option (Tys.data rs117):=(t117 d.1.1 d.1.2.1).val
def g117 (d:Tys.data as117):Tys.data rs117:=(f117 d).getD (Tys.dflt rs117)
def p117:PureC:=pcOf as117 rs117 f117 g117

theorem wk117 (x0:Int) (x0':(List Int)):Walks (runPure (kf70 Go.Proofs.Tryz.prog).orc Go.Proofs.Tryz.prog 400 117 as117 rs117 ((x0,x0',()),())) (t117 x0 x0') [([],[])] :=
  ⟨by kernel_rfl,trivial⟩

theorem ok117_t (x0:Int) (x0':(List Int)):TrOk (PureRuns Go.Proofs.Tryz.prog (kf70 Go.Proofs.Tryz.prog).orc 117 as117 rs117 ((x0,x0',()),())) (t117 x0 x0') :=
  Walks.ok (fun _ _ _=>PureRuns.of) (wk117 x0 x0') (by kernel_rfl)

theorem ok117:PureOk Go.Proofs.Tryz.prog 117 p117:=pureOk_of kf70_ok.base (T:=fun (d:Tys.data as117)=>t117 d.1.1 d.1.2.1) (by kernel_rfl) (fun (d:Tys.data as117)=>ok117_t d.1.1 d.1.2.1)
def kf117 (P:Go.Program):Known:=(kf70 P).func 117 p117
theorem kf117_ok:KnownOk Go.Proofs.Tryz.prog (kf117 Go.Proofs.Tryz.prog):=kf70_ok.func ok117

/-! ductility/ductilitybase.wideSize -/

abbrev as132:List Ty:=[(.pair (.int .i64) (.pair (.slice (.int .i64)) .unit))]
abbrev rs132:List Ty:=[(.pair (.int .i64) (.pair (.slice (.int .i64)) .unit))]

def t132 (x0:Int) (x0':(List Int)):Tr (Tys.data rs132) :=
  Tr.test ((!leF (0:Int) x0:Bool))
    (Tr.test (Option.isSome (f117 ((x0,(x0',())),())))
      (let r0:=g117 ((x0,(x0',())),());
      Tr.fin (((r0.1.1,(r0.1.2.1,())),())))
      (Tr.stop))
    (Tr.fin (((x0,(x0',())),())))

def f132 (d:Tys.data as132):Option (Tys.data rs132):=(t132 d.1.1 d.1.2.1).val
def g132 (d:Tys.data as132):Tys.data rs132:=(f132 d).getD (Tys.dflt rs132)
def p132:PureC:=pcOf as132 rs132 f132 g132

theorem wk132 (x0:Int) (x0':(List Int)):Walks (runPure (kf117 Go.Proofs.Tryz.prog).orc Go.Proofs.Tryz.prog 400 132 as132 rs132 ((x0,x0',()),())) (t132 x0 x0') [([true,true],[2,4]),([ff],[2])] :=
  ⟨by kernel_rfl,by kernel_rfl,trivial⟩

theorem ok132_t (x0:Int) (x0':(List Int)):TrOk (PureRuns Go.Proofs.Tryz.prog (kf117 Go.Proofs.Tryz.prog).orc 132 as132 rs132 ((x0,x0',()),())) (t132 x0 x0') :=
  Walks.ok (fun _ _ _=>PureRuns.of) (wk132 x0 x0') (by kernel_rfl)

theorem ok132:PureOk Go.Proofs.Tryz.prog 132 p132:=pureOk_of kf117_ok.base (T:=fun (d:Tys.data as132)=>t132 d.1.1 d.1.2.1) (by kernel_rfl) (fun (d:Tys.data as132)=>ok132_t d.1.1 d.1.2.1)
def kf132 (P:Go.Program):Known:=(kf117 P).func 132 p132
theorem kf132_ok:KnownOk Go.Proofs.Tryz.prog (kf132 Go.Proofs.Tryz.prog):=kf117_ok.func ok132

/-! loop 2 of ductility/ductilitybase.WideMul -/

abbrev sh74_2:Sh:={ n:=86,slots:=[2,3,4,5,6,7,8],pats:=[.ptr 0 2 0,.ptr 1 2 0,.ptr 2 2 0,.sli 3 1,.ty (.int .i64),.ty (.int .i64),.ty (.int .i64)],boxes:=[.row [.ty (.int .i64),.ty (.slice (.int .i64))],.row [.ty (.int .i64),.ty (.slice (.int .i64))],.row [.ty (.int .i64),.nil],.arr (.int .i64)] }
abbrev shb74_2:Sh:={ n:=86,slots:=[2,3,4,5,6,7],pats:=[.ptr 0 2 0,.ptr 1 2 0,.ptr 2 2 0,.sli 3 1,.ty (.int .i64),.ty (.int .i64)],boxes:=[.row [.ty (.int .i64),.ty (.slice (.int .i64))],.row [.ty (.int .i64),.ty (.slice (.int .i64))],.row [.ty (.int .i64),.nil],.arr (.int .i64)] }
abbrev shr74_2:Sh:={ n:=86,slots:=[],pats:=[],boxes:=[.row [.ty (.int .i64),.ty (.slice (.int .i64))],.row [.ty (.int .i64),.ty (.slice (.int .i64))],.row [.ty (.int .i64),.nil],.arr (.int .i64)] }

def t74_2 (x3n:Nat) (x3c:Nat) (x4:Int) (x5:Int) (x6:Int) (b0_0:Int) (b0_1:(List Int)) (b1_0:Int) (b1_1:(List Int)) (b2_0:Int) (b3:(List Int)):Tr (Out sh74_2.data shb74_2.data shr74_2.data) :=
  Tr.test ((!leF (↑(List.length b1_1):Int) x6:Bool))
    (Tr.test (decide ((0:Int) ≤ wrap64 (x4 + x6)) && decide (wrap64 (x4 + x6) < (↑x3n:Int)))
      (Tr.test ((Nat.ble ((0:Nat) + Int.toNat (wrap64 (x4 + x6)) + (1:Nat)) (List.length b3):Bool))
        (Tr.test ((decide ((0:Int) ≤ x4) && decide (x4 < (↑(List.length b0_1):Int)):Bool))
          (Tr.test ((decide ((0:Int) ≤ x6) && decide (x6 < (↑(List.length b1_1):Int)):Bool))
            (Tr.fin (.again (((x3n,x3c),(x4,((Go.IntKind.wrap Go.IntKind.i64 (Int.tdiv (wrap64 (wrap64 (List.getD b3 ((0:Nat) + Int.toNat (wrap64 (x4 + x6))) (0:Int) + wrap64 (List.getD b0_1 (Int.toNat x4) (0:Int) * List.getD b1_1 (Int.toNat x6) (0:Int))) + x5)) (1000000000:Int)):Int),((wrap64 (x6 + (1:Int)):Int),())))),((b0_0,(b0_1,())),((b1_0,(b1_1,())),((b2_0,()),((List.set b3 ((0:Nat) + Int.toNat (wrap64 (x4 + x6))) (Int.tmod (wrap64 (wrap64 (List.getD b3 ((0:Nat) + Int.toNat (wrap64 (x4 + x6))) (0:Int) + wrap64 (List.getD b0_1 (Int.toNat x4) (0:Int) * List.getD b1_1 (Int.toNat x6) (0:Int))) + x5)) (1000000000:Int)):List Int),())))))))
            (Tr.stop))
          (Tr.stop))
        (Tr.stop))
      (Tr.stop))
    (Tr.fin (.brk (((x3n,x3c),(x4,(x5,()))),((b0_0,(b0_1,())),((b1_0,(b1_1,())),((b2_0,()),(b3,())))))))

def s74_2 (d:sh74_2.data):Option (Out sh74_2.data shb74_2.data shr74_2.data):=(t74_2 d.1.1.1 d.1.1.2 d.1.2.1 d.1.2.2.1 d.1.2.2.2.1 d.2.1.1 d.2.1.2.1 d.2.2.1.1 d.2.2.1.2.1 d.2.2.2.1.1 d.2.2.2.2.1).val
def l74_2 (d:sh74_2.data):Option (shb74_2.data ⊕ shr74_2.data):=itr s74_2 rounds d
def b74_2 (d:sh74_2.data):shb74_2.data:=outB shb74_2.dflt (l74_2 d)
def lc74_2:LoopC:=lcB sh74_2 shb74_2 shr74_2 l74_2 b74_2

theorem wk74_2 (x3n:Nat) (x3c:Nat) (x4:Int) (x5:Int) (x6:Int) (b0_0:Int) (b0_1:(List Int)) (b1_0:Int) (b1_1:(List Int)) (b2_0:Int) (b3:(List Int)):Walks (runBody (kf132 Go.Proofs.Tryz.prog).orc Go.Proofs.Tryz.prog 400 74 2 sh74_2 shb74_2 shr74_2 (((x3n,x3c),x4,x5,x6,()),(b0_0,b0_1,()),(b1_0,b1_1,()),(b2_0,()),b3,())) (t74_2 x3n x3c x4 x5 x6 b0_0 b0_1 b1_0 b1_1 b2_0 b3) [([true,true,true,true,true],[6,8,0,0,2,4,6,8,10]),([ff],[2])] :=
  ⟨by kernel_rfl,by kernel_rfl,trivial⟩

theorem ok74_2_t (x3n:Nat) (x3c:Nat) (x4:Int) (x5:Int) (x6:Int) (b0_0:Int) (b0_1:(List Int)) (b1_0:Int) (b1_1:(List Int)) (b2_0:Int) (b3:(List Int)):TrOk (BodyRuns Go.Proofs.Tryz.prog (kf132 Go.Proofs.Tryz.prog).orc 74 2 sh74_2 shb74_2 shr74_2 (((x3n,x3c),x4,x5,x6,()),(b0_0,b0_1,()),(b1_0,b1_1,()),(b2_0,()),b3,())) (t74_2 x3n x3c x4 x5 x6 b0_0 b0_1 b1_0 b1_1 b2_0 b3) :=
  Walks.ok (fun _ _ _=>BodyRuns.of) (wk74_2 x3n x3c x4 x5 x6 b0_0 b0_1 b1_0 b1_1 b2_0 b3) (by kernel_rfl)

theorem ok74_2:LoopOk Go.Proofs.Tryz.prog 74 2 lc74_2:=loopOk_ofB (sh:=sh74_2) (shB:=shb74_2) (shR:=shr74_2) kf132_ok.base (T:=fun (d:sh74_2.data)=>t74_2 d.1.1.1 d.1.1.2 d.1.2.1 d.1.2.2.1 d.1.2.2.2.1 d.2.1.1 d.2.1.2.1 d.2.2.1.1 d.2.2.1.2.1 d.2.2.2.1.1 d.2.2.2.2.1) (by kernel_rfl) rfl (fun (d:sh74_2.data)=>ok74_2_t d.1.1.1 d.1.1.2 d.1.2.1 d.1.2.2.1 d.1.2.2.2.1 d.2.1.1 d.2.1.2.1 d.2.2.1.1 d.2.2.1.2.1 d.2.2.2.1.1 d.2.2.2.2.1) (fun _=>rfl)
def kl74_2 (P:Go.Program):Known:=(kf132 P).loop 74 2 lc74_2
theorem kl74_2_ok:KnownOk Go.Proofs.Tryz.prog (kl74_2 Go.Proofs.Tryz.prog):=kf132_ok.loop ok74_2

/-! loop 0 of ductility/ductilitybase.WideMul -/

abbrev sh74_0:Sh:={ n:=86,slots:=[2,3,4,5,6],pats:=[.ptr 0 2 0,.ptr 1 2 0,.ptr 2 2 0,.sli 3 1,.ty (.int .i64)],boxes:=[.row [.ty (.int .i64),.ty (.slice (.int .i64))],.row [.ty (.int .i64),.ty (.slice (.int .i64))],.row [.ty (.int .i64),.nil],.arr (.int .i64)] }
abbrev shb74_0:Sh:={ n:=86,slots:=[2,3,4,5],pats:=[.ptr 0 2 0,.ptr 1 2 0,.ptr 2 2 0,.sli 3 1],boxes:=[.row [.ty (.int .i64),.ty (.slice (.int .i64))],.row [.ty (.int .i64),.ty (.slice (.int .i64))],.row [.ty (.int .i64),.nil],.arr (.int .i64)] }
abbrev shr74_0:Sh:={ n:=86,slots:=[],pats:=[],boxes:=[.row [.ty (.int .i64),.ty (.slice (.int .i64))],.row [.ty (.int .i64),.ty (.slice (.int .i64))],.row [.ty (.int .i64),.nil],.arr (.int .i64)] }

def t74_0 (x3n:Nat) (x3c:Nat) (x4:Int) (b0_0:Int) (b0_1:(List Int)) (b1_0:Int) (b1_1:(List Int)) (b2_0:Int) (b3:(List Int)):Tr (Out sh74_0.data shb74_0.data shr74_0.data) :=
  Tr.test ((!leF (↑(List.length b0_1):Int) x4:Bool))
    (Tr.test (isBrk (l74_2 (((x3n,x3c),(x4,((0:Int),((0:Int),())))),((b0_0,(b0_1,())),((b1_0,(b1_1,())),((b2_0,()),(b3,())))))))
      (let r0:=b74_2 (((x3n,x3c),(x4,((0:Int),((0:Int),())))),((b0_0,(b0_1,())),((b1_0,(b1_1,())),((b2_0,()),(b3,())))));
      Tr.test ((decide ((0:Int) ≤ wrap64 (r0.1.2.1 + (↑(List.length r0.2.2.1.2.1):Int))) && decide (wrap64 (r0.1.2.1 + (↑(List.length r0.2.2.1.2.1):Int)) < (↑r0.1.1.1:Int)):Bool))
        (Tr.test ((Nat.ble ((0:Nat) + Int.toNat (wrap64 (r0.1.2.1 + (↑(List.length r0.2.2.1.2.1):Int))) + (1:Nat)) (List.length r0.2.2.2.2.1):Bool))
          (Tr.fin (.again (((r0.1.1.1,r0.1.1.2),((wrap64 (r0.1.2.1 + (1:Int)):Int),())),((r0.2.1.1,(r0.2.1.2.1,())),((r0.2.2.1.1,(r0.2.2.1.2.1,())),((r0.2.2.2.1.1,()),((List.set r0.2.2.2.2.1 ((0:Nat) + Int.toNat (wrap64 (r0.1.2.1 + (↑(List.length r0.2.2.1.2.1):Int)))) (wrap64 (List.getD r0.2.2.2.2.1 ((0:Nat) + Int.toNat (wrap64 (r0.1.2.1 + (↑(List.length r0.2.2.1.2.1):Int)))) (0:Int) + r0.1.2.2.1)):List Int),())))))))
          (Tr.stop))
        (Tr.stop))
      (Tr.stop))
    (Tr.fin (.brk (((x3n,x3c),()),((b0_0,(b0_1,())),((b1_0,(b1_1,())),((b2_0,()),(b3,())))))))

def s74_0 (d:sh74_0.data):Option (Out sh74_0.data shb74_0.data shr74_0.data):=(t74_0 d.1.1.1 d.1.1.2 d.1.2.1 d.2.1.1 d.2.1.2.1 d.2.2.1.1 d.2.2.1.2.1 d.2.2.2.1.1 d.2.2.2.2.1).val
def l74_0 (d:sh74_0.data):Option (shb74_0.data ⊕ shr74_0.data):=itr s74_0 rounds d
def b74_0 (d:sh74_0.data):shb74_0.data:=outB shb74_0.dflt (l74_0 d)
def lc74_0:LoopC:=lcB sh74_0 shb74_0 shr74_0 l74_0 b74_0

theorem wk74_0 (x3n:Nat) (x3c:Nat) (x4:Int) (b0_0:Int) (b0_1:(List Int)) (b1_0:Int) (b1_1:(List Int)) (b2_0:Int) (b3:(List Int)):Walks (runBody (kl74_2 Go.Proofs.Tryz.prog).orc Go.Proofs.Tryz.prog 400 74 0 sh74_0 shb74_0 shr74_0 (((x3n,x3c),x4,()),(b0_0,b0_1,()),(b1_0,b1_1,()),(b2_0,()),b3,())) (t74_0 x3n x3c x4 b0_0 b0_1 b1_0 b1_1 b2_0 b3) [([true,true,true,true],[2,4,2,4,1,6,8]),([ff],[2])] :=
  ⟨by kernel_rfl,by kernel_rfl,trivial⟩

theorem ok74_0_t (x3n:Nat) (x3c:Nat) (x4:Int) (b0_0:Int) (b0_1:(List Int)) (b1_0:Int) (b1_1:(List Int)) (b2_0:Int) (b3:(List Int)):TrOk (BodyRuns Go.Proofs.Tryz.prog (kl74_2 Go.Proofs.Tryz.prog).orc 74 0 sh74_0 shb74_0 shr74_0 (((x3n,x3c),x4,()),(b0_0,b0_1,()),(b1_0,b1_1,()),(b2_0,()),b3,())) (t74_0 x3n x3c x4 b0_0 b0_1 b1_0 b1_1 b2_0 b3) :=
  Walks.ok (fun _ _ _=>BodyRuns.of) (wk74_0 x3n x3c x4 b0_0 b0_1 b1_0 b1_1 b2_0 b3) (by kernel_rfl)

theorem ok74_0:LoopOk Go.Proofs.Tryz.prog 74 0 lc74_0:=loopOk_ofB (sh:=sh74_0) (shB:=shb74_0) (shR:=shr74_0) kl74_2_ok.base (T:=fun (d:sh74_0.data)=>t74_0 d.1.1.1 d.1.1.2 d.1.2.1 d.2.1.1 d.2.1.2.1 d.2.2.1.1 d.2.2.1.2.1 d.2.2.2.1.1 d.2.2.2.2.1) (by kernel_rfl) rfl (fun (d:sh74_0.data)=>ok74_0_t d.1.1.1 d.1.1.2 d.1.2.1 d.2.1.1 d.2.1.2.1 d.2.2.1.1 d.2.2.1.2.1 d.2.2.2.1.1 d.2.2.2.2.1) (fun _=>rfl)
def kl74_0 (P:Go.Program):Known:=(kl74_2 P).loop 74 0 lc74_0
theorem kl74_0_ok:KnownOk Go.Proofs.Tryz.prog (kl74_0 Go.Proofs.Tryz.prog):=kl74_2_ok.loop ok74_0

/-! ductility/ductilitybase.WideMul -/

abbrev as74:List Ty:=[(.pair (.int .i64) (.pair (.slice (.int .i64)) .unit)),(.pair (.int .i64) (.pair (.slice (.int .i64)) .unit))]
abbrev rs74:List Ty:=[(.pair (.int .i64) (.pair (.slice (.int .i64)) .unit))]

def t74 (x0:Int) (x0':(List Int)) (x1:Int) (x1':(List Int)):Tr (Tys.data rs74) :=
  Tr.test ((decide ((0:Int) ≤ wrap64 (wrap64 ((↑(List.length x0'):Int) + (↑(List.length x1'):Int)) + (1:Int))) && decide (wrap64 (wrap64 ((↑(List.length x0'):Int) + (↑(List.length x1'):Int)) + (1:Int)) ≤ wrap64 (wrap64 ((↑(List.length x0'):Int) + (↑(List.length x1'):Int)) + (1:Int))) && decide ((8:Int) * wrap64 (wrap64 ((↑(List.length x0'):Int) + (↑(List.length x1'):Int)) + (1:Int)) ≤ (281474976710656:Int)) && decide (wrap64 (wrap64 ((↑(List.length x0'):Int) + (↑(List.length x1'):Int)) + (1:Int)) ≤ (281474976710656:Int)):Bool))
    (Tr.test (isBrk (l74_0 ((((Int.toNat (wrap64 (wrap64 ((↑(List.length x0'):Int) + (↑(List.length x1'):Int)) + (1:Int))):Nat),(Int.toNat (wrap64 (wrap64 ((↑(List.length x0'):Int) + (↑(List.length x1'):Int)) + (1:Int))):Nat)),((0:Int),())),((x0,(x0',())),((x1,(x1',())),(((0:Int),()),((List.replicate (Int.toNat (wrap64 (wrap64 ((↑(List.length x0'):Int) + (↑(List.length x1'):Int)) + (1:Int)))) (0:Int):List Int),())))))))
      (let r0:=b74_0 ((((Int.toNat (wrap64 (wrap64 ((↑(List.length x0'):Int) + (↑(List.length x1'):Int)) + (1:Int))):Nat),(Int.toNat (wrap64 (wrap64 ((↑(List.length x0'):Int) + (↑(List.length x1'):Int)) + (1:Int))):Nat)),((0:Int),())),((x0,(x0',())),((x1,(x1',())),(((0:Int),()),((List.replicate (Int.toNat (wrap64 (wrap64 ((↑(List.length x0'):Int) + (↑(List.length x1'):Int)) + (1:Int)))) (0:Int):List Int),())))));
      Tr.test ((Nat.beq r0.1.1.1 (List.length r0.2.2.2.2.1):Bool))
        (Tr.test (Option.isSome (f100 ((wrap64 (r0.2.1.1 * r0.2.2.1.1):Int),(r0.2.2.2.2.1,()))))
          (let r1:=g100 ((wrap64 (r0.2.1.1 * r0.2.2.1.1):Int),(r0.2.2.2.2.1,()));
          Tr.fin (((r1.1.1,(r1.1.2.1,())),())))
          (Tr.stop))
        (Tr.test ((Nat.ble r0.1.1.1 (List.length r0.2.2.2.2.1):Bool))
          (Tr.test (Option.isSome (f100 ((wrap64 (r0.2.1.1 * r0.2.2.1.1):Int),((List.take r0.1.1.1 r0.2.2.2.2.1:List Int),()))))
            (let r2:=g100 ((wrap64 (r0.2.1.1 * r0.2.2.1.1):Int),((List.take r0.1.1.1 r0.2.2.2.2.1:List Int),()));
            Tr.fin (((r2.1.1,(r2.1.2.1,())),())))
            (Tr.stop))
          (Tr.stop /- a known call [op 6 of region 12 of F74] -/)))
      (Tr.stop))
    (Tr.stop)

def f74 (d:Tys.data as74):Option (Tys.data rs74):=(t74 d.1.1 d.1.2.1 d.2.1.1 d.2.1.2.1).val
def g74 (d:Tys.data as74):Tys.data rs74:=(f74 d).getD (Tys.dflt rs74)
def p74:PureC:=pcOf as74 rs74 f74 g74

theorem wk74 (x0:Int) (x0':(List Int)) (x1:Int) (x1':(List Int)):Walks (runPure (kl74_0 Go.Proofs.Tryz.prog).orc Go.Proofs.Tryz.prog 400 74 as74 rs74 ((x0,x0',()),(x1,x1',()),())) (t74 x0 x0' x1 x1') [([true,true,true,true],[2,4,1,6,8]),([true,true,false,true,true],[2,4,6,1,8,10])] :=
  ⟨by kernel_rfl,by kernel_rfl,trivial⟩

theorem ok74_t (x0:Int) (x0':(List Int)) (x1:Int) (x1':(List Int)):TrOk (PureRuns Go.Proofs.Tryz.prog (kl74_0 Go.Proofs.Tryz.prog).orc 74 as74 rs74 ((x0,x0',()),(x1,x1',()),())) (t74 x0 x0' x1 x1') :=
  Walks.ok (fun _ _ _=>PureRuns.of) (wk74 x0 x0' x1 x1') (by kernel_rfl)

theorem ok74:PureOk Go.Proofs.Tryz.prog 74 p74:=pureOk_of kl74_0_ok.base (T:=fun (d:Tys.data as74)=>t74 d.1.1 d.1.2.1 d.2.1.1 d.2.1.2.1) (by kernel_rfl) (fun (d:Tys.data as74)=>ok74_t d.1.1 d.1.2.1 d.2.1.1 d.2.1.2.1)
def kf74 (P:Go.Program):Known:=(kl74_0 P).func 74 p74
theorem kf74_ok:KnownOk Go.Proofs.Tryz.prog (kf74 Go.Proofs.Tryz.prog):=kl74_0_ok.func ok74

/-! loop 0 of ductility/ductilitybase.cmpDigits -/

abbrev sh119_0:Sh:={ n:=41,slots:=[0,1,5],pats:=[.ty (.slice (.int .i64)),.ty (.slice (.int .i64)),.ty (.int .i64)],boxes:=[] }
abbrev shb119_0:Sh:={ n:=41,slots:=[],pats:=[],boxes:=[] }
abbrev shr119_0:Sh:={ n:=41,slots:=[4],pats:=[.ty (.int .i64)],boxes:=[] }

def t119_0 (x0:(List Int)) (x1:(List Int)) (x2:Int):Tr (Out sh119_0.data shb119_0.data shr119_0.data) :=
  Tr.test ((leF (0:Int) x2:Bool))
    (Tr.test (decide ((0:Int) ≤ x2) && decide (x2 < (↑(List.length x0):Int)))
      (Tr.test ((decide ((0:Int) ≤ x2) && decide (x2 < (↑(List.length x1):Int)):Bool))
        (Tr.test ((!leF (List.getD x1 (Int.toNat x2) (0:Int)) (List.getD x0 (Int.toNat x2) (0:Int)):Bool))
          (Tr.fin (.ret (((-1:Int),()),())))
          (Tr.test ((!leF (List.getD x0 (Int.toNat x2) (0:Int)) (List.getD x1 (Int.toNat x2) (0:Int)):Bool))
            (Tr.fin (.ret (((1:Int),()),())))
            (Tr.fin (.again ((x0,(x1,((wrap64 (x2 - (1:Int)):Int),()))),())))))
        (Tr.stop))
      (Tr.stop))
    (Tr.fin (.brk ((),())))

def s119_0 (d:sh119_0.data):Option (Out sh119_0.data shb119_0.data shr119_0.data):=(t119_0 d.1.1 d.1.2.1 d.1.2.2.1).val
def l119_0 (d:sh119_0.data):Option (shb119_0.data ⊕ shr119_0.data):=itr s119_0 rounds d
def b119_0 (d:sh119_0.data):shb119_0.data:=outB shb119_0.dflt (l119_0 d)
def r119_0 (d:sh119_0.data):shr119_0.data:=outR shr119_0.dflt (l119_0 d)
def lc119_0:LoopC:=lcOf sh119_0 shb119_0 shr119_0 l119_0 b119_0 r119_0

theorem wk119_0 (x0:(List Int)) (x1:(List Int)) (x2:Int):Walks (runBody (kf74 Go.Proofs.Tryz.prog).orc Go.Proofs.Tryz.prog 400 119 0 sh119_0 shb119_0 shr119_0 ((x0,x1,x2,()),())) (t119_0 x0 x1 x2) [([true,true,true,true],[2,4,6,8]),([true,true,true,false,true],[2,6,8,4,6,8,10]),([true,true,true,false,false],[2,6,8,4,6,8,10]),([ff],[2])] :=
  ⟨by kernel_rfl,by kernel_rfl,by kernel_rfl,by kernel_rfl,trivial⟩

theorem ok119_0_t (x0:(List Int)) (x1:(List Int)) (x2:Int):TrOk (BodyRuns Go.Proofs.Tryz.prog (kf74 Go.Proofs.Tryz.prog).orc 119 0 sh119_0 shb119_0 shr119_0 ((x0,x1,x2,()),())) (t119_0 x0 x1 x2) :=
  Walks.ok (fun _ _ _=>BodyRuns.of) (wk119_0 x0 x1 x2) (by kernel_rfl)

theorem ok119_0:LoopOk Go.Proofs.Tryz.prog 119 0 lc119_0:=loopOk_of (sh:=sh119_0) (shB:=shb119_0) (shR:=shr119_0) kf74_ok.base (T:=fun (d:sh119_0.data)=>t119_0 d.1.1 d.1.2.1 d.1.2.2.1) (by kernel_rfl) rfl (fun (d:sh119_0.data)=>ok119_0_t d.1.1 d.1.2.1 d.1.2.2.1) (fun _=>rfl)
def kl119_0 (P:Go.Program):Known:=(kf74 P).loop 119 0 lc119_0
theorem kl119_0_ok:KnownOk Go.Proofs.Tryz.prog (kl119_0 Go.Proofs.Tryz.prog):=kf74_ok.loop ok119_0

/-! ductility/ductilitybase.cmpDigits -/

abbrev as119:List Ty:=[(.slice (.int .i64)),(.slice (.int .i64))]
abbrev rs119:List Ty:=[(.int .i64)]

def t119 (x0:(List Int)) (x1:(List Int)):Tr (Tys.data rs119) :=
  Tr.test ((!eqF (↑(List.length x0):Int) (↑(List.length x1):Int):Bool))
    (Tr.test (!leF (↑(List.length x1):Int) (↑(List.length x0):Int))
      (Tr.fin (((-1:Int),())))
      (Tr.fin (((1:Int),()))))
    (Tr.test (Option.isSome (l119_0 ((x0,(x1,((wrap64 ((↑(List.length x0):Int) - (1:Int)):Int),()))),())))
      (Tr.test (isRet (l119_0 ((x0,(x1,((wrap64 ((↑(List.length x0):Int) - (1:Int)):Int),()))),())))
        (let r0:=r119_0 ((x0,(x1,((wrap64 ((↑(List.length x0):Int) - (1:Int)):Int),()))),());
        Tr.fin ((r0.1.1,())))
        (Tr.fin (((0:Int),()))))
      (Tr.stop))

def f119 (d:Tys.data as119):Option (Tys.data rs119):=(t119 d.1 d.2.1).val
def g119 (d:Tys.data as119):Tys.data rs119:=(f119 d).getD (Tys.dflt rs119)
def p119:PureC:=pcOf as119 rs119 f119 g119

theorem wk119 (x0:(List Int)) (x1:(List Int)):Walks (runPure (kl119_0 Go.Proofs.Tryz.prog).orc Go.Proofs.Tryz.prog 400 119 as119 rs119 (x0,x1,())) (t119 x0 x1) [([true,true],[2,4]),([true,false],[2,4]),([false,true,true],[2,4,6]),([false,true,false],[2,4,6])] :=
  ⟨by kernel_rfl,by kernel_rfl,by kernel_rfl,by kernel_rfl,trivial⟩

theorem ok119_t (x0:(List Int)) (x1:(List Int)):TrOk (PureRuns Go.Proofs.Tryz.prog (kl119_0 Go.Proofs.Tryz.prog).orc 119 as119 rs119 (x0,x1,())) (t119 x0 x1) :=
  Walks.ok (fun _ _ _=>PureRuns.of) (wk119 x0 x1) (by kernel_rfl)

theorem ok119:PureOk Go.Proofs.Tryz.prog 119 p119:=pureOk_of kl119_0_ok.base (T:=fun (d:Tys.data as119)=>t119 d.1 d.2.1) (by kernel_rfl) (fun (d:Tys.data as119)=>ok119_t d.1 d.2.1)
def kf119 (P:Go.Program):Known:=(kl119_0 P).func 119 p119
theorem kf119_ok:KnownOk Go.Proofs.Tryz.prog (kf119 Go.Proofs.Tryz.prog):=kl119_0_ok.func ok119

/-! ductility/ductilitybase.digit -/

abbrev as131:List Ty:=[(.slice (.int .i64)),(.int .i64)]
abbrev rs131:List Ty:=[(.int .i64)]

def t131 (x0:(List Int)) (x1:Int):Tr (Tys.data rs131) :=
  Tr.test ((!leF (↑(List.length x0):Int) x1:Bool))
    (Tr.test (decide ((0:Int) ≤ x1) && decide (x1 < (↑(List.length x0):Int)))
      (Tr.fin (((List.getD x0 (Int.toNat x1) (0:Int):Int),())))
      (Tr.stop))
    (Tr.fin (((0:Int),())))

def f131 (d:Tys.data as131):Option (Tys.data rs131):=(t131 d.1 d.2.1).val
def g131 (d:Tys.data as131):Tys.data rs131:=(f131 d).getD (Tys.dflt rs131)
def p131:PureC:=pcOf as131 rs131 f131 g131

theorem wk131 (x0:(List Int)) (x1:Int):Walks (runPure (kf119 Go.Proofs.Tryz.prog).orc Go.Proofs.Tryz.prog 400 131 as131 rs131 (x0,x1,())) (t131 x0 x1) [([true,true],[2,4]),([ff],[2])] :=
  ⟨by kernel_rfl,by kernel_rfl,trivial⟩

theorem ok131_t (x0:(List Int)) (x1:Int):TrOk (PureRuns Go.Proofs.Tryz.prog (kf119 Go.Proofs.Tryz.prog).orc 131 as131 rs131 (x0,x1,())) (t131 x0 x1) :=
  Walks.ok (fun _ _ _=>PureRuns.of) (wk131 x0 x1) (by kernel_rfl)

theorem ok131:PureOk Go.Proofs.Tryz.prog 131 p131:=pureOk_of kf119_ok.base (T:=fun (d:Tys.data as131)=>t131 d.1 d.2.1) (by kernel_rfl) (fun (d:Tys.data as131)=>ok131_t d.1 d.2.1)
def kf131 (P:Go.Program):Known:=(kf119 P).func 131 p131
theorem kf131_ok:KnownOk Go.Proofs.Tryz.prog (kf131 Go.Proofs.Tryz.prog):=kf119_ok.func ok131

end Go.Vm.Mo
