import Derived.Test.YtkhlccjbpejpjaaA4
import Derived.KernelRfl
import Derived.Test.YtkhlccjbpejpjaaProg
import Derived.Test.YtkhlccjbpejpjaaRsFa
set_option linter.unusedVariables false
set_option linter.unusedSimpArgs false

namespace Go.Vm.Mo
open Go
set_option linter.unusedVariables false

/-! loop 0 of slices.IndexFunc[[][]int,[]int] -/

abbrev sh149_0:Sh:={ n:=19,slots:=[0,1,7,8],pats:=[.ty (.slice (.slice (.int .i64))),.fn 140 [],.ty (.int .i64),.ty (.int .i64)],boxes:=[] }
abbrev shb149_0:Sh:={ n:=19,slots:=[],pats:=[],boxes:=[] }
abbrev shr149_0:Sh:={ n:=19,slots:=[4],pats:=[.ty (.int .i64)],boxes:=[] }

def t149_0 (x0:(List (List Int))) (x2:Int) (x3:Int):Tr (Out sh149_0.data shb149_0.data shr149_0.data) :=
  Tr.test ((!leF x2 x3:Bool))
    (Tr.test (decide ((0:Int) ≤ x3) && decide (x3 < (↑(List.length x0):Int)))
      (Tr.test (Option.isSome (f100 ((0:Int),((0:Int),((List.getD x0 (Int.toNat x3) []:List Int),())))))
        (let r0:=g100 ((0:Int),((0:Int),((List.getD x0 (Int.toNat x3) []:List Int),())));
        Tr.test ((!r0.1:Bool))
          (Tr.fin (.ret ((x3,()),())))
          (Tr.fin (.again ((x0,(x2,((wrap64 (x3 + (1:Int)):Int),()))),()))))
        (Tr.stop))
      (Tr.stop))
    (Tr.fin (.brk ((),())))

def s149_0 (d:sh149_0.data):Option (Out sh149_0.data shb149_0.data shr149_0.data):=(t149_0 d.1.1 d.1.2.1 d.1.2.2.1).val
def l149_0 (d:sh149_0.data):Option (shb149_0.data ⊕ shr149_0.data):=itr s149_0 rounds d
def b149_0 (d:sh149_0.data):shb149_0.data:=outB shb149_0.dflt (l149_0 d)
def r149_0 (d:sh149_0.data):shr149_0.data:=outR shr149_0.dflt (l149_0 d)
def lc149_0:LoopC:=lcOf sh149_0 shb149_0 shr149_0 l149_0 b149_0 r149_0

theorem wk149_0 (x0:(List (List Int))) (x2:Int) (x3:Int):Walks (runBody (kl136_0_2 Go.Proofs.Try.prog).orc Go.Proofs.Try.prog 400 149 0 sh149_0 shb149_0 shr149_0 ((x0,x2,x3,()),())) (t149_0 x0 x2 x3) [([true,true,true,true],[2,4,6,8]),([true,true,true,false],[2,4,6,8]),([ff],[2])] :=
  ⟨by kernel_rfl,by kernel_rfl,by kernel_rfl,trivial⟩

theorem ok149_0_t (x0:(List (List Int))) (x2:Int) (x3:Int):TrOk (BodyRuns Go.Proofs.Try.prog (kl136_0_2 Go.Proofs.Try.prog).orc 149 0 sh149_0 shb149_0 shr149_0 ((x0,x2,x3,()),())) (t149_0 x0 x2 x3) :=
  Walks.ok (fun _ _ _=>BodyRuns.of) (wk149_0 x0 x2 x3) (by kernel_rfl)

theorem ok149_0:LoopOk Go.Proofs.Try.prog 149 0 lc149_0:=loopOk_of (sh:=sh149_0) (shB:=shb149_0) (shR:=shr149_0) kl136_0_2_ok.base (T:=fun (d:sh149_0.data)=>t149_0 d.1.1 d.1.2.1 d.1.2.2.1) (by kernel_rfl) rfl (fun (d:sh149_0.data)=>ok149_0_t d.1.1 d.1.2.1 d.1.2.2.1) (fun _=>rfl)
def kl149_0 (P:Go.Program):Known:=(kl136_0_2 P).loop 149 0 lc149_0
theorem kl149_0_ok:KnownOk Go.Proofs.Try.prog (kl149_0 Go.Proofs.Try.prog):=kl136_0_2_ok.loop ok149_0

/-! ductility/sensor.imageError -/

abbrev as118:List Ty:=[(.slice (.slice (.int .i64)))]
abbrev rs118:List Ty:=[(.int .i64)]

def t118 (x0:(List (List Int))):Tr (Tys.data rs118) :=
  Tr.test ((eqF (↑(List.length x0):Int) (0:Int):Bool))
    (Tr.fin (((10:Int),())))
    (Tr.test (true && decide ((0:Int) < (↑(List.length x0):Int)))
      (Tr.test (Option.isSome (l136_0_1 ((x0,((↑(List.length x0):Int),((0:Int),()))),(((↑(List.length (List.getD x0 (0:Nat) [])):Int),()),()))))
        (Tr.test (isRet (l136_0_1 ((x0,((↑(List.length x0):Int),((0:Int),()))),(((↑(List.length (List.getD x0 (0:Nat) [])):Int),()),()))))
          (Tr.test (Option.isSome (l136_0_2 ((x0,((↑(List.length x0):Int),((0:Int),()))),())))
            (Tr.test (isRet (l136_0_2 ((x0,((↑(List.length x0):Int),((0:Int),()))),())))
              (Tr.test (Option.isSome (l149_0 ((x0,((↑(List.length x0):Int),((0:Int),()))),())))
                (Tr.test (isRet (l149_0 ((x0,((↑(List.length x0):Int),((0:Int),()))),())))
                  (Tr.test ((!leF (↑(List.length x0):Int) (10:Int):Bool))
                    (Tr.test (Option.isSome (f86 ((true:Bool),((8:Int),()))))
                      (let r3:=r149_0 ((x0,((↑(List.length x0):Int),((0:Int),()))),());
                      Tr.test (Option.isSome (f86 ((!leF (0:Int) r3.1.1:Bool),((11:Int),()))))
                        (let r0:=r136_0_1 ((x0,((↑(List.length x0):Int),((0:Int),()))),(((↑(List.length (List.getD x0 (0:Nat) [])):Int),()),()));
                        let r2:=r136_0_2 ((x0,((↑(List.length x0):Int),((0:Int),()))),());
                        let r4:=g86 ((true:Bool),((8:Int),()));
                        let r6:=g86 ((!leF (0:Int) r3.1.1:Bool),((11:Int),()));
                        Tr.test (Option.isSome (f88 (([r0.1.2.1,r4.1,r2.1.2.1,r6.1]:List Int),())))
                          (let r7:=g88 (([r0.1.2.1,r4.1,r2.1.2.1,r6.1]:List Int),());
                          Tr.fin ((r7.1,())))
                          (Tr.stop))
                        (Tr.stop))
                      (Tr.stop))
                    (let r0:=r136_0_1 ((x0,((↑(List.length x0):Int),((0:Int),()))),(((↑(List.length (List.getD x0 (0:Nat) [])):Int),()),()));
                    Tr.test (Option.isSome (f86 ((!leF r0.2.1.1 10:Bool),((8:Int),()))))
                      (let r3:=r149_0 ((x0,((↑(List.length x0):Int),((0:Int),()))),());
                      Tr.test (Option.isSome (f86 ((!leF (0:Int) r3.1.1:Bool),((11:Int),()))))
                        (let r2:=r136_0_2 ((x0,((↑(List.length x0):Int),((0:Int),()))),());
                        let r5:=g86 ((!leF r0.2.1.1 10:Bool),((8:Int),()));
                        let r6:=g86 ((!leF (0:Int) r3.1.1:Bool),((11:Int),()));
                        Tr.test (Option.isSome (f88 (([r0.1.2.1,r5.1,r2.1.2.1,r6.1]:List Int),())))
                          (let r8:=g88 (([r0.1.2.1,r5.1,r2.1.2.1,r6.1]:List Int),());
                          Tr.fin ((r8.1,())))
                          (Tr.stop))
                        (Tr.stop))
                      (Tr.stop)))
                  (Tr.test ((!leF (↑(List.length x0):Int) (10:Int):Bool))
                    (Tr.test (Option.isSome (f86 ((true:Bool),((8:Int),()))))
                      (Tr.test (Option.isSome (f86 ((true:Bool),((11:Int),()))))
                        (let r0:=r136_0_1 ((x0,((↑(List.length x0):Int),((0:Int),()))),(((↑(List.length (List.getD x0 (0:Nat) [])):Int),()),()));
                        let r2:=r136_0_2 ((x0,((↑(List.length x0):Int),((0:Int),()))),());
                        let r4:=g86 ((true:Bool),((8:Int),()));
                        let r9:=g86 ((true:Bool),((11:Int),()));
                        Tr.test (Option.isSome (f88 (([r0.1.2.1,r4.1,r2.1.2.1,r9.1]:List Int),())))
                          (let r10:=g88 (([r0.1.2.1,r4.1,r2.1.2.1,r9.1]:List Int),());
                          Tr.fin ((r10.1,())))
                          (Tr.stop))
                        (Tr.stop))
                      (Tr.stop))
                    (let r0:=r136_0_1 ((x0,((↑(List.length x0):Int),((0:Int),()))),(((↑(List.length (List.getD x0 (0:Nat) [])):Int),()),()));
                    Tr.test (Option.isSome (f86 ((!leF r0.2.1.1 10:Bool),((8:Int),()))))
                      (Tr.test (Option.isSome (f86 ((true:Bool),((11:Int),()))))
                        (let r2:=r136_0_2 ((x0,((↑(List.length x0):Int),((0:Int),()))),());
                        let r5:=g86 ((!leF r0.2.1.1 10:Bool),((8:Int),()));
                        let r9:=g86 ((true:Bool),((11:Int),()));
                        Tr.test (Option.isSome (f88 (([r0.1.2.1,r5.1,r2.1.2.1,r9.1]:List Int),())))
                          (let r11:=g88 (([r0.1.2.1,r5.1,r2.1.2.1,r9.1]:List Int),());
                          Tr.fin ((r11.1,())))
                          (Tr.stop))
                        (Tr.stop))
                      (Tr.stop))))
                (Tr.stop))
              (Tr.test (Option.isSome (l149_0 ((x0,((↑(List.length x0):Int),((0:Int),()))),())))
                (Tr.test (isRet (l149_0 ((x0,((↑(List.length x0):Int),((0:Int),()))),())))
                  (Tr.test ((!leF (↑(List.length x0):Int) (10:Int):Bool))
                    (Tr.test (Option.isSome (f86 ((true:Bool),((8:Int),()))))
                      (let r3:=r149_0 ((x0,((↑(List.length x0):Int),((0:Int),()))),());
                      Tr.test (Option.isSome (f86 ((!leF (0:Int) r3.1.1:Bool),((11:Int),()))))
                        (let r0:=r136_0_1 ((x0,((↑(List.length x0):Int),((0:Int),()))),(((↑(List.length (List.getD x0 (0:Nat) [])):Int),()),()));
                        let r4:=g86 ((true:Bool),((8:Int),()));
                        let r6:=g86 ((!leF (0:Int) r3.1.1:Bool),((11:Int),()));
                        Tr.test (Option.isSome (f88 (([r0.1.2.1,r4.1,(0:Int),r6.1]:List Int),())))
                          (let r12:=g88 (([r0.1.2.1,r4.1,(0:Int),r6.1]:List Int),());
                          Tr.fin ((r12.1,())))
                          (Tr.stop))
                        (Tr.stop))
                      (Tr.stop))
                    (let r0:=r136_0_1 ((x0,((↑(List.length x0):Int),((0:Int),()))),(((↑(List.length (List.getD x0 (0:Nat) [])):Int),()),()));
                    Tr.test (Option.isSome (f86 ((!leF r0.2.1.1 10:Bool),((8:Int),()))))
                      (let r3:=r149_0 ((x0,((↑(List.length x0):Int),((0:Int),()))),());
                      Tr.test (Option.isSome (f86 ((!leF (0:Int) r3.1.1:Bool),((11:Int),()))))
                        (let r5:=g86 ((!leF r0.2.1.1 10:Bool),((8:Int),()));
                        let r6:=g86 ((!leF (0:Int) r3.1.1:Bool),((11:Int),()));
                        Tr.test (Option.isSome (f88 (([r0.1.2.1,r5.1,(0:Int),r6.1]:List Int),())))
                          (let r13:=g88 (([r0.1.2.1,r5.1,(0:Int),r6.1]:List Int),());
                          Tr.fin ((r13.1,())))
                          (Tr.stop))
                        (Tr.stop))
                      (Tr.stop)))
                  (Tr.test ((!leF (↑(List.length x0):Int) (10:Int):Bool))
                    (Tr.test (Option.isSome (f86 ((true:Bool),((8:Int),()))))
                      (Tr.test (Option.isSome (f86 ((true:Bool),((11:Int),()))))
                        (let r0:=r136_0_1 ((x0,((↑(List.length x0):Int),((0:Int),()))),(((↑(List.length (List.getD x0 (0:Nat) [])):Int),()),()));
                        let r4:=g86 ((true:Bool),((8:Int),()));
                        let r9:=g86 ((true:Bool),((11:Int),()));
                        Tr.test (Option.isSome (f88 (([r0.1.2.1,r4.1,(0:Int),r9.1]:List Int),())))
                          (let r14:=g88 (([r0.1.2.1,r4.1,(0:Int),r9.1]:List Int),());
                          Tr.fin ((r14.1,())))
                          (Tr.stop))
                        (Tr.stop))
                      (Tr.stop))
                    (let r0:=r136_0_1 ((x0,((↑(List.length x0):Int),((0:Int),()))),(((↑(List.length (List.getD x0 (0:Nat) [])):Int),()),()));
                    Tr.test (Option.isSome (f86 ((!leF r0.2.1.1 10:Bool),((8:Int),()))))
                      (Tr.test (Option.isSome (f86 ((true:Bool),((11:Int),()))))
                        (let r5:=g86 ((!leF r0.2.1.1 10:Bool),((8:Int),()));
                        let r9:=g86 ((true:Bool),((11:Int),()));
                        Tr.test (Option.isSome (f88 (([r0.1.2.1,r5.1,(0:Int),r9.1]:List Int),())))
                          (let r15:=g88 (([r0.1.2.1,r5.1,(0:Int),r9.1]:List Int),());
                          Tr.fin ((r15.1,())))
                          (Tr.stop))
                        (Tr.stop))
                      (Tr.stop))))
                (Tr.stop)))
            (Tr.stop))
          (Tr.test (Option.isSome (l136_0_2 ((x0,((↑(List.length x0):Int),((0:Int),()))),())))
            (Tr.test (isRet (l136_0_2 ((x0,((↑(List.length x0):Int),((0:Int),()))),())))
              (Tr.test (Option.isSome (l149_0 ((x0,((↑(List.length x0):Int),((0:Int),()))),())))
                (Tr.test (isRet (l149_0 ((x0,((↑(List.length x0):Int),((0:Int),()))),())))
                  (Tr.test ((!leF (↑(List.length x0):Int) (10:Int):Bool))
                    (Tr.test (Option.isSome (f86 ((true:Bool),((8:Int),()))))
                      (let r3:=r149_0 ((x0,((↑(List.length x0):Int),((0:Int),()))),());
                      Tr.test (Option.isSome (f86 ((!leF (0:Int) r3.1.1:Bool),((11:Int),()))))
                        (let r2:=r136_0_2 ((x0,((↑(List.length x0):Int),((0:Int),()))),());
                        let r4:=g86 ((true:Bool),((8:Int),()));
                        let r6:=g86 ((!leF (0:Int) r3.1.1:Bool),((11:Int),()));
                        Tr.test (Option.isSome (f88 (([(0:Int),r4.1,r2.1.2.1,r6.1]:List Int),())))
                          (let r17:=g88 (([(0:Int),r4.1,r2.1.2.1,r6.1]:List Int),());
                          Tr.fin ((r17.1,())))
                          (Tr.stop))
                        (Tr.stop))
                      (Tr.stop))
                    (let r1:=b136_0_1 ((x0,((↑(List.length x0):Int),((0:Int),()))),(((↑(List.length (List.getD x0 (0:Nat) [])):Int),()),()));
                    Tr.test (Option.isSome (f86 ((!leF r1.2.1.1 10:Bool),((8:Int),()))))
                      (let r3:=r149_0 ((x0,((↑(List.length x0):Int),((0:Int),()))),());
                      Tr.test (Option.isSome (f86 ((!leF (0:Int) r3.1.1:Bool),((11:Int),()))))
                        (let r2:=r136_0_2 ((x0,((↑(List.length x0):Int),((0:Int),()))),());
                        let r6:=g86 ((!leF (0:Int) r3.1.1:Bool),((11:Int),()));
                        let r16:=g86 ((!leF r1.2.1.1 10:Bool),((8:Int),()));
                        Tr.test (Option.isSome (f88 (([(0:Int),r16.1,r2.1.2.1,r6.1]:List Int),())))
                          (let r18:=g88 (([(0:Int),r16.1,r2.1.2.1,r6.1]:List Int),());
                          Tr.fin ((r18.1,())))
                          (Tr.stop))
                        (Tr.stop))
                      (Tr.stop)))
                  (Tr.test ((!leF (↑(List.length x0):Int) (10:Int):Bool))
                    (Tr.test (Option.isSome (f86 ((true:Bool),((8:Int),()))))
                      (Tr.test (Option.isSome (f86 ((true:Bool),((11:Int),()))))
                        (let r2:=r136_0_2 ((x0,((↑(List.length x0):Int),((0:Int),()))),());
                        let r4:=g86 ((true:Bool),((8:Int),()));
                        let r9:=g86 ((true:Bool),((11:Int),()));
                        Tr.test (Option.isSome (f88 (([(0:Int),r4.1,r2.1.2.1,r9.1]:List Int),())))
                          (let r19:=g88 (([(0:Int),r4.1,r2.1.2.1,r9.1]:List Int),());
                          Tr.fin ((r19.1,())))
                          (Tr.stop))
                        (Tr.stop))
                      (Tr.stop))
                    (let r1:=b136_0_1 ((x0,((↑(List.length x0):Int),((0:Int),()))),(((↑(List.length (List.getD x0 (0:Nat) [])):Int),()),()));
                    Tr.test (Option.isSome (f86 ((!leF r1.2.1.1 10:Bool),((8:Int),()))))
                      (Tr.test (Option.isSome (f86 ((true:Bool),((11:Int),()))))
                        (let r2:=r136_0_2 ((x0,((↑(List.length x0):Int),((0:Int),()))),());
                        let r9:=g86 ((true:Bool),((11:Int),()));
                        let r16:=g86 ((!leF r1.2.1.1 10:Bool),((8:Int),()));
                        Tr.test (Option.isSome (f88 (([(0:Int),r16.1,r2.1.2.1,r9.1]:List Int),())))
                          (let r20:=g88 (([(0:Int),r16.1,r2.1.2.1,r9.1]:List Int),());
                          Tr.fin ((r20.1,())))
                          (Tr.stop))
                        (Tr.stop))
                      (Tr.stop))))
                (Tr.stop))
              (Tr.test (Option.isSome (l149_0 ((x0,((↑(List.length x0):Int),((0:Int),()))),())))
                (Tr.test (isRet (l149_0 ((x0,((↑(List.length x0):Int),((0:Int),()))),())))
                  (Tr.test ((!leF (↑(List.length x0):Int) (10:Int):Bool))
                    (Tr.test (Option.isSome (f86 ((true:Bool),((8:Int),()))))
                      (let r3:=r149_0 ((x0,((↑(List.length x0):Int),((0:Int),()))),());
                      Tr.test (Option.isSome (f86 ((!leF (0:Int) r3.1.1:Bool),((11:Int),()))))
                        (let r4:=g86 ((true:Bool),((8:Int),()));
                        let r6:=g86 ((!leF (0:Int) r3.1.1:Bool),((11:Int),()));
                        Tr.test (Option.isSome (f88 (([(0:Int),r4.1,(0:Int),r6.1]:List Int),())))
                          (let r21:=g88 (([(0:Int),r4.1,(0:Int),r6.1]:List Int),());
                          Tr.fin ((r21.1,())))
                          (Tr.stop))
                        (Tr.stop))
                      (Tr.stop))
                    (let r1:=b136_0_1 ((x0,((↑(List.length x0):Int),((0:Int),()))),(((↑(List.length (List.getD x0 (0:Nat) [])):Int),()),()));
                    Tr.test (Option.isSome (f86 ((!leF r1.2.1.1 10:Bool),((8:Int),()))))
                      (let r3:=r149_0 ((x0,((↑(List.length x0):Int),((0:Int),()))),());
                      Tr.test (Option.isSome (f86 ((!leF (0:Int) r3.1.1:Bool),((11:Int),()))))
                        (let r6:=g86 ((!leF (0:Int) r3.1.1:Bool),((11:Int),()));
                        let r16:=g86 ((!leF r1.2.1.1 10:Bool),((8:Int),()));
                        Tr.test (Option.isSome (f88 (([(0:Int),r16.1,(0:Int),r6.1]:List Int),())))
                          (let r22:=g88 (([(0:Int),r16.1,(0:Int),r6.1]:List Int),());
                          Tr.fin ((r22.1,())))
                          (Tr.stop))
                        (Tr.stop))
                      (Tr.stop)))
                  (Tr.test ((!leF (↑(List.length x0):Int) (10:Int):Bool))
                    (Tr.test (Option.isSome (f86 ((true:Bool),((8:Int),()))))
                      (Tr.test (Option.isSome (f86 ((true:Bool),((11:Int),()))))
                        (let r4:=g86 ((true:Bool),((8:Int),()));
                        let r9:=g86 ((true:Bool),((11:Int),()));
                        Tr.test (Option.isSome (f88 (([(0:Int),r4.1,(0:Int),r9.1]:List Int),())))
                          (let r23:=g88 (([(0:Int),r4.1,(0:Int),r9.1]:List Int),());
                          Tr.fin ((r23.1,())))
                          (Tr.stop))
                        (Tr.stop))
                      (Tr.stop))
                    (let r1:=b136_0_1 ((x0,((↑(List.length x0):Int),((0:Int),()))),(((↑(List.length (List.getD x0 (0:Nat) [])):Int),()),()));
                    Tr.test (Option.isSome (f86 ((!leF r1.2.1.1 10:Bool),((8:Int),()))))
                      (Tr.test (Option.isSome (f86 ((true:Bool),((11:Int),()))))
                        (let r9:=g86 ((true:Bool),((11:Int),()));
                        let r16:=g86 ((!leF r1.2.1.1 10:Bool),((8:Int),()));
                        Tr.test (Option.isSome (f88 (([(0:Int),r16.1,(0:Int),r9.1]:List Int),())))
                          (let r24:=g88 (([(0:Int),r16.1,(0:Int),r9.1]:List Int),());
                          Tr.fin ((r24.1,())))
                          (Tr.stop))
                        (Tr.stop))
                      (Tr.stop))))
                (Tr.stop)))
            (Tr.stop)))
        (Tr.stop))
      (Tr.stop))

def f118 (d:Tys.data as118):Option (Tys.data rs118):=(t118 d.1).val
def g118 (d:Tys.data as118):Tys.data rs118:=(f118 d).getD (Tys.dflt rs118)
def p118:PureC:=pcOf as118 rs118 f118 g118

theorem wk118 (x0:(List (List Int))):Walks (runPure (kl149_0 Go.Proofs.Try.prog).orc Go.Proofs.Try.prog 400 118 as118 rs118 (x0,())) (t118 x0) [([tt],[2]),([false,true,true,true,true,true,true,true,true,true,true,true],[2,1,4,6,8,8,8,10,12,14,16,18,20,22,24]),([false,true,true,true,true,true,true,true,false,true,true,true],[2,1,4,6,8,8,8,10,12,14,16,18,20,22,24]),([false,true,true,true,true,true,true,false,true,true,true,true],[2,1,4,6,8,8,8,10,12,14,16,18,20,22,24]),([false,true,true,true,true,true,true,false,false,true,true,true],[2,1,4,6,8,8,8,10,12,14,16,18,20,22,24]),([false,true,true,true,true,false,true,true,true,true,true,true],[2,1,4,6,8,8,8,10,12,14,16,18,20,22,24]),([false,true,true,true,true,false,true,true,false,true,true,true],[2,1,4,6,8,8,8,10,12,14,16,18,20,22,24]),([false,true,true,true,true,false,true,false,true,true,true,true],[2,1,4,6,8,8,8,10,12,14,16,18,20,22,24]),([false,true,true,true,true,false,true,false,false,true,true,true],[2,1,4,6,8,8,8,10,12,14,16,18,20,22,24]),([false,true,true,false,true,true,true,true,true,true,true,true],[2,1,4,6,8,8,8,10,12,14,16,18,20,22,24]),([false,true,true,false,true,true,true,true,false,true,true,true],[2,1,4,6,8,8,8,10,12,14,16,18,20,22,24]),([false,true,true,false,true,true,true,false,true,true,true,true],[2,1,4,6,8,8,8,10,12,14,16,18,20,22,24]),([false,true,true,false,true,true,true,false,false,true,true,true],[2,1,4,6,8,8,8,10,12,14,16,18,20,22,24]),([false,true,true,false,true,false,true,true,true,true,true,true],[2,1,4,6,8,8,8,10,12,14,16,18,20,22,24]),([false,true,true,false,true,false,true,true,false,true,true,true],[2,1,4,6,8,8,8,10,12,14,16,18,20,22,24]),([false,true,true,false,true,false,true,false,true,true,true,true],[2,1,4,6,8,8,8,10,12,14,16,18,20,22,24]),([false,true,true,false,true,false,true,false,false,true,true,true],[2,1,4,6,8,8,8,10,12,14,16,18,20,22,24])] :=
  ⟨by kernel_rfl,by kernel_rfl,by kernel_rfl,by kernel_rfl,by kernel_rfl,by kernel_rfl,by kernel_rfl,by kernel_rfl,by kernel_rfl,by kernel_rfl,by kernel_rfl,by kernel_rfl,by kernel_rfl,by kernel_rfl,by kernel_rfl,by kernel_rfl,by kernel_rfl,trivial⟩

theorem ok118_t (x0:(List (List Int))):TrOk (PureRuns Go.Proofs.Try.prog (kl149_0 Go.Proofs.Try.prog).orc 118 as118 rs118 (x0,())) (t118 x0) :=
  Walks.ok (fun _ _ _=>PureRuns.of) (wk118 x0) (by kernel_rfl)

theorem ok118:PureOk Go.Proofs.Try.prog 118 p118:=pureOk_of kl149_0_ok.base (T:=fun (d:Tys.data as118)=>t118 d.1) (by kernel_rfl) (fun (d:Tys.data as118)=>ok118_t d.1)
def kf118 (P:Go.Program):Known:=(kl149_0 P).func 118 p118
theorem kf118_ok:KnownOk Go.Proofs.Try.prog (kf118 Go.Proofs.Try.prog):=kl149_0_ok.func ok118

/-! ductility/sensor.fraction -/

abbrev as141:List Ty:=[(.int .i64),(.int .i64)]
abbrev rs141:List Ty:=[(.pair (.int .i64) (.pair (.int .i64) .unit))]

def t141 (x0:Int) (x1:Int):Tr (Tys.data rs141) :=
  Tr.test (Option.isSome (f92 (x1,(([x0]:List Int),()))))
    (let r0:=g92 (x1,(([x0]:List Int),()));
    Tr.test ((r0.1 == (0:Int):Bool))
      (Tr.stop)
      (Tr.fin ((((Go.IntKind.wrap Go.IntKind.i64 (Int.tdiv x0 r0.1):Int),((Go.IntKind.wrap Go.IntKind.i64 (Int.tdiv x1 r0.1):Int),())),()))))
    (Tr.stop)

def f141 (d:Tys.data as141):Option (Tys.data rs141):=(t141 d.1 d.2.1).val
def g141 (d:Tys.data as141):Tys.data rs141:=(f141 d).getD (Tys.dflt rs141)
def p141:PureC:=pcOf as141 rs141 f141 g141

theorem wk141 (x0:Int) (x1:Int):Walks (runPure (kf118 Go.Proofs.Try.prog).orc Go.Proofs.Try.prog 400 141 as141 rs141 (x0,x1,())) (t141 x0 x1) [([true,false],[2,2,4,1])] :=
  ⟨by kernel_rfl,trivial⟩

theorem ok141_t (x0:Int) (x1:Int):TrOk (PureRuns Go.Proofs.Try.prog (kf118 Go.Proofs.Try.prog).orc 141 as141 rs141 (x0,x1,())) (t141 x0 x1) :=
  Walks.ok (fun _ _ _=>PureRuns.of) (wk141 x0 x1) (by kernel_rfl)

theorem ok141:PureOk Go.Proofs.Try.prog 141 p141:=pureOk_of kf118_ok.base (T:=fun (d:Tys.data as141)=>t141 d.1 d.2.1) (by kernel_rfl) (fun (d:Tys.data as141)=>ok141_t d.1 d.2.1)
def kf141 (P:Go.Program):Known:=(kf118 P).func 141 p141
theorem kf141_ok:KnownOk Go.Proofs.Try.prog (kf141 Go.Proofs.Try.prog):=kf118_ok.func ok141

/-! loop 2 of ductility/sensor.centerOf -/

abbrev sh119_2:Sh:={ n:=46,slots:=[2,3,4,5,6,10,11,12,17,18,19],pats:=[.ptr 0 4 0,.ty (.int .i64),.ty (.int .i64),.ty (.int .i64),.ty (.int .i64),.ty (.slice (.slice (.int .i64))),.ty (.int .i64),.ty (.int .i64),.ty (.slice (.int .i64)),.ty (.int .i64),.ty (.int .i64)],boxes:=[.row [.ty (.int .i64),.ty (.int .i64),.ty (.int .i64),.ty (.int .i64)]] }
abbrev shb119_2:Sh:={ n:=46,slots:=[2,3,4,5,10,11,12],pats:=[.ptr 0 4 0,.ty (.int .i64),.ty (.int .i64),.ty (.int .i64),.ty (.slice (.slice (.int .i64))),.ty (.int .i64),.ty (.int .i64)],boxes:=[.row [.ty (.int .i64),.ty (.int .i64),.ty (.int .i64),.ty (.int .i64)]] }
abbrev shr119_2:Sh:={ n:=46,slots:=[],pats:=[],boxes:=[.row [.ty (.int .i64),.ty (.int .i64),.ty (.int .i64),.ty (.int .i64)]] }

def t119_2 (x1:Int) (x2:Int) (x3:Int) (x4:Int) (x5:(List (List Int))) (x6:Int) (x7:Int) (x8:(List Int)) (x9:Int) (x10:Int) (b0_0:Int) (b0_1:Int) (b0_2:Int) (b0_3:Int):Tr (Out sh119_2.data shb119_2.data shr119_2.data) :=
  Tr.test ((!leF x9 x10:Bool))
    (Tr.test (decide ((0:Int) ≤ x10) && decide (x10 < (↑(List.length x8):Int)))
      (Tr.fin (.again (((wrap64 (x1 + wrap64 (x10 * List.getD x8 (Int.toNat x10) (0:Int))):Int),((wrap64 (x2 + wrap64 (x4 * List.getD x8 (Int.toNat x10) (0:Int))):Int),((wrap64 (x3 + List.getD x8 (Int.toNat x10) (0:Int)):Int),(x4,(x5,(x6,(x7,(x8,(x9,((wrap64 (x10 + (1:Int)):Int),())))))))))),((b0_0,(b0_1,(b0_2,(b0_3,())))),()))))
      (Tr.stop))
    (Tr.fin (.brk ((x1,(x2,(x3,(x5,(x6,(x7,())))))),((b0_0,(b0_1,(b0_2,(b0_3,())))),()))))

def s119_2 (d:sh119_2.data):Option (Out sh119_2.data shb119_2.data shr119_2.data):=(t119_2 d.1.1 d.1.2.1 d.1.2.2.1 d.1.2.2.2.1 d.1.2.2.2.2.1 d.1.2.2.2.2.2.1 d.1.2.2.2.2.2.2.1 d.1.2.2.2.2.2.2.2.1 d.1.2.2.2.2.2.2.2.2.1 d.1.2.2.2.2.2.2.2.2.2.1 d.2.1.1 d.2.1.2.1 d.2.1.2.2.1 d.2.1.2.2.2.1).val
def l119_2 (d:sh119_2.data):Option (shb119_2.data ⊕ shr119_2.data):=itr s119_2 rounds d
def b119_2 (d:sh119_2.data):shb119_2.data:=outB shb119_2.dflt (l119_2 d)
def lc119_2:LoopC:=lcB sh119_2 shb119_2 shr119_2 l119_2 b119_2

theorem wk119_2 (x1:Int) (x2:Int) (x3:Int) (x4:Int) (x5:(List (List Int))) (x6:Int) (x7:Int) (x8:(List Int)) (x9:Int) (x10:Int) (b0_0:Int) (b0_1:Int) (b0_2:Int) (b0_3:Int):Walks (runBody (kf141 Go.Proofs.Try.prog).orc Go.Proofs.Try.prog 400 119 2 sh119_2 shb119_2 shr119_2 ((x1,x2,x3,x4,x5,x6,x7,x8,x9,x10,()),(b0_0,b0_1,b0_2,b0_3,()),())) (t119_2 x1 x2 x3 x4 x5 x6 x7 x8 x9 x10 b0_0 b0_1 b0_2 b0_3) [([true,true],[2,4]),([ff],[2])] :=
  ⟨by kernel_rfl,by kernel_rfl,trivial⟩

theorem ok119_2_t (x1:Int) (x2:Int) (x3:Int) (x4:Int) (x5:(List (List Int))) (x6:Int) (x7:Int) (x8:(List Int)) (x9:Int) (x10:Int) (b0_0:Int) (b0_1:Int) (b0_2:Int) (b0_3:Int):TrOk (BodyRuns Go.Proofs.Try.prog (kf141 Go.Proofs.Try.prog).orc 119 2 sh119_2 shb119_2 shr119_2 ((x1,x2,x3,x4,x5,x6,x7,x8,x9,x10,()),(b0_0,b0_1,b0_2,b0_3,()),())) (t119_2 x1 x2 x3 x4 x5 x6 x7 x8 x9 x10 b0_0 b0_1 b0_2 b0_3) :=
  Walks.ok (fun _ _ _=>BodyRuns.of) (wk119_2 x1 x2 x3 x4 x5 x6 x7 x8 x9 x10 b0_0 b0_1 b0_2 b0_3) (by kernel_rfl)

theorem ok119_2:LoopOk Go.Proofs.Try.prog 119 2 lc119_2:=loopOk_ofB (sh:=sh119_2) (shB:=shb119_2) (shR:=shr119_2) kf141_ok.base (T:=fun (d:sh119_2.data)=>t119_2 d.1.1 d.1.2.1 d.1.2.2.1 d.1.2.2.2.1 d.1.2.2.2.2.1 d.1.2.2.2.2.2.1 d.1.2.2.2.2.2.2.1 d.1.2.2.2.2.2.2.2.1 d.1.2.2.2.2.2.2.2.2.1 d.1.2.2.2.2.2.2.2.2.2.1 d.2.1.1 d.2.1.2.1 d.2.1.2.2.1 d.2.1.2.2.2.1) (by kernel_rfl) rfl (fun (d:sh119_2.data)=>ok119_2_t d.1.1 d.1.2.1 d.1.2.2.1 d.1.2.2.2.1 d.1.2.2.2.2.1 d.1.2.2.2.2.2.1 d.1.2.2.2.2.2.2.1 d.1.2.2.2.2.2.2.2.1 d.1.2.2.2.2.2.2.2.2.1 d.1.2.2.2.2.2.2.2.2.2.1 d.2.1.1 d.2.1.2.1 d.2.1.2.2.1 d.2.1.2.2.2.1) (fun _=>rfl)
def kl119_2 (P:Go.Program):Known:=(kf141 P).loop 119 2 lc119_2
theorem kl119_2_ok:KnownOk Go.Proofs.Try.prog (kl119_2 Go.Proofs.Try.prog):=kf141_ok.loop ok119_2

/-! loop 0 of ductility/sensor.centerOf -/

abbrev sh119_0:Sh:={ n:=46,slots:=[2,3,4,5,10,11,12],pats:=[.ptr 0 4 0,.ty (.int .i64),.ty (.int .i64),.ty (.int .i64),.ty (.slice (.slice (.int .i64))),.ty (.int .i64),.ty (.int .i64)],boxes:=[.row [.ty (.int .i64),.ty (.int .i64),.ty (.int .i64),.ty (.int .i64)]] }
abbrev shb119_0:Sh:={ n:=46,slots:=[2,3,4,5],pats:=[.ptr 0 4 0,.ty (.int .i64),.ty (.int .i64),.ty (.int .i64)],boxes:=[.row [.ty (.int .i64),.ty (.int .i64),.ty (.int .i64),.ty (.int .i64)]] }
abbrev shr119_0:Sh:={ n:=46,slots:=[],pats:=[],boxes:=[.row [.ty (.int .i64),.ty (.int .i64),.ty (.int .i64),.ty (.int .i64)]] }

def t119_0 (x1:Int) (x2:Int) (x3:Int) (x4:(List (List Int))) (x5:Int) (x6:Int) (b0_0:Int) (b0_1:Int) (b0_2:Int) (b0_3:Int):Tr (Out sh119_0.data shb119_0.data shr119_0.data) :=
  Tr.test ((!leF x5 x6:Bool))
    (Tr.test (decide ((0:Int) ≤ x6) && decide (x6 < (↑(List.length x4):Int)))
      (Tr.test (isBrk (l119_2 ((x1,(x2,(x3,(x6,(x4,(x5,(x6,((List.getD x4 (Int.toNat x6) []:List Int),((↑(List.length (List.getD x4 (Int.toNat x6) [])):Int),((0:Int),())))))))))),((b0_0,(b0_1,(b0_2,(b0_3,())))),()))))
        (let r0:=b119_2 ((x1,(x2,(x3,(x6,(x4,(x5,(x6,((List.getD x4 (Int.toNat x6) []:List Int),((↑(List.length (List.getD x4 (Int.toNat x6) [])):Int),((0:Int),())))))))))),((b0_0,(b0_1,(b0_2,(b0_3,())))),()));
        Tr.fin (.again ((r0.1.1,(r0.1.2.1,(r0.1.2.2.1,(r0.1.2.2.2.1,(r0.1.2.2.2.2.1,((wrap64 (r0.1.2.2.2.2.2.1 + (1:Int)):Int),())))))),((r0.2.1.1,(r0.2.1.2.1,(r0.2.1.2.2.1,(r0.2.1.2.2.2.1,())))),()))))
        (Tr.stop))
      (Tr.stop))
    (Tr.fin (.brk ((x1,(x2,(x3,()))),((b0_0,(b0_1,(b0_2,(b0_3,())))),()))))

def s119_0 (d:sh119_0.data):Option (Out sh119_0.data shb119_0.data shr119_0.data):=(t119_0 d.1.1 d.1.2.1 d.1.2.2.1 d.1.2.2.2.1 d.1.2.2.2.2.1 d.1.2.2.2.2.2.1 d.2.1.1 d.2.1.2.1 d.2.1.2.2.1 d.2.1.2.2.2.1).val
def l119_0 (d:sh119_0.data):Option (shb119_0.data ⊕ shr119_0.data):=itr s119_0 rounds d
def b119_0 (d:sh119_0.data):shb119_0.data:=outB shb119_0.dflt (l119_0 d)
def lc119_0:LoopC:=lcB sh119_0 shb119_0 shr119_0 l119_0 b119_0

theorem wk119_0 (x1:Int) (x2:Int) (x3:Int) (x4:(List (List Int))) (x5:Int) (x6:Int) (b0_0:Int) (b0_1:Int) (b0_2:Int) (b0_3:Int):Walks (runBody (kl119_2 Go.Proofs.Try.prog).orc Go.Proofs.Try.prog 400 119 0 sh119_0 shb119_0 shr119_0 ((x1,x2,x3,x4,x5,x6,()),(b0_0,b0_1,b0_2,b0_3,()),())) (t119_0 x1 x2 x3 x4 x5 x6 b0_0 b0_1 b0_2 b0_3) [([true,true,true],[1,2,4,6]),([ff],[2])] :=
  ⟨by kernel_rfl,by kernel_rfl,trivial⟩

theorem ok119_0_t (x1:Int) (x2:Int) (x3:Int) (x4:(List (List Int))) (x5:Int) (x6:Int) (b0_0:Int) (b0_1:Int) (b0_2:Int) (b0_3:Int):TrOk (BodyRuns Go.Proofs.Try.prog (kl119_2 Go.Proofs.Try.prog).orc 119 0 sh119_0 shb119_0 shr119_0 ((x1,x2,x3,x4,x5,x6,()),(b0_0,b0_1,b0_2,b0_3,()),())) (t119_0 x1 x2 x3 x4 x5 x6 b0_0 b0_1 b0_2 b0_3) :=
  Walks.ok (fun _ _ _=>BodyRuns.of) (wk119_0 x1 x2 x3 x4 x5 x6 b0_0 b0_1 b0_2 b0_3) (by kernel_rfl)

theorem ok119_0:LoopOk Go.Proofs.Try.prog 119 0 lc119_0:=loopOk_ofB (sh:=sh119_0) (shB:=shb119_0) (shR:=shr119_0) kl119_2_ok.base (T:=fun (d:sh119_0.data)=>t119_0 d.1.1 d.1.2.1 d.1.2.2.1 d.1.2.2.2.1 d.1.2.2.2.2.1 d.1.2.2.2.2.2.1 d.2.1.1 d.2.1.2.1 d.2.1.2.2.1 d.2.1.2.2.2.1) (by kernel_rfl) rfl (fun (d:sh119_0.data)=>ok119_0_t d.1.1 d.1.2.1 d.1.2.2.1 d.1.2.2.2.1 d.1.2.2.2.2.1 d.1.2.2.2.2.2.1 d.2.1.1 d.2.1.2.1 d.2.1.2.2.1 d.2.1.2.2.2.1) (fun _=>rfl)
def kl119_0 (P:Go.Program):Known:=(kl119_2 P).loop 119 0 lc119_0
theorem kl119_0_ok:KnownOk Go.Proofs.Try.prog (kl119_0 Go.Proofs.Try.prog):=kl119_2_ok.loop ok119_0

/-! ductility/sensor.centerOf -/

abbrev as119:List Ty:=[(.slice (.slice (.int .i64)))]
abbrev rs119:List Ty:=[(.pair (.pair (.int .i64) (.pair (.int .i64) .unit)) (.pair (.pair (.int .i64) (.pair (.int .i64) .unit)) .unit))]

def t119 (x0:(List (List Int))):Tr (Tys.data rs119) :=
  Tr.test (isBrk (l119_0 (((0:Int),((0:Int),((0:Int),(x0,((↑(List.length x0):Int),((0:Int),())))))),(((0:Int),((0:Int),((0:Int),((0:Int),())))),()))))
    (let r0:=b119_0 (((0:Int),((0:Int),((0:Int),(x0,((↑(List.length x0):Int),((0:Int),())))))),(((0:Int),((0:Int),((0:Int),((0:Int),())))),()));
    Tr.test (Option.isSome (f141 (r0.1.1,(r0.1.2.2.1,()))))
      (Tr.test (Option.isSome (f141 (r0.1.2.1,(r0.1.2.2.1,()))))
        (let r1:=g141 (r0.1.1,(r0.1.2.2.1,()));
        let r2:=g141 (r0.1.2.1,(r0.1.2.2.1,()));
        Tr.fin ((((r1.1.1,(r1.1.2.1,())),((r2.1.1,(r2.1.2.1,())),())),())))
        (Tr.stop))
      (Tr.stop))
    (Tr.stop)

def f119 (d:Tys.data as119):Option (Tys.data rs119):=(t119 d.1).val
def g119 (d:Tys.data as119):Tys.data rs119:=(f119 d).getD (Tys.dflt rs119)
def p119:PureC:=pcOf as119 rs119 f119 g119

theorem wk119 (x0:(List (List Int))):Walks (runPure (kl119_0 Go.Proofs.Try.prog).orc Go.Proofs.Try.prog 400 119 as119 rs119 (x0,())) (t119 x0) [([true,true,true],[2,4,1,6])] :=
  ⟨by kernel_rfl,trivial⟩

theorem ok119_t (x0:(List (List Int))):TrOk (PureRuns Go.Proofs.Try.prog (kl119_0 Go.Proofs.Try.prog).orc 119 as119 rs119 (x0,())) (t119 x0) :=
  Walks.ok (fun _ _ _=>PureRuns.of) (wk119 x0) (by kernel_rfl)

theorem ok119:PureOk Go.Proofs.Try.prog 119 p119:=pureOk_of kl119_0_ok.base (T:=fun (d:Tys.data as119)=>t119 d.1) (by kernel_rfl) (fun (d:Tys.data as119)=>ok119_t d.1)
def kf119 (P:Go.Program):Known:=(kl119_0 P).func 119 p119
theorem kf119_ok:KnownOk Go.Proofs.Try.prog (kf119 Go.Proofs.Try.prog):=kl119_0_ok.func ok119

/-! ductility/sensor.CenterOf -/

abbrev as71:List Ty:=[(.slice (.slice (.int .i64)))]
abbrev rs71:List Ty:=[(.pair (.pair (.int .i64) (.pair (.int .i64) .unit)) (.pair (.pair (.int .i64) (.pair (.int .i64) .unit)) .unit)),(.int .i64)]

def t71 (x0:(List (List Int))):Tr (Tys.data rs71) :=
  Tr.test (Option.isSome (f118 (x0,())))
    (let r0:=g118 (x0,());
    Tr.test ((!eqF r0.1 0:Bool))
      (Tr.fin (((((0:Int),((0:Int),())),(((0:Int),((0:Int),())),())),(r0.1,()))))
      (Tr.test (Option.isSome (f119 (x0,())))
        (let r1:=g119 (x0,());
        Tr.fin ((((r1.1.1.1,(r1.1.1.2.1,())),((r1.1.2.1.1,(r1.1.2.1.2.1,())),())),((0:Int),()))))
        (Tr.stop)))
    (Tr.stop)

def f71 (d:Tys.data as71):Option (Tys.data rs71):=(t71 d.1).val
def g71 (d:Tys.data as71):Tys.data rs71:=(f71 d).getD (Tys.dflt rs71)
def p71:PureC:=pcOf as71 rs71 f71 g71

theorem wk71 (x0:(List (List Int))):Walks (runPure (kf119 Go.Proofs.Try.prog).orc Go.Proofs.Try.prog 400 71 as71 rs71 (x0,())) (t71 x0) [([true,true],[2,4]),([true,false,true],[2,4,6])] :=
  ⟨by kernel_rfl,by kernel_rfl,trivial⟩

theorem ok71_t (x0:(List (List Int))):TrOk (PureRuns Go.Proofs.Try.prog (kf119 Go.Proofs.Try.prog).orc 71 as71 rs71 (x0,())) (t71 x0) :=
  Walks.ok (fun _ _ _=>PureRuns.of) (wk71 x0) (by kernel_rfl)

theorem ok71:PureOk Go.Proofs.Try.prog 71 p71:=pureOk_of kf119_ok.base (T:=fun (d:Tys.data as71)=>t71 d.1) (by kernel_rfl) (fun (d:Tys.data as71)=>ok71_t d.1)
def kf71 (P:Go.Program):Known:=(kf119 P).func 71 p71
theorem kf71_ok:KnownOk Go.Proofs.Try.prog (kf71 Go.Proofs.Try.prog):=kf119_ok.func ok71

/-! loop 0 of ductility/ductilitybase.Ranges -/

abbrev sh23_0:Sh:={ n:=26,slots:=[0,1,5],pats:=[.ty (.slice (.pair (.int .i64) (.pair (.int .i64) .unit))),.ty (.slice (.pair (.int .i64) (.pair (.int .i64) .unit))),.ty (.int .i64)],boxes:=[] }
abbrev shb23_0:Sh:={ n:=26,slots:=[],pats:=[],boxes:=[] }
abbrev shr23_0:Sh:={ n:=26,slots:=[4],pats:=[.ty .bool],boxes:=[] }

def t23_0 (x0:(List (Int×(Int×Unit)))) (x1:(List (Int×(Int×Unit)))) (x2:Int):Tr (Out sh23_0.data shb23_0.data shr23_0.data) :=
  Tr.test ((!leF (↑(List.length x0):Int) x2:Bool))
    (Tr.test (decide ((0:Int) ≤ x2) && decide (x2 < (↑(List.length x0):Int)))
      (Tr.test ((decide ((0:Int) ≤ x2) && decide (x2 < (↑(List.length x1):Int)):Bool))
        (Tr.test ((!((List.getD x0 (Int.toNat x2) ((0:Int),(0:Int),())).1 == (List.getD x1 (Int.toNat x2) ((0:Int),(0:Int),())).1 && ((List.getD x0 (Int.toNat x2) ((0:Int),(0:Int),())).2.1 == (List.getD x1 (Int.toNat x2) ((0:Int),(0:Int),())).2.1 && true)):Bool))
          (Tr.fin (.ret (((false:Bool),()),())))
          (Tr.fin (.again ((x0,(x1,((wrap64 (x2 + (1:Int)):Int),()))),()))))
        (Tr.stop))
      (Tr.stop))
    (Tr.fin (.brk ((),())))

def s23_0 (d:sh23_0.data):Option (Out sh23_0.data shb23_0.data shr23_0.data):=(t23_0 d.1.1 d.1.2.1 d.1.2.2.1).val
def l23_0 (d:sh23_0.data):Option (shb23_0.data ⊕ shr23_0.data):=itr s23_0 rounds d
def b23_0 (d:sh23_0.data):shb23_0.data:=outB shb23_0.dflt (l23_0 d)
def r23_0 (d:sh23_0.data):shr23_0.data:=outR shr23_0.dflt (l23_0 d)
def lc23_0:LoopC:=lcOf sh23_0 shb23_0 shr23_0 l23_0 b23_0 r23_0

theorem wk23_0 (x0:(List (Int×(Int×Unit)))) (x1:(List (Int×(Int×Unit)))) (x2:Int):Walks (runBody (kf71 Go.Proofs.Try.prog).orc Go.Proofs.Try.prog 400 23 0 sh23_0 shb23_0 shr23_0 ((x0,x1,x2,()),())) (t23_0 x0 x1 x2) [([true,true,true,true],[2,4,6,8]),([true,true,true,false],[2,4,6,8]),([ff],[2])] :=
  ⟨by kernel_rfl,by kernel_rfl,by kernel_rfl,trivial⟩

theorem ok23_0_t (x0:(List (Int×(Int×Unit)))) (x1:(List (Int×(Int×Unit)))) (x2:Int):TrOk (BodyRuns Go.Proofs.Try.prog (kf71 Go.Proofs.Try.prog).orc 23 0 sh23_0 shb23_0 shr23_0 ((x0,x1,x2,()),())) (t23_0 x0 x1 x2) :=
  Walks.ok (fun _ _ _=>BodyRuns.of) (wk23_0 x0 x1 x2) (by kernel_rfl)

theorem ok23_0:LoopOk Go.Proofs.Try.prog 23 0 lc23_0:=loopOk_of (sh:=sh23_0) (shB:=shb23_0) (shR:=shr23_0) kf71_ok.base (T:=fun (d:sh23_0.data)=>t23_0 d.1.1 d.1.2.1 d.1.2.2.1) (by kernel_rfl) rfl (fun (d:sh23_0.data)=>ok23_0_t d.1.1 d.1.2.1 d.1.2.2.1) (fun _=>rfl)
def kl23_0 (P:Go.Program):Known:=(kf71 P).loop 23 0 lc23_0
theorem kl23_0_ok:KnownOk Go.Proofs.Try.prog (kl23_0 Go.Proofs.Try.prog):=kf71_ok.loop ok23_0

/-! ductility/ductilitybase.Ranges -/

abbrev as23:List Ty:=[(.slice (.pair (.int .i64) (.pair (.int .i64) .unit))),(.slice (.pair (.int .i64) (.pair (.int .i64) .unit)))]
abbrev rs23:List Ty:=[.bool]

def t23 (x0:(List (Int×(Int×Unit)))) (x1:(List (Int×(Int×Unit)))):Tr (Tys.data rs23) :=
  Tr.test ((!eqF (↑(List.length x0):Int) (↑(List.length x1):Int):Bool))
    (Tr.fin ((false,())))
    (Tr.test (Option.isSome (l23_0 ((x0,(x1,((0:Int),()))),())))
      (Tr.test (isRet (l23_0 ((x0,(x1,((0:Int),()))),())))
        (let r0:=r23_0 ((x0,(x1,((0:Int),()))),());
        Tr.fin ((r0.1.1,())))
        (Tr.fin (((true:Bool),()))))
      (Tr.stop))

def f23 (d:Tys.data as23):Option (Tys.data rs23):=(t23 d.1 d.2.1).val
def g23 (d:Tys.data as23):Tys.data rs23:=(f23 d).getD (Tys.dflt rs23)
def p23:PureC:=pcOf as23 rs23 f23 g23

theorem wk23 (x0:(List (Int×(Int×Unit)))) (x1:(List (Int×(Int×Unit)))):Walks (runPure (kl23_0 Go.Proofs.Try.prog).orc Go.Proofs.Try.prog 400 23 as23 rs23 (x0,x1,())) (t23 x0 x1) [([tt],[2]),([false,true,true],[2,4,6]),([false,true,false],[2,4,6])] :=
  ⟨by kernel_rfl,by kernel_rfl,by kernel_rfl,trivial⟩

theorem ok23_t (x0:(List (Int×(Int×Unit)))) (x1:(List (Int×(Int×Unit)))):TrOk (PureRuns Go.Proofs.Try.prog (kl23_0 Go.Proofs.Try.prog).orc 23 as23 rs23 (x0,x1,())) (t23 x0 x1) :=
  Walks.ok (fun _ _ _=>PureRuns.of) (wk23 x0 x1) (by kernel_rfl)

theorem ok23:PureOk Go.Proofs.Try.prog 23 p23:=pureOk_of kl23_0_ok.base (T:=fun (d:Tys.data as23)=>t23 d.1 d.2.1) (by kernel_rfl) (fun (d:Tys.data as23)=>ok23_t d.1 d.2.1)
def kf23 (P:Go.Program):Known:=(kl23_0 P).func 23 p23
theorem kf23_ok:KnownOk Go.Proofs.Try.prog (kf23 Go.Proofs.Try.prog):=kl23_0_ok.func ok23

/-! loop 0 of ductility/ductilitybase.Ints -/

abbrev sh35_0:Sh:={ n:=26,slots:=[0,1,5],pats:=[.ty (.slice (.int .i64)),.ty (.slice (.int .i64)),.ty (.int .i64)],boxes:=[] }
abbrev shb35_0:Sh:={ n:=26,slots:=[],pats:=[],boxes:=[] }
abbrev shr35_0:Sh:={ n:=26,slots:=[4],pats:=[.ty .bool],boxes:=[] }

def t35_0 (x0:(List Int)) (x1:(List Int)) (x2:Int):Tr (Out sh35_0.data shb35_0.data shr35_0.data) :=
  Tr.test ((!leF (↑(List.length x0):Int) x2:Bool))
    (Tr.test (decide ((0:Int) ≤ x2) && decide (x2 < (↑(List.length x0):Int)))
      (Tr.test ((decide ((0:Int) ≤ x2) && decide (x2 < (↑(List.length x1):Int)):Bool))
        (Tr.test ((!eqF (List.getD x0 (Int.toNat x2) (0:Int)) (List.getD x1 (Int.toNat x2) (0:Int)):Bool))
          (Tr.fin (.ret (((false:Bool),()),())))
          (Tr.fin (.again ((x0,(x1,((wrap64 (x2 + (1:Int)):Int),()))),()))))
        (Tr.stop))
      (Tr.stop))
    (Tr.fin (.brk ((),())))

def s35_0 (d:sh35_0.data):Option (Out sh35_0.data shb35_0.data shr35_0.data):=(t35_0 d.1.1 d.1.2.1 d.1.2.2.1).val
def l35_0 (d:sh35_0.data):Option (shb35_0.data ⊕ shr35_0.data):=itr s35_0 rounds d
def b35_0 (d:sh35_0.data):shb35_0.data:=outB shb35_0.dflt (l35_0 d)
def r35_0 (d:sh35_0.data):shr35_0.data:=outR shr35_0.dflt (l35_0 d)
def lc35_0:LoopC:=lcOf sh35_0 shb35_0 shr35_0 l35_0 b35_0 r35_0

theorem wk35_0 (x0:(List Int)) (x1:(List Int)) (x2:Int):Walks (runBody (kf23 Go.Proofs.Try.prog).orc Go.Proofs.Try.prog 400 35 0 sh35_0 shb35_0 shr35_0 ((x0,x1,x2,()),())) (t35_0 x0 x1 x2) [([true,true,true,true],[2,4,6,8]),([true,true,true,false],[2,4,6,8]),([ff],[2])] :=
  ⟨by kernel_rfl,by kernel_rfl,by kernel_rfl,trivial⟩

theorem ok35_0_t (x0:(List Int)) (x1:(List Int)) (x2:Int):TrOk (BodyRuns Go.Proofs.Try.prog (kf23 Go.Proofs.Try.prog).orc 35 0 sh35_0 shb35_0 shr35_0 ((x0,x1,x2,()),())) (t35_0 x0 x1 x2) :=
  Walks.ok (fun _ _ _=>BodyRuns.of) (wk35_0 x0 x1 x2) (by kernel_rfl)

theorem ok35_0:LoopOk Go.Proofs.Try.prog 35 0 lc35_0:=loopOk_of (sh:=sh35_0) (shB:=shb35_0) (shR:=shr35_0) kf23_ok.base (T:=fun (d:sh35_0.data)=>t35_0 d.1.1 d.1.2.1 d.1.2.2.1) (by kernel_rfl) rfl (fun (d:sh35_0.data)=>ok35_0_t d.1.1 d.1.2.1 d.1.2.2.1) (fun _=>rfl)
def kl35_0 (P:Go.Program):Known:=(kf23 P).loop 35 0 lc35_0
theorem kl35_0_ok:KnownOk Go.Proofs.Try.prog (kl35_0 Go.Proofs.Try.prog):=kf23_ok.loop ok35_0

/-! ductility/ductilitybase.Ints -/

abbrev as35:List Ty:=[(.slice (.int .i64)),(.slice (.int .i64))]
abbrev rs35:List Ty:=[.bool]

def t35 (x0:(List Int)) (x1:(List Int)):Tr (Tys.data rs35) :=
  Tr.test ((!eqF (↑(List.length x0):Int) (↑(List.length x1):Int):Bool))
    (Tr.fin ((false,())))
    (Tr.test (Option.isSome (l35_0 ((x0,(x1,((0:Int),()))),())))
      (Tr.test (isRet (l35_0 ((x0,(x1,((0:Int),()))),())))
        (let r0:=r35_0 ((x0,(x1,((0:Int),()))),());
        Tr.fin ((r0.1.1,())))
        (Tr.fin (((true:Bool),()))))
      (Tr.stop))

def f35 (d:Tys.data as35):Option (Tys.data rs35):=(t35 d.1 d.2.1).val
def g35 (d:Tys.data as35):Tys.data rs35:=(f35 d).getD (Tys.dflt rs35)
def p35:PureC:=pcOf as35 rs35 f35 g35

theorem wk35 (x0:(List Int)) (x1:(List Int)):Walks (runPure (kl35_0 Go.Proofs.Try.prog).orc Go.Proofs.Try.prog 400 35 as35 rs35 (x0,x1,())) (t35 x0 x1) [([tt],[2]),([false,true,true],[2,4,6]),([false,true,false],[2,4,6])] :=
  ⟨by kernel_rfl,by kernel_rfl,by kernel_rfl,trivial⟩

theorem ok35_t (x0:(List Int)) (x1:(List Int)):TrOk (PureRuns Go.Proofs.Try.prog (kl35_0 Go.Proofs.Try.prog).orc 35 as35 rs35 (x0,x1,())) (t35 x0 x1) :=
  Walks.ok (fun _ _ _=>PureRuns.of) (wk35 x0 x1) (by kernel_rfl)

theorem ok35:PureOk Go.Proofs.Try.prog 35 p35:=pureOk_of kl35_0_ok.base (T:=fun (d:Tys.data as35)=>t35 d.1 d.2.1) (by kernel_rfl) (fun (d:Tys.data as35)=>ok35_t d.1 d.2.1)
def kf35 (P:Go.Program):Known:=(kl35_0 P).func 35 p35
theorem kf35_ok:KnownOk Go.Proofs.Try.prog (kf35 Go.Proofs.Try.prog):=kl35_0_ok.func ok35

/-! loop 0 of ductility/ductilityref07.SameExplanation -/

abbrev sh51_0:Sh:={ n:=39,slots:=[2,3,5],pats:=[.ptr 0 2 0,.ptr 1 2 0,.ty (.int .i64)],boxes:=[.row [.ty (.slice (.int .i64)),.ty (.slice .bool)],.row [.ty (.slice (.int .i64)),.ty (.slice .bool)]] }
abbrev shb51_0:Sh:={ n:=39,slots:=[],pats:=[],boxes:=[.row [.ty (.slice (.int .i64)),.ty (.slice .bool)],.row [.ty (.slice (.int .i64)),.ty (.slice .bool)]] }
abbrev shr51_0:Sh:={ n:=39,slots:=[4],pats:=[.ty .bool],boxes:=[.row [.ty (.slice (.int .i64)),.ty (.slice .bool)],.row [.ty (.slice (.int .i64)),.ty (.slice .bool)]] }

def t51_0 (x2:Int) (b0_0:(List Int)) (b0_1:(List Bool)) (b1_0:(List Int)) (b1_1:(List Bool)):Tr (Out sh51_0.data shb51_0.data shr51_0.data) :=
  Tr.test ((!leF (↑(List.length b0_1):Int) x2:Bool))
    (Tr.test (decide ((0:Int) ≤ x2) && decide (x2 < (↑(List.length b0_1):Int)))
      (Tr.test ((decide ((0:Int) ≤ x2) && decide (x2 < (↑(List.length b1_1):Int)):Bool))
        (Tr.test ((!List.getD b0_1 (Int.toNat x2) false == List.getD b1_1 (Int.toNat x2) false:Bool))
          (Tr.fin (.ret (((false:Bool),()),((b0_0,(b0_1,())),((b1_0,(b1_1,())),())))))
          (Tr.fin (.again (((wrap64 (x2 + (1:Int)):Int),()),((b0_0,(b0_1,())),((b1_0,(b1_1,())),()))))))
        (Tr.stop))
      (Tr.stop))
    (Tr.fin (.brk ((),((b0_0,(b0_1,())),((b1_0,(b1_1,())),())))))

def s51_0 (d:sh51_0.data):Option (Out sh51_0.data shb51_0.data shr51_0.data):=(t51_0 d.1.1 d.2.1.1 d.2.1.2.1 d.2.2.1.1 d.2.2.1.2.1).val
def l51_0 (d:sh51_0.data):Option (shb51_0.data ⊕ shr51_0.data):=itr s51_0 rounds d
def b51_0 (d:sh51_0.data):shb51_0.data:=outB shb51_0.dflt (l51_0 d)
def r51_0 (d:sh51_0.data):shr51_0.data:=outR shr51_0.dflt (l51_0 d)
def lc51_0:LoopC:=lcOf sh51_0 shb51_0 shr51_0 l51_0 b51_0 r51_0

theorem wk51_0 (x2:Int) (b0_0:(List Int)) (b0_1:(List Bool)) (b1_0:(List Int)) (b1_1:(List Bool)):Walks (runBody (kf35 Go.Proofs.Try.prog).orc Go.Proofs.Try.prog 400 51 0 sh51_0 shb51_0 shr51_0 ((x2,()),(b0_0,b0_1,()),(b1_0,b1_1,()),())) (t51_0 x2 b0_0 b0_1 b1_0 b1_1) [([true,true,true,true],[2,4,6,8]),([true,true,true,false],[2,4,6,8]),([ff],[2])] :=
  ⟨by kernel_rfl,by kernel_rfl,by kernel_rfl,trivial⟩

theorem ok51_0_t (x2:Int) (b0_0:(List Int)) (b0_1:(List Bool)) (b1_0:(List Int)) (b1_1:(List Bool)):TrOk (BodyRuns Go.Proofs.Try.prog (kf35 Go.Proofs.Try.prog).orc 51 0 sh51_0 shb51_0 shr51_0 ((x2,()),(b0_0,b0_1,()),(b1_0,b1_1,()),())) (t51_0 x2 b0_0 b0_1 b1_0 b1_1) :=
  Walks.ok (fun _ _ _=>BodyRuns.of) (wk51_0 x2 b0_0 b0_1 b1_0 b1_1) (by kernel_rfl)

theorem ok51_0:LoopOk Go.Proofs.Try.prog 51 0 lc51_0:=loopOk_of (sh:=sh51_0) (shB:=shb51_0) (shR:=shr51_0) kf35_ok.base (T:=fun (d:sh51_0.data)=>t51_0 d.1.1 d.2.1.1 d.2.1.2.1 d.2.2.1.1 d.2.2.1.2.1) (by kernel_rfl) rfl (fun (d:sh51_0.data)=>ok51_0_t d.1.1 d.2.1.1 d.2.1.2.1 d.2.2.1.1 d.2.2.1.2.1) (fun _=>rfl)
def kl51_0 (P:Go.Program):Known:=(kf35 P).loop 51 0 lc51_0
theorem kl51_0_ok:KnownOk Go.Proofs.Try.prog (kl51_0 Go.Proofs.Try.prog):=kf35_ok.loop ok51_0

/-! ductility/ductilityref07.SameExplanation -/

abbrev as51:List Ty:=[(.pair (.slice (.int .i64)) (.pair (.slice .bool) .unit)),(.pair (.slice (.int .i64)) (.pair (.slice .bool) .unit))]
abbrev rs51:List Ty:=[.bool]

def t51 (x0:(List Int)) (x0':(List Bool)) (x1:(List Int)) (x1':(List Bool)):Tr (Tys.data rs51) :=
  Tr.test (Option.isSome (f35 (x0,(x1,()))))
    (let r0:=g35 (x0,(x1,()));
    Tr.test ((!r0.1:Bool))
      (Tr.fin (((false:Bool),())))
      (Tr.test ((!eqF (↑(List.length x0'):Int) (↑(List.length x1'):Int):Bool))
        (Tr.fin (((false:Bool),())))
        (Tr.test (Option.isSome (l51_0 (((0:Int),()),((x0,(x0',())),((x1,(x1',())),())))))
          (Tr.test (isRet (l51_0 (((0:Int),()),((x0,(x0',())),((x1,(x1',())),())))))
            (let r1:=r51_0 (((0:Int),()),((x0,(x0',())),((x1,(x1',())),())));
            Tr.fin ((r1.1.1,())))
            (Tr.fin (((true:Bool),()))))
          (Tr.stop))))
    (Tr.stop)

def f51 (d:Tys.data as51):Option (Tys.data rs51):=(t51 d.1.1 d.1.2.1 d.2.1.1 d.2.1.2.1).val
def g51 (d:Tys.data as51):Tys.data rs51:=(f51 d).getD (Tys.dflt rs51)
def p51:PureC:=pcOf as51 rs51 f51 g51

theorem wk51 (x0:(List Int)) (x0':(List Bool)) (x1:(List Int)) (x1':(List Bool)):Walks (runPure (kl51_0 Go.Proofs.Try.prog).orc Go.Proofs.Try.prog 400 51 as51 rs51 ((x0,x0',()),(x1,x1',()),())) (t51 x0 x0' x1 x1') [([true,true],[1,2,2,2,2,2,2,2,2,4]),([true,false,true],[2,4,4,4,4,4,4,4,4,6]),([true,false,false,true,true],[2,4,6,8,8,8,8,8,8,8,8,10]),([true,false,false,true,false],[2,4,6,8,8,8,8,8,8,8,8,10])] :=
  ⟨by kernel_rfl,by kernel_rfl,by kernel_rfl,by kernel_rfl,trivial⟩

theorem ok51_t (x0:(List Int)) (x0':(List Bool)) (x1:(List Int)) (x1':(List Bool)):TrOk (PureRuns Go.Proofs.Try.prog (kl51_0 Go.Proofs.Try.prog).orc 51 as51 rs51 ((x0,x0',()),(x1,x1',()),())) (t51 x0 x0' x1 x1') :=
  Walks.ok (fun _ _ _=>PureRuns.of) (wk51 x0 x0' x1 x1') (by kernel_rfl)

theorem ok51:PureOk Go.Proofs.Try.prog 51 p51:=pureOk_of kl51_0_ok.base (T:=fun (d:Tys.data as51)=>t51 d.1.1 d.1.2.1 d.2.1.1 d.2.1.2.1) (by kernel_rfl) (fun (d:Tys.data as51)=>ok51_t d.1.1 d.1.2.1 d.2.1.1 d.2.1.2.1)
def kf51 (P:Go.Program):Known:=(kl51_0 P).func 51 p51
theorem kf51_ok:KnownOk Go.Proofs.Try.prog (kf51 Go.Proofs.Try.prog):=kl51_0_ok.func ok51

/-! ductility/ductilitybase.Size -/

abbrev as104:List Ty:=[(.int .i64)]
abbrev rs104:List Ty:=[(.int .i64)]

def t104 (x0:Int):Tr (Tys.data rs104) :=
  Tr.fin (((if x0 < Go.IntKind.wrap Go.IntKind.i64 ((0:Int) - x0) then Go.IntKind.wrap Go.IntKind.i64 ((0:Int) - x0) else x0:Int),()))

def f104 (d:Tys.data as104):Option (Tys.data rs104):=(t104 d.1).val
def g104 (d:Tys.data as104):Tys.data rs104:=(f104 d).getD (Tys.dflt rs104)
def p104:PureC:=pcOf as104 rs104 f104 g104

theorem wk104 (x0:Int):Walks (runPure (kf51 Go.Proofs.Try.prog).orc Go.Proofs.Try.prog 400 104 as104 rs104 (x0,())) (t104 x0) [([],[])] :=
  ⟨by kernel_rfl,trivial⟩

theorem ok104_t (x0:Int):TrOk (PureRuns Go.Proofs.Try.prog (kf51 Go.Proofs.Try.prog).orc 104 as104 rs104 (x0,())) (t104 x0) :=
  Walks.ok (fun _ _ _=>PureRuns.of) (wk104 x0) (by kernel_rfl)

theorem ok104:PureOk Go.Proofs.Try.prog 104 p104:=pureOk_of kf51_ok.base (T:=fun (d:Tys.data as104)=>t104 d.1) (by kernel_rfl) (fun (d:Tys.data as104)=>ok104_t d.1)
def kf104 (P:Go.Program):Known:=(kf51 P).func 104 p104
theorem kf104_ok:KnownOk Go.Proofs.Try.prog (kf104 Go.Proofs.Try.prog):=kf51_ok.func ok104

/-! loop 0 of ductility/ductilitybase.Gcd -/

abbrev sh103_0:Sh:={ n:=13,slots:=[0,1],pats:=[.ty (.int .i64),.ty (.int .i64)],boxes:=[] }
abbrev shb103_0:Sh:={ n:=13,slots:=[0],pats:=[.ty (.int .i64)],boxes:=[] }
abbrev shr103_0:Sh:={ n:=13,slots:=[],pats:=[],boxes:=[] }

def t103_0 (x0:Int) (x1:Int):Tr (Out sh103_0.data shb103_0.data shr103_0.data) :=
  Tr.test ((!eqF x1 0:Bool))
    (Tr.test (x1 == (0:Int))
      (Tr.stop)
      (Tr.fin (.again ((x1,((Int.tmod x0 x1:Int),())),()))))
    (Tr.fin (.brk ((x0,()),())))

def s103_0 (d:sh103_0.data):Option (Out sh103_0.data shb103_0.data shr103_0.data):=(t103_0 d.1.1 d.1.2.1).val
def l103_0 (d:sh103_0.data):Option (shb103_0.data ⊕ shr103_0.data):=itr s103_0 rounds d
def b103_0 (d:sh103_0.data):shb103_0.data:=outB shb103_0.dflt (l103_0 d)
def lc103_0:LoopC:=lcB sh103_0 shb103_0 shr103_0 l103_0 b103_0

theorem wk103_0 (x0:Int) (x1:Int):Walks (runBody (kf104 Go.Proofs.Try.prog).orc Go.Proofs.Try.prog 400 103 0 sh103_0 shb103_0 shr103_0 ((x0,x1,()),())) (t103_0 x0 x1) [([true,false],[2,4]),([ff],[2])] :=
  ⟨by kernel_rfl,by kernel_rfl,trivial⟩

theorem ok103_0_t (x0:Int) (x1:Int):TrOk (BodyRuns Go.Proofs.Try.prog (kf104 Go.Proofs.Try.prog).orc 103 0 sh103_0 shb103_0 shr103_0 ((x0,x1,()),())) (t103_0 x0 x1) :=
  Walks.ok (fun _ _ _=>BodyRuns.of) (wk103_0 x0 x1) (by kernel_rfl)

theorem ok103_0:LoopOk Go.Proofs.Try.prog 103 0 lc103_0:=loopOk_ofB (sh:=sh103_0) (shB:=shb103_0) (shR:=shr103_0) kf104_ok.base (T:=fun (d:sh103_0.data)=>t103_0 d.1.1 d.1.2.1) (by kernel_rfl) rfl (fun (d:sh103_0.data)=>ok103_0_t d.1.1 d.1.2.1) (fun _=>rfl)
def kl103_0 (P:Go.Program):Known:=(kf104 P).loop 103 0 lc103_0
theorem kl103_0_ok:KnownOk Go.Proofs.Try.prog (kl103_0 Go.Proofs.Try.prog):=kf104_ok.loop ok103_0

/-! ductility/ductilitybase.Gcd -/

abbrev as103:List Ty:=[(.int .i64),(.int .i64)]
abbrev rs103:List Ty:=[(.int .i64)]

def t103 (x0:Int) (x1:Int):Tr (Tys.data rs103) :=
  Tr.test (isBrk (l103_0 ((x0,(x1,())),())))
    (let r0:=b103_0 ((x0,(x1,())),());
    Tr.test (Option.isSome (f104 (r0.1.1,())))
      (let r1:=g104 (r0.1.1,());
      Tr.fin ((r1.1,())))
      (Tr.stop))
    (Tr.stop)

def f103 (d:Tys.data as103):Option (Tys.data rs103):=(t103 d.1 d.2.1).val
def g103 (d:Tys.data as103):Tys.data rs103:=(f103 d).getD (Tys.dflt rs103)
def p103:PureC:=pcOf as103 rs103 f103 g103

theorem wk103 (x0:Int) (x1:Int):Walks (runPure (kl103_0 Go.Proofs.Try.prog).orc Go.Proofs.Try.prog 400 103 as103 rs103 (x0,x1,())) (t103 x0 x1) [([true,true],[2,1,4])] :=
  ⟨by kernel_rfl,trivial⟩

theorem ok103_t (x0:Int) (x1:Int):TrOk (PureRuns Go.Proofs.Try.prog (kl103_0 Go.Proofs.Try.prog).orc 103 as103 rs103 (x0,x1,())) (t103 x0 x1) :=
  Walks.ok (fun _ _ _=>PureRuns.of) (wk103 x0 x1) (by kernel_rfl)

theorem ok103:PureOk Go.Proofs.Try.prog 103 p103:=pureOk_of kl103_0_ok.base (T:=fun (d:Tys.data as103)=>t103 d.1 d.2.1) (by kernel_rfl) (fun (d:Tys.data as103)=>ok103_t d.1 d.2.1)
def kf103 (P:Go.Program):Known:=(kl103_0 P).func 103 p103
theorem kf103_ok:KnownOk Go.Proofs.Try.prog (kf103 Go.Proofs.Try.prog):=kl103_0_ok.func ok103

/-! ductility/ductilitybase.Lowest -/

abbrev as82:List Ty:=[(.int .i64),(.int .i64)]
abbrev rs82:List Ty:=[(.pair (.int .i64) (.pair (.int .i64) .unit))]

def t82 (x0:Int) (x1:Int):Tr (Tys.data rs82) :=
  Tr.test (Option.isSome (f103 (x0,(x1,()))))
    (Tr.test (!leF (0:Int) x1)
      (let r0:=g103 (x0,(x1,()));
      Tr.test ((Go.IntKind.wrap Go.IntKind.i64 ((0:Int) - r0.1) == (0:Int):Bool))
        (Tr.stop)
        (Tr.fin ((((Go.IntKind.wrap Go.IntKind.i64 (Int.tdiv x0 (Go.IntKind.wrap Go.IntKind.i64 ((0:Int) - r0.1))):Int),((Go.IntKind.wrap Go.IntKind.i64 (Int.tdiv x1 (Go.IntKind.wrap Go.IntKind.i64 ((0:Int) - r0.1))):Int),())),()))))
      (let r0:=g103 (x0,(x1,()));
      Tr.test ((r0.1 == (0:Int):Bool))
        (Tr.stop)
        (Tr.fin ((((Go.IntKind.wrap Go.IntKind.i64 (Int.tdiv x0 r0.1):Int),((Go.IntKind.wrap Go.IntKind.i64 (Int.tdiv x1 r0.1):Int),())),())))))
    (Tr.stop)

def f82 (d:Tys.data as82):Option (Tys.data rs82):=(t82 d.1 d.2.1).val
def g82 (d:Tys.data as82):Tys.data rs82:=(f82 d).getD (Tys.dflt rs82)
def p82:PureC:=pcOf as82 rs82 f82 g82

theorem wk82 (x0:Int) (x1:Int):Walks (runPure (kf103 Go.Proofs.Try.prog).orc Go.Proofs.Try.prog 400 82 as82 rs82 (x0,x1,())) (t82 x0 x1) [([true,true,false],[2,2,4,6]),([true,false,false],[2,2,4,6])] :=
  ⟨by kernel_rfl,by kernel_rfl,trivial⟩

theorem ok82_t (x0:Int) (x1:Int):TrOk (PureRuns Go.Proofs.Try.prog (kf103 Go.Proofs.Try.prog).orc 82 as82 rs82 (x0,x1,())) (t82 x0 x1) :=
  Walks.ok (fun _ _ _=>PureRuns.of) (wk82 x0 x1) (by kernel_rfl)

theorem ok82:PureOk Go.Proofs.Try.prog 82 p82:=pureOk_of kf103_ok.base (T:=fun (d:Tys.data as82)=>t82 d.1 d.2.1) (by kernel_rfl) (fun (d:Tys.data as82)=>ok82_t d.1 d.2.1)
def kf82 (P:Go.Program):Known:=(kf103 P).func 82 p82
theorem kf82_ok:KnownOk Go.Proofs.Try.prog (kf82 Go.Proofs.Try.prog):=kf103_ok.func ok82

/-! ductility/ductilitylaw07.awake -/

abbrev as11:List Ty:=[]
abbrev rs11:List Ty:=[.bool]
def f11 (_:Tys.data as11):Option (Tys.data rs11):=some (true,())
def g11 (_:Tys.data as11):Tys.data rs11:=(true,())
def p11:PureC:=pcOf as11 rs11 f11 g11

theorem e11:runAsk (kf82 Go.Proofs.Try.prog).orc Go.Proofs.Try.prog 400 11 as11 rs11 () none = some ((true,()),[]):=by kernel_rfl
theorem ok11:PureOk Go.Proofs.Try.prog 11 p11:=pureOk_closed kf82_ok.base (by kernel_rfl) e11 All.nil
def kf11 (P:Go.Program):Known:=(kf82 P).func 11 p11
theorem kf11_ok:KnownOk Go.Proofs.Try.prog (kf11 Go.Proofs.Try.prog):=kf82_ok.func ok11

/-! ductility/ductilitylaw07.samples -/

abbrev as12:List Ty:=[(.slice (.int .i64))]
abbrev rs12:List Ty:=[.bool]

def t12 (x0:(List Int)):Tr (Tys.data rs12) :=
  Tr.fin (((leF (↑(List.length x0):Int) (62:Int):Bool),()))

def f12 (d:Tys.data as12):Option (Tys.data rs12):=(t12 d.1).val
def g12 (d:Tys.data as12):Tys.data rs12:=(f12 d).getD (Tys.dflt rs12)
def p12:PureC:=pcOf as12 rs12 f12 g12

theorem wk12 (x0:(List Int)):Walks (runPure (kf11 Go.Proofs.Try.prog).orc Go.Proofs.Try.prog 400 12 as12 rs12 (x0,())) (t12 x0) [([],[])] :=
  ⟨by kernel_rfl,trivial⟩

theorem ok12_t (x0:(List Int)):TrOk (PureRuns Go.Proofs.Try.prog (kf11 Go.Proofs.Try.prog).orc 12 as12 rs12 (x0,())) (t12 x0) :=
  Walks.ok (fun _ _ _=>PureRuns.of) (wk12 x0) (by kernel_rfl)

theorem ok12:PureOk Go.Proofs.Try.prog 12 p12:=pureOk_of kf11_ok.base (T:=fun (d:Tys.data as12)=>t12 d.1) (by kernel_rfl) (fun (d:Tys.data as12)=>ok12_t d.1)
def kf12 (P:Go.Program):Known:=(kf11 P).func 12 p12
theorem kf12_ok:KnownOk Go.Proofs.Try.prog (kf12 Go.Proofs.Try.prog):=kf11_ok.func ok12

/-! loop 0 of ductility/ductilitylaw07.channels -/

abbrev sh56_0:Sh:={ n:=19,slots:=[0,3],pats:=[.ty (.slice (.slice (.int .i64))),.ty (.int .i64)],boxes:=[] }
abbrev shb56_0:Sh:={ n:=19,slots:=[0],pats:=[.ty (.slice (.slice (.int .i64)))],boxes:=[] }
abbrev shr56_0:Sh:={ n:=19,slots:=[2],pats:=[.ty .bool],boxes:=[] }

def t56_0 (x0:(List (List Int))) (x1:Int):Tr (Out sh56_0.data shb56_0.data shr56_0.data) :=
  Tr.test ((!leF (↑(List.length x0):Int) x1:Bool))
    (Tr.test (decide ((0:Int) ≤ x1) && decide (x1 < (↑(List.length x0):Int)))
      (Tr.test (Option.isSome (f12 ((List.getD x0 (Int.toNat x1) []:List Int),())))
        (let r0:=g12 ((List.getD x0 (Int.toNat x1) []:List Int),());
        Tr.test ((!r0.1:Bool))
          (Tr.fin (.ret (((false:Bool),()),())))
          (Tr.fin (.again ((x0,((wrap64 (x1 + (1:Int)):Int),())),()))))
        (Tr.stop))
      (Tr.stop))
    (Tr.fin (.brk ((x0,()),())))

def s56_0 (d:sh56_0.data):Option (Out sh56_0.data shb56_0.data shr56_0.data):=(t56_0 d.1.1 d.1.2.1).val
def l56_0 (d:sh56_0.data):Option (shb56_0.data ⊕ shr56_0.data):=itr s56_0 rounds d
def b56_0 (d:sh56_0.data):shb56_0.data:=outB shb56_0.dflt (l56_0 d)
def r56_0 (d:sh56_0.data):shr56_0.data:=outR shr56_0.dflt (l56_0 d)
def lc56_0:LoopC:=lcOf sh56_0 shb56_0 shr56_0 l56_0 b56_0 r56_0

theorem wk56_0 (x0:(List (List Int))) (x1:Int):Walks (runBody (kf12 Go.Proofs.Try.prog).orc Go.Proofs.Try.prog 400 56 0 sh56_0 shb56_0 shr56_0 ((x0,x1,()),())) (t56_0 x0 x1) [([true,true,true,true],[2,4,6,8]),([true,true,true,false],[2,4,6,8]),([ff],[2])] :=
  ⟨by kernel_rfl,by kernel_rfl,by kernel_rfl,trivial⟩

theorem ok56_0_t (x0:(List (List Int))) (x1:Int):TrOk (BodyRuns Go.Proofs.Try.prog (kf12 Go.Proofs.Try.prog).orc 56 0 sh56_0 shb56_0 shr56_0 ((x0,x1,()),())) (t56_0 x0 x1) :=
  Walks.ok (fun _ _ _=>BodyRuns.of) (wk56_0 x0 x1) (by kernel_rfl)

theorem ok56_0:LoopOk Go.Proofs.Try.prog 56 0 lc56_0:=loopOk_of (sh:=sh56_0) (shB:=shb56_0) (shR:=shr56_0) kf12_ok.base (T:=fun (d:sh56_0.data)=>t56_0 d.1.1 d.1.2.1) (by kernel_rfl) rfl (fun (d:sh56_0.data)=>ok56_0_t d.1.1 d.1.2.1) (fun _=>rfl)
def kl56_0 (P:Go.Program):Known:=(kf12 P).loop 56 0 lc56_0
theorem kl56_0_ok:KnownOk Go.Proofs.Try.prog (kl56_0 Go.Proofs.Try.prog):=kf12_ok.loop ok56_0

/-! ductility/ductilitylaw07.channels -/

abbrev as56:List Ty:=[(.slice (.slice (.int .i64)))]
abbrev rs56:List Ty:=[.bool]

def t56 (x0:(List (List Int))):Tr (Tys.data rs56) :=
  Tr.test (Option.isSome (l56_0 ((x0,((0:Int),())),())))
    (Tr.test (isRet (l56_0 ((x0,((0:Int),())),())))
      (let r0:=r56_0 ((x0,((0:Int),())),());
      Tr.fin ((r0.1.1,())))
      (let r1:=b56_0 ((x0,((0:Int),())),());
      Tr.fin (((leF (↑(List.length r1.1.1):Int) (9:Int):Bool),()))))
    (Tr.stop)

def f56 (d:Tys.data as56):Option (Tys.data rs56):=(t56 d.1).val
def g56 (d:Tys.data as56):Tys.data rs56:=(f56 d).getD (Tys.dflt rs56)
def p56:PureC:=pcOf as56 rs56 f56 g56

theorem wk56 (x0:(List (List Int))):Walks (runPure (kl56_0 Go.Proofs.Try.prog).orc Go.Proofs.Try.prog 400 56 as56 rs56 (x0,())) (t56 x0) [([true,true],[2,4]),([true,false],[2,4])] :=
  ⟨by kernel_rfl,by kernel_rfl,trivial⟩

theorem ok56_t (x0:(List (List Int))):TrOk (PureRuns Go.Proofs.Try.prog (kl56_0 Go.Proofs.Try.prog).orc 56 as56 rs56 (x0,())) (t56 x0) :=
  Walks.ok (fun _ _ _=>PureRuns.of) (wk56 x0) (by kernel_rfl)

theorem ok56:PureOk Go.Proofs.Try.prog 56 p56:=pureOk_of kl56_0_ok.base (T:=fun (d:Tys.data as56)=>t56 d.1) (by kernel_rfl) (fun (d:Tys.data as56)=>ok56_t d.1)
def kf56 (P:Go.Program):Known:=(kl56_0 P).func 56 p56
theorem kf56_ok:KnownOk Go.Proofs.Try.prog (kf56 Go.Proofs.Try.prog):=kl56_0_ok.func ok56

/-! ductility/ductilitybase.CopyInts -/

abbrev as14:List Ty:=[(.slice (.int .i64))]
abbrev rs14:List Ty:=[(.slice (.int .i64))]

def t14 (x0:(List Int)):Tr (Tys.data rs14) :=
  Tr.test ((Nat.beq (List.length x0) (0:Nat):Bool))
    (Tr.fin ((([]:List Int),())))
    (Tr.test (Nat.ble ((0:Nat) + List.length x0) (0:Nat))
      (Tr.stop)
      (Tr.test ((Nat.ble (((2:Nat) * ((0:Nat) + List.length x0) + (192:Nat)) * (8:Nat)) (281474976710656:Nat) && Nat.ble ((0:Nat) + List.length x0) (281474976710656:Nat):Bool))
        (Tr.test ((Nat.beq ((0:Nat) + List.length x0) (List.length ([]++x0)):Bool))
          (Tr.fin ((([]++x0:List Int),())))
          (Tr.stop))
        (Tr.stop)))

def f14 (d:Tys.data as14):Option (Tys.data rs14):=(t14 d.1).val
def g14 (d:Tys.data as14):Tys.data rs14:=(f14 d).getD (Tys.dflt rs14)
def p14:PureC:=pcOf as14 rs14 f14 g14

theorem wk14 (x0:(List Int)):Walks (runPure (kf56 Go.Proofs.Try.prog).orc Go.Proofs.Try.prog 400 14 as14 rs14 (x0,())) (t14 x0) [([tt],[2]),([false,false,true,true],[2,4,6,8])] :=
  ⟨by kernel_rfl,by kernel_rfl,trivial⟩

theorem ok14_t (x0:(List Int)):TrOk (PureRuns Go.Proofs.Try.prog (kf56 Go.Proofs.Try.prog).orc 14 as14 rs14 (x0,())) (t14 x0) :=
  Walks.ok (fun _ _ _=>PureRuns.of) (wk14 x0) (by kernel_rfl)

theorem ok14:PureOk Go.Proofs.Try.prog 14 p14:=pureOk_of kf56_ok.base (T:=fun (d:Tys.data as14)=>t14 d.1) (by kernel_rfl) (fun (d:Tys.data as14)=>ok14_t d.1)
def kf14 (P:Go.Program):Known:=(kf56 P).func 14 p14
theorem kf14_ok:KnownOk Go.Proofs.Try.prog (kf14 Go.Proofs.Try.prog):=kf56_ok.func ok14

/-! loop 0 of ductility/ductilitybase.CopyLists -/

abbrev sh46_0:Sh:={ n:=20,slots:=[0,3,4],pats:=[.ty (.slice (.slice (.int .i64))),.acc (.slice (.int .i64)),.ty (.int .i64)],boxes:=[] }
abbrev shb46_0:Sh:={ n:=20,slots:=[3],pats:=[.acc (.slice (.int .i64))],boxes:=[] }
abbrev shr46_0:Sh:={ n:=20,slots:=[],pats:=[],boxes:=[] }

def t46_0 (x0:(List (List Int))) (x1:(List (List Int))) (x2:Int):Tr (Out sh46_0.data shb46_0.data shr46_0.data) :=
  Tr.test ((!leF (↑(List.length x0):Int) x2:Bool))
    (Tr.test (decide ((0:Int) ≤ x2) && decide (x2 < (↑(List.length x0):Int)))
      (Tr.test (Option.isSome (f14 ((List.getD x0 (Int.toNat x2) []:List Int),())))
        (Tr.test ((Nat.ble (((2:Nat) * (List.length x1 + (1:Nat)) + (192:Nat)) * (24:Nat)) (281474976710656:Nat) && Nat.ble (List.length x1 + (1:Nat)) (281474976710656:Nat):Bool))
          (let r0:=g14 ((List.getD x0 (Int.toNat x2) []:List Int),());
          Tr.fin (.again ((x0,((x1++[r0.1]:List (List Int)),((wrap64 (x2 + (1:Int)):Int),()))),())))
          (Tr.stop))
        (Tr.stop))
      (Tr.stop))
    (Tr.fin (.brk ((x1,()),())))

def s46_0 (d:sh46_0.data):Option (Out sh46_0.data shb46_0.data shr46_0.data):=(t46_0 d.1.1 d.1.2.1 d.1.2.2.1).val
def l46_0 (d:sh46_0.data):Option (shb46_0.data ⊕ shr46_0.data):=itr s46_0 rounds d
def b46_0 (d:sh46_0.data):shb46_0.data:=outB shb46_0.dflt (l46_0 d)
def lc46_0:LoopC:=lcB sh46_0 shb46_0 shr46_0 l46_0 b46_0

theorem wk46_0 (x0:(List (List Int))) (x1:(List (List Int))) (x2:Int):Walks (runBody (kf14 Go.Proofs.Try.prog).orc Go.Proofs.Try.prog 400 46 0 sh46_0 shb46_0 shr46_0 ((x0,x1,x2,()),())) (t46_0 x0 x1 x2) [([true,true,true,true],[1,2,0,4,6,8]),([ff],[2])] :=
  ⟨by kernel_rfl,by kernel_rfl,trivial⟩

theorem ok46_0_t (x0:(List (List Int))) (x1:(List (List Int))) (x2:Int):TrOk (BodyRuns Go.Proofs.Try.prog (kf14 Go.Proofs.Try.prog).orc 46 0 sh46_0 shb46_0 shr46_0 ((x0,x1,x2,()),())) (t46_0 x0 x1 x2) :=
  Walks.ok (fun _ _ _=>BodyRuns.of) (wk46_0 x0 x1 x2) (by kernel_rfl)

theorem ok46_0:LoopOk Go.Proofs.Try.prog 46 0 lc46_0:=loopOk_ofB (sh:=sh46_0) (shB:=shb46_0) (shR:=shr46_0) kf14_ok.base (T:=fun (d:sh46_0.data)=>t46_0 d.1.1 d.1.2.1 d.1.2.2.1) (by kernel_rfl) rfl (fun (d:sh46_0.data)=>ok46_0_t d.1.1 d.1.2.1 d.1.2.2.1) (fun _=>rfl)
def kl46_0 (P:Go.Program):Known:=(kf14 P).loop 46 0 lc46_0
theorem kl46_0_ok:KnownOk Go.Proofs.Try.prog (kl46_0 Go.Proofs.Try.prog):=kf14_ok.loop ok46_0

/-! ductility/ductilitybase.CopyLists -/

abbrev as46:List Ty:=[(.slice (.slice (.int .i64)))]
abbrev rs46:List Ty:=[(.slice (.slice (.int .i64)))]

def t46 (x0:(List (List Int))):Tr (Tys.data rs46) :=
  Tr.test (isBrk (l46_0 ((x0,(([]:List (List Int)),((0:Int),()))),())))
    (let r0:=b46_0 ((x0,(([]:List (List Int)),((0:Int),()))),());
    Tr.fin ((r0.1.1,())))
    (Tr.stop)

def f46 (d:Tys.data as46):Option (Tys.data rs46):=(t46 d.1).val
def g46 (d:Tys.data as46):Tys.data rs46:=(f46 d).getD (Tys.dflt rs46)
def p46:PureC:=pcOf as46 rs46 f46 g46

theorem wk46 (x0:(List (List Int))):Walks (runPure (kl46_0 Go.Proofs.Try.prog).orc Go.Proofs.Try.prog 400 46 as46 rs46 (x0,())) (t46 x0) [([tt],[1,2])] :=
  ⟨by kernel_rfl,trivial⟩

theorem ok46_t (x0:(List (List Int))):TrOk (PureRuns Go.Proofs.Try.prog (kl46_0 Go.Proofs.Try.prog).orc 46 as46 rs46 (x0,())) (t46 x0) :=
  Walks.ok (fun _ _ _=>PureRuns.of) (wk46 x0) (by kernel_rfl)

theorem ok46:PureOk Go.Proofs.Try.prog 46 p46:=pureOk_of kl46_0_ok.base (T:=fun (d:Tys.data as46)=>t46 d.1) (by kernel_rfl) (fun (d:Tys.data as46)=>ok46_t d.1)
def kf46 (P:Go.Program):Known:=(kl46_0 P).func 46 p46
theorem kf46_ok:KnownOk Go.Proofs.Try.prog (kf46 Go.Proofs.Try.prog):=kl46_0_ok.func ok46

/-! ductility/sensor.VotersAt -/

abbrev as65:List Ty:=[(.slice (.slice (.int .i64))),(.pair (.int .i64) (.pair (.int .i64) (.pair (.int .i64) .unit))),(.int .i64)]
abbrev rs65:List Ty:=[(.slice (.int .i64)),(.int .i64)]

def t65 (x0:(List (List Int))) (x1:Int) (x1':Int) (x1'':Int) (x2:Int):Tr (Tys.data rs65) :=
  Tr.test (Option.isSome (f116 (x0,((x1,(x1',(x1'',()))),()))))
    (let r0:=g116 (x0,((x1,(x1',(x1'',()))),()));
    Tr.test ((!eqF r0.2.1 0:Bool))
      (Tr.fin ((([]:List Int),(r0.2.1,()))))
      (Tr.test ((true && decide ((0:Int) < (↑(List.length x0):Int)):Bool))
        (Tr.test (Option.isSome (f100 ((0:Int),((wrap64 ((↑(List.length (List.getD x0 (0:Nat) [])):Int) - (1:Int)):Int),(([x2]:List Int),())))))
          (let r1:=g100 ((0:Int),((wrap64 ((↑(List.length (List.getD x0 (0:Nat) [])):Int) - (1:Int)):Int),(([x2]:List Int),())));
          Tr.test ((!r1.1:Bool))
            (Tr.fin ((([]:List Int),((6:Int),()))))
            (Tr.test (Option.isSome (f117 (((r0.1.1.1,(r0.1.1.2.1,(r0.1.1.2.2.1,()))),(r0.1.2.1,())),(x2,()))))
              (let r2:=g117 (((r0.1.1.1,(r0.1.1.2.1,(r0.1.1.2.2.1,()))),(r0.1.2.1,())),(x2,()));
              Tr.fin ((r2.1,((0:Int),()))))
              (Tr.stop)))
          (Tr.stop))
        (Tr.stop)))
    (Tr.stop)

def f65 (d:Tys.data as65):Option (Tys.data rs65):=(t65 d.1 d.2.1.1 d.2.1.2.1 d.2.1.2.2.1 d.2.2.1).val
def g65 (d:Tys.data as65):Tys.data rs65:=(f65 d).getD (Tys.dflt rs65)
def p65:PureC:=pcOf as65 rs65 f65 g65

theorem wk65 (x0:(List (List Int))) (x1:Int) (x1':Int) (x1'':Int) (x2:Int):Walks (runPure (kf46 Go.Proofs.Try.prog).orc Go.Proofs.Try.prog 400 65 as65 rs65 (x0,(x1,x1',x1'',()),x2,())) (t65 x0 x1 x1' x1'' x2) [([true,true],[2,4]),([true,false,true,true,true],[2,4,1,6,8,10]),([true,false,true,true,false,true],[2,4,6,1,8,10,12])] :=
  ⟨by kernel_rfl,by kernel_rfl,by kernel_rfl,trivial⟩

theorem ok65_t (x0:(List (List Int))) (x1:Int) (x1':Int) (x1'':Int) (x2:Int):TrOk (PureRuns Go.Proofs.Try.prog (kf46 Go.Proofs.Try.prog).orc 65 as65 rs65 (x0,(x1,x1',x1'',()),x2,())) (t65 x0 x1 x1' x1'' x2) :=
  Walks.ok (fun _ _ _=>PureRuns.of) (wk65 x0 x1 x1' x1'' x2) (by kernel_rfl)

theorem ok65:PureOk Go.Proofs.Try.prog 65 p65:=pureOk_of kf46_ok.base (T:=fun (d:Tys.data as65)=>t65 d.1 d.2.1.1 d.2.1.2.1 d.2.1.2.2.1 d.2.2.1) (by kernel_rfl) (fun (d:Tys.data as65)=>ok65_t d.1 d.2.1.1 d.2.1.2.1 d.2.1.2.2.1 d.2.2.1)
def kf65 (P:Go.Program):Known:=(kf46 P).func 65 p65
theorem kf65_ok:KnownOk Go.Proofs.Try.prog (kf65 Go.Proofs.Try.prog):=kf46_ok.func ok65

/-! ductility/ductilitybase.Within -/

abbrev as22:List Ty:=[(.int .i64),(.int .i64),(.int .i64)]
abbrev rs22:List Ty:=[.bool]

def t22 (x0:Int) (x1:Int) (x2:Int):Tr (Tys.data rs22) :=
  Tr.test ((leF x1 x0:Bool))
    (Tr.fin ((leF x0 x2,())))
    (Tr.fin ((false,())))

def f22 (d:Tys.data as22):Option (Tys.data rs22):=(t22 d.1 d.2.1 d.2.2.1).val
def g22 (d:Tys.data as22):Tys.data rs22:=(f22 d).getD (Tys.dflt rs22)
def p22:PureC:=pcOf as22 rs22 f22 g22

theorem wk22 (x0:Int) (x1:Int) (x2:Int):Walks (runPure (kf65 Go.Proofs.Try.prog).orc Go.Proofs.Try.prog 400 22 as22 rs22 (x0,x1,x2,())) (t22 x0 x1 x2) [([tt],[2,2,2,2]),([ff],[2,2,2,2])] :=
  ⟨by kernel_rfl,by kernel_rfl,trivial⟩

theorem ok22_t (x0:Int) (x1:Int) (x2:Int):TrOk (PureRuns Go.Proofs.Try.prog (kf65 Go.Proofs.Try.prog).orc 22 as22 rs22 (x0,x1,x2,())) (t22 x0 x1 x2) :=
  Walks.ok (fun _ _ _=>PureRuns.of) (wk22 x0 x1 x2) (by kernel_rfl)

theorem ok22:PureOk Go.Proofs.Try.prog 22 p22:=pureOk_of kf65_ok.base (T:=fun (d:Tys.data as22)=>t22 d.1 d.2.1 d.2.2.1) (by kernel_rfl) (fun (d:Tys.data as22)=>ok22_t d.1 d.2.1 d.2.2.1)
def kf22 (P:Go.Program):Known:=(kf65 P).func 22 p22
theorem kf22_ok:KnownOk Go.Proofs.Try.prog (kf22 Go.Proofs.Try.prog):=kf65_ok.func ok22

/-! loop 0 of ductility/ductilityref07.CheckRaw -/

abbrev sh19_0:Sh:={ n:=24,slots:=[0,4],pats:=[.ty (.slice (.int .i64)),.ty (.int .i64)],boxes:=[] }
abbrev shb19_0:Sh:={ n:=24,slots:=[],pats:=[],boxes:=[] }
abbrev shr19_0:Sh:={ n:=24,slots:=[2,3],pats:=[.ty (.int .i64),.ty (.int .i64)],boxes:=[] }

def t19_0 (x0:(List Int)) (x1:Int):Tr (Out sh19_0.data shb19_0.data shr19_0.data) :=
  Tr.test ((!leF (↑(List.length x0):Int) x1:Bool))
    (Tr.test (decide ((0:Int) ≤ x1) && decide (x1 < (↑(List.length x0):Int)))
      (Tr.test (Option.isSome (f22 ((List.getD x0 (Int.toNat x1) (0:Int):Int),((-100000:Int),((100000:Int),())))))
        (let r0:=g22 ((List.getD x0 (Int.toNat x1) (0:Int):Int),((-100000:Int),((100000:Int),())));
        Tr.test ((!r0.1:Bool))
          (Tr.fin (.ret ((x1,((2:Int),())),())))
          (Tr.fin (.again ((x0,((wrap64 (x1 + (1:Int)):Int),())),()))))
        (Tr.stop))
      (Tr.stop))
    (Tr.fin (.brk ((),())))

def s19_0 (d:sh19_0.data):Option (Out sh19_0.data shb19_0.data shr19_0.data):=(t19_0 d.1.1 d.1.2.1).val
def l19_0 (d:sh19_0.data):Option (shb19_0.data ⊕ shr19_0.data):=itr s19_0 rounds d
def b19_0 (d:sh19_0.data):shb19_0.data:=outB shb19_0.dflt (l19_0 d)
def r19_0 (d:sh19_0.data):shr19_0.data:=outR shr19_0.dflt (l19_0 d)
def lc19_0:LoopC:=lcOf sh19_0 shb19_0 shr19_0 l19_0 b19_0 r19_0

theorem wk19_0 (x0:(List Int)) (x1:Int):Walks (runBody (kf22 Go.Proofs.Try.prog).orc Go.Proofs.Try.prog 400 19 0 sh19_0 shb19_0 shr19_0 ((x0,x1,()),())) (t19_0 x0 x1) [([true,true,true,true],[2,4,6,8]),([true,true,true,false],[2,4,6,8]),([ff],[2])] :=
  ⟨by kernel_rfl,by kernel_rfl,by kernel_rfl,trivial⟩

theorem ok19_0_t (x0:(List Int)) (x1:Int):TrOk (BodyRuns Go.Proofs.Try.prog (kf22 Go.Proofs.Try.prog).orc 19 0 sh19_0 shb19_0 shr19_0 ((x0,x1,()),())) (t19_0 x0 x1) :=
  Walks.ok (fun _ _ _=>BodyRuns.of) (wk19_0 x0 x1) (by kernel_rfl)

theorem ok19_0:LoopOk Go.Proofs.Try.prog 19 0 lc19_0:=loopOk_of (sh:=sh19_0) (shB:=shb19_0) (shR:=shr19_0) kf22_ok.base (T:=fun (d:sh19_0.data)=>t19_0 d.1.1 d.1.2.1) (by kernel_rfl) rfl (fun (d:sh19_0.data)=>ok19_0_t d.1.1 d.1.2.1) (fun _=>rfl)
def kl19_0 (P:Go.Program):Known:=(kf22 P).loop 19 0 lc19_0
theorem kl19_0_ok:KnownOk Go.Proofs.Try.prog (kl19_0 Go.Proofs.Try.prog):=kf22_ok.loop ok19_0

/-! ductility/ductilityref07.CheckRaw -/

abbrev as19:List Ty:=[(.slice (.int .i64))]
abbrev rs19:List Ty:=[(.int .i64),(.int .i64)]

def t19 (x0:(List Int)):Tr (Tys.data rs19) :=
  Tr.test ((eqF (↑(List.length x0):Int) (0:Int):Bool))
    (Tr.fin (((0:Int),((10:Int),()))))
    (Tr.test (!leF (↑(List.length x0):Int) (60:Int))
      (Tr.fin (((0:Int),((8:Int),()))))
      (Tr.test (Option.isSome (l19_0 ((x0,((0:Int),())),())))
        (Tr.test (isRet (l19_0 ((x0,((0:Int),())),())))
          (let r0:=r19_0 ((x0,((0:Int),())),());
          Tr.fin ((r0.1.1,(r0.1.2.1,()))))
          (Tr.fin (((0:Int),((0:Int),())))))
        (Tr.stop)))

def f19 (d:Tys.data as19):Option (Tys.data rs19):=(t19 d.1).val
def g19 (d:Tys.data as19):Tys.data rs19:=(f19 d).getD (Tys.dflt rs19)
def p19:PureC:=pcOf as19 rs19 f19 g19

theorem wk19 (x0:(List Int)):Walks (runPure (kl19_0 Go.Proofs.Try.prog).orc Go.Proofs.Try.prog 400 19 as19 rs19 (x0,())) (t19 x0) [([tt],[2]),([false,true],[2,4]),([false,false,true,true],[2,4,6,8]),([false,false,true,false],[2,4,6,8])] :=
  ⟨by kernel_rfl,by kernel_rfl,by kernel_rfl,by kernel_rfl,trivial⟩

theorem ok19_t (x0:(List Int)):TrOk (PureRuns Go.Proofs.Try.prog (kl19_0 Go.Proofs.Try.prog).orc 19 as19 rs19 (x0,())) (t19 x0) :=
  Walks.ok (fun _ _ _=>PureRuns.of) (wk19 x0) (by kernel_rfl)

theorem ok19:PureOk Go.Proofs.Try.prog 19 p19:=pureOk_of kl19_0_ok.base (T:=fun (d:Tys.data as19)=>t19 d.1) (by kernel_rfl) (fun (d:Tys.data as19)=>ok19_t d.1)
def kf19 (P:Go.Program):Known:=(kl19_0 P).func 19 p19
theorem kf19_ok:KnownOk Go.Proofs.Try.prog (kf19 Go.Proofs.Try.prog):=kl19_0_ok.func ok19

/-! ductility/ductilityref07.RawErr -/

abbrev as34:List Ty:=[(.slice (.int .i64))]
abbrev rs34:List Ty:=[(.int .i64)]

def t34 (x0:(List Int)):Tr (Tys.data rs34) :=
  Tr.test (Option.isSome (f19 (x0,())))
    (let r0:=g19 (x0,());
    Tr.fin ((r0.2.1,())))
    (Tr.stop)

def f34 (d:Tys.data as34):Option (Tys.data rs34):=(t34 d.1).val
def g34 (d:Tys.data as34):Tys.data rs34:=(f34 d).getD (Tys.dflt rs34)
def p34:PureC:=pcOf as34 rs34 f34 g34

theorem wk34 (x0:(List Int)):Walks (runPure (kf19 Go.Proofs.Try.prog).orc Go.Proofs.Try.prog 400 34 as34 rs34 (x0,())) (t34 x0) [([tt],[2])] :=
  ⟨by kernel_rfl,trivial⟩

theorem ok34_t (x0:(List Int)):TrOk (PureRuns Go.Proofs.Try.prog (kf19 Go.Proofs.Try.prog).orc 34 as34 rs34 (x0,())) (t34 x0) :=
  Walks.ok (fun _ _ _=>PureRuns.of) (wk34 x0) (by kernel_rfl)

theorem ok34:PureOk Go.Proofs.Try.prog 34 p34:=pureOk_of kf19_ok.base (T:=fun (d:Tys.data as34)=>t34 d.1) (by kernel_rfl) (fun (d:Tys.data as34)=>ok34_t d.1)
def kf34 (P:Go.Program):Known:=(kf19 P).func 34 p34
theorem kf34_ok:KnownOk Go.Proofs.Try.prog (kf34 Go.Proofs.Try.prog):=kf19_ok.func ok34

/-! loop 0 of ductility/ductilityref07.ChannelsErr -/

abbrev sh58_0:Sh:={ n:=38,slots:=[0,5],pats:=[.ty (.slice (.slice (.int .i64))),.ty (.int .i64)],boxes:=[] }
abbrev shb58_0:Sh:={ n:=38,slots:=[],pats:=[],boxes:=[] }
abbrev shr58_0:Sh:={ n:=38,slots:=[4],pats:=[.ty (.int .i64)],boxes:=[] }

def t58_0 (x0:(List (List Int))) (x1:Int):Tr (Out sh58_0.data shb58_0.data shr58_0.data) :=
  Tr.test ((!leF (↑(List.length x0):Int) x1:Bool))
    (Tr.test (decide ((0:Int) ≤ x1) && decide (x1 < (↑(List.length x0):Int)))
      (Tr.test (Option.isSome (f34 ((List.getD x0 (Int.toNat x1) []:List Int),())))
        (let r0:=g34 ((List.getD x0 (Int.toNat x1) []:List Int),());
        Tr.test ((!eqF r0.1 0:Bool))
          (Tr.fin (.ret ((r0.1,()),())))
          (Tr.test ((true && decide ((0:Int) < (↑(List.length x0):Int)):Bool))
            (Tr.test ((!eqF (↑(List.length (List.getD x0 (Int.toNat x1) [])):Int) (↑(List.length (List.getD x0 (0:Nat) [])):Int):Bool))
              (Tr.fin (.ret (((13:Int),()),())))
              (Tr.fin (.again ((x0,((wrap64 (x1 + (1:Int)):Int),())),()))))
            (Tr.stop)))
        (Tr.stop))
      (Tr.stop))
    (Tr.fin (.brk ((),())))

def s58_0 (d:sh58_0.data):Option (Out sh58_0.data shb58_0.data shr58_0.data):=(t58_0 d.1.1 d.1.2.1).val
def l58_0 (d:sh58_0.data):Option (shb58_0.data ⊕ shr58_0.data):=itr s58_0 rounds d
def b58_0 (d:sh58_0.data):shb58_0.data:=outB shb58_0.dflt (l58_0 d)
def r58_0 (d:sh58_0.data):shr58_0.data:=outR shr58_0.dflt (l58_0 d)
def lc58_0:LoopC:=lcOf sh58_0 shb58_0 shr58_0 l58_0 b58_0 r58_0

theorem wk58_0 (x0:(List (List Int))) (x1:Int):Walks (runBody (kf34 Go.Proofs.Try.prog).orc Go.Proofs.Try.prog 400 58 0 sh58_0 shb58_0 shr58_0 ((x0,x1,()),())) (t58_0 x0 x1) [([true,true,true,true],[2,4,6,8]),([true,true,true,false,true,true],[2,4,10,6,8,10,12]),([true,true,true,false,true,false],[2,4,10,6,8,10,12]),([ff],[2])] :=
  ⟨by kernel_rfl,by kernel_rfl,by kernel_rfl,by kernel_rfl,trivial⟩

theorem ok58_0_t (x0:(List (List Int))) (x1:Int):TrOk (BodyRuns Go.Proofs.Try.prog (kf34 Go.Proofs.Try.prog).orc 58 0 sh58_0 shb58_0 shr58_0 ((x0,x1,()),())) (t58_0 x0 x1) :=
  Walks.ok (fun _ _ _=>BodyRuns.of) (wk58_0 x0 x1) (by kernel_rfl)

theorem ok58_0:LoopOk Go.Proofs.Try.prog 58 0 lc58_0:=loopOk_of (sh:=sh58_0) (shB:=shb58_0) (shR:=shr58_0) kf34_ok.base (T:=fun (d:sh58_0.data)=>t58_0 d.1.1 d.1.2.1) (by kernel_rfl) rfl (fun (d:sh58_0.data)=>ok58_0_t d.1.1 d.1.2.1) (fun _=>rfl)
def kl58_0 (P:Go.Program):Known:=(kf34 P).loop 58 0 lc58_0
theorem kl58_0_ok:KnownOk Go.Proofs.Try.prog (kl58_0 Go.Proofs.Try.prog):=kf34_ok.loop ok58_0

/-! ductility/ductilityref07.ChannelsErr -/

abbrev as58:List Ty:=[(.slice (.slice (.int .i64))),(.int .i64)]
abbrev rs58:List Ty:=[(.int .i64)]

def t58 (x0:(List (List Int))) (x1:Int):Tr (Tys.data rs58) :=
  Tr.test ((eqF (↑(List.length x0):Int) (0:Int):Bool))
    (Tr.fin (((10:Int),())))
    (Tr.test (!leF (↑(List.length x0):Int) x1)
      (Tr.fin (((8:Int),())))
      (Tr.test (Option.isSome (l58_0 ((x0,((0:Int),())),())))
        (Tr.test (isRet (l58_0 ((x0,((0:Int),())),())))
          (let r0:=r58_0 ((x0,((0:Int),())),());
          Tr.fin ((r0.1.1,())))
          (Tr.fin (((0:Int),()))))
        (Tr.stop)))

def f58 (d:Tys.data as58):Option (Tys.data rs58):=(t58 d.1 d.2.1).val
def g58 (d:Tys.data as58):Tys.data rs58:=(f58 d).getD (Tys.dflt rs58)
def p58:PureC:=pcOf as58 rs58 f58 g58

theorem wk58 (x0:(List (List Int))) (x1:Int):Walks (runPure (kl58_0 Go.Proofs.Try.prog).orc Go.Proofs.Try.prog 400 58 as58 rs58 (x0,x1,())) (t58 x0 x1) [([tt],[2]),([false,true],[2,4]),([false,false,true,true],[2,4,6,8]),([false,false,true,false],[2,4,6,8])] :=
  ⟨by kernel_rfl,by kernel_rfl,by kernel_rfl,by kernel_rfl,trivial⟩

theorem ok58_t (x0:(List (List Int))) (x1:Int):TrOk (PureRuns Go.Proofs.Try.prog (kl58_0 Go.Proofs.Try.prog).orc 58 as58 rs58 (x0,x1,())) (t58 x0 x1) :=
  Walks.ok (fun _ _ _=>PureRuns.of) (wk58 x0 x1) (by kernel_rfl)

theorem ok58:PureOk Go.Proofs.Try.prog 58 p58:=pureOk_of kl58_0_ok.base (T:=fun (d:Tys.data as58)=>t58 d.1 d.2.1) (by kernel_rfl) (fun (d:Tys.data as58)=>ok58_t d.1 d.2.1)
def kf58 (P:Go.Program):Known:=(kl58_0 P).func 58 p58
theorem kf58_ok:KnownOk Go.Proofs.Try.prog (kf58 Go.Proofs.Try.prog):=kl58_0_ok.func ok58

/-! ductility/ductilityref07.WatchErr -/

abbrev as66:List Ty:=[(.slice (.slice (.int .i64))),(.pair (.int .i64) (.pair (.int .i64) (.pair (.int .i64) .unit)))]
abbrev rs66:List Ty:=[(.int .i64)]

def t66 (x0:(List (List Int))) (x1:Int) (x1':Int) (x1'':Int):Tr (Tys.data rs66) :=
  Tr.test (Option.isSome (f58 (x0,((7:Int),()))))
    (let r0:=g58 (x0,((7:Int),()));
    Tr.test ((!eqF r0.1 0:Bool))
      (Tr.fin ((r0.1,())))
      (Tr.test (Option.isSome (f22 (x1,((0:Int),((100000:Int),())))))
        (let r1:=g22 (x1,((0:Int),((100000:Int),())));
        Tr.test ((!r1.1:Bool))
          (Tr.fin (((2:Int),())))
          (Tr.test (Option.isSome (f22 (x1',((1:Int),((↑(List.length x0):Int),())))))
            (let r2:=g22 (x1',((1:Int),((↑(List.length x0):Int),())));
            Tr.test ((!r2.1:Bool))
              (Tr.fin (((2:Int),())))
              (Tr.test (Option.isSome (f22 (x1'',((1:Int),((60:Int),())))))
                (let r3:=g22 (x1'',((1:Int),((60:Int),())));
                Tr.test ((!r3.1:Bool))
                  (Tr.fin (((2:Int),())))
                  (Tr.fin (((0:Int),()))))
                (Tr.stop)))
            (Tr.stop)))
        (Tr.stop)))
    (Tr.stop)

def f66 (d:Tys.data as66):Option (Tys.data rs66):=(t66 d.1 d.2.1.1 d.2.1.2.1 d.2.1.2.2.1).val
def g66 (d:Tys.data as66):Tys.data rs66:=(f66 d).getD (Tys.dflt rs66)
def p66:PureC:=pcOf as66 rs66 f66 g66

theorem wk66 (x0:(List (List Int))) (x1:Int) (x1':Int) (x1'':Int):Walks (runPure (kf58 Go.Proofs.Try.prog).orc Go.Proofs.Try.prog 400 66 as66 rs66 (x0,(x1,x1',x1'',()),())) (t66 x0 x1 x1' x1'') [([true,true],[2,4]),([true,false,true,true],[1,1,1,1,1,1,2,2,2,2,2,2,2,4,6,8]),([true,false,true,false,true,true],[1,2,2,2,2,2,6,6,4,6,6,6,6,6,8,10,12]),([true,false,true,false,true,false,true,true],[2,6,6,4,6,6,6,10,10,8,10,10,10,10,10,12,14,16]),([true,false,true,false,true,false,true,false],[2,6,6,4,6,6,6,10,10,8,10,10,10,10,10,12,14,16])] :=
  ⟨by kernel_rfl,by kernel_rfl,by kernel_rfl,by kernel_rfl,by kernel_rfl,trivial⟩

theorem ok66_t (x0:(List (List Int))) (x1:Int) (x1':Int) (x1'':Int):TrOk (PureRuns Go.Proofs.Try.prog (kf58 Go.Proofs.Try.prog).orc 66 as66 rs66 (x0,(x1,x1',x1'',()),())) (t66 x0 x1 x1' x1'') :=
  Walks.ok (fun _ _ _=>PureRuns.of) (wk66 x0 x1 x1' x1'') (by kernel_rfl)

theorem ok66:PureOk Go.Proofs.Try.prog 66 p66:=pureOk_of kf58_ok.base (T:=fun (d:Tys.data as66)=>t66 d.1 d.2.1.1 d.2.1.2.1 d.2.1.2.2.1) (by kernel_rfl) (fun (d:Tys.data as66)=>ok66_t d.1 d.2.1.1 d.2.1.2.1 d.2.1.2.2.1)
def kf66 (P:Go.Program):Known:=(kf58 P).func 66 p66
theorem kf66_ok:KnownOk Go.Proofs.Try.prog (kf66 Go.Proofs.Try.prog):=kf58_ok.func ok66

/-! loop 0 of ductility/ductilityref07.Voters -/

abbrev sh67_0:Sh:={ n:=31,slots:=[0,2,4,7,8],pats:=[.ty (.slice (.slice (.int .i64))),.ty (.int .i64),.ptr 0 3 0,.acc (.int .i64),.ty (.int .i64)],boxes:=[.row [.ty (.int .i64),.ty (.int .i64),.ty (.int .i64)]] }
abbrev shb67_0:Sh:={ n:=31,slots:=[7],pats:=[.acc (.int .i64)],boxes:=[.row [.ty (.int .i64),.ty (.int .i64),.ty (.int .i64)]] }
abbrev shr67_0:Sh:={ n:=31,slots:=[],pats:=[],boxes:=[.row [.ty (.int .i64),.ty (.int .i64),.ty (.int .i64)]] }

def t67_0 (x0:(List (List Int))) (x1:Int) (x3:(List Int)) (x4:Int) (b0_0:Int) (b0_1:Int) (b0_2:Int):Tr (Out sh67_0.data shb67_0.data shr67_0.data) :=
  Tr.test ((!leF (↑(List.length x0):Int) x4:Bool))
    (Tr.test (decide ((0:Int) ≤ x4) && decide (x4 < (↑(List.length x0):Int)))
      (Tr.test ((decide ((0:Int) ≤ x1) && decide (x1 < (↑(List.length (List.getD x0 (Int.toNat x4) [])):Int)):Bool))
        (Tr.test (Option.isSome (f104 ((List.getD (List.getD x0 (Int.toNat x4) []) (Int.toNat x1) (0:Int):Int),())))
          (let r0:=g104 ((List.getD (List.getD x0 (Int.toNat x4) []) (Int.toNat x1) (0:Int):Int),());
          Tr.test ((!leF r0.1 b0_0:Bool))
            (Tr.test ((Nat.ble (((2:Nat) * (List.length x3 + (1:Nat)) + (192:Nat)) * (8:Nat)) (281474976710656:Nat) && Nat.ble (List.length x3 + (1:Nat)) (281474976710656:Nat):Bool))
              (Tr.fin (.again ((x0,(x1,((x3++[x4]:List Int),((wrap64 (x4 + (1:Int)):Int),())))),((b0_0,(b0_1,(b0_2,()))),()))))
              (Tr.stop))
            (Tr.fin (.again ((x0,(x1,(x3,((wrap64 (x4 + (1:Int)):Int),())))),((b0_0,(b0_1,(b0_2,()))),())))))
          (Tr.stop))
        (Tr.stop))
      (Tr.stop))
    (Tr.fin (.brk ((x3,()),((b0_0,(b0_1,(b0_2,()))),()))))

def s67_0 (d:sh67_0.data):Option (Out sh67_0.data shb67_0.data shr67_0.data):=(t67_0 d.1.1 d.1.2.1 d.1.2.2.1 d.1.2.2.2.1 d.2.1.1 d.2.1.2.1 d.2.1.2.2.1).val
def l67_0 (d:sh67_0.data):Option (shb67_0.data ⊕ shr67_0.data):=itr s67_0 rounds d
def b67_0 (d:sh67_0.data):shb67_0.data:=outB shb67_0.dflt (l67_0 d)
def lc67_0:LoopC:=lcB sh67_0 shb67_0 shr67_0 l67_0 b67_0

theorem wk67_0 (x0:(List (List Int))) (x1:Int) (x3:(List Int)) (x4:Int) (b0_0:Int) (b0_1:Int) (b0_2:Int):Walks (runBody (kf66 Go.Proofs.Try.prog).orc Go.Proofs.Try.prog 400 67 0 sh67_0 shb67_0 shr67_0 ((x0,x1,x3,x4,()),(b0_0,b0_1,b0_2,()),())) (t67_0 x0 x1 x3 x4 b0_0 b0_1 b0_2) [([true,true,true,true,true,true],[1,2,0,4,6,8,10,12]),([true,true,true,true,false],[2,4,6,8,10]),([ff],[2])] :=
  ⟨by kernel_rfl,by kernel_rfl,by kernel_rfl,trivial⟩

theorem ok67_0_t (x0:(List (List Int))) (x1:Int) (x3:(List Int)) (x4:Int) (b0_0:Int) (b0_1:Int) (b0_2:Int):TrOk (BodyRuns Go.Proofs.Try.prog (kf66 Go.Proofs.Try.prog).orc 67 0 sh67_0 shb67_0 shr67_0 ((x0,x1,x3,x4,()),(b0_0,b0_1,b0_2,()),())) (t67_0 x0 x1 x3 x4 b0_0 b0_1 b0_2) :=
  Walks.ok (fun _ _ _=>BodyRuns.of) (wk67_0 x0 x1 x3 x4 b0_0 b0_1 b0_2) (by kernel_rfl)

theorem ok67_0:LoopOk Go.Proofs.Try.prog 67 0 lc67_0:=loopOk_ofB (sh:=sh67_0) (shB:=shb67_0) (shR:=shr67_0) kf66_ok.base (T:=fun (d:sh67_0.data)=>t67_0 d.1.1 d.1.2.1 d.1.2.2.1 d.1.2.2.2.1 d.2.1.1 d.2.1.2.1 d.2.1.2.2.1) (by kernel_rfl) rfl (fun (d:sh67_0.data)=>ok67_0_t d.1.1 d.1.2.1 d.1.2.2.1 d.1.2.2.2.1 d.2.1.1 d.2.1.2.1 d.2.1.2.2.1) (fun _=>rfl)
def kl67_0 (P:Go.Program):Known:=(kf66 P).loop 67 0 lc67_0
theorem kl67_0_ok:KnownOk Go.Proofs.Try.prog (kl67_0 Go.Proofs.Try.prog):=kf66_ok.loop ok67_0

/-! ductility/ductilityref07.Voters -/

abbrev as67:List Ty:=[(.slice (.slice (.int .i64))),(.pair (.int .i64) (.pair (.int .i64) (.pair (.int .i64) .unit))),(.int .i64)]
abbrev rs67:List Ty:=[(.slice (.int .i64))]

def t67 (x0:(List (List Int))) (x1:Int) (x1':Int) (x1'':Int) (x2:Int):Tr (Tys.data rs67) :=
  Tr.test (isBrk (l67_0 ((x0,(x2,(([]:List Int),((0:Int),())))),((x1,(x1',(x1'',()))),()))))
    (let r0:=b67_0 ((x0,(x2,(([]:List Int),((0:Int),())))),((x1,(x1',(x1'',()))),()));
    Tr.fin ((r0.1.1,())))
    (Tr.stop)

def f67 (d:Tys.data as67):Option (Tys.data rs67):=(t67 d.1 d.2.1.1 d.2.1.2.1 d.2.1.2.2.1 d.2.2.1).val
def g67 (d:Tys.data as67):Tys.data rs67:=(f67 d).getD (Tys.dflt rs67)
def p67:PureC:=pcOf as67 rs67 f67 g67

theorem wk67 (x0:(List (List Int))) (x1:Int) (x1':Int) (x1'':Int) (x2:Int):Walks (runPure (kl67_0 Go.Proofs.Try.prog).orc Go.Proofs.Try.prog 400 67 as67 rs67 (x0,(x1,x1',x1'',()),x2,())) (t67 x0 x1 x1' x1'' x2) [([tt],[1,2])] :=
  ⟨by kernel_rfl,trivial⟩

theorem ok67_t (x0:(List (List Int))) (x1:Int) (x1':Int) (x1'':Int) (x2:Int):TrOk (PureRuns Go.Proofs.Try.prog (kl67_0 Go.Proofs.Try.prog).orc 67 as67 rs67 (x0,(x1,x1',x1'',()),x2,())) (t67 x0 x1 x1' x1'' x2) :=
  Walks.ok (fun _ _ _=>PureRuns.of) (wk67 x0 x1 x1' x1'' x2) (by kernel_rfl)

theorem ok67:PureOk Go.Proofs.Try.prog 67 p67:=pureOk_of kl67_0_ok.base (T:=fun (d:Tys.data as67)=>t67 d.1 d.2.1.1 d.2.1.2.1 d.2.1.2.2.1 d.2.2.1) (by kernel_rfl) (fun (d:Tys.data as67)=>ok67_t d.1 d.2.1.1 d.2.1.2.1 d.2.1.2.2.1 d.2.2.1)
def kf67 (P:Go.Program):Known:=(kl67_0 P).func 67 p67
theorem kf67_ok:KnownOk Go.Proofs.Try.prog (kf67 Go.Proofs.Try.prog):=kl67_0_ok.func ok67

/-! loop 2 of ductility/ductilityref07.Tripped -/

abbrev sh68_2:Sh:={ n:=43,slots:=[0,3,6,7,8],pats:=[.ty (.slice (.slice (.int .i64))),.ptr 0 3 0,.ty (.int .i64),.ty .bool,.ty (.int .i64)],boxes:=[.row [.ty (.int .i64),.ty (.int .i64),.ty (.int .i64)]] }
abbrev shb68_2:Sh:={ n:=43,slots:=[0,3,6,7],pats:=[.ty (.slice (.slice (.int .i64))),.ptr 0 3 0,.ty (.int .i64),.ty .bool],boxes:=[.row [.ty (.int .i64),.ty (.int .i64),.ty (.int .i64)]] }
abbrev shr68_2:Sh:={ n:=43,slots:=[],pats:=[],boxes:=[.row [.ty (.int .i64),.ty (.int .i64),.ty (.int .i64)]] }

def t68_2 (x0:(List (List Int))) (x2:Int) (x3:Bool) (x4:Int) (b0_0:Int) (b0_1:Int) (b0_2:Int):Tr (Out sh68_2.data shb68_2.data shr68_2.data) :=
  Tr.test ((leF x4 x2:Bool))
    (Tr.test (x3)
      (Tr.test (Option.isSome (f67 (x0,((b0_0,(b0_1,(b0_2,()))),(x4,())))))
        (let r0:=g67 (x0,((b0_0,(b0_1,(b0_2,()))),(x4,())));
        Tr.fin (.again ((x0,(x2,((leF b0_1 (↑(List.length r0.1):Int):Bool),((wrap64 (x4 + (1:Int)):Int),())))),((b0_0,(b0_1,(b0_2,()))),()))))
        (Tr.stop))
      (Tr.fin (.again ((x0,(x2,((false:Bool),((wrap64 (x4 + (1:Int)):Int),())))),((b0_0,(b0_1,(b0_2,()))),())))))
    (Tr.fin (.brk ((x0,(x2,(x3,()))),((b0_0,(b0_1,(b0_2,()))),()))))

def s68_2 (d:sh68_2.data):Option (Out sh68_2.data shb68_2.data shr68_2.data):=(t68_2 d.1.1 d.1.2.1 d.1.2.2.1 d.1.2.2.2.1 d.2.1.1 d.2.1.2.1 d.2.1.2.2.1).val
def l68_2 (d:sh68_2.data):Option (shb68_2.data ⊕ shr68_2.data):=itr s68_2 rounds d
def b68_2 (d:sh68_2.data):shb68_2.data:=outB shb68_2.dflt (l68_2 d)
def lc68_2:LoopC:=lcB sh68_2 shb68_2 shr68_2 l68_2 b68_2

theorem wk68_2 (x0:(List (List Int))) (x2:Int) (x3:Bool) (x4:Int) (b0_0:Int) (b0_1:Int) (b0_2:Int):Walks (runBody (kf67 Go.Proofs.Try.prog).orc Go.Proofs.Try.prog 400 68 2 sh68_2 shb68_2 shr68_2 ((x0,x2,x3,x4,()),(b0_0,b0_1,b0_2,()),())) (t68_2 x0 x2 x3 x4 b0_0 b0_1 b0_2) [([true,true,true],[4,4,4,4,4,2,4,4,4,4,6]),([true,false],[2,2,2,2,2,2,2,2,2,4]),([ff],[2])] :=
  ⟨by kernel_rfl,by kernel_rfl,by kernel_rfl,trivial⟩

theorem ok68_2_t (x0:(List (List Int))) (x2:Int) (x3:Bool) (x4:Int) (b0_0:Int) (b0_1:Int) (b0_2:Int):TrOk (BodyRuns Go.Proofs.Try.prog (kf67 Go.Proofs.Try.prog).orc 68 2 sh68_2 shb68_2 shr68_2 ((x0,x2,x3,x4,()),(b0_0,b0_1,b0_2,()),())) (t68_2 x0 x2 x3 x4 b0_0 b0_1 b0_2) :=
  Walks.ok (fun _ _ _=>BodyRuns.of) (wk68_2 x0 x2 x3 x4 b0_0 b0_1 b0_2) (by kernel_rfl)

theorem ok68_2:LoopOk Go.Proofs.Try.prog 68 2 lc68_2:=loopOk_ofB (sh:=sh68_2) (shB:=shb68_2) (shR:=shr68_2) kf67_ok.base (T:=fun (d:sh68_2.data)=>t68_2 d.1.1 d.1.2.1 d.1.2.2.1 d.1.2.2.2.1 d.2.1.1 d.2.1.2.1 d.2.1.2.2.1) (by kernel_rfl) rfl (fun (d:sh68_2.data)=>ok68_2_t d.1.1 d.1.2.1 d.1.2.2.1 d.1.2.2.2.1 d.2.1.1 d.2.1.2.1 d.2.1.2.2.1) (fun _=>rfl)
def kl68_2 (P:Go.Program):Known:=(kf67 P).loop 68 2 lc68_2
theorem kl68_2_ok:KnownOk Go.Proofs.Try.prog (kl68_2 Go.Proofs.Try.prog):=kf67_ok.loop ok68_2

/-! loop 0 of ductility/ductilityref07.Tripped -/

abbrev sh68_0:Sh:={ n:=43,slots:=[0,3,6],pats:=[.ty (.slice (.slice (.int .i64))),.ptr 0 3 0,.ty (.int .i64)],boxes:=[.row [.ty (.int .i64),.ty (.int .i64),.ty (.int .i64)]] }
abbrev shb68_0:Sh:={ n:=43,slots:=[],pats:=[],boxes:=[.row [.ty (.int .i64),.ty (.int .i64),.ty (.int .i64)]] }
abbrev shr68_0:Sh:={ n:=43,slots:=[4,5],pats:=[.ty (.int .i64),.ty .bool],boxes:=[.row [.ty (.int .i64),.ty (.int .i64),.ty (.int .i64)]] }

def t68_0 (x0:(List (List Int))) (x2:Int) (b0_0:Int) (b0_1:Int) (b0_2:Int):Tr (Out sh68_0.data shb68_0.data shr68_0.data) :=
  Tr.test ((true && decide ((0:Int) < (↑(List.length x0):Int)):Bool))
    (Tr.test (!leF (↑(List.length (List.getD x0 (0:Nat) [])):Int) x2)
      (Tr.test (isBrk (l68_2 ((x0,(x2,((true:Bool),((wrap64 (wrap64 (x2 - b0_2) + (1:Int)):Int),())))),((b0_0,(b0_1,(b0_2,()))),()))))
        (let r0:=b68_2 ((x0,(x2,((true:Bool),((wrap64 (wrap64 (x2 - b0_2) + (1:Int)):Int),())))),((b0_0,(b0_1,(b0_2,()))),()));
        Tr.test (r0.1.2.2.1)
          (Tr.fin (.ret ((r0.1.2.1,((true:Bool),())),((r0.2.1.1,(r0.2.1.2.1,(r0.2.1.2.2.1,()))),()))))
          (Tr.fin (.again ((r0.1.1,((wrap64 (r0.1.2.1 + (1:Int)):Int),())),((r0.2.1.1,(r0.2.1.2.1,(r0.2.1.2.2.1,()))),())))))
        (Tr.stop))
      (Tr.fin (.brk ((),((b0_0,(b0_1,(b0_2,()))),())))))
    (Tr.stop)

def s68_0 (d:sh68_0.data):Option (Out sh68_0.data shb68_0.data shr68_0.data):=(t68_0 d.1.1 d.1.2.1 d.2.1.1 d.2.1.2.1 d.2.1.2.2.1).val
def l68_0 (d:sh68_0.data):Option (shb68_0.data ⊕ shr68_0.data):=itr s68_0 rounds d
def b68_0 (d:sh68_0.data):shb68_0.data:=outB shb68_0.dflt (l68_0 d)
def r68_0 (d:sh68_0.data):shr68_0.data:=outR shr68_0.dflt (l68_0 d)
def lc68_0:LoopC:=lcOf sh68_0 shb68_0 shr68_0 l68_0 b68_0 r68_0

theorem wk68_0 (x0:(List (List Int))) (x2:Int) (b0_0:Int) (b0_1:Int) (b0_2:Int):Walks (runBody (kl68_2 Go.Proofs.Try.prog).orc Go.Proofs.Try.prog 400 68 0 sh68_0 shb68_0 shr68_0 ((x0,x2,()),(b0_0,b0_1,b0_2,()),())) (t68_0 x0 x2 b0_0 b0_1 b0_2) [([true,true,true,true],[2,1,4,6,8]),([true,true,true,false],[2,1,4,6,8]),([true,false],[2,4])] :=
  ⟨by kernel_rfl,by kernel_rfl,by kernel_rfl,trivial⟩

theorem ok68_0_t (x0:(List (List Int))) (x2:Int) (b0_0:Int) (b0_1:Int) (b0_2:Int):TrOk (BodyRuns Go.Proofs.Try.prog (kl68_2 Go.Proofs.Try.prog).orc 68 0 sh68_0 shb68_0 shr68_0 ((x0,x2,()),(b0_0,b0_1,b0_2,()),())) (t68_0 x0 x2 b0_0 b0_1 b0_2) :=
  Walks.ok (fun _ _ _=>BodyRuns.of) (wk68_0 x0 x2 b0_0 b0_1 b0_2) (by kernel_rfl)

theorem ok68_0:LoopOk Go.Proofs.Try.prog 68 0 lc68_0:=loopOk_of (sh:=sh68_0) (shB:=shb68_0) (shR:=shr68_0) kl68_2_ok.base (T:=fun (d:sh68_0.data)=>t68_0 d.1.1 d.1.2.1 d.2.1.1 d.2.1.2.1 d.2.1.2.2.1) (by kernel_rfl) rfl (fun (d:sh68_0.data)=>ok68_0_t d.1.1 d.1.2.1 d.2.1.1 d.2.1.2.1 d.2.1.2.2.1) (fun _=>rfl)
def kl68_0 (P:Go.Program):Known:=(kl68_2 P).loop 68 0 lc68_0
theorem kl68_0_ok:KnownOk Go.Proofs.Try.prog (kl68_0 Go.Proofs.Try.prog):=kl68_2_ok.loop ok68_0

/-! ductility/ductilityref07.Tripped -/

abbrev as68:List Ty:=[(.slice (.slice (.int .i64))),(.pair (.int .i64) (.pair (.int .i64) (.pair (.int .i64) .unit)))]
abbrev rs68:List Ty:=[(.int .i64),.bool]

def t68 (x0:(List (List Int))) (x1:Int) (x1':Int) (x1'':Int):Tr (Tys.data rs68) :=
  Tr.test (Option.isSome (l68_0 ((x0,((wrap64 (x1'' - (1:Int)):Int),())),((x1,(x1',(x1'',()))),()))))
    (Tr.test (isRet (l68_0 ((x0,((wrap64 (x1'' - (1:Int)):Int),())),((x1,(x1',(x1'',()))),()))))
      (let r0:=r68_0 ((x0,((wrap64 (x1'' - (1:Int)):Int),())),((x1,(x1',(x1'',()))),()));
      Tr.fin ((r0.1.1,(r0.1.2.1,()))))
      (Tr.fin (((0:Int),((false:Bool),())))))
    (Tr.stop)

def f68 (d:Tys.data as68):Option (Tys.data rs68):=(t68 d.1 d.2.1.1 d.2.1.2.1 d.2.1.2.2.1).val
def g68 (d:Tys.data as68):Tys.data rs68:=(f68 d).getD (Tys.dflt rs68)
def p68:PureC:=pcOf as68 rs68 f68 g68

theorem wk68 (x0:(List (List Int))) (x1:Int) (x1':Int) (x1'':Int):Walks (runPure (kl68_0 Go.Proofs.Try.prog).orc Go.Proofs.Try.prog 400 68 as68 rs68 (x0,(x1,x1',x1'',()),())) (t68 x0 x1 x1' x1'') [([true,true],[2,4]),([true,false],[2,4])] :=
  ⟨by kernel_rfl,by kernel_rfl,trivial⟩

theorem ok68_t (x0:(List (List Int))) (x1:Int) (x1':Int) (x1'':Int):TrOk (PureRuns Go.Proofs.Try.prog (kl68_0 Go.Proofs.Try.prog).orc 68 as68 rs68 (x0,(x1,x1',x1'',()),())) (t68 x0 x1 x1' x1'') :=
  Walks.ok (fun _ _ _=>PureRuns.of) (wk68 x0 x1 x1' x1'') (by kernel_rfl)

theorem ok68:PureOk Go.Proofs.Try.prog 68 p68:=pureOk_of kl68_0_ok.base (T:=fun (d:Tys.data as68)=>t68 d.1 d.2.1.1 d.2.1.2.1 d.2.1.2.2.1) (by kernel_rfl) (fun (d:Tys.data as68)=>ok68_t d.1 d.2.1.1 d.2.1.2.1 d.2.1.2.2.1)
def kf68 (P:Go.Program):Known:=(kl68_0 P).func 68 p68
theorem kf68_ok:KnownOk Go.Proofs.Try.prog (kf68 Go.Proofs.Try.prog):=kl68_0_ok.func ok68

/-! loop 0 of ductility/ductilitylaw07.SensorWatches -/

abbrev sh9_0:Sh:={ n:=149,slots:=[0,7,14,15],pats:=[.ty (.slice (.slice (.int .i64))),.ty (.int .i64),.ptr 0 9 0,.ty (.int .i64)],boxes:=[.row [.ty (.int .i64),.ty (.int .i64),.ty (.int .i64),.ty (.int .i64),.ty (.int .i64),.ty (.int .i64),.ty (.int .i64),.ty (.int .i64),.ty (.int .i64)]] }
abbrev shb9_0:Sh:={ n:=149,slots:=[],pats:=[],boxes:=[.row [.ty (.int .i64),.ty (.int .i64),.ty (.int .i64),.ty (.int .i64),.ty (.int .i64),.ty (.int .i64),.ty (.int .i64),.ty (.int .i64),.ty (.int .i64)]] }
abbrev shr9_0:Sh:={ n:=149,slots:=[6],pats:=[.ty .bool],boxes:=[.row [.ty (.int .i64),.ty (.int .i64),.ty (.int .i64),.ty (.int .i64),.ty (.int .i64),.ty (.int .i64),.ty (.int .i64),.ty (.int .i64),.ty (.int .i64)]] }

def t9_0 (x0:(List (List Int))) (x1:Int) (x3:Int) (b0_0:Int) (b0_1:Int) (b0_2:Int) (b0_3:Int) (b0_4:Int) (b0_5:Int) (b0_6:Int) (b0_7:Int) (b0_8:Int):Tr (Out sh9_0.data shb9_0.data shr9_0.data) :=
  Tr.test ((!leF (3:Int) x3:Bool))
    (Tr.test (Option.isSome (f46 (x0,())))
      (Tr.test ((decide ((0:Int) ≤ x3) && decide (x3 < (3:Int)):Bool))
        (Tr.test ((Nat.ble ((0:Nat) + Int.toNat x3 * (3:Nat) + (3:Nat)) (9:Nat):Bool))
          (let r0:=g46 (x0,());
          Tr.test (Option.isSome (f64 (r0.1,(((List.getD [b0_0,b0_1,b0_2,b0_3,b0_4,b0_5,b0_6,b0_7,b0_8] ((0:Nat) + Int.toNat x3 * (3:Nat) + (0:Nat)) (0:Int):Int),((List.getD [b0_0,b0_1,b0_2,b0_3,b0_4,b0_5,b0_6,b0_7,b0_8] ((0:Nat) + Int.toNat x3 * (3:Nat) + (1:Nat)) (0:Int):Int),((List.getD [b0_0,b0_1,b0_2,b0_3,b0_4,b0_5,b0_6,b0_7,b0_8] ((0:Nat) + Int.toNat x3 * (3:Nat) + (2:Nat)) (0:Int):Int),()))),()))))
            (let r1:=g64 (r0.1,(((List.getD [b0_0,b0_1,b0_2,b0_3,b0_4,b0_5,b0_6,b0_7,b0_8] ((0:Nat) + Int.toNat x3 * (3:Nat) + (0:Nat)) (0:Int):Int),((List.getD [b0_0,b0_1,b0_2,b0_3,b0_4,b0_5,b0_6,b0_7,b0_8] ((0:Nat) + Int.toNat x3 * (3:Nat) + (1:Nat)) (0:Int):Int),((List.getD [b0_0,b0_1,b0_2,b0_3,b0_4,b0_5,b0_6,b0_7,b0_8] ((0:Nat) + Int.toNat x3 * (3:Nat) + (2:Nat)) (0:Int):Int),()))),()));
            Tr.test ((!eqF r1.2.1 0:Bool))
              (Tr.fin (.ret (((false:Bool),()),((b0_0,(b0_1,(b0_2,(b0_3,(b0_4,(b0_5,(b0_6,(b0_7,(b0_8,()))))))))),()))))
              (Tr.test ((!leF r1.1 x1:Bool))
                (Tr.fin (.ret (((false:Bool),()),((b0_0,(b0_1,(b0_2,(b0_3,(b0_4,(b0_5,(b0_6,(b0_7,(b0_8,()))))))))),()))))
                (Tr.fin (.again ((x0,(x1,((wrap64 (x3 + (1:Int)):Int),()))),((b0_0,(b0_1,(b0_2,(b0_3,(b0_4,(b0_5,(b0_6,(b0_7,(b0_8,()))))))))),()))))))
            (Tr.stop))
          (Tr.stop))
        (Tr.stop))
      (Tr.stop))
    (Tr.fin (.brk ((),((b0_0,(b0_1,(b0_2,(b0_3,(b0_4,(b0_5,(b0_6,(b0_7,(b0_8,()))))))))),()))))

def s9_0 (d:sh9_0.data):Option (Out sh9_0.data shb9_0.data shr9_0.data):=(t9_0 d.1.1 d.1.2.1 d.1.2.2.1 d.2.1.1 d.2.1.2.1 d.2.1.2.2.1 d.2.1.2.2.2.1 d.2.1.2.2.2.2.1 d.2.1.2.2.2.2.2.1 d.2.1.2.2.2.2.2.2.1 d.2.1.2.2.2.2.2.2.2.1 d.2.1.2.2.2.2.2.2.2.2.1).val
def l9_0 (d:sh9_0.data):Option (shb9_0.data ⊕ shr9_0.data):=itr s9_0 rounds d
def b9_0 (d:sh9_0.data):shb9_0.data:=outB shb9_0.dflt (l9_0 d)
def r9_0 (d:sh9_0.data):shr9_0.data:=outR shr9_0.dflt (l9_0 d)
def lc9_0:LoopC:=lcOf sh9_0 shb9_0 shr9_0 l9_0 b9_0 r9_0

theorem wk9_0 (x0:(List (List Int))) (x1:Int) (x3:Int) (b0_0:Int) (b0_1:Int) (b0_2:Int) (b0_3:Int) (b0_4:Int) (b0_5:Int) (b0_6:Int) (b0_7:Int) (b0_8:Int):Walks (runBody (kf68 Go.Proofs.Try.prog).orc Go.Proofs.Try.prog 400 9 0 sh9_0 shb9_0 shr9_0 ((x0,x1,x3,()),(b0_0,b0_1,b0_2,b0_3,b0_4,b0_5,b0_6,b0_7,b0_8,()),())) (t9_0 x0 x1 x3 b0_0 b0_1 b0_2 b0_3 b0_4 b0_5 b0_6 b0_7 b0_8) [([true,true,true,true,true,true],[1,2,2,2,2,4,6,8,10,12]),([true,true,true,true,true,false,true],[2,4,4,4,4,6,8,10,12,14]),([true,true,true,true,true,false,false],[2,4,4,4,4,6,8,10,12,14]),([ff],[2])] :=
  ⟨by kernel_rfl,by kernel_rfl,by kernel_rfl,by kernel_rfl,trivial⟩

theorem ok9_0_t (x0:(List (List Int))) (x1:Int) (x3:Int) (b0_0:Int) (b0_1:Int) (b0_2:Int) (b0_3:Int) (b0_4:Int) (b0_5:Int) (b0_6:Int) (b0_7:Int) (b0_8:Int):TrOk (BodyRuns Go.Proofs.Try.prog (kf68 Go.Proofs.Try.prog).orc 9 0 sh9_0 shb9_0 shr9_0 ((x0,x1,x3,()),(b0_0,b0_1,b0_2,b0_3,b0_4,b0_5,b0_6,b0_7,b0_8,()),())) (t9_0 x0 x1 x3 b0_0 b0_1 b0_2 b0_3 b0_4 b0_5 b0_6 b0_7 b0_8) :=
  Walks.ok (fun _ _ _=>BodyRuns.of) (wk9_0 x0 x1 x3 b0_0 b0_1 b0_2 b0_3 b0_4 b0_5 b0_6 b0_7 b0_8) (by kernel_rfl)

theorem ok9_0:LoopOk Go.Proofs.Try.prog 9 0 lc9_0:=loopOk_of (sh:=sh9_0) (shB:=shb9_0) (shR:=shr9_0) kf68_ok.base (T:=fun (d:sh9_0.data)=>t9_0 d.1.1 d.1.2.1 d.1.2.2.1 d.2.1.1 d.2.1.2.1 d.2.1.2.2.1 d.2.1.2.2.2.1 d.2.1.2.2.2.2.1 d.2.1.2.2.2.2.2.1 d.2.1.2.2.2.2.2.2.1 d.2.1.2.2.2.2.2.2.2.1 d.2.1.2.2.2.2.2.2.2.2.1) (by kernel_rfl) rfl (fun (d:sh9_0.data)=>ok9_0_t d.1.1 d.1.2.1 d.1.2.2.1 d.2.1.1 d.2.1.2.1 d.2.1.2.2.1 d.2.1.2.2.2.1 d.2.1.2.2.2.2.1 d.2.1.2.2.2.2.2.1 d.2.1.2.2.2.2.2.2.1 d.2.1.2.2.2.2.2.2.2.1 d.2.1.2.2.2.2.2.2.2.2.1) (fun _=>rfl)
def kl9_0 (P:Go.Program):Known:=(kf68 P).loop 9 0 lc9_0
theorem kl9_0_ok:KnownOk Go.Proofs.Try.prog (kl9_0 Go.Proofs.Try.prog):=kf68_ok.loop ok9_0

/-! ductility/ductilitylaw07.SensorWatches -/

abbrev as9:List Ty:=[(.slice (.slice (.int .i64))),(.pair (.int .i64) (.pair (.int .i64) (.pair (.int .i64) .unit))),(.int .i64)]
abbrev rs9:List Ty:=[.bool]

def t9 (x0:(List (List Int))) (x1:Int) (x1':Int) (x1'':Int) (x2:Int):Tr (Tys.data rs9) :=
  Tr.test (Option.isSome (f56 (x0,())))
    (let r0:=g56 (x0,());
    Tr.test ((!r0.1:Bool))
      (Tr.fin (((true:Bool),())))
      (Tr.test (Option.isSome (f46 (x0,())))
        (let r1:=g46 (x0,());
        Tr.test (Option.isSome (f64 (r1.1,((x1,(x1',(x1'',()))),()))))
          (Tr.test (Option.isSome (f65 (r1.1,((x1,(x1',(x1'',()))),(x2,())))))
            (Tr.test (Option.isSome (f66 (x0,((x1,(x1',(x1'',()))),()))))
              (let r4:=g66 (x0,((x1,(x1',(x1'',()))),()));
              Tr.test ((!eqF r4.1 0:Bool))
                (let r2:=g64 (r1.1,((x1,(x1',(x1'',()))),()));
                Tr.test ((eqF r2.2.1 r4.1:Bool))
                  (let r3:=g65 (r1.1,((x1,(x1',(x1'',()))),(x2,())));
                  Tr.test ((eqF r3.2.1 r4.1:Bool))
                    (Tr.test ((eqF r2.1 0:Bool))
                      (Tr.fin (((eqF (↑(List.length r3.1):Int) (0:Int):Bool),())))
                      (Tr.fin (((false:Bool),()))))
                    (Tr.fin (((false:Bool),()))))
                  (Tr.fin (((false:Bool),()))))
                (Tr.test ((true && decide ((0:Int) < (↑(List.length x0):Int)):Bool))
                  (Tr.test (Option.isSome (f22 (x2,((0:Int),((wrap64 ((↑(List.length (List.getD x0 (0:Nat) [])):Int) - (1:Int)):Int),())))))
                    (let r5:=g22 (x2,((0:Int),((wrap64 ((↑(List.length (List.getD x0 (0:Nat) [])):Int) - (1:Int)):Int),())));
                    Tr.test ((!r5.1:Bool))
                      (let r3:=g65 (r1.1,((x1,(x1',(x1'',()))),(x2,())));
                      Tr.test ((!eqF r3.2.1 6:Bool))
                        (Tr.fin (((false:Bool),())))
                        (Tr.test ((!eqF (↑(List.length r3.1):Int) (0:Int):Bool))
                          (Tr.fin (((false:Bool),())))
                          (Tr.test (Option.isSome (f68 (x0,((x1,(x1',(x1'',()))),()))))
                            (let r8:=g68 (x0,((x1,(x1',(x1'',()))),()));
                            Tr.test ((!r8.2.1:Bool))
                              (let r2:=g64 (r1.1,((x1,(x1',(x1'',()))),()));
                              Tr.test ((eqF r2.2.1 12:Bool))
                                (Tr.fin (((eqF r2.1 0:Bool),())))
                                (Tr.fin (((false:Bool),()))))
                              (let r2:=g64 (r1.1,((x1,(x1',(x1'',()))),()));
                              Tr.test ((!eqF r2.2.1 0:Bool))
                                (Tr.fin (((false:Bool),())))
                                (Tr.test ((!eqF r2.1 r8.1:Bool))
                                  (Tr.fin (((false:Bool),())))
                                  (Tr.test (Option.isSome (l9_0 ((x0,(r2.1,((0:Int),()))),(((if (0:Int) < Go.IntKind.wrap Go.IntKind.i64 (x1 - (1:Int)) then Go.IntKind.wrap Go.IntKind.i64 (x1 - (1:Int)) else (0:Int):Int),(x1',(x1'',(x1,((if (1:Int) < Go.IntKind.wrap Go.IntKind.i64 (x1' - (1:Int)) then Go.IntKind.wrap Go.IntKind.i64 (x1' - (1:Int)) else (1:Int):Int),(x1'',(x1,(x1',((if (1:Int) < Go.IntKind.wrap Go.IntKind.i64 (x1'' - (1:Int)) then Go.IntKind.wrap Go.IntKind.i64 (x1'' - (1:Int)) else (1:Int):Int),()))))))))),()))))
                                    (Tr.test (isRet (l9_0 ((x0,(r2.1,((0:Int),()))),(((if (0:Int) < Go.IntKind.wrap Go.IntKind.i64 (x1 - (1:Int)) then Go.IntKind.wrap Go.IntKind.i64 (x1 - (1:Int)) else (0:Int):Int),(x1',(x1'',(x1,((if (1:Int) < Go.IntKind.wrap Go.IntKind.i64 (x1' - (1:Int)) then Go.IntKind.wrap Go.IntKind.i64 (x1' - (1:Int)) else (1:Int):Int),(x1'',(x1,(x1',((if (1:Int) < Go.IntKind.wrap Go.IntKind.i64 (x1'' - (1:Int)) then Go.IntKind.wrap Go.IntKind.i64 (x1'' - (1:Int)) else (1:Int):Int),()))))))))),()))))
                                      (let r9:=r9_0 ((x0,(r2.1,((0:Int),()))),(((if (0:Int) < Go.IntKind.wrap Go.IntKind.i64 (x1 - (1:Int)) then Go.IntKind.wrap Go.IntKind.i64 (x1 - (1:Int)) else (0:Int):Int),(x1',(x1'',(x1,((if (1:Int) < Go.IntKind.wrap Go.IntKind.i64 (x1' - (1:Int)) then Go.IntKind.wrap Go.IntKind.i64 (x1' - (1:Int)) else (1:Int):Int),(x1'',(x1,(x1',((if (1:Int) < Go.IntKind.wrap Go.IntKind.i64 (x1'' - (1:Int)) then Go.IntKind.wrap Go.IntKind.i64 (x1'' - (1:Int)) else (1:Int):Int),()))))))))),()));
                                      Tr.fin ((r9.1.1,())))
                                      (Tr.fin (((true:Bool),()))))
                                    (Tr.stop)))))
                            (Tr.stop))))
                      (let r3:=g65 (r1.1,((x1,(x1',(x1'',()))),(x2,())));
                      Tr.test ((!eqF r3.2.1 0:Bool))
                        (Tr.fin (((false:Bool),())))
                        (Tr.test (Option.isSome (f67 (x0,((x1,(x1',(x1'',()))),(x2,())))))
                          (let r6:=g67 (x0,((x1,(x1',(x1'',()))),(x2,())));
                          Tr.test (Option.isSome (f35 (r3.1,(r6.1,()))))
                            (let r7:=g35 (r3.1,(r6.1,()));
                            Tr.test ((!r7.1:Bool))
                              (Tr.fin (((false:Bool),())))
                              (Tr.test (Option.isSome (f68 (x0,((x1,(x1',(x1'',()))),()))))
                                (let r8:=g68 (x0,((x1,(x1',(x1'',()))),()));
                                Tr.test ((!r8.2.1:Bool))
                                  (let r2:=g64 (r1.1,((x1,(x1',(x1'',()))),()));
                                  Tr.test ((eqF r2.2.1 12:Bool))
                                    (Tr.fin (((eqF r2.1 0:Bool),())))
                                    (Tr.fin (((false:Bool),()))))
                                  (let r2:=g64 (r1.1,((x1,(x1',(x1'',()))),()));
                                  Tr.test ((!eqF r2.2.1 0:Bool))
                                    (Tr.fin (((false:Bool),())))
                                    (Tr.test ((!eqF r2.1 r8.1:Bool))
                                      (Tr.fin (((false:Bool),())))
                                      (Tr.test (Option.isSome (l9_0 ((x0,(r2.1,((0:Int),()))),(((if (0:Int) < Go.IntKind.wrap Go.IntKind.i64 (x1 - (1:Int)) then Go.IntKind.wrap Go.IntKind.i64 (x1 - (1:Int)) else (0:Int):Int),(x1',(x1'',(x1,((if (1:Int) < Go.IntKind.wrap Go.IntKind.i64 (x1' - (1:Int)) then Go.IntKind.wrap Go.IntKind.i64 (x1' - (1:Int)) else (1:Int):Int),(x1'',(x1,(x1',((if (1:Int) < Go.IntKind.wrap Go.IntKind.i64 (x1'' - (1:Int)) then Go.IntKind.wrap Go.IntKind.i64 (x1'' - (1:Int)) else (1:Int):Int),()))))))))),()))))
                                        (Tr.test (isRet (l9_0 ((x0,(r2.1,((0:Int),()))),(((if (0:Int) < Go.IntKind.wrap Go.IntKind.i64 (x1 - (1:Int)) then Go.IntKind.wrap Go.IntKind.i64 (x1 - (1:Int)) else (0:Int):Int),(x1',(x1'',(x1,((if (1:Int) < Go.IntKind.wrap Go.IntKind.i64 (x1' - (1:Int)) then Go.IntKind.wrap Go.IntKind.i64 (x1' - (1:Int)) else (1:Int):Int),(x1'',(x1,(x1',((if (1:Int) < Go.IntKind.wrap Go.IntKind.i64 (x1'' - (1:Int)) then Go.IntKind.wrap Go.IntKind.i64 (x1'' - (1:Int)) else (1:Int):Int),()))))))))),()))))
                                          (let r9:=r9_0 ((x0,(r2.1,((0:Int),()))),(((if (0:Int) < Go.IntKind.wrap Go.IntKind.i64 (x1 - (1:Int)) then Go.IntKind.wrap Go.IntKind.i64 (x1 - (1:Int)) else (0:Int):Int),(x1',(x1'',(x1,((if (1:Int) < Go.IntKind.wrap Go.IntKind.i64 (x1' - (1:Int)) then Go.IntKind.wrap Go.IntKind.i64 (x1' - (1:Int)) else (1:Int):Int),(x1'',(x1,(x1',((if (1:Int) < Go.IntKind.wrap Go.IntKind.i64 (x1'' - (1:Int)) then Go.IntKind.wrap Go.IntKind.i64 (x1'' - (1:Int)) else (1:Int):Int),()))))))))),()));
                                          Tr.fin ((r9.1.1,())))
                                          (Tr.fin (((true:Bool),()))))
                                        (Tr.stop)))))
                                (Tr.stop)))
                            (Tr.stop))
                          (Tr.stop))))
                    (Tr.stop))
                  (Tr.stop)))
              (Tr.stop))
            (Tr.stop))
          (Tr.stop))
        (Tr.stop)))
    (Tr.stop)

def f9 (d:Tys.data as9):Option (Tys.data rs9):=(t9 d.1 d.2.1.1 d.2.1.2.1 d.2.1.2.2.1 d.2.2.1).val
def g9 (d:Tys.data as9):Tys.data rs9:=(f9 d).getD (Tys.dflt rs9)
def p9:PureC:=pcOf as9 rs9 f9 g9

theorem wk9 (x0:(List (List Int))) (x1:Int) (x1':Int) (x1'':Int) (x2:Int):Walks (runPure (kl9_0 Go.Proofs.Try.prog).orc Go.Proofs.Try.prog 400 9 as9 rs9 (x0,(x1,x1',x1'',()),x2,())) (t9 x0 x1 x1' x1'' x2) [([true,true],[2,4,0,1]),([true,false,true,true,true,true,true,true,true,true],[2,2,2,2,4,4,4,6,6,6,6,8,10,12,16,14,16,18,20,0,1]),([true,false,true,true,true,true,true,true,true,false],[2,2,2,2,4,4,4,6,6,6,6,8,10,12,16,14,16,18,20,0,1]),([true,false,true,true,true,true,true,true,false],[0,0,0,0,2,2,2,4,4,4,4,6,8,10,14,12,14,16,18,0,1]),([true,false,true,true,true,true,true,false],[0,0,0,0,0,0,0,2,2,2,2,4,6,8,12,10,12,14,16,0,1]),([true,false,true,true,true,true,false,true,true,true,true],[1,2,2,2,2,4,6,8,10,12,14,18,16,18,20,22,0,1]),([true,false,true,true,true,true,false,true,true,true,false,true],[2,4,4,4,4,6,8,10,12,14,16,20,18,20,22,24,0,1]),([true,false,true,true,true,true,false,true,true,true,false,false,true,true,true],[2,2,2,4,6,8,10,10,10,10,12,14,16,18,20,22,26,24,26,28,30,0,1]),([true,false,true,true,true,true,false,true,true,true,false,false,true,true,false],[2,2,2,4,6,8,10,10,10,10,12,14,16,18,20,22,26,24,26,28,30,0,1]),([true,false,true,true,true,true,false,true,true,true,false,false,true,false,true],[1,2,2,2,2,4,6,8,10,10,10,10,12,14,16,18,20,22,26,24,26,28,30,0,1]),([true,false,true,true,true,true,false,true,true,true,false,false,true,false,false,true],[2,4,4,4,4,6,8,10,12,12,12,12,14,16,18,20,22,24,28,26,28,30,32,0,1]),([true,false,true,true,true,true,false,true,true,true,false,false,true,false,false,false,true,true],[2,4,1,1,1,1,1,1,6,8,8,8,8,10,12,14,16,16,16,16,18,20,22,24,26,28,32,30,32,34,36,0,1]),([true,false,true,true,true,true,false,true,true,true,false,false,true,false,false,false,true,false],[2,4,1,1,1,1,1,1,6,8,8,8,8,10,12,14,16,16,16,16,18,20,22,24,26,28,32,30,32,34,36,0,1]),([true,false,true,true,true,true,false,true,true,false,true],[1,2,2,2,2,2,2,2,2,4,6,8,10,12,14,18,16,18,20,22,0,1]),([true,false,true,true,true,true,false,true,true,false,false,true,true,true],[2,8,8,4,8,6,8,8,8,8,8,10,12,14,16,18,20,24,22,24,26,28,0,1]),([true,false,true,true,true,true,false,true,true,false,false,true,true,false,true,true,true],[2,2,2,4,6,8,14,14,10,14,12,14,14,14,14,14,16,18,20,22,24,26,30,28,30,32,34,0,1]),([true,false,true,true,true,true,false,true,true,false,false,true,true,false,true,true,false],[2,2,2,4,6,8,14,14,10,14,12,14,14,14,14,14,16,18,20,22,24,26,30,28,30,32,34,0,1]),([true,false,true,true,true,true,false,true,true,false,false,true,true,false,true,false,true],[1,2,2,2,2,4,6,8,14,14,10,14,12,14,14,14,14,14,16,18,20,22,24,26,30,28,30,32,34,0,1]),([true,false,true,true,true,true,false,true,true,false,false,true,true,false,true,false,false,true],[2,4,4,4,4,6,8,10,16,16,12,16,14,16,16,16,16,16,18,20,22,24,26,28,32,30,32,34,36,0,1]),([true,false,true,true,true,true,false,true,true,false,false,true,true,false,true,false,false,false,true,true],[2,4,1,1,1,1,1,1,6,8,8,8,8,10,12,14,20,20,16,20,18,20,20,20,20,20,22,24,26,28,30,32,36,34,36,38,40,0,1]),([true,false,true,true,true,true,false,true,true,false,false,true,true,false,true,false,false,false,true,false],[2,4,1,1,1,1,1,1,6,8,8,8,8,10,12,14,20,20,16,20,18,20,20,20,20,20,22,24,26,28,30,32,36,34,36,38,40,0,1])] :=
  ⟨by kernel_rfl,by kernel_rfl,by kernel_rfl,by kernel_rfl,by kernel_rfl,by kernel_rfl,by kernel_rfl,by kernel_rfl,by kernel_rfl,by kernel_rfl,by kernel_rfl,by kernel_rfl,by kernel_rfl,by kernel_rfl,by kernel_rfl,by kernel_rfl,by kernel_rfl,by kernel_rfl,by kernel_rfl,by kernel_rfl,by kernel_rfl,trivial⟩

theorem ok9_t (x0:(List (List Int))) (x1:Int) (x1':Int) (x1'':Int) (x2:Int):TrOk (PureRuns Go.Proofs.Try.prog (kl9_0 Go.Proofs.Try.prog).orc 9 as9 rs9 (x0,(x1,x1',x1'',()),x2,())) (t9 x0 x1 x1' x1'' x2) :=
  Walks.ok (fun _ _ _=>PureRuns.of) (wk9 x0 x1 x1' x1'' x2) (by kernel_rfl)

theorem ok9:PureOk Go.Proofs.Try.prog 9 p9:=pureOk_of kl9_0_ok.base (T:=fun (d:Tys.data as9)=>t9 d.1 d.2.1.1 d.2.1.2.1 d.2.1.2.2.1 d.2.2.1) (by kernel_rfl) (fun (d:Tys.data as9)=>ok9_t d.1 d.2.1.1 d.2.1.2.1 d.2.1.2.2.1 d.2.2.1)

end Go.Vm.Mo
