import Derived.Test.YtaodpefmlgalfaaA4
import Derived.KernelRfl
import Derived.Test.YtaodpefmlgalfaaProg
import Derived.Test.YtaodpefmlgalfaaRsFd
set_option linter.unusedVariables false
set_option linter.unusedSimpArgs false

namespace Go.Vm.Mo
open Go
set_option linter.unusedVariables false

/-! ductility/ductilitybase.WideFloor -/

abbrev as94:List Ty:=[(.pair (.int .i64) (.pair (.slice (.int .i64)) .unit)),(.pair (.int .i64) (.pair (.slice (.int .i64)) .unit))]
abbrev rs94:List Ty:=[(.pair (.int .i64) (.pair (.slice (.int .i64)) .unit))]

def t94 (x0:Int) (x0':(List Int)) (x1:Int) (x1':(List Int)):Tr (Tys.data rs94) :=
  Tr.test ((eqF x0 0:Bool))
    (Tr.fin ((((0:Int),(([]:List Int),())),())))
    (Tr.test (decide ((0:Int) ≤ (↑(List.length x0'):Int)) && decide ((↑(List.length x0'):Int) ≤ (↑(List.length x0'):Int)) && decide ((8:Int) * (↑(List.length x0'):Int) ≤ (281474976710656:Int)) && decide ((↑(List.length x0'):Int) ≤ (281474976710656:Int)))
      (Tr.test (isBrk (l94_0 ((((Int.toNat (↑(List.length x0'):Int):Nat),(Int.toNat (↑(List.length x0'):Int):Nat)),(([]:List Int),((wrap64 ((↑(List.length x0'):Int) - (1:Int)):Int),()))),((x0,(x0',())),((x1,(x1',())),(((0:Int),()),((List.replicate (Int.toNat (↑(List.length x0'):Int)) (0:Int):List Int),())))))))
        (let r0:=b94_0 ((((Int.toNat (↑(List.length x0'):Int):Nat),(Int.toNat (↑(List.length x0'):Int):Nat)),(([]:List Int),((wrap64 ((↑(List.length x0'):Int) - (1:Int)):Int),()))),((x0,(x0',())),((x1,(x1',())),(((0:Int),()),((List.replicate (Int.toNat (↑(List.length x0'):Int)) (0:Int):List Int),())))));
        Tr.test ((Nat.beq r0.1.1.1 (List.length r0.2.2.2.2.1):Bool))
          (Tr.test (Option.isSome (f90 (r0.2.1.1,(r0.2.2.2.2.1,()))))
            (Tr.test ((!leF (0:Int) r0.2.1.1:Bool))
              (Tr.test ((!leF (↑(List.length r0.1.2.1):Int) (0:Int):Bool))
                (Tr.test (Option.isSome (f68 ((1:Int),())))
                  (let r1:=g90 (r0.2.1.1,(r0.2.2.2.2.1,()));
                  let r3:=g68 ((1:Int),());
                  Tr.test (Option.isSome (f95 ((r1.1.1,(r1.1.2.1,())),((r3.1.1,(r3.1.2.1,())),()))))
                    (let r4:=g95 ((r1.1.1,(r1.1.2.1,())),((r3.1.1,(r3.1.2.1,())),()));
                    Tr.fin (((r4.1.1,(r4.1.2.1,())),())))
                    (Tr.stop))
                  (Tr.stop))
                (let r1:=g90 (r0.2.1.1,(r0.2.2.2.2.1,()));
                Tr.fin (((r1.1.1,(r1.1.2.1,())),()))))
              (let r1:=g90 (r0.2.1.1,(r0.2.2.2.2.1,()));
              Tr.fin (((r1.1.1,(r1.1.2.1,())),()))))
            (Tr.stop))
          (Tr.test ((Nat.ble r0.1.1.1 (List.length r0.2.2.2.2.1):Bool))
            (Tr.test (Option.isSome (f90 (r0.2.1.1,((List.take r0.1.1.1 r0.2.2.2.2.1:List Int),()))))
              (Tr.test ((!leF (0:Int) r0.2.1.1:Bool))
                (Tr.test ((!leF (↑(List.length r0.1.2.1):Int) (0:Int):Bool))
                  (Tr.test (Option.isSome (f68 ((1:Int),())))
                    (let r2:=g90 (r0.2.1.1,((List.take r0.1.1.1 r0.2.2.2.2.1:List Int),()));
                    let r3:=g68 ((1:Int),());
                    Tr.test (Option.isSome (f95 ((r2.1.1,(r2.1.2.1,())),((r3.1.1,(r3.1.2.1,())),()))))
                      (let r5:=g95 ((r2.1.1,(r2.1.2.1,())),((r3.1.1,(r3.1.2.1,())),()));
                      Tr.fin (((r5.1.1,(r5.1.2.1,())),())))
                      (Tr.stop))
                    (Tr.stop))
                  (let r2:=g90 (r0.2.1.1,((List.take r0.1.1.1 r0.2.2.2.2.1:List Int),()));
                  Tr.fin (((r2.1.1,(r2.1.2.1,())),()))))
                (let r2:=g90 (r0.2.1.1,((List.take r0.1.1.1 r0.2.2.2.2.1:List Int),()));
                Tr.fin (((r2.1.1,(r2.1.2.1,())),()))))
              (Tr.stop))
            (Tr.stop /- a known call [op 3 of region 16 of F94] -/)))
        (Tr.stop))
      (Tr.stop))

def f94 (d:Tys.data as94):Option (Tys.data rs94):=(t94 d.1.1 d.1.2.1 d.2.1.1 d.2.1.2.1).val
def g94 (d:Tys.data as94):Tys.data rs94:=(f94 d).getD (Tys.dflt rs94)
def p94:PureC:=pcOf as94 rs94 f94 g94

theorem wk94 (x0:Int) (x0':(List Int)) (x1:Int) (x1':(List Int)):Walks (runPure (kl94_0 Go.Proofs.Try.prog).orc Go.Proofs.Try.prog 400 94 as94 rs94 ((x0,x0',()),(x1,x1',()),())) (t94 x0 x0' x1 x1') [([tt],[2]),([false,true,true,true,true,true,true,true,true],[2,4,6,8,8,8,8,10,12,1,14,16,18]),([false,true,true,true,true,true,false],[2,4,4,4,4,6,8,1,10,12,14]),([false,true,true,true,true,false],[0,2,2,2,2,4,6,1,8,10,12]),([false,true,true,false,true,true,true,true,true,true],[2,4,6,8,8,8,8,10,12,14,1,16,18,20]),([false,true,true,false,true,true,true,false],[2,4,4,4,4,6,8,10,1,12,14,16]),([false,true,true,false,true,true,false],[0,2,2,2,2,4,6,8,1,10,12,14])] :=
  ⟨by kernel_rfl,by kernel_rfl,by kernel_rfl,by kernel_rfl,by kernel_rfl,by kernel_rfl,by kernel_rfl,trivial⟩

theorem ok94_t (x0:Int) (x0':(List Int)) (x1:Int) (x1':(List Int)):TrOk (PureRuns Go.Proofs.Try.prog (kl94_0 Go.Proofs.Try.prog).orc 94 as94 rs94 ((x0,x0',()),(x1,x1',()),())) (t94 x0 x0' x1 x1') :=
  Walks.ok (fun _ _ _=>PureRuns.of) (wk94 x0 x0' x1 x1') (by kernel_rfl)

theorem ok94:PureOk Go.Proofs.Try.prog 94 p94:=pureOk_of kl94_0_ok.base (T:=fun (d:Tys.data as94)=>t94 d.1.1 d.1.2.1 d.2.1.1 d.2.1.2.1) (by kernel_rfl) (fun (d:Tys.data as94)=>ok94_t d.1.1 d.1.2.1 d.2.1.1 d.2.1.2.1)
def kf94 (P:Go.Program):Known:=(kl94_0 P).func 94 p94
theorem kf94_ok:KnownOk Go.Proofs.Try.prog (kf94 Go.Proofs.Try.prog):=kl94_0_ok.func ok94

/-! loop 0 of ductility/ductilitybase.wideGcd -/

abbrev sh93_0:Sh:={ n:=23,slots:=[2,3,4],pats:=[.ptr 0 2 0,.ptr 1 2 0,.ptr 2 2 0],boxes:=[.row [.ty (.int .i64),.ty (.slice (.int .i64))],.row [.ty (.int .i64),.ty (.slice (.int .i64))],.row [.ty (.int .i64),.nil]] }
abbrev shb93_0:Sh:={ n:=23,slots:=[2,4],pats:=[.ptr 0 2 0,.ptr 2 2 0],boxes:=[.row [.ty (.int .i64),.ty (.slice (.int .i64))],.row [.ty (.int .i64),.ty (.slice (.int .i64))],.row [.ty (.int .i64),.nil]] }
abbrev shr93_0:Sh:={ n:=23,slots:=[],pats:=[],boxes:=[.row [.ty (.int .i64),.ty (.slice (.int .i64))],.row [.ty (.int .i64),.ty (.slice (.int .i64))],.row [.ty (.int .i64),.nil]] }

def t93_0 (b0_0:Int) (b0_1:(List Int)) (b1_0:Int) (b1_1:(List Int)) (b2_0:Int):Tr (Out sh93_0.data shb93_0.data shr93_0.data) :=
  Tr.test (Option.isSome (f91 ((b1_0,(b1_1,())),())))
    (let r0:=g91 ((b1_0,(b1_1,())),());
    Tr.test ((!eqF r0.1 0:Bool))
      (Tr.test (Option.isSome (f94 ((b0_0,(b0_1,())),((b1_0,(b1_1,())),()))))
        (let r1:=g94 ((b0_0,(b0_1,())),((b1_0,(b1_1,())),()));
        Tr.test (Option.isSome (f71 ((r1.1.1,(r1.1.2.1,())),((b1_0,(b1_1,())),()))))
          (let r2:=g71 ((r1.1.1,(r1.1.2.1,())),((b1_0,(b1_1,())),()));
          Tr.test (Option.isSome (f95 ((b0_0,(b0_1,())),((r2.1.1,(r2.1.2.1,())),()))))
            (let r3:=g95 ((b0_0,(b0_1,())),((r2.1.1,(r2.1.2.1,())),()));
            Tr.fin (.again ((),((b1_0,(b1_1,())),((r3.1.1,(r3.1.2.1,())),((b2_0,()),()))))))
            (Tr.stop))
          (Tr.stop))
        (Tr.stop))
      (Tr.fin (.brk ((),((b0_0,(b0_1,())),((b1_0,(b1_1,())),((b2_0,()),())))))))
    (Tr.stop)

def s93_0 (d:sh93_0.data):Option (Out sh93_0.data shb93_0.data shr93_0.data):=(t93_0 d.2.1.1 d.2.1.2.1 d.2.2.1.1 d.2.2.1.2.1 d.2.2.2.1.1).val
def l93_0 (d:sh93_0.data):Option (shb93_0.data ⊕ shr93_0.data):=itr s93_0 rounds d
def b93_0 (d:sh93_0.data):shb93_0.data:=outB shb93_0.dflt (l93_0 d)
def lc93_0:LoopC:=lcB sh93_0 shb93_0 shr93_0 l93_0 b93_0

theorem wk93_0 (b0_0:Int) (b0_1:(List Int)) (b1_0:Int) (b1_1:(List Int)) (b2_0:Int):Walks (runBody (kf94 Go.Proofs.Try.prog).orc Go.Proofs.Try.prog 400 93 0 sh93_0 shb93_0 shr93_0 ((),(b0_0,b0_1,()),(b1_0,b1_1,()),(b2_0,()),())) (t93_0 b0_0 b0_1 b1_0 b1_1 b2_0) [([true,true,true,true,true],[2,4,6,8,10]),([true,false],[2,4])] :=
  ⟨by kernel_rfl,by kernel_rfl,trivial⟩

theorem ok93_0_t (b0_0:Int) (b0_1:(List Int)) (b1_0:Int) (b1_1:(List Int)) (b2_0:Int):TrOk (BodyRuns Go.Proofs.Try.prog (kf94 Go.Proofs.Try.prog).orc 93 0 sh93_0 shb93_0 shr93_0 ((),(b0_0,b0_1,()),(b1_0,b1_1,()),(b2_0,()),())) (t93_0 b0_0 b0_1 b1_0 b1_1 b2_0) :=
  Walks.ok (fun _ _ _=>BodyRuns.of) (wk93_0 b0_0 b0_1 b1_0 b1_1 b2_0) (by kernel_rfl)

theorem ok93_0:LoopOk Go.Proofs.Try.prog 93 0 lc93_0:=loopOk_ofB (sh:=sh93_0) (shB:=shb93_0) (shR:=shr93_0) kf94_ok.base (T:=fun (d:sh93_0.data)=>t93_0 d.2.1.1 d.2.1.2.1 d.2.2.1.1 d.2.2.1.2.1 d.2.2.2.1.1) (by kernel_rfl) rfl (fun (d:sh93_0.data)=>ok93_0_t d.2.1.1 d.2.1.2.1 d.2.2.1.1 d.2.2.1.2.1 d.2.2.2.1.1) (fun _=>rfl)
def kl93_0 (P:Go.Program):Known:=(kf94 P).loop 93 0 lc93_0
theorem kl93_0_ok:KnownOk Go.Proofs.Try.prog (kl93_0 Go.Proofs.Try.prog):=kf94_ok.loop ok93_0

/-! ductility/ductilitybase.wideGcd -/

abbrev as93:List Ty:=[(.pair (.int .i64) (.pair (.slice (.int .i64)) .unit)),(.pair (.int .i64) (.pair (.slice (.int .i64)) .unit))]
abbrev rs93:List Ty:=[(.pair (.int .i64) (.pair (.slice (.int .i64)) .unit))]

def t93 (x0:Int) (x0':(List Int)) (x1:Int) (x1':(List Int)):Tr (Tys.data rs93) :=
  Tr.test (Option.isSome (f105 ((x0,(x0',())),())))
    (Tr.test (Option.isSome (f105 ((x1,(x1',())),())))
      (let r0:=g105 ((x0,(x0',())),());
      let r1:=g105 ((x1,(x1',())),());
      Tr.test (isBrk (l93_0 ((),((r0.1.1,(r0.1.2.1,())),((r1.1.1,(r1.1.2.1,())),(((0:Int),()),()))))))
        (let r2:=b93_0 ((),((r0.1.1,(r0.1.2.1,())),((r1.1.1,(r1.1.2.1,())),(((0:Int),()),()))));
        Tr.fin (((r2.2.1.1,(r2.2.1.2.1,())),())))
        (Tr.stop))
      (Tr.stop))
    (Tr.stop)

def f93 (d:Tys.data as93):Option (Tys.data rs93):=(t93 d.1.1 d.1.2.1 d.2.1.1 d.2.1.2.1).val
def g93 (d:Tys.data as93):Tys.data rs93:=(f93 d).getD (Tys.dflt rs93)
def p93:PureC:=pcOf as93 rs93 f93 g93

theorem wk93 (x0:Int) (x0':(List Int)) (x1:Int) (x1':(List Int)):Walks (runPure (kl93_0 Go.Proofs.Try.prog).orc Go.Proofs.Try.prog 400 93 as93 rs93 ((x0,x0',()),(x1,x1',()),())) (t93 x0 x0' x1 x1') [([true,true,true],[1,2,4,6])] :=
  ⟨by kernel_rfl,trivial⟩

theorem ok93_t (x0:Int) (x0':(List Int)) (x1:Int) (x1':(List Int)):TrOk (PureRuns Go.Proofs.Try.prog (kl93_0 Go.Proofs.Try.prog).orc 93 as93 rs93 ((x0,x0',()),(x1,x1',()),())) (t93 x0 x0' x1 x1') :=
  Walks.ok (fun _ _ _=>PureRuns.of) (wk93 x0 x0' x1 x1') (by kernel_rfl)

theorem ok93:PureOk Go.Proofs.Try.prog 93 p93:=pureOk_of kl93_0_ok.base (T:=fun (d:Tys.data as93)=>t93 d.1.1 d.1.2.1 d.2.1.1 d.2.1.2.1) (by kernel_rfl) (fun (d:Tys.data as93)=>ok93_t d.1.1 d.1.2.1 d.2.1.1 d.2.1.2.1)
def kf93 (P:Go.Program):Known:=(kl93_0 P).func 93 p93
theorem kf93_ok:KnownOk Go.Proofs.Try.prog (kf93 Go.Proofs.Try.prog):=kl93_0_ok.func ok93

/-! ductility/ductilitybase.WideCmp -/

abbrev as70:List Ty:=[(.pair (.int .i64) (.pair (.slice (.int .i64)) .unit)),(.pair (.int .i64) (.pair (.slice (.int .i64)) .unit))]
abbrev rs70:List Ty:=[(.int .i64)]

def t70 (x0:Int) (x0':(List Int)) (x1:Int) (x1':(List Int)):Tr (Tys.data rs70) :=
  Tr.test (Option.isSome (f95 ((x0,(x0',())),((x1,(x1',())),()))))
    (let r0:=g95 ((x0,(x0',())),((x1,(x1',())),()));
    Tr.fin ((r0.1.1,())))
    (Tr.stop)

def f70 (d:Tys.data as70):Option (Tys.data rs70):=(t70 d.1.1 d.1.2.1 d.2.1.1 d.2.1.2.1).val
def g70 (d:Tys.data as70):Tys.data rs70:=(f70 d).getD (Tys.dflt rs70)
def p70:PureC:=pcOf as70 rs70 f70 g70

theorem wk70 (x0:Int) (x0':(List Int)) (x1:Int) (x1':(List Int)):Walks (runPure (kf93 Go.Proofs.Try.prog).orc Go.Proofs.Try.prog 400 70 as70 rs70 ((x0,x0',()),(x1,x1',()),())) (t70 x0 x0' x1 x1') [([tt],[2])] :=
  ⟨by kernel_rfl,trivial⟩

theorem ok70_t (x0:Int) (x0':(List Int)) (x1:Int) (x1':(List Int)):TrOk (PureRuns Go.Proofs.Try.prog (kf93 Go.Proofs.Try.prog).orc 70 as70 rs70 ((x0,x0',()),(x1,x1',()),())) (t70 x0 x0' x1 x1') :=
  Walks.ok (fun _ _ _=>PureRuns.of) (wk70 x0 x0' x1 x1') (by kernel_rfl)

theorem ok70:PureOk Go.Proofs.Try.prog 70 p70:=pureOk_of kf93_ok.base (T:=fun (d:Tys.data as70)=>t70 d.1.1 d.1.2.1 d.2.1.1 d.2.1.2.1) (by kernel_rfl) (fun (d:Tys.data as70)=>ok70_t d.1.1 d.1.2.1 d.2.1.1 d.2.1.2.1)
def kf70 (P:Go.Program):Known:=(kf93 P).func 70 p70
theorem kf70_ok:KnownOk Go.Proofs.Try.prog (kf70 Go.Proofs.Try.prog):=kf93_ok.func ok70

/-! ductility/ductilitybase.RatioMake -/

abbrev as69:List Ty:=[(.pair (.int .i64) (.pair (.slice (.int .i64)) .unit)),(.pair (.int .i64) (.pair (.slice (.int .i64)) .unit))]
abbrev rs69:List Ty:=[(.pair (.pair (.int .i64) (.pair (.slice (.int .i64)) .unit)) (.pair (.pair (.int .i64) (.pair (.slice (.int .i64)) .unit)) .unit))]

def t69 (x0:Int) (x0':(List Int)) (x1:Int) (x1':(List Int)):Tr (Tys.data rs69) :=
  Tr.test (Option.isSome (f91 ((x1,(x1',())),())))
    (let r0:=g91 ((x1,(x1',())),());
    Tr.test ((!leF (0:Int) r0.1:Bool))
      (Tr.test (Option.isSome (f92 ((x0,(x0',())),())))
        (Tr.test (Option.isSome (f92 ((x1,(x1',())),())))
          (let r1:=g92 ((x0,(x0',())),());
          let r2:=g92 ((x1,(x1',())),());
          Tr.test (Option.isSome (f93 ((r1.1.1,(r1.1.2.1,())),((r2.1.1,(r2.1.2.1,())),()))))
            (Tr.test (Option.isSome (f68 ((1:Int),())))
              (let r3:=g93 ((r1.1.1,(r1.1.2.1,())),((r2.1.1,(r2.1.2.1,())),()));
              let r4:=g68 ((1:Int),());
              Tr.test (Option.isSome (f70 ((r3.1.1,(r3.1.2.1,())),((r4.1.1,(r4.1.2.1,())),()))))
                (let r5:=g70 ((r3.1.1,(r3.1.2.1,())),((r4.1.1,(r4.1.2.1,())),()));
                Tr.test ((eqF r5.1 0:Bool))
                  (Tr.fin ((((r1.1.1,(r1.1.2.1,())),((r2.1.1,(r2.1.2.1,())),())),())))
                  (Tr.test (Option.isSome (f94 ((r1.1.1,(r1.1.2.1,())),((r3.1.1,(r3.1.2.1,())),()))))
                    (Tr.test (Option.isSome (f94 ((r2.1.1,(r2.1.2.1,())),((r3.1.1,(r3.1.2.1,())),()))))
                      (let r6:=g94 ((r1.1.1,(r1.1.2.1,())),((r3.1.1,(r3.1.2.1,())),()));
                      let r7:=g94 ((r2.1.1,(r2.1.2.1,())),((r3.1.1,(r3.1.2.1,())),()));
                      Tr.fin ((((r6.1.1,(r6.1.2.1,())),((r7.1.1,(r7.1.2.1,())),())),())))
                      (Tr.stop))
                    (Tr.stop)))
                (Tr.stop))
              (Tr.stop))
            (Tr.stop))
          (Tr.stop))
        (Tr.stop))
      (Tr.test (Option.isSome (f93 ((x0,(x0',())),((x1,(x1',())),()))))
        (Tr.test (Option.isSome (f68 ((1:Int),())))
          (let r4:=g68 ((1:Int),());
          let r8:=g93 ((x0,(x0',())),((x1,(x1',())),()));
          Tr.test (Option.isSome (f70 ((r8.1.1,(r8.1.2.1,())),((r4.1.1,(r4.1.2.1,())),()))))
            (let r9:=g70 ((r8.1.1,(r8.1.2.1,())),((r4.1.1,(r4.1.2.1,())),()));
            Tr.test ((eqF r9.1 0:Bool))
              (Tr.fin ((((x0,(x0',())),((x1,(x1',())),())),())))
              (Tr.test (Option.isSome (f94 ((x0,(x0',())),((r8.1.1,(r8.1.2.1,())),()))))
                (Tr.test (Option.isSome (f94 ((x1,(x1',())),((r8.1.1,(r8.1.2.1,())),()))))
                  (let r10:=g94 ((x0,(x0',())),((r8.1.1,(r8.1.2.1,())),()));
                  let r11:=g94 ((x1,(x1',())),((r8.1.1,(r8.1.2.1,())),()));
                  Tr.fin ((((r10.1.1,(r10.1.2.1,())),((r11.1.1,(r11.1.2.1,())),())),())))
                  (Tr.stop))
                (Tr.stop)))
            (Tr.stop))
          (Tr.stop))
        (Tr.stop)))
    (Tr.stop)

def f69 (d:Tys.data as69):Option (Tys.data rs69):=(t69 d.1.1 d.1.2.1 d.2.1.1 d.2.1.2.1).val
def g69 (d:Tys.data as69):Tys.data rs69:=(f69 d).getD (Tys.dflt rs69)
def p69:PureC:=pcOf as69 rs69 f69 g69

theorem wk69 (x0:Int) (x0':(List Int)) (x1:Int) (x1':(List Int)):Walks (runPure (kf70 Go.Proofs.Try.prog).orc Go.Proofs.Try.prog 400 69 as69 rs69 ((x0,x0',()),(x1,x1',()),())) (t69 x0 x0' x1 x1') [([true,true,true,true,true,true,true,true],[2,4,6,8,10,12,14,16]),([true,true,true,true,true,true,true,false,true,true],[2,4,6,8,10,12,14,16,18,20]),([true,false,true,true,true,true],[2,4,6,8,10,12]),([true,false,true,true,true,false,true,true],[2,4,6,8,10,12,14,16])] :=
  ⟨by kernel_rfl,by kernel_rfl,by kernel_rfl,by kernel_rfl,trivial⟩

theorem ok69_t (x0:Int) (x0':(List Int)) (x1:Int) (x1':(List Int)):TrOk (PureRuns Go.Proofs.Try.prog (kf70 Go.Proofs.Try.prog).orc 69 as69 rs69 ((x0,x0',()),(x1,x1',()),())) (t69 x0 x0' x1 x1') :=
  Walks.ok (fun _ _ _=>PureRuns.of) (wk69 x0 x0' x1 x1') (by kernel_rfl)

theorem ok69:PureOk Go.Proofs.Try.prog 69 p69:=pureOk_of kf70_ok.base (T:=fun (d:Tys.data as69)=>t69 d.1.1 d.1.2.1 d.2.1.1 d.2.1.2.1) (by kernel_rfl) (fun (d:Tys.data as69)=>ok69_t d.1.1 d.1.2.1 d.2.1.1 d.2.1.2.1)
def kf69 (P:Go.Program):Known:=(kf70 P).func 69 p69
theorem kf69_ok:KnownOk Go.Proofs.Try.prog (kf69 Go.Proofs.Try.prog):=kf70_ok.func ok69

/-! ductility/ductilitybase.RatioOf -/

abbrev as34:List Ty:=[(.int .i64),(.int .i64)]
abbrev rs34:List Ty:=[(.pair (.pair (.int .i64) (.pair (.slice (.int .i64)) .unit)) (.pair (.pair (.int .i64) (.pair (.slice (.int .i64)) .unit)) .unit))]

def t34 (x0:Int) (x1:Int):Tr (Tys.data rs34) :=
  Tr.test (Option.isSome (f68 (x0,())))
    (Tr.test (Option.isSome (f68 (x1,())))
      (let r0:=g68 (x0,());
      let r1:=g68 (x1,());
      Tr.test (Option.isSome (f69 ((r0.1.1,(r0.1.2.1,())),((r1.1.1,(r1.1.2.1,())),()))))
        (let r2:=g69 ((r0.1.1,(r0.1.2.1,())),((r1.1.1,(r1.1.2.1,())),()));
        Tr.fin ((((r2.1.1.1,(r2.1.1.2.1,())),((r2.1.2.1.1,(r2.1.2.1.2.1,())),())),())))
        (Tr.stop))
      (Tr.stop))
    (Tr.stop)

def f34 (d:Tys.data as34):Option (Tys.data rs34):=(t34 d.1 d.2.1).val
def g34 (d:Tys.data as34):Tys.data rs34:=(f34 d).getD (Tys.dflt rs34)
def p34:PureC:=pcOf as34 rs34 f34 g34

theorem wk34 (x0:Int) (x1:Int):Walks (runPure (kf69 Go.Proofs.Try.prog).orc Go.Proofs.Try.prog 400 34 as34 rs34 (x0,x1,())) (t34 x0 x1) [([true,true,true],[2,4,6])] :=
  ⟨by kernel_rfl,trivial⟩

theorem ok34_t (x0:Int) (x1:Int):TrOk (PureRuns Go.Proofs.Try.prog (kf69 Go.Proofs.Try.prog).orc 34 as34 rs34 (x0,x1,())) (t34 x0 x1) :=
  Walks.ok (fun _ _ _=>PureRuns.of) (wk34 x0 x1) (by kernel_rfl)

theorem ok34:PureOk Go.Proofs.Try.prog 34 p34:=pureOk_of kf69_ok.base (T:=fun (d:Tys.data as34)=>t34 d.1 d.2.1) (by kernel_rfl) (fun (d:Tys.data as34)=>ok34_t d.1 d.2.1)
def kf34 (P:Go.Program):Known:=(kf69 P).func 34 p34
theorem kf34_ok:KnownOk Go.Proofs.Try.prog (kf34 Go.Proofs.Try.prog):=kf69_ok.func ok34

/-! ductility/ductilitybase.RatioAdd -/

abbrev as36:List Ty:=[(.pair (.pair (.int .i64) (.pair (.slice (.int .i64)) .unit)) (.pair (.pair (.int .i64) (.pair (.slice (.int .i64)) .unit)) .unit)),(.pair (.pair (.int .i64) (.pair (.slice (.int .i64)) .unit)) (.pair (.pair (.int .i64) (.pair (.slice (.int .i64)) .unit)) .unit))]
abbrev rs36:List Ty:=[(.pair (.pair (.int .i64) (.pair (.slice (.int .i64)) .unit)) (.pair (.pair (.int .i64) (.pair (.slice (.int .i64)) .unit)) .unit))]

def t36 (x0_:Int) (x0_':(List Int)) (x0'_:Int) (x0'_':(List Int)) (x1_:Int) (x1_':(List Int)) (x1'_:Int) (x1'_':(List Int)):Tr (Tys.data rs36) :=
  Tr.test (Option.isSome (f71 ((x0_,(x0_',())),((x1'_,(x1'_',())),()))))
    (Tr.test (Option.isSome (f71 ((x1_,(x1_',())),((x0'_,(x0'_',())),()))))
      (let r0:=g71 ((x0_,(x0_',())),((x1'_,(x1'_',())),()));
      let r1:=g71 ((x1_,(x1_',())),((x0'_,(x0'_',())),()));
      Tr.test (Option.isSome (f72 ((r0.1.1,(r0.1.2.1,())),((r1.1.1,(r1.1.2.1,())),()))))
        (Tr.test (Option.isSome (f71 ((x0'_,(x0'_',())),((x1'_,(x1'_',())),()))))
          (let r2:=g72 ((r0.1.1,(r0.1.2.1,())),((r1.1.1,(r1.1.2.1,())),()));
          let r3:=g71 ((x0'_,(x0'_',())),((x1'_,(x1'_',())),()));
          Tr.test (Option.isSome (f69 ((r2.1.1,(r2.1.2.1,())),((r3.1.1,(r3.1.2.1,())),()))))
            (let r4:=g69 ((r2.1.1,(r2.1.2.1,())),((r3.1.1,(r3.1.2.1,())),()));
            Tr.fin ((((r4.1.1.1,(r4.1.1.2.1,())),((r4.1.2.1.1,(r4.1.2.1.2.1,())),())),())))
            (Tr.stop))
          (Tr.stop))
        (Tr.stop))
      (Tr.stop))
    (Tr.stop)

def f36 (d:Tys.data as36):Option (Tys.data rs36):=(t36 d.1.1.1 d.1.1.2.1 d.1.2.1.1 d.1.2.1.2.1 d.2.1.1.1 d.2.1.1.2.1 d.2.1.2.1.1 d.2.1.2.1.2.1).val
def g36 (d:Tys.data as36):Tys.data rs36:=(f36 d).getD (Tys.dflt rs36)
def p36:PureC:=pcOf as36 rs36 f36 g36

theorem wk36 (x0_:Int) (x0_':(List Int)) (x0'_:Int) (x0'_':(List Int)) (x1_:Int) (x1_':(List Int)) (x1'_:Int) (x1'_':(List Int)):Walks (runPure (kf34 Go.Proofs.Try.prog).orc Go.Proofs.Try.prog 400 36 as36 rs36 (((x0_,x0_',()),(x0'_,x0'_',()),()),((x1_,x1_',()),(x1'_,x1'_',()),()),())) (t36 x0_ x0_' x0'_ x0'_' x1_ x1_' x1'_ x1'_') [([true,true,true,true,true],[2,4,6,8,10])] :=
  ⟨by kernel_rfl,trivial⟩

theorem ok36_t (x0_:Int) (x0_':(List Int)) (x0'_:Int) (x0'_':(List Int)) (x1_:Int) (x1_':(List Int)) (x1'_:Int) (x1'_':(List Int)):TrOk (PureRuns Go.Proofs.Try.prog (kf34 Go.Proofs.Try.prog).orc 36 as36 rs36 (((x0_,x0_',()),(x0'_,x0'_',()),()),((x1_,x1_',()),(x1'_,x1'_',()),()),())) (t36 x0_ x0_' x0'_ x0'_' x1_ x1_' x1'_ x1'_') :=
  Walks.ok (fun _ _ _=>PureRuns.of) (wk36 x0_ x0_' x0'_ x0'_' x1_ x1_' x1'_ x1'_') (by kernel_rfl)

theorem ok36:PureOk Go.Proofs.Try.prog 36 p36:=pureOk_of kf34_ok.base (T:=fun (d:Tys.data as36)=>t36 d.1.1.1 d.1.1.2.1 d.1.2.1.1 d.1.2.1.2.1 d.2.1.1.1 d.2.1.1.2.1 d.2.1.2.1.1 d.2.1.2.1.2.1) (by kernel_rfl) (fun (d:Tys.data as36)=>ok36_t d.1.1.1 d.1.1.2.1 d.1.2.1.1 d.1.2.1.2.1 d.2.1.1.1 d.2.1.1.2.1 d.2.1.2.1.1 d.2.1.2.1.2.1)
def kf36 (P:Go.Program):Known:=(kf34 P).func 36 p36
theorem kf36_ok:KnownOk Go.Proofs.Try.prog (kf36 Go.Proofs.Try.prog):=kf34_ok.func ok36

/-! ductility/ductilitybase.RatioCmp -/

abbrev as35:List Ty:=[(.pair (.pair (.int .i64) (.pair (.slice (.int .i64)) .unit)) (.pair (.pair (.int .i64) (.pair (.slice (.int .i64)) .unit)) .unit)),(.pair (.pair (.int .i64) (.pair (.slice (.int .i64)) .unit)) (.pair (.pair (.int .i64) (.pair (.slice (.int .i64)) .unit)) .unit))]
abbrev rs35:List Ty:=[(.int .i64)]

def t35 (x0_:Int) (x0_':(List Int)) (x0'_:Int) (x0'_':(List Int)) (x1_:Int) (x1_':(List Int)) (x1'_:Int) (x1'_':(List Int)):Tr (Tys.data rs35) :=
  Tr.test (Option.isSome (f71 ((x0_,(x0_',())),((x1'_,(x1'_',())),()))))
    (Tr.test (Option.isSome (f71 ((x1_,(x1_',())),((x0'_,(x0'_',())),()))))
      (let r0:=g71 ((x0_,(x0_',())),((x1'_,(x1'_',())),()));
      let r1:=g71 ((x1_,(x1_',())),((x0'_,(x0'_',())),()));
      Tr.test (Option.isSome (f70 ((r0.1.1,(r0.1.2.1,())),((r1.1.1,(r1.1.2.1,())),()))))
        (let r2:=g70 ((r0.1.1,(r0.1.2.1,())),((r1.1.1,(r1.1.2.1,())),()));
        Tr.fin ((r2.1,())))
        (Tr.stop))
      (Tr.stop))
    (Tr.stop)

def f35 (d:Tys.data as35):Option (Tys.data rs35):=(t35 d.1.1.1 d.1.1.2.1 d.1.2.1.1 d.1.2.1.2.1 d.2.1.1.1 d.2.1.1.2.1 d.2.1.2.1.1 d.2.1.2.1.2.1).val
def g35 (d:Tys.data as35):Tys.data rs35:=(f35 d).getD (Tys.dflt rs35)
def p35:PureC:=pcOf as35 rs35 f35 g35

theorem wk35 (x0_:Int) (x0_':(List Int)) (x0'_:Int) (x0'_':(List Int)) (x1_:Int) (x1_':(List Int)) (x1'_:Int) (x1'_':(List Int)):Walks (runPure (kf36 Go.Proofs.Try.prog).orc Go.Proofs.Try.prog 400 35 as35 rs35 (((x0_,x0_',()),(x0'_,x0'_',()),()),((x1_,x1_',()),(x1'_,x1'_',()),()),())) (t35 x0_ x0_' x0'_ x0'_' x1_ x1_' x1'_ x1'_') [([true,true,true],[2,4,6])] :=
  ⟨by kernel_rfl,trivial⟩

theorem ok35_t (x0_:Int) (x0_':(List Int)) (x0'_:Int) (x0'_':(List Int)) (x1_:Int) (x1_':(List Int)) (x1'_:Int) (x1'_':(List Int)):TrOk (PureRuns Go.Proofs.Try.prog (kf36 Go.Proofs.Try.prog).orc 35 as35 rs35 (((x0_,x0_',()),(x0'_,x0'_',()),()),((x1_,x1_',()),(x1'_,x1'_',()),()),())) (t35 x0_ x0_' x0'_ x0'_' x1_ x1_' x1'_ x1'_') :=
  Walks.ok (fun _ _ _=>PureRuns.of) (wk35 x0_ x0_' x0'_ x0'_' x1_ x1_' x1'_ x1'_') (by kernel_rfl)

theorem ok35:PureOk Go.Proofs.Try.prog 35 p35:=pureOk_of kf36_ok.base (T:=fun (d:Tys.data as35)=>t35 d.1.1.1 d.1.1.2.1 d.1.2.1.1 d.1.2.1.2.1 d.2.1.1.1 d.2.1.1.2.1 d.2.1.2.1.1 d.2.1.2.1.2.1) (by kernel_rfl) (fun (d:Tys.data as35)=>ok35_t d.1.1.1 d.1.1.2.1 d.1.2.1.1 d.1.2.1.2.1 d.2.1.1.1 d.2.1.1.2.1 d.2.1.2.1.1 d.2.1.2.1.2.1)
def kf35 (P:Go.Program):Known:=(kf36 P).func 35 p35
theorem kf35_ok:KnownOk Go.Proofs.Try.prog (kf35 Go.Proofs.Try.prog):=kf36_ok.func ok35

/-! ductility/ductilitybase.RatioMul -/

abbrev as37:List Ty:=[(.pair (.pair (.int .i64) (.pair (.slice (.int .i64)) .unit)) (.pair (.pair (.int .i64) (.pair (.slice (.int .i64)) .unit)) .unit)),(.pair (.pair (.int .i64) (.pair (.slice (.int .i64)) .unit)) (.pair (.pair (.int .i64) (.pair (.slice (.int .i64)) .unit)) .unit))]
abbrev rs37:List Ty:=[(.pair (.pair (.int .i64) (.pair (.slice (.int .i64)) .unit)) (.pair (.pair (.int .i64) (.pair (.slice (.int .i64)) .unit)) .unit))]

def t37 (x0_:Int) (x0_':(List Int)) (x0'_:Int) (x0'_':(List Int)) (x1_:Int) (x1_':(List Int)) (x1'_:Int) (x1'_':(List Int)):Tr (Tys.data rs37) :=
  Tr.test (Option.isSome (f71 ((x0_,(x0_',())),((x1_,(x1_',())),()))))
    (Tr.test (Option.isSome (f71 ((x0'_,(x0'_',())),((x1'_,(x1'_',())),()))))
      (let r0:=g71 ((x0_,(x0_',())),((x1_,(x1_',())),()));
      let r1:=g71 ((x0'_,(x0'_',())),((x1'_,(x1'_',())),()));
      Tr.test (Option.isSome (f69 ((r0.1.1,(r0.1.2.1,())),((r1.1.1,(r1.1.2.1,())),()))))
        (let r2:=g69 ((r0.1.1,(r0.1.2.1,())),((r1.1.1,(r1.1.2.1,())),()));
        Tr.fin ((((r2.1.1.1,(r2.1.1.2.1,())),((r2.1.2.1.1,(r2.1.2.1.2.1,())),())),())))
        (Tr.stop))
      (Tr.stop))
    (Tr.stop)

def f37 (d:Tys.data as37):Option (Tys.data rs37):=(t37 d.1.1.1 d.1.1.2.1 d.1.2.1.1 d.1.2.1.2.1 d.2.1.1.1 d.2.1.1.2.1 d.2.1.2.1.1 d.2.1.2.1.2.1).val
def g37 (d:Tys.data as37):Tys.data rs37:=(f37 d).getD (Tys.dflt rs37)
def p37:PureC:=pcOf as37 rs37 f37 g37

theorem wk37 (x0_:Int) (x0_':(List Int)) (x0'_:Int) (x0'_':(List Int)) (x1_:Int) (x1_':(List Int)) (x1'_:Int) (x1'_':(List Int)):Walks (runPure (kf35 Go.Proofs.Try.prog).orc Go.Proofs.Try.prog 400 37 as37 rs37 (((x0_,x0_',()),(x0'_,x0'_',()),()),((x1_,x1_',()),(x1'_,x1'_',()),()),())) (t37 x0_ x0_' x0'_ x0'_' x1_ x1_' x1'_ x1'_') [([true,true,true],[2,4,6])] :=
  ⟨by kernel_rfl,trivial⟩

theorem ok37_t (x0_:Int) (x0_':(List Int)) (x0'_:Int) (x0'_':(List Int)) (x1_:Int) (x1_':(List Int)) (x1'_:Int) (x1'_':(List Int)):TrOk (PureRuns Go.Proofs.Try.prog (kf35 Go.Proofs.Try.prog).orc 37 as37 rs37 (((x0_,x0_',()),(x0'_,x0'_',()),()),((x1_,x1_',()),(x1'_,x1'_',()),()),())) (t37 x0_ x0_' x0'_ x0'_' x1_ x1_' x1'_ x1'_') :=
  Walks.ok (fun _ _ _=>PureRuns.of) (wk37 x0_ x0_' x0'_ x0'_' x1_ x1_' x1'_ x1'_') (by kernel_rfl)

theorem ok37:PureOk Go.Proofs.Try.prog 37 p37:=pureOk_of kf35_ok.base (T:=fun (d:Tys.data as37)=>t37 d.1.1.1 d.1.1.2.1 d.1.2.1.1 d.1.2.1.2.1 d.2.1.1.1 d.2.1.1.2.1 d.2.1.2.1.1 d.2.1.2.1.2.1) (by kernel_rfl) (fun (d:Tys.data as37)=>ok37_t d.1.1.1 d.1.1.2.1 d.1.2.1.1 d.1.2.1.2.1 d.2.1.1.1 d.2.1.1.2.1 d.2.1.2.1.1 d.2.1.2.1.2.1)
def kf37 (P:Go.Program):Known:=(kf35 P).func 37 p37
theorem kf37_ok:KnownOk Go.Proofs.Try.prog (kf37 Go.Proofs.Try.prog):=kf35_ok.func ok37

/-! ductility/ductilitylaw06.part -/

abbrev as38:List Ty:=[(.pair (.int .i64) (.pair (.slice (.int .i64)) .unit)),(.int .i64)]
abbrev rs38:List Ty:=[(.int .i64)]

def t38 (x0:Int) (x0':(List Int)) (x1:Int):Tr (Tys.data rs38) :=
  Tr.test ((!leF (0:Int) x1:Bool))
    (Tr.fin (((0:Int),())))
    (Tr.test (decide ((0:Int) ≤ x1) && decide (x1 < (↑(List.length x0'):Int)))
      (Tr.fin (((List.getD x0' (Int.toNat x1) (0:Int):Int),())))
      (Tr.stop))

def f38 (d:Tys.data as38):Option (Tys.data rs38):=(t38 d.1.1 d.1.2.1 d.2.1).val
def g38 (d:Tys.data as38):Tys.data rs38:=(f38 d).getD (Tys.dflt rs38)
def p38:PureC:=pcOf as38 rs38 f38 g38

theorem wk38 (x0:Int) (x0':(List Int)) (x1:Int):Walks (runPure (kf37 Go.Proofs.Try.prog).orc Go.Proofs.Try.prog 400 38 as38 rs38 ((x0,x0',()),x1,())) (t38 x0 x0' x1) [([tt],[2]),([false,true],[2,4])] :=
  ⟨by kernel_rfl,by kernel_rfl,trivial⟩

theorem ok38_t (x0:Int) (x0':(List Int)) (x1:Int):TrOk (PureRuns Go.Proofs.Try.prog (kf37 Go.Proofs.Try.prog).orc 38 as38 rs38 ((x0,x0',()),x1,())) (t38 x0 x0' x1) :=
  Walks.ok (fun _ _ _=>PureRuns.of) (wk38 x0 x0' x1) (by kernel_rfl)

theorem ok38:PureOk Go.Proofs.Try.prog 38 p38:=pureOk_of kf37_ok.base (T:=fun (d:Tys.data as38)=>t38 d.1.1 d.1.2.1 d.2.1) (by kernel_rfl) (fun (d:Tys.data as38)=>ok38_t d.1.1 d.1.2.1 d.2.1)
def kf38 (P:Go.Program):Known:=(kf37 P).func 38 p38
theorem kf38_ok:KnownOk Go.Proofs.Try.prog (kf38 Go.Proofs.Try.prog):=kf37_ok.func ok38

/-! loop 0 of ductility/ductilitylaw06.ModalNodes -/

abbrev sh5_0:Sh:={ n:=331,slots:=[3,5,16,17],pats:=[.ptr 0 2 0,.ptr 1 2 0,.acc (.int .i64),.ty (.int .i64)],boxes:=[.row [.ty (.slice (.int .i64)),.ty (.slice (.int .i64))],.row [.ty (.slice (.int .i64)),.ty (.slice (.int .i64))]] }
abbrev shb5_0:Sh:={ n:=331,slots:=[3,5,16],pats:=[.ptr 0 2 0,.ptr 1 2 0,.acc (.int .i64)],boxes:=[.row [.ty (.slice (.int .i64)),.ty (.slice (.int .i64))],.row [.ty (.slice (.int .i64)),.ty (.slice (.int .i64))]] }
abbrev shr5_0:Sh:={ n:=331,slots:=[],pats:=[],boxes:=[.row [.ty (.slice (.int .i64)),.ty (.slice (.int .i64))],.row [.ty (.slice (.int .i64)),.ty (.slice (.int .i64))]] }

def t5_0 (x2:(List Int)) (x3:Int) (b0_0:(List Int)) (b0_1:(List Int)) (b1_0:(List Int)) (b1_1:(List Int)):Tr (Out sh5_0.data shb5_0.data shr5_0.data) :=
  Tr.test ((!leF (↑(List.length b1_0):Int) x3:Bool))
    (Tr.test (decide ((0:Int) ≤ x3) && decide (x3 < (↑(List.length b1_0):Int)))
      (Tr.test ((decide ((0:Int) ≤ x3) && decide (x3 < (↑(List.length b1_1):Int)):Bool))
        (Tr.test ((Nat.ble (((2:Nat) * (List.length x2 + (1:Nat)) + (192:Nat)) * (8:Nat)) (281474976710656:Nat) && Nat.ble (List.length x2 + (1:Nat)) (281474976710656:Nat):Bool))
          (Tr.fin (.again (((x2++[wrap64 (List.getD b1_0 (Int.toNat x3) (0:Int) + List.getD b1_1 (Int.toNat x3) (0:Int))]:List Int),((wrap64 (x3 + (1:Int)):Int),())),((b0_0,(b0_1,())),((b1_0,(b1_1,())),())))))
          (Tr.stop))
        (Tr.stop))
      (Tr.stop))
    (Tr.fin (.brk ((x2,()),((b0_0,(b0_1,())),((b1_0,(b1_1,())),())))))

def s5_0 (d:sh5_0.data):Option (Out sh5_0.data shb5_0.data shr5_0.data):=(t5_0 d.1.1 d.1.2.1 d.2.1.1 d.2.1.2.1 d.2.2.1.1 d.2.2.1.2.1).val
def l5_0 (d:sh5_0.data):Option (shb5_0.data ⊕ shr5_0.data):=itr s5_0 rounds d
def b5_0 (d:sh5_0.data):shb5_0.data:=outB shb5_0.dflt (l5_0 d)
def lc5_0:LoopC:=lcB sh5_0 shb5_0 shr5_0 l5_0 b5_0

theorem wk5_0 (x2:(List Int)) (x3:Int) (b0_0:(List Int)) (b0_1:(List Int)) (b1_0:(List Int)) (b1_1:(List Int)):Walks (runBody (kf38 Go.Proofs.Try.prog).orc Go.Proofs.Try.prog 400 5 0 sh5_0 shb5_0 shr5_0 ((x2,x3,()),(b0_0,b0_1,()),(b1_0,b1_1,()),())) (t5_0 x2 x3 b0_0 b0_1 b1_0 b1_1) [([true,true,true,true],[1,2,0,4,1,6,1,8,1]),([ff],[2,1])] :=
  ⟨by kernel_rfl,by kernel_rfl,trivial⟩

theorem ok5_0_t (x2:(List Int)) (x3:Int) (b0_0:(List Int)) (b0_1:(List Int)) (b1_0:(List Int)) (b1_1:(List Int)):TrOk (BodyRuns Go.Proofs.Try.prog (kf38 Go.Proofs.Try.prog).orc 5 0 sh5_0 shb5_0 shr5_0 ((x2,x3,()),(b0_0,b0_1,()),(b1_0,b1_1,()),())) (t5_0 x2 x3 b0_0 b0_1 b1_0 b1_1) :=
  Walks.ok (fun _ _ _=>BodyRuns.of) (wk5_0 x2 x3 b0_0 b0_1 b1_0 b1_1) (by kernel_rfl)

theorem ok5_0:LoopOk Go.Proofs.Try.prog 5 0 lc5_0:=loopOk_ofB (sh:=sh5_0) (shB:=shb5_0) (shR:=shr5_0) kf38_ok.base (T:=fun (d:sh5_0.data)=>t5_0 d.1.1 d.1.2.1 d.2.1.1 d.2.1.2.1 d.2.2.1.1 d.2.2.1.2.1) (by kernel_rfl) rfl (fun (d:sh5_0.data)=>ok5_0_t d.1.1 d.1.2.1 d.2.1.1 d.2.1.2.1 d.2.2.1.1 d.2.2.1.2.1) (fun _=>rfl)
def kl5_0 (P:Go.Program):Known:=(kf38 P).loop 5 0 lc5_0
theorem kl5_0_ok:KnownOk Go.Proofs.Try.prog (kl5_0 Go.Proofs.Try.prog):=kf38_ok.loop ok5_0

/-! loop 2 of ductility/ductilitylaw06.ModalNodes -/

abbrev sh5_2:Sh:={ n:=331,slots:=[3,5,16,18,20,22,24,25,26],pats:=[.ptr 0 2 0,.ptr 1 2 0,.acc (.int .i64),.ptr 2 2 0,.ptr 3 2 0,.ptr 4 2 0,.ptr 5 4 0,.ptr 6 4 0,.ty (.int .i64)],boxes:=[.row [.ty (.slice (.int .i64)),.ty (.slice (.int .i64))],.row [.ty (.slice (.int .i64)),.ty (.slice (.int .i64))],.row [.ty (.int .i64),.ty (.slice (.int .i64))],.row [.ty (.int .i64),.ty (.slice (.int .i64))],.row [.ty (.int .i64),.ty (.slice (.int .i64))],.row [.ty (.int .i64),.ty (.slice (.int .i64)),.ty (.int .i64),.ty (.slice (.int .i64))],.row [.ty (.int .i64),.ty (.slice (.int .i64)),.ty (.int .i64),.ty (.slice (.int .i64))]] }
abbrev shb5_2:Sh:={ n:=331,slots:=[24,25],pats:=[.ptr 5 4 0,.ptr 6 4 0],boxes:=[.row [.ty (.slice (.int .i64)),.ty (.slice (.int .i64))],.row [.ty (.slice (.int .i64)),.ty (.slice (.int .i64))],.row [.ty (.int .i64),.ty (.slice (.int .i64))],.row [.ty (.int .i64),.ty (.slice (.int .i64))],.row [.ty (.int .i64),.ty (.slice (.int .i64))],.row [.ty (.int .i64),.ty (.slice (.int .i64)),.ty (.int .i64),.ty (.slice (.int .i64))],.row [.ty (.int .i64),.ty (.slice (.int .i64)),.ty (.int .i64),.ty (.slice (.int .i64))]] }
abbrev shr5_2:Sh:={ n:=331,slots:=[6],pats:=[.ty .bool],boxes:=[.row [.ty (.slice (.int .i64)),.ty (.slice (.int .i64))],.row [.ty (.slice (.int .i64)),.ty (.slice (.int .i64))],.row [.ty (.int .i64),.ty (.slice (.int .i64))],.row [.ty (.int .i64),.ty (.slice (.int .i64))],.row [.ty (.int .i64),.ty (.slice (.int .i64))],.row [.ty (.int .i64),.ty (.slice (.int .i64)),.ty (.int .i64),.ty (.slice (.int .i64))],.row [.ty (.int .i64),.ty (.slice (.int .i64)),.ty (.int .i64),.ty (.slice (.int .i64))]] }

def t5_2 (x2:(List Int)) (x8:Int) (b0_0:(List Int)) (b0_1:(List Int)) (b1_0:(List Int)) (b1_1:(List Int)) (b2_0:Int) (b2_1:(List Int)) (b3_0:Int) (b3_1:(List Int)) (b4_0:Int) (b4_1:(List Int)) (b5_0:Int) (b5_1:(List Int)) (b5_2:Int) (b5_3:(List Int)) (b6_0:Int) (b6_1:(List Int)) (b6_2:Int) (b6_3:(List Int)):Tr (Out sh5_2.data shb5_2.data shr5_2.data) :=
  Tr.test ((!leF (↑(List.length x2):Int) x8:Bool))
    (Tr.test (decide ((0:Int) ≤ x8) && decide (x8 < (↑(List.length b2_1):Int)))
      (Tr.test (Option.isSome (f34 ((List.getD b2_1 (Int.toNat x8) (0:Int):Int),(b2_0,()))))
        (Tr.test ((decide ((0:Int) ≤ x8) && decide (x8 < (↑(List.length b3_1):Int)):Bool))
          (Tr.test (Option.isSome (f34 ((List.getD b3_1 (Int.toNat x8) (0:Int):Int),(b3_0,()))))
            (let r0:=g34 ((List.getD b2_1 (Int.toNat x8) (0:Int):Int),(b2_0,()));
            let r1:=g34 ((List.getD b3_1 (Int.toNat x8) (0:Int):Int),(b3_0,()));
            Tr.test (Option.isSome (f36 (((r0.1.1.1,(r0.1.1.2.1,())),((r0.1.2.1.1,(r0.1.2.1.2.1,())),())),(((r1.1.1.1,(r1.1.1.2.1,())),((r1.1.2.1.1,(r1.1.2.1.2.1,())),())),()))))
              (Tr.test ((decide ((0:Int) ≤ x8) && decide (x8 < (↑(List.length b4_1):Int)):Bool))
                (Tr.test (Option.isSome (f34 ((List.getD b4_1 (Int.toNat x8) (0:Int):Int),(b4_0,()))))
                  (let r2:=g36 (((r0.1.1.1,(r0.1.1.2.1,())),((r0.1.2.1.1,(r0.1.2.1.2.1,())),())),(((r1.1.1.1,(r1.1.1.2.1,())),((r1.1.2.1.1,(r1.1.2.1.2.1,())),())),()));
                  let r3:=g34 ((List.getD b4_1 (Int.toNat x8) (0:Int):Int),(b4_0,()));
                  Tr.test (Option.isSome (f35 (((r2.1.1.1,(r2.1.1.2.1,())),((r2.1.2.1.1,(r2.1.2.1.2.1,())),())),(((r3.1.1.1,(r3.1.1.2.1,())),((r3.1.2.1.1,(r3.1.2.1.2.1,())),())),()))))
                    (let r4:=g35 (((r2.1.1.1,(r2.1.1.2.1,())),((r2.1.2.1.1,(r2.1.2.1.2.1,())),())),(((r3.1.1.1,(r3.1.1.2.1,())),((r3.1.2.1.1,(r3.1.2.1.2.1,())),())),()));
                    Tr.test ((!eqF r4.1 0:Bool))
                      (Tr.fin (.ret (((false:Bool),()),((b0_0,(b0_1,())),((b1_0,(b1_1,())),((b2_0,(b2_1,())),((b3_0,(b3_1,())),((b4_0,(b4_1,())),((b5_0,(b5_1,(b5_2,(b5_3,())))),((b6_0,(b6_1,(b6_2,(b6_3,())))),()))))))))))
                      (Tr.test ((decide ((0:Int) ≤ x8) && decide (x8 < (↑(List.length b1_1):Int)):Bool))
                        (Tr.test (Option.isSome (f33 ((List.getD b1_1 (Int.toNat x8) (0:Int):Int),())))
                          (let r5:=g33 ((List.getD b1_1 (Int.toNat x8) (0:Int):Int),());
                          Tr.test (Option.isSome (f37 (((r5.1.1.1,(r5.1.1.2.1,())),((r5.1.2.1.1,(r5.1.2.1.2.1,())),())),(((r0.1.1.1,(r0.1.1.2.1,())),((r0.1.2.1.1,(r0.1.2.1.2.1,())),())),()))))
                            (let r6:=g37 (((r5.1.1.1,(r5.1.1.2.1,())),((r5.1.2.1.1,(r5.1.2.1.2.1,())),())),(((r0.1.1.1,(r0.1.1.2.1,())),((r0.1.2.1.1,(r0.1.2.1.2.1,())),())),()));
                            Tr.test (Option.isSome (f36 (((b5_0,(b5_1,())),((b5_2,(b5_3,())),())),(((r6.1.1.1,(r6.1.1.2.1,())),((r6.1.2.1.1,(r6.1.2.1.2.1,())),())),()))))
                              (Tr.test ((decide ((0:Int) ≤ x8) && decide (x8 < (↑(List.length b1_0):Int)):Bool))
                                (Tr.test (Option.isSome (f33 ((List.getD b1_0 (Int.toNat x8) (0:Int):Int),())))
                                  (let r8:=g33 ((List.getD b1_0 (Int.toNat x8) (0:Int):Int),());
                                  Tr.test (Option.isSome (f37 (((r8.1.1.1,(r8.1.1.2.1,())),((r8.1.2.1.1,(r8.1.2.1.2.1,())),())),(((r1.1.1.1,(r1.1.1.2.1,())),((r1.1.2.1.1,(r1.1.2.1.2.1,())),())),()))))
                                    (let r9:=g37 (((r8.1.1.1,(r8.1.1.2.1,())),((r8.1.2.1.1,(r8.1.2.1.2.1,())),())),(((r1.1.1.1,(r1.1.1.2.1,())),((r1.1.2.1.1,(r1.1.2.1.2.1,())),())),()));
                                    Tr.test (Option.isSome (f36 (((b6_0,(b6_1,())),((b6_2,(b6_3,())),())),(((r9.1.1.1,(r9.1.1.2.1,())),((r9.1.2.1.1,(r9.1.2.1.2.1,())),())),()))))
                                      (Tr.test ((decide ((0:Int) ≤ x8) && decide (x8 < (↑(List.length b0_1):Int)):Bool))
                                        (Tr.test (Option.isSome (f38 ((b2_0,(b2_1,())),((wrap64 (x8 - (1:Int)):Int),()))))
                                          (Tr.test ((!leF (↑(List.length x2):Int) (wrap64 (x8 + (1:Int))):Bool))
                                            (Tr.test ((decide ((0:Int) ≤ wrap64 (x8 + (1:Int))) && decide (wrap64 (x8 + (1:Int)) < (↑(List.length b0_1):Int)):Bool))
                                              (Tr.test ((decide ((0:Int) ≤ wrap64 (x8 + (1:Int))) && decide (wrap64 (x8 + (1:Int)) < (↑(List.length b2_1):Int)):Bool))
                                                (let r11:=g38 ((b2_0,(b2_1,())),((wrap64 (x8 - (1:Int)):Int),()));
                                                Tr.test ((!eqF (wrap64 (wrap64 (List.getD b0_1 (Int.toNat x8) (0:Int) * wrap64 (List.getD b2_1 (Int.toNat x8) (0:Int) - r11.1)) - wrap64 (List.getD b0_1 (Int.toNat (wrap64 (x8 + (1:Int)))) (0:Int) * wrap64 (List.getD b2_1 (Int.toNat (wrap64 (x8 + (1:Int)))) (0:Int) - List.getD b2_1 (Int.toNat x8) (0:Int))))) (wrap64 (List.getD b1_0 (Int.toNat x8) (0:Int) * b2_0)):Bool))
                                                  (let r7:=g36 (((b5_0,(b5_1,())),((b5_2,(b5_3,())),())),(((r6.1.1.1,(r6.1.1.2.1,())),((r6.1.2.1.1,(r6.1.2.1.2.1,())),())),()));
                                                  let r10:=g36 (((b6_0,(b6_1,())),((b6_2,(b6_3,())),())),(((r9.1.1.1,(r9.1.1.2.1,())),((r9.1.2.1.1,(r9.1.2.1.2.1,())),())),()));
                                                  Tr.fin (.ret (((false:Bool),()),((b0_0,(b0_1,())),((b1_0,(b1_1,())),((b2_0,(b2_1,())),((b3_0,(b3_1,())),((b4_0,(b4_1,())),((r7.1.1.1,(r7.1.1.2.1,(r7.1.2.1.1,(r7.1.2.1.2.1,())))),((r10.1.1.1,(r10.1.1.2.1,(r10.1.2.1.1,(r10.1.2.1.2.1,())))),()))))))))))
                                                  (let r7:=g36 (((b5_0,(b5_1,())),((b5_2,(b5_3,())),())),(((r6.1.1.1,(r6.1.1.2.1,())),((r6.1.2.1.1,(r6.1.2.1.2.1,())),())),()));
                                                  let r10:=g36 (((b6_0,(b6_1,())),((b6_2,(b6_3,())),())),(((r9.1.1.1,(r9.1.1.2.1,())),((r9.1.2.1.1,(r9.1.2.1.2.1,())),())),()));
                                                  Tr.fin (.again ((x2,((wrap64 (x8 + (1:Int)):Int),())),((b0_0,(b0_1,())),((b1_0,(b1_1,())),((b2_0,(b2_1,())),((b3_0,(b3_1,())),((b4_0,(b4_1,())),((r7.1.1.1,(r7.1.1.2.1,(r7.1.2.1.1,(r7.1.2.1.2.1,())))),((r10.1.1.1,(r10.1.1.2.1,(r10.1.2.1.1,(r10.1.2.1.2.1,())))),())))))))))))
                                                (Tr.stop))
                                              (Tr.stop))
                                            (let r11:=g38 ((b2_0,(b2_1,())),((wrap64 (x8 - (1:Int)):Int),()));
                                            Tr.test ((!eqF (wrap64 (List.getD b0_1 (Int.toNat x8) (0:Int) * wrap64 (List.getD b2_1 (Int.toNat x8) (0:Int) - r11.1))) (wrap64 (List.getD b1_0 (Int.toNat x8) (0:Int) * b2_0)):Bool))
                                              (let r7:=g36 (((b5_0,(b5_1,())),((b5_2,(b5_3,())),())),(((r6.1.1.1,(r6.1.1.2.1,())),((r6.1.2.1.1,(r6.1.2.1.2.1,())),())),()));
                                              let r10:=g36 (((b6_0,(b6_1,())),((b6_2,(b6_3,())),())),(((r9.1.1.1,(r9.1.1.2.1,())),((r9.1.2.1.1,(r9.1.2.1.2.1,())),())),()));
                                              Tr.fin (.ret (((false:Bool),()),((b0_0,(b0_1,())),((b1_0,(b1_1,())),((b2_0,(b2_1,())),((b3_0,(b3_1,())),((b4_0,(b4_1,())),((r7.1.1.1,(r7.1.1.2.1,(r7.1.2.1.1,(r7.1.2.1.2.1,())))),((r10.1.1.1,(r10.1.1.2.1,(r10.1.2.1.1,(r10.1.2.1.2.1,())))),()))))))))))
                                              (let r7:=g36 (((b5_0,(b5_1,())),((b5_2,(b5_3,())),())),(((r6.1.1.1,(r6.1.1.2.1,())),((r6.1.2.1.1,(r6.1.2.1.2.1,())),())),()));
                                              let r10:=g36 (((b6_0,(b6_1,())),((b6_2,(b6_3,())),())),(((r9.1.1.1,(r9.1.1.2.1,())),((r9.1.2.1.1,(r9.1.2.1.2.1,())),())),()));
                                              Tr.fin (.again ((x2,((wrap64 (x8 + (1:Int)):Int),())),((b0_0,(b0_1,())),((b1_0,(b1_1,())),((b2_0,(b2_1,())),((b3_0,(b3_1,())),((b4_0,(b4_1,())),((r7.1.1.1,(r7.1.1.2.1,(r7.1.2.1.1,(r7.1.2.1.2.1,())))),((r10.1.1.1,(r10.1.1.2.1,(r10.1.2.1.1,(r10.1.2.1.2.1,())))),()))))))))))))
                                          (Tr.stop))
                                        (Tr.stop))
                                      (Tr.stop))
                                    (Tr.stop))
                                  (Tr.stop))
                                (Tr.stop))
                              (Tr.stop))
                            (Tr.stop))
                          (Tr.stop))
                        (Tr.stop)))
                    (Tr.stop))
                  (Tr.stop))
                (Tr.stop))
              (Tr.stop))
            (Tr.stop))
          (Tr.stop))
        (Tr.stop))
      (Tr.stop))
    (Tr.fin (.brk ((),((b0_0,(b0_1,())),((b1_0,(b1_1,())),((b2_0,(b2_1,())),((b3_0,(b3_1,())),((b4_0,(b4_1,())),((b5_0,(b5_1,(b5_2,(b5_3,())))),((b6_0,(b6_1,(b6_2,(b6_3,())))),()))))))))))

def s5_2 (d:sh5_2.data):Option (Out sh5_2.data shb5_2.data shr5_2.data):=(t5_2 d.1.1 d.1.2.1 d.2.1.1 d.2.1.2.1 d.2.2.1.1 d.2.2.1.2.1 d.2.2.2.1.1 d.2.2.2.1.2.1 d.2.2.2.2.1.1 d.2.2.2.2.1.2.1 d.2.2.2.2.2.1.1 d.2.2.2.2.2.1.2.1 d.2.2.2.2.2.2.1.1 d.2.2.2.2.2.2.1.2.1 d.2.2.2.2.2.2.1.2.2.1 d.2.2.2.2.2.2.1.2.2.2.1 d.2.2.2.2.2.2.2.1.1 d.2.2.2.2.2.2.2.1.2.1 d.2.2.2.2.2.2.2.1.2.2.1 d.2.2.2.2.2.2.2.1.2.2.2.1).val
def l5_2 (d:sh5_2.data):Option (shb5_2.data ⊕ shr5_2.data):=itr s5_2 rounds d
def b5_2 (d:sh5_2.data):shb5_2.data:=outB shb5_2.dflt (l5_2 d)
def r5_2 (d:sh5_2.data):shr5_2.data:=outR shr5_2.dflt (l5_2 d)
def lc5_2:LoopC:=lcOf sh5_2 shb5_2 shr5_2 l5_2 b5_2 r5_2

theorem wk5_2 (x2:(List Int)) (x8:Int) (b0_0:(List Int)) (b0_1:(List Int)) (b1_0:(List Int)) (b1_1:(List Int)) (b2_0:Int) (b2_1:(List Int)) (b3_0:Int) (b3_1:(List Int)) (b4_0:Int) (b4_1:(List Int)) (b5_0:Int) (b5_1:(List Int)) (b5_2:Int) (b5_3:(List Int)) (b6_0:Int) (b6_1:(List Int)) (b6_2:Int) (b6_3:(List Int)):Walks (runBody (kl5_0 Go.Proofs.Try.prog).orc Go.Proofs.Try.prog 400 5 2 sh5_2 shb5_2 shr5_2 ((x2,x8,()),(b0_0,b0_1,()),(b1_0,b1_1,()),(b2_0,b2_1,()),(b3_0,b3_1,()),(b4_0,b4_1,()),(b5_0,b5_1,b5_2,b5_3,()),(b6_0,b6_1,b6_2,b6_3,()),())) (t5_2 x2 x8 b0_0 b0_1 b1_0 b1_1 b2_0 b2_1 b3_0 b3_1 b4_0 b4_1 b5_0 b5_1 b5_2 b5_3 b6_0 b6_1 b6_2 b6_3) [([true,true,true,true,true,true,true,true,true,true],[2,4,6,8,10,12,14,16,18,20]),([true,true,true,true,true,true,true,true,true,false,true,true,true,true,true,true,true,true,true,true,true,true,true,true],[2,20,1,46,4,6,8,10,46,12,14,16,18,20,1,22,24,26,28,1,30,32,34,36,38,40,42,44,46,48]),([true,true,true,true,true,true,true,true,true,false,true,true,true,true,true,true,true,true,true,true,true,true,true,false],[2,20,1,46,4,6,8,10,46,12,14,16,18,20,1,22,24,26,28,1,30,32,34,36,38,40,42,44,46,48]),([true,true,true,true,true,true,true,true,true,false,true,true,true,true,true,true,true,true,true,true,false,true],[2,16,1,4,6,42,8,10,12,14,16,1,18,20,22,24,1,26,28,30,32,34,36,38,40,42,44]),([true,true,true,true,true,true,true,true,true,false,true,true,true,true,true,true,true,true,true,true,false,false],[2,16,1,4,6,42,8,10,12,14,16,1,18,20,22,24,1,26,28,30,32,34,36,38,40,42,44]),([ff],[2])] :=
  ⟨by kernel_rfl,by kernel_rfl,by kernel_rfl,by kernel_rfl,by kernel_rfl,by kernel_rfl,trivial⟩

theorem ok5_2_t (x2:(List Int)) (x8:Int) (b0_0:(List Int)) (b0_1:(List Int)) (b1_0:(List Int)) (b1_1:(List Int)) (b2_0:Int) (b2_1:(List Int)) (b3_0:Int) (b3_1:(List Int)) (b4_0:Int) (b4_1:(List Int)) (b5_0:Int) (b5_1:(List Int)) (b5_2:Int) (b5_3:(List Int)) (b6_0:Int) (b6_1:(List Int)) (b6_2:Int) (b6_3:(List Int)):TrOk (BodyRuns Go.Proofs.Try.prog (kl5_0 Go.Proofs.Try.prog).orc 5 2 sh5_2 shb5_2 shr5_2 ((x2,x8,()),(b0_0,b0_1,()),(b1_0,b1_1,()),(b2_0,b2_1,()),(b3_0,b3_1,()),(b4_0,b4_1,()),(b5_0,b5_1,b5_2,b5_3,()),(b6_0,b6_1,b6_2,b6_3,()),())) (t5_2 x2 x8 b0_0 b0_1 b1_0 b1_1 b2_0 b2_1 b3_0 b3_1 b4_0 b4_1 b5_0 b5_1 b5_2 b5_3 b6_0 b6_1 b6_2 b6_3) :=
  Walks.ok (fun _ _ _=>BodyRuns.of) (wk5_2 x2 x8 b0_0 b0_1 b1_0 b1_1 b2_0 b2_1 b3_0 b3_1 b4_0 b4_1 b5_0 b5_1 b5_2 b5_3 b6_0 b6_1 b6_2 b6_3) (by kernel_rfl)

theorem ok5_2:LoopOk Go.Proofs.Try.prog 5 2 lc5_2:=loopOk_of (sh:=sh5_2) (shB:=shb5_2) (shR:=shr5_2) kl5_0_ok.base (T:=fun (d:sh5_2.data)=>t5_2 d.1.1 d.1.2.1 d.2.1.1 d.2.1.2.1 d.2.2.1.1 d.2.2.1.2.1 d.2.2.2.1.1 d.2.2.2.1.2.1 d.2.2.2.2.1.1 d.2.2.2.2.1.2.1 d.2.2.2.2.2.1.1 d.2.2.2.2.2.1.2.1 d.2.2.2.2.2.2.1.1 d.2.2.2.2.2.2.1.2.1 d.2.2.2.2.2.2.1.2.2.1 d.2.2.2.2.2.2.1.2.2.2.1 d.2.2.2.2.2.2.2.1.1 d.2.2.2.2.2.2.2.1.2.1 d.2.2.2.2.2.2.2.1.2.2.1 d.2.2.2.2.2.2.2.1.2.2.2.1) (by kernel_rfl) rfl (fun (d:sh5_2.data)=>ok5_2_t d.1.1 d.1.2.1 d.2.1.1 d.2.1.2.1 d.2.2.1.1 d.2.2.1.2.1 d.2.2.2.1.1 d.2.2.2.1.2.1 d.2.2.2.2.1.1 d.2.2.2.2.1.2.1 d.2.2.2.2.2.1.1 d.2.2.2.2.2.1.2.1 d.2.2.2.2.2.2.1.1 d.2.2.2.2.2.2.1.2.1 d.2.2.2.2.2.2.1.2.2.1 d.2.2.2.2.2.2.1.2.2.2.1 d.2.2.2.2.2.2.2.1.1 d.2.2.2.2.2.2.2.1.2.1 d.2.2.2.2.2.2.2.1.2.2.1 d.2.2.2.2.2.2.2.1.2.2.2.1) (fun _=>rfl)
def kl5_2 (P:Go.Program):Known:=(kl5_0 P).loop 5 2 lc5_2
theorem kl5_2_ok:KnownOk Go.Proofs.Try.prog (kl5_2 Go.Proofs.Try.prog):=kl5_0_ok.loop ok5_2

/-! ductility/ductilitylaw06.ModalNodes -/

abbrev as5:List Ty:=[(.pair (.slice (.int .i64)) (.pair (.slice (.int .i64)) .unit)),(.pair (.int .i64) (.pair (.int .i64) .unit)),(.pair (.slice (.int .i64)) (.pair (.slice (.int .i64)) .unit))]
abbrev rs5:List Ty:=[.bool]

def t5 (x0:(List Int)) (x0':(List Int)) (x1:Int) (x1':Int) (x2:(List Int)) (x2':(List Int)):Tr (Tys.data rs5) :=
  Tr.test (Option.isSome (f17 ((x0,(x0',())),())))
    (let r0:=g17 ((x0,(x0',())),());
    Tr.test ((!eqF r0.1 0:Bool))
      (Tr.fin (((true:Bool),())))
      (Tr.test (Option.isSome (f21 ((x1,(x1',())),())))
        (let r1:=g21 ((x1,(x1',())),());
        Tr.test ((!eqF r1.1 0:Bool))
          (Tr.fin (((true:Bool),())))
          (Tr.test (Option.isSome (f27 ((x0,(x0',())),(x2,()))))
            (let r2:=g27 ((x0,(x0',())),(x2,()));
            Tr.test ((!eqF r2.1 0:Bool))
              (Tr.fin (((true:Bool),())))
              (Tr.test (Option.isSome (f27 ((x0,(x0',())),(x2',()))))
                (let r3:=g27 ((x0,(x0',())),(x2',()));
                Tr.test ((!eqF r3.1 0:Bool))
                  (Tr.fin (((true:Bool),())))
                  (Tr.test (Option.isSome (f10 ((x0,(x0',())),())))
                    (let r4:=g10 ((x0,(x0',())),());
                    Tr.test (Option.isSome (f28 ((r4.1.1,(r4.1.2.1,())),((x1,(x1',())),()))))
                      (Tr.test (Option.isSome (f23 ((r4.1.1,(r4.1.2.1,())),((x1,(x1',())),()))))
                        (Tr.test (Option.isSome (f22 ((r4.1.1,(r4.1.2.1,())),((x1,(x1',())),()))))
                          (let r5:=g28 ((r4.1.1,(r4.1.2.1,())),((x1,(x1',())),()));
                          Tr.test (Option.isSome (f30 (r5.1.2.1,())))
                            (let r8:=g30 (r5.1.2.1,());
                            Tr.test (Option.isSome (f29 (r8.1,())))
                              (Tr.test ((!eqF r5.2.2.1 0:Bool))
                                (Tr.fin (((false:Bool),())))
                                (let r6:=g23 ((r4.1.1,(r4.1.2.1,())),((x1,(x1',())),()));
                                Tr.test ((!eqF r6.2.1 0:Bool))
                                  (Tr.fin (((false:Bool),())))
                                  (let r7:=g22 ((r4.1.1,(r4.1.2.1,())),((x1,(x1',())),()));
                                  Tr.test ((!eqF r7.2.1 0:Bool))
                                    (Tr.fin (((false:Bool),())))
                                    (let r9:=g29 (r8.1,());
                                    Tr.test ((!eqF r9.2.1 0:Bool))
                                      (Tr.fin (((false:Bool),())))
                                      (Tr.test ((!eqF (↑(List.length r5.1.2.1):Int) (↑(List.length x0):Int):Bool))
                                        (Tr.fin (((false:Bool),())))
                                        (Tr.test ((!leF (1:Int) r5.1.1:Bool))
                                          (Tr.fin (((false:Bool),())))
                                          (Tr.test ((true && decide ((0:Int) < (↑(List.length r5.1.2.1):Int)):Bool))
                                            (Tr.test ((!eqF (List.getD r5.1.2.1 (0:Nat) (0:Int)) r5.1.1:Bool))
                                              (Tr.fin (((false:Bool),())))
                                              (Tr.test ((!r6.1 == eqF r5.2.1 0:Bool))
                                                (Tr.fin (((false:Bool),())))
                                                (Tr.test (r6.1)
                                                  (Tr.test ((!eqF r9.1 r7.1:Bool))
                                                    (Tr.fin (((false:Bool),())))
                                                    (Tr.test (isBrk (l5_0 ((([]:List Int),((0:Int),())),((x0,(x0',())),((x2,(x2',())),())))))
                                                      (let r10:=b5_0 ((([]:List Int),((0:Int),())),((x0,(x0',())),((x2,(x2',())),())));
                                                      Tr.test (Option.isSome (f27 ((r10.2.1.1,(r10.2.1.2.1,())),(r10.1.1,()))))
                                                        (let r11:=g27 ((r10.2.1.1,(r10.2.1.2.1,())),(r10.1.1,()));
                                                        Tr.test ((!eqF r11.1 0:Bool))
                                                          (Tr.fin (((true:Bool),())))
                                                          (Tr.test (Option.isSome (f10 ((r10.2.1.1,(r10.2.1.2.1,())),())))
                                                            (Tr.test (Option.isSome (f30 (r10.2.2.1.1,())))
                                                              (let r12:=g10 ((r10.2.1.1,(r10.2.1.2.1,())),());
                                                              let r13:=g30 (r10.2.2.1.1,());
                                                              Tr.test (Option.isSome (f31 ((r12.1.1,(r12.1.2.1,())),(r13.1,()))))
                                                                (Tr.test (Option.isSome (f30 (r10.2.2.1.2.1,())))
                                                                  (let r15:=g30 (r10.2.2.1.2.1,());
                                                                  Tr.test (Option.isSome (f31 ((r12.1.1,(r12.1.2.1,())),(r15.1,()))))
                                                                    (Tr.test (Option.isSome (f31 ((r12.1.1,(r12.1.2.1,())),(r10.1.1,()))))
                                                                      (let r14:=g31 ((r12.1.1,(r12.1.2.1,())),(r13.1,()));
                                                                      Tr.test ((!eqF r14.2.1 0:Bool))
                                                                        (Tr.fin (((false:Bool),())))
                                                                        (let r16:=g31 ((r12.1.1,(r12.1.2.1,())),(r15.1,()));
                                                                        Tr.test ((!eqF r16.2.1 0:Bool))
                                                                          (Tr.fin (((false:Bool),())))
                                                                          (let r17:=g31 ((r12.1.1,(r12.1.2.1,())),(r10.1.1,()));
                                                                          Tr.test ((!eqF r17.2.1 0:Bool))
                                                                            (Tr.fin (((false:Bool),())))
                                                                            (Tr.test (Option.isSome (f32 ((r14.1.1,(r14.1.2.1,())),((↑(List.length r10.2.1.1):Int),()))))
                                                                              (let r18:=g32 ((r14.1.1,(r14.1.2.1,())),((↑(List.length r10.2.1.1):Int),()));
                                                                              Tr.test ((!r18.1:Bool))
                                                                                (Tr.fin (((false:Bool),())))
                                                                                (Tr.test (Option.isSome (f32 ((r16.1.1,(r16.1.2.1,())),((↑(List.length r10.2.1.1):Int),()))))
                                                                                  (let r19:=g32 ((r16.1.1,(r16.1.2.1,())),((↑(List.length r10.2.1.1):Int),()));
                                                                                  Tr.test ((!r19.1:Bool))
                                                                                    (Tr.fin (((false:Bool),())))
                                                                                    (Tr.test (Option.isSome (f32 ((r17.1.1,(r17.1.2.1,())),((↑(List.length r10.2.1.1):Int),()))))
                                                                                      (let r20:=g32 ((r17.1.1,(r17.1.2.1,())),((↑(List.length r10.2.1.1):Int),()));
                                                                                      Tr.test ((!r20.1:Bool))
                                                                                        (Tr.fin (((false:Bool),())))
                                                                                        (Tr.test (Option.isSome (f33 ((0:Int),())))
                                                                                          (let r21:=g33 ((0:Int),());
                                                                                          Tr.test (Option.isSome (l5_2 ((r10.1.1,((0:Int),())),((r10.2.1.1,(r10.2.1.2.1,())),((r10.2.2.1.1,(r10.2.2.1.2.1,())),((r14.1.1,(r14.1.2.1,())),((r16.1.1,(r16.1.2.1,())),((r17.1.1,(r17.1.2.1,())),((r21.1.1.1,(r21.1.1.2.1,(r21.1.2.1.1,(r21.1.2.1.2.1,())))),((r21.1.1.1,(r21.1.1.2.1,(r21.1.2.1.1,(r21.1.2.1.2.1,())))),()))))))))))
                                                                                            (Tr.test (isRet (l5_2 ((r10.1.1,((0:Int),())),((r10.2.1.1,(r10.2.1.2.1,())),((r10.2.2.1.1,(r10.2.2.1.2.1,())),((r14.1.1,(r14.1.2.1,())),((r16.1.1,(r16.1.2.1,())),((r17.1.1,(r17.1.2.1,())),((r21.1.1.1,(r21.1.1.2.1,(r21.1.2.1.1,(r21.1.2.1.2.1,())))),((r21.1.1.1,(r21.1.1.2.1,(r21.1.2.1.1,(r21.1.2.1.2.1,())))),()))))))))))
                                                                                              (let r22:=r5_2 ((r10.1.1,((0:Int),())),((r10.2.1.1,(r10.2.1.2.1,())),((r10.2.2.1.1,(r10.2.2.1.2.1,())),((r14.1.1,(r14.1.2.1,())),((r16.1.1,(r16.1.2.1,())),((r17.1.1,(r17.1.2.1,())),((r21.1.1.1,(r21.1.1.2.1,(r21.1.2.1.1,(r21.1.2.1.2.1,())))),((r21.1.1.1,(r21.1.1.2.1,(r21.1.2.1.1,(r21.1.2.1.2.1,())))),()))))))));
                                                                                              Tr.fin ((r22.1.1,())))
                                                                                              (let r23:=b5_2 ((r10.1.1,((0:Int),())),((r10.2.1.1,(r10.2.1.2.1,())),((r10.2.2.1.1,(r10.2.2.1.2.1,())),((r14.1.1,(r14.1.2.1,())),((r16.1.1,(r16.1.2.1,())),((r17.1.1,(r17.1.2.1,())),((r21.1.1.1,(r21.1.1.2.1,(r21.1.2.1.1,(r21.1.2.1.2.1,())))),((r21.1.1.1,(r21.1.1.2.1,(r21.1.2.1.1,(r21.1.2.1.2.1,())))),()))))))));
                                                                                              Tr.test (Option.isSome (f35 (((r23.2.2.2.2.2.2.1.1,(r23.2.2.2.2.2.2.1.2.1,())),((r23.2.2.2.2.2.2.1.2.2.1,(r23.2.2.2.2.2.2.1.2.2.2.1,())),())),(((r23.2.2.2.2.2.2.2.1.1,(r23.2.2.2.2.2.2.2.1.2.1,())),((r23.2.2.2.2.2.2.2.1.2.2.1,(r23.2.2.2.2.2.2.2.1.2.2.2.1,())),())),()))))
                                                                                                (let r24:=g35 (((r23.2.2.2.2.2.2.1.1,(r23.2.2.2.2.2.2.1.2.1,())),((r23.2.2.2.2.2.2.1.2.2.1,(r23.2.2.2.2.2.2.1.2.2.2.1,())),())),(((r23.2.2.2.2.2.2.2.1.1,(r23.2.2.2.2.2.2.2.1.2.1,())),((r23.2.2.2.2.2.2.2.1.2.2.1,(r23.2.2.2.2.2.2.2.1.2.2.2.1,())),())),()));
                                                                                                Tr.fin (((eqF r24.1 0:Bool),())))
                                                                                                (Tr.stop)))
                                                                                            (Tr.stop))
                                                                                          (Tr.stop)))
                                                                                      (Tr.stop)))
                                                                                  (Tr.stop)))
                                                                              (Tr.stop)))))
                                                                      (Tr.stop))
                                                                    (Tr.stop))
                                                                  (Tr.stop))
                                                                (Tr.stop))
                                                              (Tr.stop))
                                                            (Tr.stop)))
                                                        (Tr.stop))
                                                      (Tr.stop)))
                                                  (Tr.test (isBrk (l5_0 ((([]:List Int),((0:Int),())),((x0,(x0',())),((x2,(x2',())),())))))
                                                    (let r10:=b5_0 ((([]:List Int),((0:Int),())),((x0,(x0',())),((x2,(x2',())),())));
                                                    Tr.test (Option.isSome (f27 ((r10.2.1.1,(r10.2.1.2.1,())),(r10.1.1,()))))
                                                      (let r11:=g27 ((r10.2.1.1,(r10.2.1.2.1,())),(r10.1.1,()));
                                                      Tr.test ((!eqF r11.1 0:Bool))
                                                        (Tr.fin (((true:Bool),())))
                                                        (Tr.test (Option.isSome (f10 ((r10.2.1.1,(r10.2.1.2.1,())),())))
                                                          (Tr.test (Option.isSome (f30 (r10.2.2.1.1,())))
                                                            (let r12:=g10 ((r10.2.1.1,(r10.2.1.2.1,())),());
                                                            let r13:=g30 (r10.2.2.1.1,());
                                                            Tr.test (Option.isSome (f31 ((r12.1.1,(r12.1.2.1,())),(r13.1,()))))
                                                              (Tr.test (Option.isSome (f30 (r10.2.2.1.2.1,())))
                                                                (let r15:=g30 (r10.2.2.1.2.1,());
                                                                Tr.test (Option.isSome (f31 ((r12.1.1,(r12.1.2.1,())),(r15.1,()))))
                                                                  (Tr.test (Option.isSome (f31 ((r12.1.1,(r12.1.2.1,())),(r10.1.1,()))))
                                                                    (let r14:=g31 ((r12.1.1,(r12.1.2.1,())),(r13.1,()));
                                                                    Tr.test ((!eqF r14.2.1 0:Bool))
                                                                      (Tr.fin (((false:Bool),())))
                                                                      (let r16:=g31 ((r12.1.1,(r12.1.2.1,())),(r15.1,()));
                                                                      Tr.test ((!eqF r16.2.1 0:Bool))
                                                                        (Tr.fin (((false:Bool),())))
                                                                        (let r17:=g31 ((r12.1.1,(r12.1.2.1,())),(r10.1.1,()));
                                                                        Tr.test ((!eqF r17.2.1 0:Bool))
                                                                          (Tr.fin (((false:Bool),())))
                                                                          (Tr.test (Option.isSome (f32 ((r14.1.1,(r14.1.2.1,())),((↑(List.length r10.2.1.1):Int),()))))
                                                                            (let r18:=g32 ((r14.1.1,(r14.1.2.1,())),((↑(List.length r10.2.1.1):Int),()));
                                                                            Tr.test ((!r18.1:Bool))
                                                                              (Tr.fin (((false:Bool),())))
                                                                              (Tr.test (Option.isSome (f32 ((r16.1.1,(r16.1.2.1,())),((↑(List.length r10.2.1.1):Int),()))))
                                                                                (let r19:=g32 ((r16.1.1,(r16.1.2.1,())),((↑(List.length r10.2.1.1):Int),()));
                                                                                Tr.test ((!r19.1:Bool))
                                                                                  (Tr.fin (((false:Bool),())))
                                                                                  (Tr.test (Option.isSome (f32 ((r17.1.1,(r17.1.2.1,())),((↑(List.length r10.2.1.1):Int),()))))
                                                                                    (let r20:=g32 ((r17.1.1,(r17.1.2.1,())),((↑(List.length r10.2.1.1):Int),()));
                                                                                    Tr.test ((!r20.1:Bool))
                                                                                      (Tr.fin (((false:Bool),())))
                                                                                      (Tr.test (Option.isSome (f33 ((0:Int),())))
                                                                                        (let r21:=g33 ((0:Int),());
                                                                                        Tr.test (Option.isSome (l5_2 ((r10.1.1,((0:Int),())),((r10.2.1.1,(r10.2.1.2.1,())),((r10.2.2.1.1,(r10.2.2.1.2.1,())),((r14.1.1,(r14.1.2.1,())),((r16.1.1,(r16.1.2.1,())),((r17.1.1,(r17.1.2.1,())),((r21.1.1.1,(r21.1.1.2.1,(r21.1.2.1.1,(r21.1.2.1.2.1,())))),((r21.1.1.1,(r21.1.1.2.1,(r21.1.2.1.1,(r21.1.2.1.2.1,())))),()))))))))))
                                                                                          (Tr.test (isRet (l5_2 ((r10.1.1,((0:Int),())),((r10.2.1.1,(r10.2.1.2.1,())),((r10.2.2.1.1,(r10.2.2.1.2.1,())),((r14.1.1,(r14.1.2.1,())),((r16.1.1,(r16.1.2.1,())),((r17.1.1,(r17.1.2.1,())),((r21.1.1.1,(r21.1.1.2.1,(r21.1.2.1.1,(r21.1.2.1.2.1,())))),((r21.1.1.1,(r21.1.1.2.1,(r21.1.2.1.1,(r21.1.2.1.2.1,())))),()))))))))))
                                                                                            (let r22:=r5_2 ((r10.1.1,((0:Int),())),((r10.2.1.1,(r10.2.1.2.1,())),((r10.2.2.1.1,(r10.2.2.1.2.1,())),((r14.1.1,(r14.1.2.1,())),((r16.1.1,(r16.1.2.1,())),((r17.1.1,(r17.1.2.1,())),((r21.1.1.1,(r21.1.1.2.1,(r21.1.2.1.1,(r21.1.2.1.2.1,())))),((r21.1.1.1,(r21.1.1.2.1,(r21.1.2.1.1,(r21.1.2.1.2.1,())))),()))))))));
                                                                                            Tr.fin ((r22.1.1,())))
                                                                                            (let r23:=b5_2 ((r10.1.1,((0:Int),())),((r10.2.1.1,(r10.2.1.2.1,())),((r10.2.2.1.1,(r10.2.2.1.2.1,())),((r14.1.1,(r14.1.2.1,())),((r16.1.1,(r16.1.2.1,())),((r17.1.1,(r17.1.2.1,())),((r21.1.1.1,(r21.1.1.2.1,(r21.1.2.1.1,(r21.1.2.1.2.1,())))),((r21.1.1.1,(r21.1.1.2.1,(r21.1.2.1.1,(r21.1.2.1.2.1,())))),()))))))));
                                                                                            Tr.test (Option.isSome (f35 (((r23.2.2.2.2.2.2.1.1,(r23.2.2.2.2.2.2.1.2.1,())),((r23.2.2.2.2.2.2.1.2.2.1,(r23.2.2.2.2.2.2.1.2.2.2.1,())),())),(((r23.2.2.2.2.2.2.2.1.1,(r23.2.2.2.2.2.2.2.1.2.1,())),((r23.2.2.2.2.2.2.2.1.2.2.1,(r23.2.2.2.2.2.2.2.1.2.2.2.1,())),())),()))))
                                                                                              (let r24:=g35 (((r23.2.2.2.2.2.2.1.1,(r23.2.2.2.2.2.2.1.2.1,())),((r23.2.2.2.2.2.2.1.2.2.1,(r23.2.2.2.2.2.2.1.2.2.2.1,())),())),(((r23.2.2.2.2.2.2.2.1.1,(r23.2.2.2.2.2.2.2.1.2.1,())),((r23.2.2.2.2.2.2.2.1.2.2.1,(r23.2.2.2.2.2.2.2.1.2.2.2.1,())),())),()));
                                                                                              Tr.fin (((eqF r24.1 0:Bool),())))
                                                                                              (Tr.stop)))
                                                                                          (Tr.stop))
                                                                                        (Tr.stop)))
                                                                                    (Tr.stop)))
                                                                                (Tr.stop)))
                                                                            (Tr.stop)))))
                                                                    (Tr.stop))
                                                                  (Tr.stop))
                                                                (Tr.stop))
                                                              (Tr.stop))
                                                            (Tr.stop))
                                                          (Tr.stop)))
                                                      (Tr.stop))
                                                    (Tr.stop)))))
                                            (Tr.stop))))))))
                              (Tr.stop))
                            (Tr.stop))
                          (Tr.stop))
                        (Tr.stop))
                      (Tr.stop))
                    (Tr.stop)))
                (Tr.stop)))
            (Tr.stop)))
        (Tr.stop)))
    (Tr.stop)

def f5 (d:Tys.data as5):Option (Tys.data rs5):=(t5 d.1.1 d.1.2.1 d.2.1.1 d.2.1.2.1 d.2.2.1.1 d.2.2.1.2.1).val
def g5 (d:Tys.data as5):Tys.data rs5:=(f5 d).getD (Tys.dflt rs5)
def p5:PureC:=pcOf as5 rs5 f5 g5

theorem wk5 (x0:(List Int)) (x0':(List Int)) (x1:Int) (x1':Int) (x2:(List Int)) (x2':(List Int)):Walks (runPure (kl5_2 Go.Proofs.Try.prog).orc Go.Proofs.Try.prog 400 5 as5 rs5 ((x0,x0',()),(x1,x1',()),(x2,x2',()),())) (t5 x0 x0' x1 x1' x2 x2') [([true,true],[1,1,1,1,1,1,1,1,1,1,1,1,1,2,2,2,2,4,0,1]),([true,false,true,true],[1,1,1,1,1,1,1,2,2,2,2,2,2,6,6,4,6,6,8,0,1]),([true,false,true,false,true,true],[1,2,2,2,2,2,2,6,6,4,6,6,1,6,6,10,10,8,10,10,12,0,1]),([true,false,true,false,true,false,true,true],[2,6,6,4,6,6,1,6,6,10,10,8,10,10,1,10,10,14,14,12,14,14,16,0,1]),([true,false,true,false,true,false,true,false,true,true,true,true,true,true,true],[1,1,1,1,1,1,1,1,1,1,1,1,1,1,1,1,1,1,1,1,1,1,1,1,1,1,1,1,1,1,1,1,1,1,1,1,2,2,2,4,6,8,14,10,14,12,14,16,20,20,18,20,20,1,20,20,24,24,22,24,24,1,24,24,28,28,26,28,28,30,0,1]),([true,false,true,false,true,false,true,false,true,true,true,true,true,true,false,true],[1,1,1,1,1,1,1,1,1,1,1,1,1,1,1,1,1,1,1,1,1,1,1,1,1,1,1,1,1,1,1,1,1,2,2,2,4,4,4,6,8,10,16,12,16,14,16,18,22,22,20,22,22,1,22,22,26,26,24,26,26,1,26,26,30,30,28,30,30,32,0,1]),([true,false,true,false,true,false,true,false,true,true,true,true,true,true,false,false,true],[1,1,1,1,1,1,1,1,1,1,1,1,1,1,1,1,1,1,1,1,1,1,1,1,1,1,1,1,1,1,2,2,2,4,4,4,6,6,6,8,10,12,18,14,18,16,18,20,24,24,22,24,24,1,24,24,28,28,26,28,28,1,28,28,32,32,30,32,32,34,0,1]),([true,false,true,false,true,false,true,false,true,true,true,true,true,true,false,false,false,true],[1,1,1,1,1,1,1,1,1,1,1,1,1,1,1,1,1,1,1,1,1,1,2,2,2,2,2,2,2,2,4,4,4,6,6,6,8,8,8,10,12,14,20,16,20,18,20,22,26,26,24,26,26,1,26,26,30,30,28,30,30,1,30,30,34,34,32,34,34,36,0,1]),([true,false,true,false,true,false,true,false,true,true,true,true,true,true,false,false,false,false,true],[1,1,1,1,1,1,1,1,1,1,1,1,1,1,1,1,1,1,2,2,2,2,4,4,4,4,4,4,4,4,6,6,6,8,8,8,10,10,10,12,14,16,22,18,22,20,22,24,28,28,26,28,28,1,28,28,32,32,30,32,32,1,32,32,36,36,34,36,36,38,0,1]),([true,false,true,false,true,false,true,false,true,true,true,true,true,true,false,false,false,false,false,true],[1,1,1,1,1,1,1,1,1,1,2,2,2,2,2,2,2,2,4,4,4,4,6,6,6,6,6,6,6,6,8,8,8,10,10,10,12,12,12,14,16,18,24,20,24,22,24,26,30,30,28,30,30,1,30,30,34,34,32,34,34,1,34,34,38,38,36,38,38,40,0,1]),([true,false,true,false,true,false,true,false,true,true,true,true,true,true,false,false,false,false,false,false,true,true],[1,1,1,1,1,2,2,2,2,2,6,6,6,6,6,4,6,6,6,8,8,8,8,10,10,10,10,10,10,10,10,12,12,12,14,14,14,16,16,16,18,20,22,28,24,28,26,28,30,34,34,32,34,34,1,34,34,38,38,36,38,38,1,38,38,42,42,40,42,42,44,0,1]),([true,false,true,false,true,false,true,false,true,true,true,true,true,true,false,false,false,false,false,false,true,false,true],[1,2,2,2,2,4,4,4,4,4,8,8,8,8,8,6,8,8,8,10,10,10,10,12,12,12,12,12,12,12,12,14,14,14,16,16,16,18,18,18,20,22,24,30,26,30,28,30,32,36,36,34,36,36,1,36,36,40,40,38,40,40,1,40,40,44,44,42,44,44,46,0,1]),([true,false,true,false,true,false,true,false,true,true,true,true,true,true,false,false,false,false,false,false,true,false,false,true,true],[2,6,4,6,4,4,4,6,6,8,8,8,8,8,12,12,12,12,12,10,12,12,12,14,14,14,14,16,16,16,16,16,16,16,16,18,18,18,20,20,20,22,22,22,24,26,28,34,30,34,32,34,36,40,40,38,40,40,1,40,40,44,44,42,44,44,1,44,44,48,48,46,48,48,50,0,1]),([true,false,true,false,true,false,true,false,true,true,true,true,true,true,false,false,false,false,false,false,true,false,false,true,false,true,true,true],[2,4,1,6,8,12,10,12,10,10,10,12,12,14,14,14,14,14,18,18,18,18,18,16,18,18,18,20,20,20,20,22,22,22,22,22,22,22,22,24,24,24,26,26,26,28,28,28,30,32,34,40,36,40,38,40,42,46,46,44,46,46,1,46,46,50,50,48,50,50,1,50,50,54,54,52,54,54,56,0,1]),([true,false,true,false,true,false,true,false,true,true,true,true,true,true,false,false,false,false,false,false,true,false,false,true,false,true,true,false,true,true,true,true,true,true,true],[1,1,1,1,1,1,1,1,1,1,1,1,1,1,1,1,1,1,1,1,1,1,1,1,1,2,2,2,4,14,6,8,1,14,10,12,1,14,16,18,1,20,22,26,24,26,24,24,24,26,26,28,28,28,28,28,32,32,32,32,32,30,32,32,32,34,34,34,34,36,36,36,36,36,36,36,36,38,38,38,40,40,40,42,42,42,44,46,48,54,50,54,52,54,56,60,60,58,60,60,1,60,60,64,64,62,64,64,1,64,64,68,68,66,68,68,70,0,1]),([true,false,true,false,true,false,true,false,true,true,true,true,true,true,false,false,false,false,false,false,true,false,false,true,false,true,true,false,true,true,true,true,true,true,false,true],[1,1,1,1,1,1,1,1,1,1,1,1,1,1,1,1,1,1,1,1,1,1,2,2,2,4,4,4,6,16,8,10,1,16,12,14,1,16,18,20,1,22,24,28,26,28,26,26,26,28,28,30,30,30,30,30,34,34,34,34,34,32,34,34,34,36,36,36,36,38,38,38,38,38,38,38,38,40,40,40,42,42,42,44,44,44,46,48,50,56,52,56,54,56,58,62,62,60,62,62,1,62,62,66,66,64,66,66,1,66,66,70,70,68,70,70,72,0,1]),([true,false,true,false,true,false,true,false,true,true,true,true,true,true,false,false,false,false,false,false,true,false,false,true,false,true,true,false,true,true,true,true,true,true,false,false,true],[1,1,1,1,1,1,1,1,1,1,1,1,1,1,1,2,2,2,2,2,2,2,4,4,4,6,6,6,8,18,10,12,1,18,14,16,1,18,20,22,1,24,26,30,28,30,28,28,28,30,30,32,32,32,32,32,36,36,36,36,36,34,36,36,36,38,38,38,38,40,40,40,40,40,40,40,40,42,42,42,44,44,44,46,46,46,48,50,52,58,54,58,56,58,60,64,64,62,64,64,1,64,64,68,68,66,68,68,1,68,68,72,72,70,72,72,74,0,1]),([true,false,true,false,true,false,true,false,true,true,true,true,true,true,false,false,false,false,false,false,true,false,false,true,false,true,true,false,true,true,true,true,true,true,false,false,false,true,true],[1,1,1,1,1,1,1,1,2,2,2,2,2,2,2,6,6,4,6,6,6,6,6,8,8,8,10,10,10,12,22,14,16,1,22,18,20,1,22,24,26,1,28,30,34,32,34,32,32,32,34,34,36,36,36,36,36,40,40,40,40,40,38,40,40,40,42,42,42,42,44,44,44,44,44,44,44,44,46,46,46,48,48,48,50,50,50,52,54,56,62,58,62,60,62,64,68,68,66,68,68,1,68,68,72,72,70,72,72,1,72,72,76,76,74,76,76,78,0,1]),([true,false,true,false,true,false,true,false,true,true,true,true,true,true,false,false,false,false,false,false,true,false,false,true,false,true,true,false,true,true,true,true,true,true,false,false,false,true,false,true,true],[1,2,2,2,2,2,2,2,6,6,4,6,6,6,6,6,10,10,8,10,10,10,10,10,12,12,12,14,14,14,16,26,18,20,1,26,22,24,1,26,28,30,1,32,34,38,36,38,36,36,36,38,38,40,40,40,40,40,44,44,44,44,44,42,44,44,44,46,46,46,46,48,48,48,48,48,48,48,48,50,50,50,52,52,52,54,54,54,56,58,60,66,62,66,64,66,68,72,72,70,72,72,1,72,72,76,76,74,76,76,1,76,76,80,80,78,80,80,82,0,1]),([true,false,true,false,true,false,true,false,true,true,true,true,true,true,false,false,false,false,false,false,true,false,false,true,false,true,true,false,true,true,true,true,true,true,false,false,false,true,false,true,false,true,true],[2,6,6,4,6,6,6,6,6,10,10,8,10,10,10,10,10,14,14,12,14,14,14,14,14,16,16,16,18,18,18,20,30,22,24,1,30,26,28,1,30,32,34,1,36,38,42,40,42,40,40,40,42,42,44,44,44,44,44,48,48,48,48,48,46,48,48,48,50,50,50,50,52,52,52,52,52,52,52,52,54,54,54,56,56,56,58,58,58,60,62,64,70,66,70,68,70,72,76,76,74,76,76,1,76,76,80,80,78,80,80,1,80,80,84,84,82,84,84,86,0,1]),([true,false,true,false,true,false,true,false,true,true,true,true,true,true,false,false,false,false,false,false,true,false,false,true,false,true,true,false,true,true,true,true,true,true,false,false,false,true,false,true,false,true,false,true,true,true],[2,4,6,6,8,12,12,10,12,12,12,12,12,16,16,14,16,16,16,16,16,20,20,18,20,20,20,20,20,22,22,22,24,24,24,26,36,28,30,1,36,32,34,1,36,38,40,1,42,44,48,46,48,46,46,46,48,48,50,50,50,50,50,54,54,54,54,54,52,54,54,54,56,56,56,56,58,58,58,58,58,58,58,58,60,60,60,62,62,62,64,64,64,66,68,70,76,72,76,74,76,78,82,82,80,82,82,1,82,82,86,86,84,86,86,1,86,86,90,90,88,90,90,92,0,1]),([true,false,true,false,true,false,true,false,true,true,true,true,true,true,false,false,false,false,false,false,true,false,false,true,false,true,true,false,true,true,true,true,true,true,false,false,false,true,false,true,false,true,false,true,true,false,true],[2,4,6,8,8,10,14,14,12,14,14,14,14,14,18,18,16,18,18,18,18,18,22,22,20,22,22,22,22,22,24,24,24,26,26,26,28,38,30,32,1,38,34,36,1,38,40,42,1,44,46,50,48,50,48,48,48,50,50,52,52,52,52,52,56,56,56,56,56,54,56,56,56,58,58,58,58,60,60,60,60,60,60,60,60,62,62,62,64,64,64,66,66,66,68,70,72,78,74,78,76,78,80,84,84,82,84,84,1,84,84,88,88,86,88,88,1,88,88,92,92,90,92,92,94,0,1]),([true,false,true,false,true,false,true,false,true,true,true,true,true,true,false,false,false,false,false,false,true,false,false,false,true,true,true],[2,4,1,6,0,10,8,10,8,8,8,10,10,12,12,12,12,12,16,16,16,16,16,14,16,16,16,18,18,18,18,20,20,20,20,20,20,20,20,22,22,22,24,24,24,26,26,26,28,30,32,38,34,38,36,38,40,44,44,42,44,44,1,44,44,48,48,46,48,48,1,48,48,52,52,50,52,52,54,0,1]),([true,false,true,false,true,false,true,false,true,true,true,true,true,true,false,false,false,false,false,false,true,false,false,false,true,true,false,true,true,true,true,true,true,true],[1,1,1,1,1,1,1,1,1,1,1,1,1,1,1,1,1,1,1,1,1,1,1,1,1,2,2,2,4,14,6,8,1,14,10,12,1,14,16,18,1,20,0,24,22,24,22,22,22,24,24,26,26,26,26,26,30,30,30,30,30,28,30,30,30,32,32,32,32,34,34,34,34,34,34,34,34,36,36,36,38,38,38,40,40,40,42,44,46,52,48,52,50,52,54,58,58,56,58,58,1,58,58,62,62,60,62,62,1,62,62,66,66,64,66,66,68,0,1]),([true,false,true,false,true,false,true,false,true,true,true,true,true,true,false,false,false,false,false,false,true,false,false,false,true,true,false,true,true,true,true,true,true,false,true],[1,1,1,1,1,1,1,1,1,1,1,1,1,1,1,1,1,1,1,1,1,1,2,2,2,4,4,4,6,16,8,10,1,16,12,14,1,16,18,20,1,22,0,26,24,26,24,24,24,26,26,28,28,28,28,28,32,32,32,32,32,30,32,32,32,34,34,34,34,36,36,36,36,36,36,36,36,38,38,38,40,40,40,42,42,42,44,46,48,54,50,54,52,54,56,60,60,58,60,60,1,60,60,64,64,62,64,64,1,64,64,68,68,66,68,68,70,0,1]),([true,false,true,false,true,false,true,false,true,true,true,true,true,true,false,false,false,false,false,false,true,false,false,false,true,true,false,true,true,true,true,true,true,false,false,true],[1,1,1,1,1,1,1,1,1,1,1,1,1,1,1,2,2,2,2,2,2,2,4,4,4,6,6,6,8,18,10,12,1,18,14,16,1,18,20,22,1,24,0,28,26,28,26,26,26,28,28,30,30,30,30,30,34,34,34,34,34,32,34,34,34,36,36,36,36,38,38,38,38,38,38,38,38,40,40,40,42,42,42,44,44,44,46,48,50,56,52,56,54,56,58,62,62,60,62,62,1,62,62,66,66,64,66,66,1,66,66,70,70,68,70,70,72,0,1]),([true,false,true,false,true,false,true,false,true,true,true,true,true,true,false,false,false,false,false,false,true,false,false,false,true,true,false,true,true,true,true,true,true,false,false,false,true,true],[1,1,1,1,1,1,1,1,2,2,2,2,2,2,2,6,6,4,6,6,6,6,6,8,8,8,10,10,10,12,22,14,16,1,22,18,20,1,22,24,26,1,28,0,32,30,32,30,30,30,32,32,34,34,34,34,34,38,38,38,38,38,36,38,38,38,40,40,40,40,42,42,42,42,42,42,42,42,44,44,44,46,46,46,48,48,48,50,52,54,60,56,60,58,60,62,66,66,64,66,66,1,66,66,70,70,68,70,70,1,70,70,74,74,72,74,74,76,0,1]),([true,false,true,false,true,false,true,false,true,true,true,true,true,true,false,false,false,false,false,false,true,false,false,false,true,true,false,true,true,true,true,true,true,false,false,false,true,false,true,true],[1,2,2,2,2,2,2,2,6,6,4,6,6,6,6,6,10,10,8,10,10,10,10,10,12,12,12,14,14,14,16,26,18,20,1,26,22,24,1,26,28,30,1,32,0,36,34,36,34,34,34,36,36,38,38,38,38,38,42,42,42,42,42,40,42,42,42,44,44,44,44,46,46,46,46,46,46,46,46,48,48,48,50,50,50,52,52,52,54,56,58,64,60,64,62,64,66,70,70,68,70,70,1,70,70,74,74,72,74,74,1,74,74,78,78,76,78,78,80,0,1]),([true,false,true,false,true,false,true,false,true,true,true,true,true,true,false,false,false,false,false,false,true,false,false,false,true,true,false,true,true,true,true,true,true,false,false,false,true,false,true,false,true,true],[2,6,6,4,6,6,6,6,6,10,10,8,10,10,10,10,10,14,14,12,14,14,14,14,14,16,16,16,18,18,18,20,30,22,24,1,30,26,28,1,30,32,34,1,36,0,40,38,40,38,38,38,40,40,42,42,42,42,42,46,46,46,46,46,44,46,46,46,48,48,48,48,50,50,50,50,50,50,50,50,52,52,52,54,54,54,56,56,56,58,60,62,68,64,68,66,68,70,74,74,72,74,74,1,74,74,78,78,76,78,78,1,78,78,82,82,80,82,82,84,0,1]),([true,false,true,false,true,false,true,false,true,true,true,true,true,true,false,false,false,false,false,false,true,false,false,false,true,true,false,true,true,true,true,true,true,false,false,false,true,false,true,false,true,false,true,true,true],[2,4,6,6,8,12,12,10,12,12,12,12,12,16,16,14,16,16,16,16,16,20,20,18,20,20,20,20,20,22,22,22,24,24,24,26,36,28,30,1,36,32,34,1,36,38,40,1,42,0,46,44,46,44,44,44,46,46,48,48,48,48,48,52,52,52,52,52,50,52,52,52,54,54,54,54,56,56,56,56,56,56,56,56,58,58,58,60,60,60,62,62,62,64,66,68,74,70,74,72,74,76,80,80,78,80,80,1,80,80,84,84,82,84,84,1,84,84,88,88,86,88,88,90,0,1]),([true,false,true,false,true,false,true,false,true,true,true,true,true,true,false,false,false,false,false,false,true,false,false,false,true,true,false,true,true,true,true,true,true,false,false,false,true,false,true,false,true,false,true,true,false,true],[2,4,6,8,8,10,14,14,12,14,14,14,14,14,18,18,16,18,18,18,18,18,22,22,20,22,22,22,22,22,24,24,24,26,26,26,28,38,30,32,1,38,34,36,1,38,40,42,1,44,0,48,46,48,46,46,46,48,48,50,50,50,50,50,54,54,54,54,54,52,54,54,54,56,56,56,56,58,58,58,58,58,58,58,58,60,60,60,62,62,62,64,64,64,66,68,70,76,72,76,74,76,78,82,82,80,82,82,1,82,82,86,86,84,86,86,1,86,86,90,90,88,90,90,92,0,1])] :=
  ⟨by kernel_rfl,by kernel_rfl,by kernel_rfl,by kernel_rfl,by kernel_rfl,by kernel_rfl,by kernel_rfl,by kernel_rfl,by kernel_rfl,by kernel_rfl,by kernel_rfl,by kernel_rfl,by kernel_rfl,by kernel_rfl,by kernel_rfl,by kernel_rfl,by kernel_rfl,by kernel_rfl,by kernel_rfl,by kernel_rfl,by kernel_rfl,by kernel_rfl,by kernel_rfl,by kernel_rfl,by kernel_rfl,by kernel_rfl,by kernel_rfl,by kernel_rfl,by kernel_rfl,by kernel_rfl,by kernel_rfl,trivial⟩

theorem ok5_t (x0:(List Int)) (x0':(List Int)) (x1:Int) (x1':Int) (x2:(List Int)) (x2':(List Int)):TrOk (PureRuns Go.Proofs.Try.prog (kl5_2 Go.Proofs.Try.prog).orc 5 as5 rs5 ((x0,x0',()),(x1,x1',()),(x2,x2',()),())) (t5 x0 x0' x1 x1' x2 x2') :=
  Walks.ok (fun _ _ _=>PureRuns.of) (wk5 x0 x0' x1 x1' x2 x2') (by kernel_rfl)

theorem ok5:PureOk Go.Proofs.Try.prog 5 p5:=pureOk_of kl5_2_ok.base (T:=fun (d:Tys.data as5)=>t5 d.1.1 d.1.2.1 d.2.1.1 d.2.1.2.1 d.2.2.1.1 d.2.2.1.2.1) (by kernel_rfl) (fun (d:Tys.data as5)=>ok5_t d.1.1 d.1.2.1 d.2.1.1 d.2.1.2.1 d.2.2.1.1 d.2.2.1.2.1)

end Go.Vm.Mo
