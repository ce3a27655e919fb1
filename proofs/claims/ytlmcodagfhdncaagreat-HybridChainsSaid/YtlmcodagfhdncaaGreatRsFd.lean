import Derived.Test.YtlmcodagfhdncaaGreatA4
import Derived.KernelRfl
import Derived.Test.YtlmcodagfhdncaaGreatProg
import Derived.Test.YtlmcodagfhdncaaGreatRsFc
set_option linter.unusedVariables false
set_option linter.unusedSimpArgs false

namespace Go.Vm.Mo
open Go
set_option linter.unusedVariables false
abbrev as137:List Ty:=[(.slice (.int .i64)),(.slice (.int .i64))]
abbrev rs137:List Ty:=[(.slice (.int .i64))]
def t137 (x0:(List Int)) (x1:(List Int)):Tr (Tys.data rs137) :=
  Tr.test (isBrk (l137_0 ((x0,(x1,(([]:List Int),((0:Int),((0:Int),()))))),())))
    (let r0:=b137_0 ((x0,(x1,(([]:List Int),((0:Int),((0:Int),()))))),());
    Tr.test (Option.isSome (f161 (r0.1.1,())))
      (let r1:=g161 (r0.1.1,());
      Tr.fin ((r1.1,())))
      (Tr.stop))
    (Tr.stop)
def f137 (d:Tys.data as137):Option (Tys.data rs137):=(t137 d.1 d.2.1).val
def g137 (d:Tys.data as137):Tys.data rs137:=(f137 d).getD (Tys.dflt rs137)
def p137:PureC:=pcOf as137 rs137 f137 g137
theorem wk137 (x0:(List Int)) (x1:(List Int)):Walks (runPure (kl137_0 Go.Proofs.Tryz.prog).orc Go.Proofs.Tryz.prog 400 137 as137 rs137 (x0,x1,())) (t137 x0 x1) [([true,true],[2,1,4])] :=
  ⟨by kernel_rfl,trivial⟩
theorem ok137_t (x0:(List Int)) (x1:(List Int)):TrOk (PureRuns Go.Proofs.Tryz.prog (kl137_0 Go.Proofs.Tryz.prog).orc 137 as137 rs137 (x0,x1,())) (t137 x0 x1) :=
  Walks.ok (fun _ _ _=>PureRuns.of) (wk137 x0 x1) (by kernel_rfl)
theorem ok137:PureOk Go.Proofs.Tryz.prog 137 p137:=pureOk_of kl137_0_ok.base (T:=fun (d:Tys.data as137)=>t137 d.1 d.2.1) (by kernel_rfl) (fun (d:Tys.data as137)=>ok137_t d.1 d.2.1)
def kf137 (P:Go.Program):Known:=(kl137_0 P).func 137 p137
theorem kf137_ok:KnownOk Go.Proofs.Tryz.prog (kf137 Go.Proofs.Tryz.prog):=kl137_0_ok.func ok137
abbrev sh135_0:Sh:={ n:=42,slots:=[0,1,5,6,7],pats:=[.ty (.slice (.int .i64)),.ty (.slice (.int .i64)),.acc (.int .i64),.ty (.int .i64),.ty (.int .i64)],boxes:=[] }
abbrev shb135_0:Sh:={ n:=42,slots:=[5],pats:=[.acc (.int .i64)],boxes:=[] }
abbrev shr135_0:Sh:={ n:=42,slots:=[],pats:=[],boxes:=[] }
def t135_0 (x0:(List Int)) (x1:(List Int)) (x2:(List Int)) (x3:Int) (x4:Int):Tr (Out sh135_0.data shb135_0.data shr135_0.data) :=
  Tr.test ((!leF (↑(List.length x0):Int) x4:Bool))
    (Tr.test (Option.isSome (f163 (x0,(x4,()))))
      (Tr.test (Option.isSome (f163 (x1,(x4,()))))
        (Tr.test ((Nat.ble (((2:Nat) * (List.length x2 + (1:Nat)) + (192:Nat)) * (8:Nat)) (281474976710656:Nat) && Nat.ble (List.length x2 + (1:Nat)) (281474976710656:Nat):Bool))
          (let r0:=g163 (x0,(x4,()));
          let r1:=g163 (x1,(x4,()));
          Tr.fin (.again ((x0,(x1,((x2++[Int.tmod (wrap64 (wrap64 (r0.1 + r1.1) + x3)) (1000000000:Int)]:List Int),((Go.IntKind.wrap Go.IntKind.i64 (Int.tdiv (wrap64 (wrap64 (r0.1 + r1.1) + x3)) (1000000000:Int)):Int),((wrap64 (x4 + (1:Int)):Int),()))))),())))
          (Tr.stop))
        (Tr.stop))
      (Tr.stop))
    (Tr.test (!leF (↑(List.length x1):Int) x4)
      (Tr.test (Option.isSome (f163 (x0,(x4,()))))
        (Tr.test (Option.isSome (f163 (x1,(x4,()))))
          (Tr.test ((Nat.ble (((2:Nat) * (List.length x2 + (1:Nat)) + (192:Nat)) * (8:Nat)) (281474976710656:Nat) && Nat.ble (List.length x2 + (1:Nat)) (281474976710656:Nat):Bool))
            (let r0:=g163 (x0,(x4,()));
            let r1:=g163 (x1,(x4,()));
            Tr.fin (.again ((x0,(x1,((x2++[Int.tmod (wrap64 (wrap64 (r0.1 + r1.1) + x3)) (1000000000:Int)]:List Int),((Go.IntKind.wrap Go.IntKind.i64 (Int.tdiv (wrap64 (wrap64 (r0.1 + r1.1) + x3)) (1000000000:Int)):Int),((wrap64 (x4 + (1:Int)):Int),()))))),())))
            (Tr.stop))
          (Tr.stop))
        (Tr.stop))
      (Tr.test ((!leF x3 0:Bool))
        (Tr.test (Option.isSome (f163 (x0,(x4,()))))
          (Tr.test (Option.isSome (f163 (x1,(x4,()))))
            (Tr.test ((Nat.ble (((2:Nat) * (List.length x2 + (1:Nat)) + (192:Nat)) * (8:Nat)) (281474976710656:Nat) && Nat.ble (List.length x2 + (1:Nat)) (281474976710656:Nat):Bool))
              (let r0:=g163 (x0,(x4,()));
              let r1:=g163 (x1,(x4,()));
              Tr.fin (.again ((x0,(x1,((x2++[Int.tmod (wrap64 (wrap64 (r0.1 + r1.1) + x3)) (1000000000:Int)]:List Int),((Go.IntKind.wrap Go.IntKind.i64 (Int.tdiv (wrap64 (wrap64 (r0.1 + r1.1) + x3)) (1000000000:Int)):Int),((wrap64 (x4 + (1:Int)):Int),()))))),())))
              (Tr.stop))
            (Tr.stop))
          (Tr.stop))
        (Tr.fin (.brk ((x2,()),())))))
def s135_0 (d:sh135_0.data):Option (Out sh135_0.data shb135_0.data shr135_0.data):=(t135_0 d.1.1 d.1.2.1 d.1.2.2.1 d.1.2.2.2.1 d.1.2.2.2.2.1).val
def l135_0 (d:sh135_0.data):Option (shb135_0.data ⊕ shr135_0.data):=itr s135_0 rounds d
def b135_0 (d:sh135_0.data):shb135_0.data:=outB shb135_0.dflt (l135_0 d)
def lc135_0:LoopC:=lcB sh135_0 shb135_0 shr135_0 l135_0 b135_0
theorem wk135_0 (x0:(List Int)) (x1:(List Int)) (x2:(List Int)) (x3:Int) (x4:Int):Walks (runBody (kf137 Go.Proofs.Tryz.prog).orc Go.Proofs.Tryz.prog 400 135 0 sh135_0 shb135_0 shr135_0 ((x0,x1,x2,x3,x4,()),())) (t135_0 x0 x1 x2 x3 x4) [([true,true,true,true],[0,2,0,0,4,6,1,1,1,1,8,8,8,8,8]),([false,true,true,true,true],[0,2,0,0,4,6,1,8,8,8,10,10,10,10,10]),([false,false,true,true,true,true],[0,2,0,0,4,6,8,10,10,10,12,12,12,12,12]),([false,false,false],[2,4,4,4,6,6,6,6,6])] :=
  ⟨by kernel_rfl,by kernel_rfl,by kernel_rfl,by kernel_rfl,trivial⟩
theorem ok135_0_t (x0:(List Int)) (x1:(List Int)) (x2:(List Int)) (x3:Int) (x4:Int):TrOk (BodyRuns Go.Proofs.Tryz.prog (kf137 Go.Proofs.Tryz.prog).orc 135 0 sh135_0 shb135_0 shr135_0 ((x0,x1,x2,x3,x4,()),())) (t135_0 x0 x1 x2 x3 x4) :=
  Walks.ok (fun _ _ _=>BodyRuns.of) (wk135_0 x0 x1 x2 x3 x4) (by kernel_rfl)
theorem ok135_0:LoopOk Go.Proofs.Tryz.prog 135 0 lc135_0:=loopOk_ofB (sh:=sh135_0) (shB:=shb135_0) (shR:=shr135_0) kf137_ok.base (T:=fun (d:sh135_0.data)=>t135_0 d.1.1 d.1.2.1 d.1.2.2.1 d.1.2.2.2.1 d.1.2.2.2.2.1) (by kernel_rfl) rfl (fun (d:sh135_0.data)=>ok135_0_t d.1.1 d.1.2.1 d.1.2.2.1 d.1.2.2.2.1 d.1.2.2.2.2.1) (fun _=>rfl)
def kl135_0 (P:Go.Program):Known:=(kf137 P).loop 135 0 lc135_0
theorem kl135_0_ok:KnownOk Go.Proofs.Tryz.prog (kl135_0 Go.Proofs.Tryz.prog):=kf137_ok.loop ok135_0
abbrev as135:List Ty:=[(.slice (.int .i64)),(.slice (.int .i64))]
abbrev rs135:List Ty:=[(.slice (.int .i64))]
def t135 (x0:(List Int)) (x1:(List Int)):Tr (Tys.data rs135) :=
  Tr.test (isBrk (l135_0 ((x0,(x1,(([]:List Int),((0:Int),((0:Int),()))))),())))
    (let r0:=b135_0 ((x0,(x1,(([]:List Int),((0:Int),((0:Int),()))))),());
    Tr.fin ((r0.1.1,())))
    (Tr.stop)
def f135 (d:Tys.data as135):Option (Tys.data rs135):=(t135 d.1 d.2.1).val
def g135 (d:Tys.data as135):Tys.data rs135:=(f135 d).getD (Tys.dflt rs135)
def p135:PureC:=pcOf as135 rs135 f135 g135
theorem wk135 (x0:(List Int)) (x1:(List Int)):Walks (runPure (kl135_0 Go.Proofs.Tryz.prog).orc Go.Proofs.Tryz.prog 400 135 as135 rs135 (x0,x1,())) (t135 x0 x1) [([tt],[1,2])] :=
  ⟨by kernel_rfl,trivial⟩
theorem ok135_t (x0:(List Int)) (x1:(List Int)):TrOk (PureRuns Go.Proofs.Tryz.prog (kl135_0 Go.Proofs.Tryz.prog).orc 135 as135 rs135 (x0,x1,())) (t135 x0 x1) :=
  Walks.ok (fun _ _ _=>PureRuns.of) (wk135 x0 x1) (by kernel_rfl)
theorem ok135:PureOk Go.Proofs.Tryz.prog 135 p135:=pureOk_of kl135_0_ok.base (T:=fun (d:Tys.data as135)=>t135 d.1 d.2.1) (by kernel_rfl) (fun (d:Tys.data as135)=>ok135_t d.1 d.2.1)
def kf135 (P:Go.Program):Known:=(kl135_0 P).func 135 p135
theorem kf135_ok:KnownOk Go.Proofs.Tryz.prog (kf135 Go.Proofs.Tryz.prog):=kl135_0_ok.func ok135
abbrev as100:List Ty:=[(.pair (.int .i64) (.pair (.slice (.int .i64)) .unit)),(.pair (.int .i64) (.pair (.slice (.int .i64)) .unit))]
abbrev rs100:List Ty:=[(.pair (.int .i64) (.pair (.slice (.int .i64)) .unit))]
def t100 (x0:Int) (x0':(List Int)) (x1:Int) (x1':(List Int)):Tr (Tys.data rs100) :=
  Tr.test ((eqF x0 0:Bool))
    (Tr.fin (((x1,(x1',())),())))
    (Tr.test (eqF x1 0)
      (Tr.fin (((x0,(x0',())),())))
      (Tr.test ((eqF x0 x1:Bool))
        (Tr.test (Option.isSome (f135 (x0',(x1',()))))
          (let r0:=g135 (x0',(x1',()));
          Tr.test (Option.isSome (f130 (x0,(r0.1,()))))
            (let r1:=g130 (x0,(r0.1,()));
            Tr.fin (((r1.1.1,(r1.1.2.1,())),())))
            (Tr.stop))
          (Tr.stop))
        (Tr.test (Option.isSome (f136 (x0',(x1',()))))
          (let r2:=g136 (x0',(x1',()));
          Tr.test ((eqF r2.1 0:Bool))
            (Tr.fin ((((0:Int),(([]:List Int),())),())))
            (Tr.test ((!leF r2.1 0:Bool))
              (Tr.test (Option.isSome (f137 (x0',(x1',()))))
                (let r3:=g137 (x0',(x1',()));
                Tr.test (Option.isSome (f130 (x0,(r3.1,()))))
                  (let r4:=g130 (x0,(r3.1,()));
                  Tr.fin (((r4.1.1,(r4.1.2.1,())),())))
                  (Tr.stop))
                (Tr.stop))
              (Tr.test (Option.isSome (f137 (x1',(x0',()))))
                (let r5:=g137 (x1',(x0',()));
                Tr.test (Option.isSome (f130 (x1,(r5.1,()))))
                  (let r6:=g130 (x1,(r5.1,()));
                  Tr.fin (((r6.1.1,(r6.1.2.1,())),())))
                  (Tr.stop))
                (Tr.stop))))
          (Tr.stop))))
def f100 (d:Tys.data as100):Option (Tys.data rs100):=(t100 d.1.1 d.1.2.1 d.2.1.1 d.2.1.2.1).val
def g100 (d:Tys.data as100):Tys.data rs100:=(f100 d).getD (Tys.dflt rs100)
def p100:PureC:=pcOf as100 rs100 f100 g100
theorem wk100 (x0:Int) (x0':(List Int)) (x1:Int) (x1':(List Int)):Walks (runPure (kf135 Go.Proofs.Tryz.prog).orc Go.Proofs.Tryz.prog 400 100 as100 rs100 ((x0,x0',()),(x1,x1',()),())) (t100 x0 x0' x1 x1') [([tt],[2]),([false,true],[2,4]),([false,false,true,true,true],[2,4,6,8,10]),([false,false,false,true,true],[2,4,6,8,10]),([false,false,false,true,false,true,true,true],[2,4,6,8,10,12,14,16]),([false,false,false,true,false,false,true,true],[2,4,6,8,10,12,14,16])] :=
  ⟨by kernel_rfl,by kernel_rfl,by kernel_rfl,by kernel_rfl,by kernel_rfl,by kernel_rfl,trivial⟩
theorem ok100_t (x0:Int) (x0':(List Int)) (x1:Int) (x1':(List Int)):TrOk (PureRuns Go.Proofs.Tryz.prog (kf135 Go.Proofs.Tryz.prog).orc 100 as100 rs100 ((x0,x0',()),(x1,x1',()),())) (t100 x0 x0' x1 x1') :=
  Walks.ok (fun _ _ _=>PureRuns.of) (wk100 x0 x0' x1 x1') (by kernel_rfl)
theorem ok100:PureOk Go.Proofs.Tryz.prog 100 p100:=pureOk_of kf135_ok.base (T:=fun (d:Tys.data as100)=>t100 d.1.1 d.1.2.1 d.2.1.1 d.2.1.2.1) (by kernel_rfl) (fun (d:Tys.data as100)=>ok100_t d.1.1 d.1.2.1 d.2.1.1 d.2.1.2.1)
def kf100 (P:Go.Program):Known:=(kf135 P).func 100 p100
theorem kf100_ok:KnownOk Go.Proofs.Tryz.prog (kf100 Go.Proofs.Tryz.prog):=kf135_ok.func ok100
abbrev as129:List Ty:=[(.pair (.int .i64) (.pair (.slice (.int .i64)) .unit)),(.pair (.int .i64) (.pair (.slice (.int .i64)) .unit))]
abbrev rs129:List Ty:=[(.pair (.int .i64) (.pair (.slice (.int .i64)) .unit))]
def t129 (x0:Int) (x0':(List Int)) (x1:Int) (x1':(List Int)):Tr (Tys.data rs129) :=
  Tr.test (Option.isSome (f132 ((x1,(x1',())),())))
    (let r0:=g132 ((x1,(x1',())),());
    Tr.test (Option.isSome (f100 ((x0,(x0',())),((r0.1.1,(r0.1.2.1,())),()))))
      (let r1:=g100 ((x0,(x0',())),((r0.1.1,(r0.1.2.1,())),()));
      Tr.fin (((r1.1.1,(r1.1.2.1,())),())))
      (Tr.stop))
    (Tr.stop)
def f129 (d:Tys.data as129):Option (Tys.data rs129):=(t129 d.1.1 d.1.2.1 d.2.1.1 d.2.1.2.1).val
def g129 (d:Tys.data as129):Tys.data rs129:=(f129 d).getD (Tys.dflt rs129)
def p129:PureC:=pcOf as129 rs129 f129 g129
theorem wk129 (x0:Int) (x0':(List Int)) (x1:Int) (x1':(List Int)):Walks (runPure (kf100 Go.Proofs.Tryz.prog).orc Go.Proofs.Tryz.prog 400 129 as129 rs129 ((x0,x0',()),(x1,x1',()),())) (t129 x0 x0' x1 x1') [([true,true],[2,4])] :=
  ⟨by kernel_rfl,trivial⟩
theorem ok129_t (x0:Int) (x0':(List Int)) (x1:Int) (x1':(List Int)):TrOk (PureRuns Go.Proofs.Tryz.prog (kf100 Go.Proofs.Tryz.prog).orc 129 as129 rs129 ((x0,x0',()),(x1,x1',()),())) (t129 x0 x0' x1 x1') :=
  Walks.ok (fun _ _ _=>PureRuns.of) (wk129 x0 x0' x1 x1') (by kernel_rfl)
theorem ok129:PureOk Go.Proofs.Tryz.prog 129 p129:=pureOk_of kf100_ok.base (T:=fun (d:Tys.data as129)=>t129 d.1.1 d.1.2.1 d.2.1.1 d.2.1.2.1) (by kernel_rfl) (fun (d:Tys.data as129)=>ok129_t d.1.1 d.1.2.1 d.2.1.1 d.2.1.2.1)
def kf129 (P:Go.Program):Known:=(kf100 P).func 129 p129
theorem kf129_ok:KnownOk Go.Proofs.Tryz.prog (kf129 Go.Proofs.Tryz.prog):=kf100_ok.func ok129
abbrev sh134_2:Sh:={ n:=88,slots:=[2,3,4,5,6,7,8,9],pats:=[.ptr 0 2 0,.ptr 1 2 0,.ptr 2 2 0,.sli 3 1,.ty (.slice (.int .i64)),.ty (.int .i64),.ty (.int .i64),.ty (.int .i64)],boxes:=[.row [.ty (.int .i64),.ty (.slice (.int .i64))],.row [.ty (.int .i64),.ty (.slice (.int .i64))],.row [.ty (.int .i64),.nil],.arr (.int .i64)] }
abbrev shb134_2:Sh:={ n:=88,slots:=[2,3,4,5,6,7,8],pats:=[.ptr 0 2 0,.ptr 1 2 0,.ptr 2 2 0,.sli 3 1,.ty (.slice (.int .i64)),.ty (.int .i64),.ty (.int .i64)],boxes:=[.row [.ty (.int .i64),.ty (.slice (.int .i64))],.row [.ty (.int .i64),.ty (.slice (.int .i64))],.row [.ty (.int .i64),.nil],.arr (.int .i64)] }
abbrev shr134_2:Sh:={ n:=88,slots:=[],pats:=[],boxes:=[.row [.ty (.int .i64),.ty (.slice (.int .i64))],.row [.ty (.int .i64),.ty (.slice (.int .i64))],.row [.ty (.int .i64),.nil],.arr (.int .i64)] }
def t134_2 (x3n:Nat) (x3c:Nat) (x4:(List Int)) (x5:Int) (x6:Int) (x7:Int) (b0_0:Int) (b0_1:(List Int)) (b1_0:Int) (b1_1:(List Int)) (b2_0:Int) (b3:(List Int)):Tr (Out sh134_2.data shb134_2.data shr134_2.data) :=
  Tr.test ((!leF x7 x6:Bool))
    (Tr.test (Option.isSome (f130 ((1:Int),(b1_1,()))))
      (Tr.test (Option.isSome (f126 ((Go.IntKind.wrap Go.IntKind.i64 (Int.tdiv (wrap64 (wrap64 (x6 + x7) + (1:Int))) (2:Int)):Int),())))
        (let r0:=g130 ((1:Int),(b1_1,()));
        let r1:=g126 ((Go.IntKind.wrap Go.IntKind.i64 (Int.tdiv (wrap64 (wrap64 (x6 + x7) + (1:Int))) (2:Int)):Int),());
        Tr.test (Option.isSome (f98 ((r0.1.1,(r0.1.2.1,())),((r1.1.1,(r1.1.2.1,())),()))))
          (let r2:=g98 ((r0.1.1,(r0.1.2.1,())),((r1.1.1,(r1.1.2.1,())),()));
          Tr.test (Option.isSome (f136 (r2.1.2.1,(x4,()))))
            (let r3:=g136 (r2.1.2.1,(x4,()));
            Tr.test ((leF r3.1 0:Bool))
              (Tr.fin (.again (((x3n,x3c),(x4,(x5,((Go.IntKind.wrap Go.IntKind.i64 (Int.tdiv (wrap64 (wrap64 (x6 + x7) + (1:Int))) (2:Int)):Int),(x7,()))))),((b0_0,(b0_1,())),((b1_0,(b1_1,())),((b2_0,()),(b3,())))))))
              (Tr.fin (.again (((x3n,x3c),(x4,(x5,(x6,((wrap64 (Go.IntKind.wrap Go.IntKind.i64 (Int.tdiv (wrap64 (wrap64 (x6 + x7) + (1:Int))) (2:Int)) - (1:Int)):Int),()))))),((b0_0,(b0_1,())),((b1_0,(b1_1,())),((b2_0,()),(b3,()))))))))
            (Tr.stop))
          (Tr.stop))
        (Tr.stop))
      (Tr.stop))
    (Tr.fin (.brk (((x3n,x3c),(x4,(x5,(x6,())))),((b0_0,(b0_1,())),((b1_0,(b1_1,())),((b2_0,()),(b3,())))))))
def s134_2 (d:sh134_2.data):Option (Out sh134_2.data shb134_2.data shr134_2.data):=(t134_2 d.1.1.1 d.1.1.2 d.1.2.1 d.1.2.2.1 d.1.2.2.2.1 d.1.2.2.2.2.1 d.2.1.1 d.2.1.2.1 d.2.2.1.1 d.2.2.1.2.1 d.2.2.2.1.1 d.2.2.2.2.1).val
def l134_2 (d:sh134_2.data):Option (shb134_2.data ⊕ shr134_2.data):=itr s134_2 rounds d
def b134_2 (d:sh134_2.data):shb134_2.data:=outB shb134_2.dflt (l134_2 d)
def lc134_2:LoopC:=lcB sh134_2 shb134_2 shr134_2 l134_2 b134_2
theorem wk134_2 (x3n:Nat) (x3c:Nat) (x4:(List Int)) (x5:Int) (x6:Int) (x7:Int) (b0_0:Int) (b0_1:(List Int)) (b1_0:Int) (b1_1:(List Int)) (b2_0:Int) (b3:(List Int)):Walks (runBody (kf129 Go.Proofs.Tryz.prog).orc Go.Proofs.Tryz.prog 400 134 2 sh134_2 shb134_2 shr134_2 (((x3n,x3c),x4,x5,x6,x7,()),(b0_0,b0_1,()),(b1_0,b1_1,()),(b2_0,()),b3,())) (t134_2 x3n x3c x4 x5 x6 x7 b0_0 b0_1 b1_0 b1_1 b2_0 b3) [([true,true,true,true,true,true],[2,4,6,8,10,0,12]),([true,true,true,true,true,false],[2,4,6,8,10,0,12]),([ff],[2])] :=
  ⟨by kernel_rfl,by kernel_rfl,by kernel_rfl,trivial⟩
theorem ok134_2_t (x3n:Nat) (x3c:Nat) (x4:(List Int)) (x5:Int) (x6:Int) (x7:Int) (b0_0:Int) (b0_1:(List Int)) (b1_0:Int) (b1_1:(List Int)) (b2_0:Int) (b3:(List Int)):TrOk (BodyRuns Go.Proofs.Tryz.prog (kf129 Go.Proofs.Tryz.prog).orc 134 2 sh134_2 shb134_2 shr134_2 (((x3n,x3c),x4,x5,x6,x7,()),(b0_0,b0_1,()),(b1_0,b1_1,()),(b2_0,()),b3,())) (t134_2 x3n x3c x4 x5 x6 x7 b0_0 b0_1 b1_0 b1_1 b2_0 b3) :=
  Walks.ok (fun _ _ _=>BodyRuns.of) (wk134_2 x3n x3c x4 x5 x6 x7 b0_0 b0_1 b1_0 b1_1 b2_0 b3) (by kernel_rfl)
theorem ok134_2:LoopOk Go.Proofs.Tryz.prog 134 2 lc134_2:=loopOk_ofB (sh:=sh134_2) (shB:=shb134_2) (shR:=shr134_2) kf129_ok.base (T:=fun (d:sh134_2.data)=>t134_2 d.1.1.1 d.1.1.2 d.1.2.1 d.1.2.2.1 d.1.2.2.2.1 d.1.2.2.2.2.1 d.2.1.1 d.2.1.2.1 d.2.2.1.1 d.2.2.1.2.1 d.2.2.2.1.1 d.2.2.2.2.1) (by kernel_rfl) rfl (fun (d:sh134_2.data)=>ok134_2_t d.1.1.1 d.1.1.2 d.1.2.1 d.1.2.2.1 d.1.2.2.2.1 d.1.2.2.2.2.1 d.2.1.1 d.2.1.2.1 d.2.2.1.1 d.2.2.1.2.1 d.2.2.2.1.1 d.2.2.2.2.1) (fun _=>rfl)
def kl134_2 (P:Go.Program):Known:=(kf129 P).loop 134 2 lc134_2
theorem kl134_2_ok:KnownOk Go.Proofs.Tryz.prog (kl134_2 Go.Proofs.Tryz.prog):=kf129_ok.loop ok134_2
abbrev sh134_0:Sh:={ n:=88,slots:=[2,3,4,5,6,7],pats:=[.ptr 0 2 0,.ptr 1 2 0,.ptr 2 2 0,.sli 3 1,.ty (.slice (.int .i64)),.ty (.int .i64)],boxes:=[.row [.ty (.int .i64),.ty (.slice (.int .i64))],.row [.ty (.int .i64),.ty (.slice (.int .i64))],.row [.ty (.int .i64),.nil],.arr (.int .i64)] }
abbrev shb134_0:Sh:={ n:=88,slots:=[2,4,5,6],pats:=[.ptr 0 2 0,.ptr 2 2 0,.sli 3 1,.ty (.slice (.int .i64))],boxes:=[.row [.ty (.int .i64),.ty (.slice (.int .i64))],.row [.ty (.int .i64),.ty (.slice (.int .i64))],.row [.ty (.int .i64),.nil],.arr (.int .i64)] }
abbrev shr134_0:Sh:={ n:=88,slots:=[],pats:=[],boxes:=[.row [.ty (.int .i64),.ty (.slice (.int .i64))],.row [.ty (.int .i64),.ty (.slice (.int .i64))],.row [.ty (.int .i64),.nil],.arr (.int .i64)] }
def t134_0 (x3n:Nat) (x3c:Nat) (x4:(List Int)) (x5:Int) (b0_0:Int) (b0_1:(List Int)) (b1_0:Int) (b1_1:(List Int)) (b2_0:Int) (b3:(List Int)):Tr (Out sh134_0.data shb134_0.data shr134_0.data) :=
  Tr.test ((leF (0:Int) x5:Bool))
    (Tr.test (decide ((0:Int) ≤ x5) && decide (x5 < (↑(List.length b0_1):Int)))
      (Tr.test ((Nat.beq (List.length x4) (0:Nat):Bool))
        (Tr.test (Option.isSome (f161 (([List.getD b0_1 (Int.toNat x5) (0:Int)]:List Int),())))
          (let r0:=g161 (([List.getD b0_1 (Int.toNat x5) (0:Int)]:List Int),());
          Tr.test (isBrk (l134_2 (((x3n,x3c),(r0.1,(x5,((0:Int),((999999999:Int),()))))),((b0_0,(b0_1,())),((b1_0,(b1_1,())),((b2_0,()),(b3,())))))))
            (let r2:=b134_2 (((x3n,x3c),(r0.1,(x5,((0:Int),((999999999:Int),()))))),((b0_0,(b0_1,())),((b1_0,(b1_1,())),((b2_0,()),(b3,())))));
            Tr.test ((decide ((0:Int) ≤ r2.1.2.2.1) && decide (r2.1.2.2.1 < (↑r2.1.1.1:Int)):Bool))
              (Tr.test ((Nat.ble ((0:Nat) + Int.toNat r2.1.2.2.1 + (1:Nat)) (List.length r2.2.2.2.2.1):Bool))
                (Tr.test (Option.isSome (f130 ((1:Int),(r2.2.2.1.2.1,()))))
                  (Tr.test (Option.isSome (f126 (r2.1.2.2.2.1,())))
                    (let r3:=g130 ((1:Int),(r2.2.2.1.2.1,()));
                    let r4:=g126 (r2.1.2.2.2.1,());
                    Tr.test (Option.isSome (f98 ((r3.1.1,(r3.1.2.1,())),((r4.1.1,(r4.1.2.1,())),()))))
                      (let r5:=g98 ((r3.1.1,(r3.1.2.1,())),((r4.1.1,(r4.1.2.1,())),()));
                      Tr.test (Option.isSome (f137 (r2.1.2.1,(r5.1.2.1,()))))
                        (let r6:=g137 (r2.1.2.1,(r5.1.2.1,()));
                        Tr.fin (.again (((r2.1.1.1,r2.1.1.2),(r6.1,((wrap64 (r2.1.2.2.1 - (1:Int)):Int),()))),((r2.2.1.1,(r2.2.1.2.1,())),((r2.2.2.1.1,(r2.2.2.1.2.1,())),((r2.2.2.2.1.1,()),((List.set r2.2.2.2.2.1 ((0:Nat) + Int.toNat r2.1.2.2.1) r2.1.2.2.2.1:List Int),())))))))
                        (Tr.stop))
                      (Tr.stop))
                    (Tr.stop))
                  (Tr.stop))
                (Tr.stop))
              (Tr.stop))
            (Tr.stop))
          (Tr.stop))
        (Tr.test ((Nat.ble (((2:Nat) * ((1:Nat) + List.length x4) + (192:Nat)) * (8:Nat)) (281474976710656:Nat) && Nat.ble ((1:Nat) + List.length x4) (281474976710656:Nat):Bool))
          (Tr.test (Option.isSome (f161 (([List.getD b0_1 (Int.toNat x5) (0:Int)]++x4:List Int),())))
            (let r1:=g161 (([List.getD b0_1 (Int.toNat x5) (0:Int)]++x4:List Int),());
            Tr.test (isBrk (l134_2 (((x3n,x3c),(r1.1,(x5,((0:Int),((999999999:Int),()))))),((b0_0,(b0_1,())),((b1_0,(b1_1,())),((b2_0,()),(b3,())))))))
              (let r7:=b134_2 (((x3n,x3c),(r1.1,(x5,((0:Int),((999999999:Int),()))))),((b0_0,(b0_1,())),((b1_0,(b1_1,())),((b2_0,()),(b3,())))));
              Tr.test ((decide ((0:Int) ≤ r7.1.2.2.1) && decide (r7.1.2.2.1 < (↑r7.1.1.1:Int)):Bool))
                (Tr.test ((Nat.ble ((0:Nat) + Int.toNat r7.1.2.2.1 + (1:Nat)) (List.length r7.2.2.2.2.1):Bool))
                  (Tr.test (Option.isSome (f130 ((1:Int),(r7.2.2.1.2.1,()))))
                    (Tr.test (Option.isSome (f126 (r7.1.2.2.2.1,())))
                      (let r8:=g130 ((1:Int),(r7.2.2.1.2.1,()));
                      let r9:=g126 (r7.1.2.2.2.1,());
                      Tr.test (Option.isSome (f98 ((r8.1.1,(r8.1.2.1,())),((r9.1.1,(r9.1.2.1,())),()))))
                        (let r10:=g98 ((r8.1.1,(r8.1.2.1,())),((r9.1.1,(r9.1.2.1,())),()));
                        Tr.test (Option.isSome (f137 (r7.1.2.1,(r10.1.2.1,()))))
                          (let r11:=g137 (r7.1.2.1,(r10.1.2.1,()));
                          Tr.fin (.again (((r7.1.1.1,r7.1.1.2),(r11.1,((wrap64 (r7.1.2.2.1 - (1:Int)):Int),()))),((r7.2.1.1,(r7.2.1.2.1,())),((r7.2.2.1.1,(r7.2.2.1.2.1,())),((r7.2.2.2.1.1,()),((List.set r7.2.2.2.2.1 ((0:Nat) + Int.toNat r7.1.2.2.1) r7.1.2.2.2.1:List Int),())))))))
                          (Tr.stop))
                        (Tr.stop))
                      (Tr.stop))
                    (Tr.stop))
                  (Tr.stop))
                (Tr.stop))
              (Tr.stop))
            (Tr.stop))
          (Tr.stop)))
      (Tr.stop))
    (Tr.fin (.brk (((x3n,x3c),(x4,())),((b0_0,(b0_1,())),((b1_0,(b1_1,())),((b2_0,()),(b3,())))))))
def s134_0 (d:sh134_0.data):Option (Out sh134_0.data shb134_0.data shr134_0.data):=(t134_0 d.1.1.1 d.1.1.2 d.1.2.1 d.1.2.2.1 d.2.1.1 d.2.1.2.1 d.2.2.1.1 d.2.2.1.2.1 d.2.2.2.1.1 d.2.2.2.2.1).val
def l134_0 (d:sh134_0.data):Option (shb134_0.data ⊕ shr134_0.data):=itr s134_0 rounds d
def b134_0 (d:sh134_0.data):shb134_0.data:=outB shb134_0.dflt (l134_0 d)
def lc134_0:LoopC:=lcB sh134_0 shb134_0 shr134_0 l134_0 b134_0
theorem wk134_0 (x3n:Nat) (x3c:Nat) (x4:(List Int)) (x5:Int) (b0_0:Int) (b0_1:(List Int)) (b1_0:Int) (b1_1:(List Int)) (b2_0:Int) (b3:(List Int)):Walks (runBody (kl134_2 Go.Proofs.Tryz.prog).orc Go.Proofs.Tryz.prog 400 134 0 sh134_0 shb134_0 shr134_0 (((x3n,x3c),x4,x5,()),(b0_0,b0_1,()),(b1_0,b1_1,()),(b2_0,()),b3,())) (t134_0 x3n x3c x4 x5 b0_0 b0_1 b1_0 b1_1 b2_0 b3) [([true,true,true,true,true,true,true,true,true,true,true],[2,4,6,8,10,12,1,14,16,18,20,22]),([true,true,false,true,true,true,true,true,true,true,true,true],[2,4,6,8,10,12,1,14,16,18,20,22,24]),([ff],[2])] :=
  ⟨by kernel_rfl,by kernel_rfl,by kernel_rfl,trivial⟩
theorem ok134_0_t (x3n:Nat) (x3c:Nat) (x4:(List Int)) (x5:Int) (b0_0:Int) (b0_1:(List Int)) (b1_0:Int) (b1_1:(List Int)) (b2_0:Int) (b3:(List Int)):TrOk (BodyRuns Go.Proofs.Tryz.prog (kl134_2 Go.Proofs.Tryz.prog).orc 134 0 sh134_0 shb134_0 shr134_0 (((x3n,x3c),x4,x5,()),(b0_0,b0_1,()),(b1_0,b1_1,()),(b2_0,()),b3,())) (t134_0 x3n x3c x4 x5 b0_0 b0_1 b1_0 b1_1 b2_0 b3) :=
  Walks.ok (fun _ _ _=>BodyRuns.of) (wk134_0 x3n x3c x4 x5 b0_0 b0_1 b1_0 b1_1 b2_0 b3) (by kernel_rfl)
theorem ok134_0:LoopOk Go.Proofs.Tryz.prog 134 0 lc134_0:=loopOk_ofB (sh:=sh134_0) (shB:=shb134_0) (shR:=shr134_0) kl134_2_ok.base (T:=fun (d:sh134_0.data)=>t134_0 d.1.1.1 d.1.1.2 d.1.2.1 d.1.2.2.1 d.2.1.1 d.2.1.2.1 d.2.2.1.1 d.2.2.1.2.1 d.2.2.2.1.1 d.2.2.2.2.1) (by kernel_rfl) rfl (fun (d:sh134_0.data)=>ok134_0_t d.1.1.1 d.1.1.2 d.1.2.1 d.1.2.2.1 d.2.1.1 d.2.1.2.1 d.2.2.1.1 d.2.2.1.2.1 d.2.2.2.1.1 d.2.2.2.2.1) (fun _=>rfl)
def kl134_0 (P:Go.Program):Known:=(kl134_2 P).loop 134 0 lc134_0
theorem kl134_0_ok:KnownOk Go.Proofs.Tryz.prog (kl134_0 Go.Proofs.Tryz.prog):=kl134_2_ok.loop ok134_0
abbrev as134:List Ty:=[(.pair (.int .i64) (.pair (.slice (.int .i64)) .unit)),(.pair (.int .i64) (.pair (.slice (.int .i64)) .unit))]
abbrev rs134:List Ty:=[(.pair (.int .i64) (.pair (.slice (.int .i64)) .unit))]
def t134 (x0:Int) (x0':(List Int)) (x1:Int) (x1':(List Int)):Tr (Tys.data rs134) :=
  Tr.test ((eqF x0 0:Bool))
    (Tr.fin ((((0:Int),(([]:List Int),())),())))
    (Tr.test (decide ((0:Int) ≤ (↑(List.length x0'):Int)) && decide ((↑(List.length x0'):Int) ≤ (↑(List.length x0'):Int)) && decide ((8:Int) * (↑(List.length x0'):Int) ≤ (281474976710656:Int)) && decide ((↑(List.length x0'):Int) ≤ (281474976710656:Int)))
      (Tr.test (isBrk (l134_0 ((((Int.toNat (↑(List.length x0'):Int):Nat),(Int.toNat (↑(List.length x0'):Int):Nat)),(([]:List Int),((wrap64 ((↑(List.length x0'):Int) - (1:Int)):Int),()))),((x0,(x0',())),((x1,(x1',())),(((0:Int),()),((List.replicate (Int.toNat (↑(List.length x0'):Int)) (0:Int):List Int),())))))))
        (let r0:=b134_0 ((((Int.toNat (↑(List.length x0'):Int):Nat),(Int.toNat (↑(List.length x0'):Int):Nat)),(([]:List Int),((wrap64 ((↑(List.length x0'):Int) - (1:Int)):Int),()))),((x0,(x0',())),((x1,(x1',())),(((0:Int),()),((List.replicate (Int.toNat (↑(List.length x0'):Int)) (0:Int):List Int),())))));
        Tr.test ((Nat.beq r0.1.1.1 (List.length r0.2.2.2.2.1):Bool))
          (Tr.test (Option.isSome (f130 (r0.2.1.1,(r0.2.2.2.2.1,()))))
            (Tr.test ((!leF (0:Int) r0.2.1.1:Bool))
              (Tr.test ((!leF (↑(List.length r0.1.2.1):Int) (0:Int):Bool))
                (Tr.test (Option.isSome (f126 ((1:Int),())))
                  (let r1:=g130 (r0.2.1.1,(r0.2.2.2.2.1,()));
                  let r3:=g126 ((1:Int),());
                  Tr.test (Option.isSome (f129 ((r1.1.1,(r1.1.2.1,())),((r3.1.1,(r3.1.2.1,())),()))))
                    (let r4:=g129 ((r1.1.1,(r1.1.2.1,())),((r3.1.1,(r3.1.2.1,())),()));
                    Tr.fin (((r4.1.1,(r4.1.2.1,())),())))
                    (Tr.stop))
                  (Tr.stop))
                (let r1:=g130 (r0.2.1.1,(r0.2.2.2.2.1,()));
                Tr.fin (((r1.1.1,(r1.1.2.1,())),()))))
              (let r1:=g130 (r0.2.1.1,(r0.2.2.2.2.1,()));
              Tr.fin (((r1.1.1,(r1.1.2.1,())),()))))
            (Tr.stop))
          (Tr.test ((Nat.ble r0.1.1.1 (List.length r0.2.2.2.2.1):Bool))
            (Tr.test (Option.isSome (f130 (r0.2.1.1,((List.take r0.1.1.1 r0.2.2.2.2.1:List Int),()))))
              (Tr.test ((!leF (0:Int) r0.2.1.1:Bool))
                (Tr.test ((!leF (↑(List.length r0.1.2.1):Int) (0:Int):Bool))
                  (Tr.test (Option.isSome (f126 ((1:Int),())))
                    (let r2:=g130 (r0.2.1.1,((List.take r0.1.1.1 r0.2.2.2.2.1:List Int),()));
                    let r3:=g126 ((1:Int),());
                    Tr.test (Option.isSome (f129 ((r2.1.1,(r2.1.2.1,())),((r3.1.1,(r3.1.2.1,())),()))))
                      (let r5:=g129 ((r2.1.1,(r2.1.2.1,())),((r3.1.1,(r3.1.2.1,())),()));
                      Tr.fin (((r5.1.1,(r5.1.2.1,())),())))
                      (Tr.stop))
                    (Tr.stop))
                  (let r2:=g130 (r0.2.1.1,((List.take r0.1.1.1 r0.2.2.2.2.1:List Int),()));
                  Tr.fin (((r2.1.1,(r2.1.2.1,())),()))))
                (let r2:=g130 (r0.2.1.1,((List.take r0.1.1.1 r0.2.2.2.2.1:List Int),()));
                Tr.fin (((r2.1.1,(r2.1.2.1,())),()))))
              (Tr.stop))
            (Tr.stop /- a known call [op 3 of region 16 of F134] -/)))
        (Tr.stop))
      (Tr.stop))
def f134 (d:Tys.data as134):Option (Tys.data rs134):=(t134 d.1.1 d.1.2.1 d.2.1.1 d.2.1.2.1).val
def g134 (d:Tys.data as134):Tys.data rs134:=(f134 d).getD (Tys.dflt rs134)
def p134:PureC:=pcOf as134 rs134 f134 g134
theorem wk134 (x0:Int) (x0':(List Int)) (x1:Int) (x1':(List Int)):Walks (runPure (kl134_0 Go.Proofs.Tryz.prog).orc Go.Proofs.Tryz.prog 400 134 as134 rs134 ((x0,x0',()),(x1,x1',()),())) (t134 x0 x0' x1 x1') [([tt],[2]),([false,true,true,true,true,true,true,true,true],[2,4,6,8,8,8,8,10,12,1,14,16,18]),([false,true,true,true,true,true,false],[2,4,4,4,4,6,8,1,10,12,14]),([false,true,true,true,true,false],[0,2,2,2,2,4,6,1,8,10,12]),([false,true,true,false,true,true,true,true,true,true],[2,4,6,8,8,8,8,10,12,14,1,16,18,20]),([false,true,true,false,true,true,true,false],[2,4,4,4,4,6,8,10,1,12,14,16]),([false,true,true,false,true,true,false],[0,2,2,2,2,4,6,8,1,10,12,14])] :=
  ⟨by kernel_rfl,by kernel_rfl,by kernel_rfl,by kernel_rfl,by kernel_rfl,by kernel_rfl,by kernel_rfl,trivial⟩
theorem ok134_t (x0:Int) (x0':(List Int)) (x1:Int) (x1':(List Int)):TrOk (PureRuns Go.Proofs.Tryz.prog (kl134_0 Go.Proofs.Tryz.prog).orc 134 as134 rs134 ((x0,x0',()),(x1,x1',()),())) (t134 x0 x0' x1 x1') :=
  Walks.ok (fun _ _ _=>PureRuns.of) (wk134 x0 x0' x1 x1') (by kernel_rfl)
theorem ok134:PureOk Go.Proofs.Tryz.prog 134 p134:=pureOk_of kl134_0_ok.base (T:=fun (d:Tys.data as134)=>t134 d.1.1 d.1.2.1 d.2.1.1 d.2.1.2.1) (by kernel_rfl) (fun (d:Tys.data as134)=>ok134_t d.1.1 d.1.2.1 d.2.1.1 d.2.1.2.1)
def kf134 (P:Go.Program):Known:=(kl134_0 P).func 134 p134
theorem kf134_ok:KnownOk Go.Proofs.Tryz.prog (kf134 Go.Proofs.Tryz.prog):=kl134_0_ok.func ok134
abbrev sh133_0:Sh:={ n:=23,slots:=[2,3,4],pats:=[.ptr 0 2 0,.ptr 1 2 0,.ptr 2 2 0],boxes:=[.row [.ty (.int .i64),.ty (.slice (.int .i64))],.row [.ty (.int .i64),.ty (.slice (.int .i64))],.row [.ty (.int .i64),.nil]] }
abbrev shb133_0:Sh:={ n:=23,slots:=[2,4],pats:=[.ptr 0 2 0,.ptr 2 2 0],boxes:=[.row [.ty (.int .i64),.ty (.slice (.int .i64))],.row [.ty (.int .i64),.ty (.slice (.int .i64))],.row [.ty (.int .i64),.nil]] }
abbrev shr133_0:Sh:={ n:=23,slots:=[],pats:=[],boxes:=[.row [.ty (.int .i64),.ty (.slice (.int .i64))],.row [.ty (.int .i64),.ty (.slice (.int .i64))],.row [.ty (.int .i64),.nil]] }
def t133_0 (b0_0:Int) (b0_1:(List Int)) (b1_0:Int) (b1_1:(List Int)) (b2_0:Int):Tr (Out sh133_0.data shb133_0.data shr133_0.data) :=
  Tr.test (Option.isSome (f131 ((b1_0,(b1_1,())),())))
    (let r0:=g131 ((b1_0,(b1_1,())),());
    Tr.test ((!eqF r0.1 0:Bool))
      (Tr.test (Option.isSome (f134 ((b0_0,(b0_1,())),((b1_0,(b1_1,())),()))))
        (let r1:=g134 ((b0_0,(b0_1,())),((b1_0,(b1_1,())),()));
        Tr.test (Option.isSome (f98 ((r1.1.1,(r1.1.2.1,())),((b1_0,(b1_1,())),()))))
          (let r2:=g98 ((r1.1.1,(r1.1.2.1,())),((b1_0,(b1_1,())),()));
          Tr.test (Option.isSome (f129 ((b0_0,(b0_1,())),((r2.1.1,(r2.1.2.1,())),()))))
            (let r3:=g129 ((b0_0,(b0_1,())),((r2.1.1,(r2.1.2.1,())),()));
            Tr.fin (.again ((),((b1_0,(b1_1,())),((r3.1.1,(r3.1.2.1,())),((b2_0,()),()))))))
            (Tr.stop))
          (Tr.stop))
        (Tr.stop))
      (Tr.fin (.brk ((),((b0_0,(b0_1,())),((b1_0,(b1_1,())),((b2_0,()),())))))))
    (Tr.stop)
def s133_0 (d:sh133_0.data):Option (Out sh133_0.data shb133_0.data shr133_0.data):=(t133_0 d.2.1.1 d.2.1.2.1 d.2.2.1.1 d.2.2.1.2.1 d.2.2.2.1.1).val
def l133_0 (d:sh133_0.data):Option (shb133_0.data ⊕ shr133_0.data):=itr s133_0 rounds d
def b133_0 (d:sh133_0.data):shb133_0.data:=outB shb133_0.dflt (l133_0 d)
def lc133_0:LoopC:=lcB sh133_0 shb133_0 shr133_0 l133_0 b133_0
theorem wk133_0 (b0_0:Int) (b0_1:(List Int)) (b1_0:Int) (b1_1:(List Int)) (b2_0:Int):Walks (runBody (kf134 Go.Proofs.Tryz.prog).orc Go.Proofs.Tryz.prog 400 133 0 sh133_0 shb133_0 shr133_0 ((),(b0_0,b0_1,()),(b1_0,b1_1,()),(b2_0,()),())) (t133_0 b0_0 b0_1 b1_0 b1_1 b2_0) [([true,true,true,true,true],[2,4,6,8,10]),([true,false],[2,4])] :=
  ⟨by kernel_rfl,by kernel_rfl,trivial⟩
theorem ok133_0_t (b0_0:Int) (b0_1:(List Int)) (b1_0:Int) (b1_1:(List Int)) (b2_0:Int):TrOk (BodyRuns Go.Proofs.Tryz.prog (kf134 Go.Proofs.Tryz.prog).orc 133 0 sh133_0 shb133_0 shr133_0 ((),(b0_0,b0_1,()),(b1_0,b1_1,()),(b2_0,()),())) (t133_0 b0_0 b0_1 b1_0 b1_1 b2_0) :=
  Walks.ok (fun _ _ _=>BodyRuns.of) (wk133_0 b0_0 b0_1 b1_0 b1_1 b2_0) (by kernel_rfl)
theorem ok133_0:LoopOk Go.Proofs.Tryz.prog 133 0 lc133_0:=loopOk_ofB (sh:=sh133_0) (shB:=shb133_0) (shR:=shr133_0) kf134_ok.base (T:=fun (d:sh133_0.data)=>t133_0 d.2.1.1 d.2.1.2.1 d.2.2.1.1 d.2.2.1.2.1 d.2.2.2.1.1) (by kernel_rfl) rfl (fun (d:sh133_0.data)=>ok133_0_t d.2.1.1 d.2.1.2.1 d.2.2.1.1 d.2.2.1.2.1 d.2.2.2.1.1) (fun _=>rfl)
def kl133_0 (P:Go.Program):Known:=(kf134 P).loop 133 0 lc133_0
theorem kl133_0_ok:KnownOk Go.Proofs.Tryz.prog (kl133_0 Go.Proofs.Tryz.prog):=kf134_ok.loop ok133_0
abbrev as133:List Ty:=[(.pair (.int .i64) (.pair (.slice (.int .i64)) .unit)),(.pair (.int .i64) (.pair (.slice (.int .i64)) .unit))]
abbrev rs133:List Ty:=[(.pair (.int .i64) (.pair (.slice (.int .i64)) .unit))]
def t133 (x0:Int) (x0':(List Int)) (x1:Int) (x1':(List Int)):Tr (Tys.data rs133) :=
  Tr.test (Option.isSome (f162 ((x0,(x0',())),())))
    (Tr.test (Option.isSome (f162 ((x1,(x1',())),())))
      (let r0:=g162 ((x0,(x0',())),());
      let r1:=g162 ((x1,(x1',())),());
      Tr.test (isBrk (l133_0 ((),((r0.1.1,(r0.1.2.1,())),((r1.1.1,(r1.1.2.1,())),(((0:Int),()),()))))))
        (let r2:=b133_0 ((),((r0.1.1,(r0.1.2.1,())),((r1.1.1,(r1.1.2.1,())),(((0:Int),()),()))));
        Tr.fin (((r2.2.1.1,(r2.2.1.2.1,())),())))
        (Tr.stop))
      (Tr.stop))
    (Tr.stop)
def f133 (d:Tys.data as133):Option (Tys.data rs133):=(t133 d.1.1 d.1.2.1 d.2.1.1 d.2.1.2.1).val
def g133 (d:Tys.data as133):Tys.data rs133:=(f133 d).getD (Tys.dflt rs133)
def p133:PureC:=pcOf as133 rs133 f133 g133
theorem wk133 (x0:Int) (x0':(List Int)) (x1:Int) (x1':(List Int)):Walks (runPure (kl133_0 Go.Proofs.Tryz.prog).orc Go.Proofs.Tryz.prog 400 133 as133 rs133 ((x0,x0',()),(x1,x1',()),())) (t133 x0 x0' x1 x1') [([true,true,true],[1,2,4,6])] :=
  ⟨by kernel_rfl,trivial⟩
theorem ok133_t (x0:Int) (x0':(List Int)) (x1:Int) (x1':(List Int)):TrOk (PureRuns Go.Proofs.Tryz.prog (kl133_0 Go.Proofs.Tryz.prog).orc 133 as133 rs133 ((x0,x0',()),(x1,x1',()),())) (t133 x0 x0' x1 x1') :=
  Walks.ok (fun _ _ _=>PureRuns.of) (wk133 x0 x0' x1 x1') (by kernel_rfl)
theorem ok133:PureOk Go.Proofs.Tryz.prog 133 p133:=pureOk_of kl133_0_ok.base (T:=fun (d:Tys.data as133)=>t133 d.1.1 d.1.2.1 d.2.1.1 d.2.1.2.1) (by kernel_rfl) (fun (d:Tys.data as133)=>ok133_t d.1.1 d.1.2.1 d.2.1.1 d.2.1.2.1)
def kf133 (P:Go.Program):Known:=(kl133_0 P).func 133 p133
theorem kf133_ok:KnownOk Go.Proofs.Tryz.prog (kf133 Go.Proofs.Tryz.prog):=kl133_0_ok.func ok133
abbrev as97:List Ty:=[(.pair (.int .i64) (.pair (.slice (.int .i64)) .unit)),(.pair (.int .i64) (.pair (.slice (.int .i64)) .unit))]
abbrev rs97:List Ty:=[(.int .i64)]
def t97 (x0:Int) (x0':(List Int)) (x1:Int) (x1':(List Int)):Tr (Tys.data rs97) :=
  Tr.test (Option.isSome (f129 ((x0,(x0',())),((x1,(x1',())),()))))
    (let r0:=g129 ((x0,(x0',())),((x1,(x1',())),()));
    Tr.fin ((r0.1.1,())))
    (Tr.stop)
def f97 (d:Tys.data as97):Option (Tys.data rs97):=(t97 d.1.1 d.1.2.1 d.2.1.1 d.2.1.2.1).val
def g97 (d:Tys.data as97):Tys.data rs97:=(f97 d).getD (Tys.dflt rs97)
def p97:PureC:=pcOf as97 rs97 f97 g97
theorem wk97 (x0:Int) (x0':(List Int)) (x1:Int) (x1':(List Int)):Walks (runPure (kf133 Go.Proofs.Tryz.prog).orc Go.Proofs.Tryz.prog 400 97 as97 rs97 ((x0,x0',()),(x1,x1',()),())) (t97 x0 x0' x1 x1') [([tt],[2])] :=
  ⟨by kernel_rfl,trivial⟩
theorem ok97_t (x0:Int) (x0':(List Int)) (x1:Int) (x1':(List Int)):TrOk (PureRuns Go.Proofs.Tryz.prog (kf133 Go.Proofs.Tryz.prog).orc 97 as97 rs97 ((x0,x0',()),(x1,x1',()),())) (t97 x0 x0' x1 x1') :=
  Walks.ok (fun _ _ _=>PureRuns.of) (wk97 x0 x0' x1 x1') (by kernel_rfl)
theorem ok97:PureOk Go.Proofs.Tryz.prog 97 p97:=pureOk_of kf133_ok.base (T:=fun (d:Tys.data as97)=>t97 d.1.1 d.1.2.1 d.2.1.1 d.2.1.2.1) (by kernel_rfl) (fun (d:Tys.data as97)=>ok97_t d.1.1 d.1.2.1 d.2.1.1 d.2.1.2.1)
def kf97 (P:Go.Program):Known:=(kf133 P).func 97 p97
theorem kf97_ok:KnownOk Go.Proofs.Tryz.prog (kf97 Go.Proofs.Tryz.prog):=kf133_ok.func ok97
abbrev as99:List Ty:=[(.pair (.int .i64) (.pair (.slice (.int .i64)) .unit)),(.pair (.int .i64) (.pair (.slice (.int .i64)) .unit))]
abbrev rs99:List Ty:=[(.pair (.pair (.int .i64) (.pair (.slice (.int .i64)) .unit)) (.pair (.pair (.int .i64) (.pair (.slice (.int .i64)) .unit)) .unit))]
def t99 (x0:Int) (x0':(List Int)) (x1:Int) (x1':(List Int)):Tr (Tys.data rs99) :=
  Tr.test (Option.isSome (f131 ((x1,(x1',())),())))
    (let r0:=g131 ((x1,(x1',())),());
    Tr.test ((!leF (0:Int) r0.1:Bool))
      (Tr.test (Option.isSome (f132 ((x0,(x0',())),())))
        (Tr.test (Option.isSome (f132 ((x1,(x1',())),())))
          (let r1:=g132 ((x0,(x0',())),());
          let r2:=g132 ((x1,(x1',())),());
          Tr.test (Option.isSome (f133 ((r1.1.1,(r1.1.2.1,())),((r2.1.1,(r2.1.2.1,())),()))))
            (Tr.test (Option.isSome (f126 ((1:Int),())))
              (let r3:=g133 ((r1.1.1,(r1.1.2.1,())),((r2.1.1,(r2.1.2.1,())),()));
              let r4:=g126 ((1:Int),());
              Tr.test (Option.isSome (f97 ((r3.1.1,(r3.1.2.1,())),((r4.1.1,(r4.1.2.1,())),()))))
                (let r5:=g97 ((r3.1.1,(r3.1.2.1,())),((r4.1.1,(r4.1.2.1,())),()));
                Tr.test ((eqF r5.1 0:Bool))
                  (Tr.fin ((((r1.1.1,(r1.1.2.1,())),((r2.1.1,(r2.1.2.1,())),())),())))
                  (Tr.test (Option.isSome (f134 ((r1.1.1,(r1.1.2.1,())),((r3.1.1,(r3.1.2.1,())),()))))
                    (Tr.test (Option.isSome (f134 ((r2.1.1,(r2.1.2.1,())),((r3.1.1,(r3.1.2.1,())),()))))
                      (let r6:=g134 ((r1.1.1,(r1.1.2.1,())),((r3.1.1,(r3.1.2.1,())),()));
                      let r7:=g134 ((r2.1.1,(r2.1.2.1,())),((r3.1.1,(r3.1.2.1,())),()));
                      Tr.fin ((((r6.1.1,(r6.1.2.1,())),((r7.1.1,(r7.1.2.1,())),())),())))
                      (Tr.stop))
                    (Tr.stop)))
                (Tr.stop))
              (Tr.stop))
            (Tr.stop))
          (Tr.stop))
        (Tr.stop))
      (Tr.test (Option.isSome (f133 ((x0,(x0',())),((x1,(x1',())),()))))
        (Tr.test (Option.isSome (f126 ((1:Int),())))
          (let r4:=g126 ((1:Int),());
          let r8:=g133 ((x0,(x0',())),((x1,(x1',())),()));
          Tr.test (Option.isSome (f97 ((r8.1.1,(r8.1.2.1,())),((r4.1.1,(r4.1.2.1,())),()))))
            (let r9:=g97 ((r8.1.1,(r8.1.2.1,())),((r4.1.1,(r4.1.2.1,())),()));
            Tr.test ((eqF r9.1 0:Bool))
              (Tr.fin ((((x0,(x0',())),((x1,(x1',())),())),())))
              (Tr.test (Option.isSome (f134 ((x0,(x0',())),((r8.1.1,(r8.1.2.1,())),()))))
                (Tr.test (Option.isSome (f134 ((x1,(x1',())),((r8.1.1,(r8.1.2.1,())),()))))
                  (let r10:=g134 ((x0,(x0',())),((r8.1.1,(r8.1.2.1,())),()));
                  let r11:=g134 ((x1,(x1',())),((r8.1.1,(r8.1.2.1,())),()));
                  Tr.fin ((((r10.1.1,(r10.1.2.1,())),((r11.1.1,(r11.1.2.1,())),())),())))
                  (Tr.stop))
                (Tr.stop)))
            (Tr.stop))
          (Tr.stop))
        (Tr.stop)))
    (Tr.stop)
def f99 (d:Tys.data as99):Option (Tys.data rs99):=(t99 d.1.1 d.1.2.1 d.2.1.1 d.2.1.2.1).val
def g99 (d:Tys.data as99):Tys.data rs99:=(f99 d).getD (Tys.dflt rs99)
def p99:PureC:=pcOf as99 rs99 f99 g99
theorem wk99 (x0:Int) (x0':(List Int)) (x1:Int) (x1':(List Int)):Walks (runPure (kf97 Go.Proofs.Tryz.prog).orc Go.Proofs.Tryz.prog 400 99 as99 rs99 ((x0,x0',()),(x1,x1',()),())) (t99 x0 x0' x1 x1') [([true,true,true,true,true,true,true,true],[2,4,6,8,10,12,14,16]),([true,true,true,true,true,true,true,false,true,true],[2,4,6,8,10,12,14,16,18,20]),([true,false,true,true,true,true],[2,4,6,8,10,12]),([true,false,true,true,true,false,true,true],[2,4,6,8,10,12,14,16])] :=
  ⟨by kernel_rfl,by kernel_rfl,by kernel_rfl,by kernel_rfl,trivial⟩
theorem ok99_t (x0:Int) (x0':(List Int)) (x1:Int) (x1':(List Int)):TrOk (PureRuns Go.Proofs.Tryz.prog (kf97 Go.Proofs.Tryz.prog).orc 99 as99 rs99 ((x0,x0',()),(x1,x1',()),())) (t99 x0 x0' x1 x1') :=
  Walks.ok (fun _ _ _=>PureRuns.of) (wk99 x0 x0' x1 x1') (by kernel_rfl)
theorem ok99:PureOk Go.Proofs.Tryz.prog 99 p99:=pureOk_of kf97_ok.base (T:=fun (d:Tys.data as99)=>t99 d.1.1 d.1.2.1 d.2.1.1 d.2.1.2.1) (by kernel_rfl) (fun (d:Tys.data as99)=>ok99_t d.1.1 d.1.2.1 d.2.1.1 d.2.1.2.1)
def kf99 (P:Go.Program):Known:=(kf97 P).func 99 p99
theorem kf99_ok:KnownOk Go.Proofs.Tryz.prog (kf99 Go.Proofs.Tryz.prog):=kf97_ok.func ok99
abbrev as101:List Ty:=[(.int .i64),(.int .i64)]
abbrev rs101:List Ty:=[(.pair (.pair (.int .i64) (.pair (.slice (.int .i64)) .unit)) (.pair (.pair (.int .i64) (.pair (.slice (.int .i64)) .unit)) .unit))]
def t101 (x0:Int) (x1:Int):Tr (Tys.data rs101) :=
  Tr.test (Option.isSome (f126 (x0,())))
    (Tr.test (Option.isSome (f126 (x1,())))
      (let r0:=g126 (x0,());
      let r1:=g126 (x1,());
      Tr.test (Option.isSome (f99 ((r0.1.1,(r0.1.2.1,())),((r1.1.1,(r1.1.2.1,())),()))))
        (let r2:=g99 ((r0.1.1,(r0.1.2.1,())),((r1.1.1,(r1.1.2.1,())),()));
        Tr.fin ((((r2.1.1.1,(r2.1.1.2.1,())),((r2.1.2.1.1,(r2.1.2.1.2.1,())),())),())))
        (Tr.stop))
      (Tr.stop))
    (Tr.stop)
def f101 (d:Tys.data as101):Option (Tys.data rs101):=(t101 d.1 d.2.1).val
def g101 (d:Tys.data as101):Tys.data rs101:=(f101 d).getD (Tys.dflt rs101)
def p101:PureC:=pcOf as101 rs101 f101 g101
theorem wk101 (x0:Int) (x1:Int):Walks (runPure (kf99 Go.Proofs.Tryz.prog).orc Go.Proofs.Tryz.prog 400 101 as101 rs101 (x0,x1,())) (t101 x0 x1) [([true,true,true],[2,4,6])] :=
  ⟨by kernel_rfl,trivial⟩
theorem ok101_t (x0:Int) (x1:Int):TrOk (PureRuns Go.Proofs.Tryz.prog (kf99 Go.Proofs.Tryz.prog).orc 101 as101 rs101 (x0,x1,())) (t101 x0 x1) :=
  Walks.ok (fun _ _ _=>PureRuns.of) (wk101 x0 x1) (by kernel_rfl)
theorem ok101:PureOk Go.Proofs.Tryz.prog 101 p101:=pureOk_of kf99_ok.base (T:=fun (d:Tys.data as101)=>t101 d.1 d.2.1) (by kernel_rfl) (fun (d:Tys.data as101)=>ok101_t d.1 d.2.1)
def kf101 (P:Go.Program):Known:=(kf99 P).func 101 p101
theorem kf101_ok:KnownOk Go.Proofs.Tryz.prog (kf101 Go.Proofs.Tryz.prog):=kf99_ok.func ok101
abbrev as45:List Ty:=[(.pair (.int .i64) (.pair (.int .i64) .unit))]
abbrev rs45:List Ty:=[(.pair (.pair (.int .i64) (.pair (.slice (.int .i64)) .unit)) (.pair (.pair (.int .i64) (.pair (.slice (.int .i64)) .unit)) .unit))]
def t45 (x0:Int) (x0':Int):Tr (Tys.data rs45) :=
  Tr.test (Option.isSome (f101 (x0,(x0',()))))
    (let r0:=g101 (x0,(x0',()));
    Tr.fin ((((r0.1.1.1,(r0.1.1.2.1,())),((r0.1.2.1.1,(r0.1.2.1.2.1,())),())),())))
    (Tr.stop)
def f45 (d:Tys.data as45):Option (Tys.data rs45):=(t45 d.1.1 d.1.2.1).val
def g45 (d:Tys.data as45):Tys.data rs45:=(f45 d).getD (Tys.dflt rs45)
def p45:PureC:=pcOf as45 rs45 f45 g45
theorem wk45 (x0:Int) (x0':Int):Walks (runPure (kf101 Go.Proofs.Tryz.prog).orc Go.Proofs.Tryz.prog 400 45 as45 rs45 ((x0,x0',()),())) (t45 x0 x0') [([tt],[2])] :=
  ⟨by kernel_rfl,trivial⟩
theorem ok45_t (x0:Int) (x0':Int):TrOk (PureRuns Go.Proofs.Tryz.prog (kf101 Go.Proofs.Tryz.prog).orc 45 as45 rs45 ((x0,x0',()),())) (t45 x0 x0') :=
  Walks.ok (fun _ _ _=>PureRuns.of) (wk45 x0 x0') (by kernel_rfl)
theorem ok45:PureOk Go.Proofs.Tryz.prog 45 p45:=pureOk_of kf101_ok.base (T:=fun (d:Tys.data as45)=>t45 d.1.1 d.1.2.1) (by kernel_rfl) (fun (d:Tys.data as45)=>ok45_t d.1.1 d.1.2.1)
def kf45 (P:Go.Program):Known:=(kf101 P).func 45 p45
theorem kf45_ok:KnownOk Go.Proofs.Tryz.prog (kf45 Go.Proofs.Tryz.prog):=kf101_ok.func ok45
abbrev as160:List Ty:=[(.pair (.pair (.int .i64) (.pair (.slice (.int .i64)) .unit)) (.pair (.pair (.int .i64) (.pair (.slice (.int .i64)) .unit)) .unit))]
abbrev rs160:List Ty:=[(.pair (.pair (.int .i64) (.pair (.slice (.int .i64)) .unit)) (.pair (.pair (.int .i64) (.pair (.slice (.int .i64)) .unit)) .unit))]
def t160 (x0_:Int) (x0_':(List Int)) (x0'_:Int) (x0'_':(List Int)):Tr (Tys.data rs160) :=
  Tr.test (Option.isSome (f132 ((x0_,(x0_',())),())))
    (let r0:=g132 ((x0_,(x0_',())),());
    Tr.fin ((((r0.1.1,(r0.1.2.1,())),((x0'_,(x0'_',())),())),())))
    (Tr.stop)
def f160 (d:Tys.data as160):Option (Tys.data rs160):=(t160 d.1.1.1 d.1.1.2.1 d.1.2.1.1 d.1.2.1.2.1).val
def g160 (d:Tys.data as160):Tys.data rs160:=(f160 d).getD (Tys.dflt rs160)
def p160:PureC:=pcOf as160 rs160 f160 g160
theorem wk160 (x0_:Int) (x0_':(List Int)) (x0'_:Int) (x0'_':(List Int)):Walks (runPure (kf45 Go.Proofs.Tryz.prog).orc Go.Proofs.Tryz.prog 400 160 as160 rs160 (((x0_,x0_',()),(x0'_,x0'_',()),()),())) (t160 x0_ x0_' x0'_ x0'_') [([tt],[2])] :=
  ⟨by kernel_rfl,trivial⟩
theorem ok160_t (x0_:Int) (x0_':(List Int)) (x0'_:Int) (x0'_':(List Int)):TrOk (PureRuns Go.Proofs.Tryz.prog (kf45 Go.Proofs.Tryz.prog).orc 160 as160 rs160 (((x0_,x0_',()),(x0'_,x0'_',()),()),())) (t160 x0_ x0_' x0'_ x0'_') :=
  Walks.ok (fun _ _ _=>PureRuns.of) (wk160 x0_ x0_' x0'_ x0'_') (by kernel_rfl)
theorem ok160:PureOk Go.Proofs.Tryz.prog 160 p160:=pureOk_of kf45_ok.base (T:=fun (d:Tys.data as160)=>t160 d.1.1.1 d.1.1.2.1 d.1.2.1.1 d.1.2.1.2.1) (by kernel_rfl) (fun (d:Tys.data as160)=>ok160_t d.1.1.1 d.1.1.2.1 d.1.2.1.1 d.1.2.1.2.1)
def kf160 (P:Go.Program):Known:=(kf45 P).func 160 p160
theorem kf160_ok:KnownOk Go.Proofs.Tryz.prog (kf160 Go.Proofs.Tryz.prog):=kf45_ok.func ok160
abbrev as44:List Ty:=[(.pair (.pair (.int .i64) (.pair (.slice (.int .i64)) .unit)) (.pair (.pair (.int .i64) (.pair (.slice (.int .i64)) .unit)) .unit)),(.pair (.pair (.int .i64) (.pair (.slice (.int .i64)) .unit)) (.pair (.pair (.int .i64) (.pair (.slice (.int .i64)) .unit)) .unit))]
abbrev rs44:List Ty:=[(.pair (.pair (.int .i64) (.pair (.slice (.int .i64)) .unit)) (.pair (.pair (.int .i64) (.pair (.slice (.int .i64)) .unit)) .unit))]
def t44 (x0_:Int) (x0_':(List Int)) (x0'_:Int) (x0'_':(List Int)) (x1_:Int) (x1_':(List Int)) (x1'_:Int) (x1'_':(List Int)):Tr (Tys.data rs44) :=
  Tr.test (Option.isSome (f98 ((x0_,(x0_',())),((x1'_,(x1'_',())),()))))
    (Tr.test (Option.isSome (f98 ((x1_,(x1_',())),((x0'_,(x0'_',())),()))))
      (let r0:=g98 ((x0_,(x0_',())),((x1'_,(x1'_',())),()));
      let r1:=g98 ((x1_,(x1_',())),((x0'_,(x0'_',())),()));
      Tr.test (Option.isSome (f100 ((r0.1.1,(r0.1.2.1,())),((r1.1.1,(r1.1.2.1,())),()))))
        (Tr.test (Option.isSome (f98 ((x0'_,(x0'_',())),((x1'_,(x1'_',())),()))))
          (let r2:=g100 ((r0.1.1,(r0.1.2.1,())),((r1.1.1,(r1.1.2.1,())),()));
          let r3:=g98 ((x0'_,(x0'_',())),((x1'_,(x1'_',())),()));
          Tr.test (Option.isSome (f99 ((r2.1.1,(r2.1.2.1,())),((r3.1.1,(r3.1.2.1,())),()))))
            (let r4:=g99 ((r2.1.1,(r2.1.2.1,())),((r3.1.1,(r3.1.2.1,())),()));
            Tr.fin ((((r4.1.1.1,(r4.1.1.2.1,())),((r4.1.2.1.1,(r4.1.2.1.2.1,())),())),())))
            (Tr.stop))
          (Tr.stop))
        (Tr.stop))
      (Tr.stop))
    (Tr.stop)
def f44 (d:Tys.data as44):Option (Tys.data rs44):=(t44 d.1.1.1 d.1.1.2.1 d.1.2.1.1 d.1.2.1.2.1 d.2.1.1.1 d.2.1.1.2.1 d.2.1.2.1.1 d.2.1.2.1.2.1).val
def g44 (d:Tys.data as44):Tys.data rs44:=(f44 d).getD (Tys.dflt rs44)
def p44:PureC:=pcOf as44 rs44 f44 g44
theorem wk44 (x0_:Int) (x0_':(List Int)) (x0'_:Int) (x0'_':(List Int)) (x1_:Int) (x1_':(List Int)) (x1'_:Int) (x1'_':(List Int)):Walks (runPure (kf160 Go.Proofs.Tryz.prog).orc Go.Proofs.Tryz.prog 400 44 as44 rs44 (((x0_,x0_',()),(x0'_,x0'_',()),()),((x1_,x1_',()),(x1'_,x1'_',()),()),())) (t44 x0_ x0_' x0'_ x0'_' x1_ x1_' x1'_ x1'_') [([true,true,true,true,true],[2,4,6,8,10])] :=
  ⟨by kernel_rfl,trivial⟩
theorem ok44_t (x0_:Int) (x0_':(List Int)) (x0'_:Int) (x0'_':(List Int)) (x1_:Int) (x1_':(List Int)) (x1'_:Int) (x1'_':(List Int)):TrOk (PureRuns Go.Proofs.Tryz.prog (kf160 Go.Proofs.Tryz.prog).orc 44 as44 rs44 (((x0_,x0_',()),(x0'_,x0'_',()),()),((x1_,x1_',()),(x1'_,x1'_',()),()),())) (t44 x0_ x0_' x0'_ x0'_' x1_ x1_' x1'_ x1'_') :=
  Walks.ok (fun _ _ _=>PureRuns.of) (wk44 x0_ x0_' x0'_ x0'_' x1_ x1_' x1'_ x1'_') (by kernel_rfl)
theorem ok44:PureOk Go.Proofs.Tryz.prog 44 p44:=pureOk_of kf160_ok.base (T:=fun (d:Tys.data as44)=>t44 d.1.1.1 d.1.1.2.1 d.1.2.1.1 d.1.2.1.2.1 d.2.1.1.1 d.2.1.1.2.1 d.2.1.2.1.1 d.2.1.2.1.2.1) (by kernel_rfl) (fun (d:Tys.data as44)=>ok44_t d.1.1.1 d.1.1.2.1 d.1.2.1.1 d.1.2.1.2.1 d.2.1.1.1 d.2.1.1.2.1 d.2.1.2.1.1 d.2.1.2.1.2.1)
def kf44 (P:Go.Program):Known:=(kf160 P).func 44 p44
theorem kf44_ok:KnownOk Go.Proofs.Tryz.prog (kf44 Go.Proofs.Tryz.prog):=kf160_ok.func ok44
abbrev as127:List Ty:=[(.pair (.pair (.int .i64) (.pair (.slice (.int .i64)) .unit)) (.pair (.pair (.int .i64) (.pair (.slice (.int .i64)) .unit)) .unit)),(.pair (.pair (.int .i64) (.pair (.slice (.int .i64)) .unit)) (.pair (.pair (.int .i64) (.pair (.slice (.int .i64)) .unit)) .unit))]
abbrev rs127:List Ty:=[(.pair (.pair (.int .i64) (.pair (.slice (.int .i64)) .unit)) (.pair (.pair (.int .i64) (.pair (.slice (.int .i64)) .unit)) .unit))]
def t127 (x0_:Int) (x0_':(List Int)) (x0'_:Int) (x0'_':(List Int)) (x1_:Int) (x1_':(List Int)) (x1'_:Int) (x1'_':(List Int)):Tr (Tys.data rs127) :=
  Tr.test (Option.isSome (f160 (((x1_,(x1_',())),((x1'_,(x1'_',())),())),())))
    (let r0:=g160 (((x1_,(x1_',())),((x1'_,(x1'_',())),())),());
    Tr.test (Option.isSome (f44 (((x0_,(x0_',())),((x0'_,(x0'_',())),())),(((r0.1.1.1,(r0.1.1.2.1,())),((r0.1.2.1.1,(r0.1.2.1.2.1,())),())),()))))
      (let r1:=g44 (((x0_,(x0_',())),((x0'_,(x0'_',())),())),(((r0.1.1.1,(r0.1.1.2.1,())),((r0.1.2.1.1,(r0.1.2.1.2.1,())),())),()));
      Tr.fin ((((r1.1.1.1,(r1.1.1.2.1,())),((r1.1.2.1.1,(r1.1.2.1.2.1,())),())),())))
      (Tr.stop))
    (Tr.stop)
def f127 (d:Tys.data as127):Option (Tys.data rs127):=(t127 d.1.1.1 d.1.1.2.1 d.1.2.1.1 d.1.2.1.2.1 d.2.1.1.1 d.2.1.1.2.1 d.2.1.2.1.1 d.2.1.2.1.2.1).val
def g127 (d:Tys.data as127):Tys.data rs127:=(f127 d).getD (Tys.dflt rs127)
def p127:PureC:=pcOf as127 rs127 f127 g127
theorem wk127 (x0_:Int) (x0_':(List Int)) (x0'_:Int) (x0'_':(List Int)) (x1_:Int) (x1_':(List Int)) (x1'_:Int) (x1'_':(List Int)):Walks (runPure (kf44 Go.Proofs.Tryz.prog).orc Go.Proofs.Tryz.prog 400 127 as127 rs127 (((x0_,x0_',()),(x0'_,x0'_',()),()),((x1_,x1_',()),(x1'_,x1'_',()),()),())) (t127 x0_ x0_' x0'_ x0'_' x1_ x1_' x1'_ x1'_') [([true,true],[2,4])] :=
  ⟨by kernel_rfl,trivial⟩
theorem ok127_t (x0_:Int) (x0_':(List Int)) (x0'_:Int) (x0'_':(List Int)) (x1_:Int) (x1_':(List Int)) (x1'_:Int) (x1'_':(List Int)):TrOk (PureRuns Go.Proofs.Tryz.prog (kf44 Go.Proofs.Tryz.prog).orc 127 as127 rs127 (((x0_,x0_',()),(x0'_,x0'_',()),()),((x1_,x1_',()),(x1'_,x1'_',()),()),())) (t127 x0_ x0_' x0'_ x0'_' x1_ x1_' x1'_ x1'_') :=
  Walks.ok (fun _ _ _=>PureRuns.of) (wk127 x0_ x0_' x0'_ x0'_' x1_ x1_' x1'_ x1'_') (by kernel_rfl)
theorem ok127:PureOk Go.Proofs.Tryz.prog 127 p127:=pureOk_of kf44_ok.base (T:=fun (d:Tys.data as127)=>t127 d.1.1.1 d.1.1.2.1 d.1.2.1.1 d.1.2.1.2.1 d.2.1.1.1 d.2.1.1.2.1 d.2.1.2.1.1 d.2.1.2.1.2.1) (by kernel_rfl) (fun (d:Tys.data as127)=>ok127_t d.1.1.1 d.1.1.2.1 d.1.2.1.1 d.1.2.1.2.1 d.2.1.1.1 d.2.1.1.2.1 d.2.1.2.1.1 d.2.1.2.1.2.1)
def kf127 (P:Go.Program):Known:=(kf44 P).func 127 p127
theorem kf127_ok:KnownOk Go.Proofs.Tryz.prog (kf127 Go.Proofs.Tryz.prog):=kf44_ok.func ok127
abbrev as128:List Ty:=[(.pair (.pair (.int .i64) (.pair (.slice (.int .i64)) .unit)) (.pair (.pair (.int .i64) (.pair (.slice (.int .i64)) .unit)) .unit)),(.pair (.pair (.int .i64) (.pair (.slice (.int .i64)) .unit)) (.pair (.pair (.int .i64) (.pair (.slice (.int .i64)) .unit)) .unit))]
abbrev rs128:List Ty:=[(.pair (.pair (.int .i64) (.pair (.slice (.int .i64)) .unit)) (.pair (.pair (.int .i64) (.pair (.slice (.int .i64)) .unit)) .unit))]
def t128 (x0_:Int) (x0_':(List Int)) (x0'_:Int) (x0'_':(List Int)) (x1_:Int) (x1_':(List Int)) (x1'_:Int) (x1'_':(List Int)):Tr (Tys.data rs128) :=
  Tr.test (Option.isSome (f98 ((x0_,(x0_',())),((x1_,(x1_',())),()))))
    (Tr.test (Option.isSome (f98 ((x0'_,(x0'_',())),((x1'_,(x1'_',())),()))))
      (let r0:=g98 ((x0_,(x0_',())),((x1_,(x1_',())),()));
      let r1:=g98 ((x0'_,(x0'_',())),((x1'_,(x1'_',())),()));
      Tr.test (Option.isSome (f99 ((r0.1.1,(r0.1.2.1,())),((r1.1.1,(r1.1.2.1,())),()))))
        (let r2:=g99 ((r0.1.1,(r0.1.2.1,())),((r1.1.1,(r1.1.2.1,())),()));
        Tr.fin ((((r2.1.1.1,(r2.1.1.2.1,())),((r2.1.2.1.1,(r2.1.2.1.2.1,())),())),())))
        (Tr.stop))
      (Tr.stop))
    (Tr.stop)
def f128 (d:Tys.data as128):Option (Tys.data rs128):=(t128 d.1.1.1 d.1.1.2.1 d.1.2.1.1 d.1.2.1.2.1 d.2.1.1.1 d.2.1.1.2.1 d.2.1.2.1.1 d.2.1.2.1.2.1).val
def g128 (d:Tys.data as128):Tys.data rs128:=(f128 d).getD (Tys.dflt rs128)
def p128:PureC:=pcOf as128 rs128 f128 g128
theorem wk128 (x0_:Int) (x0_':(List Int)) (x0'_:Int) (x0'_':(List Int)) (x1_:Int) (x1_':(List Int)) (x1'_:Int) (x1'_':(List Int)):Walks (runPure (kf127 Go.Proofs.Tryz.prog).orc Go.Proofs.Tryz.prog 400 128 as128 rs128 (((x0_,x0_',()),(x0'_,x0'_',()),()),((x1_,x1_',()),(x1'_,x1'_',()),()),())) (t128 x0_ x0_' x0'_ x0'_' x1_ x1_' x1'_ x1'_') [([true,true,true],[2,4,6])] :=
  ⟨by kernel_rfl,trivial⟩
theorem ok128_t (x0_:Int) (x0_':(List Int)) (x0'_:Int) (x0'_':(List Int)) (x1_:Int) (x1_':(List Int)) (x1'_:Int) (x1'_':(List Int)):TrOk (PureRuns Go.Proofs.Tryz.prog (kf127 Go.Proofs.Tryz.prog).orc 128 as128 rs128 (((x0_,x0_',()),(x0'_,x0'_',()),()),((x1_,x1_',()),(x1'_,x1'_',()),()),())) (t128 x0_ x0_' x0'_ x0'_' x1_ x1_' x1'_ x1'_') :=
  Walks.ok (fun _ _ _=>PureRuns.of) (wk128 x0_ x0_' x0'_ x0'_' x1_ x1_' x1'_ x1'_') (by kernel_rfl)
theorem ok128:PureOk Go.Proofs.Tryz.prog 128 p128:=pureOk_of kf127_ok.base (T:=fun (d:Tys.data as128)=>t128 d.1.1.1 d.1.1.2.1 d.1.2.1.1 d.1.2.1.2.1 d.2.1.1.1 d.2.1.1.2.1 d.2.1.2.1.1 d.2.1.2.1.2.1) (by kernel_rfl) (fun (d:Tys.data as128)=>ok128_t d.1.1.1 d.1.1.2.1 d.1.2.1.1 d.1.2.1.2.1 d.2.1.1.1 d.2.1.1.2.1 d.2.1.2.1.1 d.2.1.2.1.2.1)
def kf128 (P:Go.Program):Known:=(kf127 P).func 128 p128
theorem kf128_ok:KnownOk Go.Proofs.Tryz.prog (kf128 Go.Proofs.Tryz.prog):=kf127_ok.func ok128
abbrev as94:List Ty:=[(.pair (.slice (.int .i64)) (.pair (.slice (.int .i64)) .unit)),(.slice (.pair (.int .i64) (.pair (.int .i64) .unit))),(.int .i64)]
abbrev rs94:List Ty:=[(.pair (.pair (.int .i64) (.pair (.slice (.int .i64)) .unit)) (.pair (.pair (.int .i64) (.pair (.slice (.int .i64)) .unit)) .unit))]
def t94 (x0:(List Int)) (x0':(List Int)) (x1:(List (Int×(Int×Unit)))) (x2:Int):Tr (Tys.data rs94) :=
  Tr.test ((decide ((0:Int) ≤ x2) && decide (x2 < (↑(List.length x1):Int)):Bool))
    (Tr.test (Option.isSome (f45 ((((List.getD x1 (Int.toNat x2) ((0:Int),(0:Int),())).1:Int),(((List.getD x1 (Int.toNat x2) ((0:Int),(0:Int),())).2.1:Int),())),())))
      (Tr.test ((!leF x2 0:Bool))
        (Tr.test ((decide ((0:Int) ≤ wrap64 (x2 - (1:Int))) && decide (wrap64 (x2 - (1:Int)) < (↑(List.length x1):Int)):Bool))
          (Tr.test (Option.isSome (f45 ((((List.getD x1 (Int.toNat (wrap64 (x2 - (1:Int)))) ((0:Int),(0:Int),())).1:Int),(((List.getD x1 (Int.toNat (wrap64 (x2 - (1:Int)))) ((0:Int),(0:Int),())).2.1:Int),())),())))
            (let r0:=g45 ((((List.getD x1 (Int.toNat x2) ((0:Int),(0:Int),())).1:Int),(((List.getD x1 (Int.toNat x2) ((0:Int),(0:Int),())).2.1:Int),())),());
            let r1:=g45 ((((List.getD x1 (Int.toNat (wrap64 (x2 - (1:Int)))) ((0:Int),(0:Int),())).1:Int),(((List.getD x1 (Int.toNat (wrap64 (x2 - (1:Int)))) ((0:Int),(0:Int),())).2.1:Int),())),());
            Tr.test (Option.isSome (f127 (((r0.1.1.1,(r0.1.1.2.1,())),((r0.1.2.1.1,(r0.1.2.1.2.1,())),())),(((r1.1.1.1,(r1.1.1.2.1,())),((r1.1.2.1.1,(r1.1.2.1.2.1,())),())),()))))
              (Tr.test ((decide ((0:Int) ≤ x2) && decide (x2 < (↑(List.length x0):Int)):Bool))
                (Tr.test (Option.isSome (f93 ((List.getD x0 (Int.toNat x2) (0:Int):Int),())))
                  (let r2:=g127 (((r0.1.1.1,(r0.1.1.2.1,())),((r0.1.2.1.1,(r0.1.2.1.2.1,())),())),(((r1.1.1.1,(r1.1.1.2.1,())),((r1.1.2.1.1,(r1.1.2.1.2.1,())),())),()));
                  let r3:=g93 ((List.getD x0 (Int.toNat x2) (0:Int):Int),());
                  Tr.test (Option.isSome (f128 (((r3.1.1.1,(r3.1.1.2.1,())),((r3.1.2.1.1,(r3.1.2.1.2.1,())),())),(((r2.1.1.1,(r2.1.1.2.1,())),((r2.1.2.1.1,(r2.1.2.1.2.1,())),())),()))))
                    (let r4:=g128 (((r3.1.1.1,(r3.1.1.2.1,())),((r3.1.2.1.1,(r3.1.2.1.2.1,())),())),(((r2.1.1.1,(r2.1.1.2.1,())),((r2.1.2.1.1,(r2.1.2.1.2.1,())),())),()));
                    Tr.fin ((((r4.1.1.1,(r4.1.1.2.1,())),((r4.1.2.1.1,(r4.1.2.1.2.1,())),())),())))
                    (Tr.stop))
                  (Tr.stop))
                (Tr.stop))
              (Tr.stop))
            (Tr.stop))
          (Tr.stop))
        (Tr.test ((decide ((0:Int) ≤ x2) && decide (x2 < (↑(List.length x0):Int)):Bool))
          (Tr.test (Option.isSome (f93 ((List.getD x0 (Int.toNat x2) (0:Int):Int),())))
            (let r0:=g45 ((((List.getD x1 (Int.toNat x2) ((0:Int),(0:Int),())).1:Int),(((List.getD x1 (Int.toNat x2) ((0:Int),(0:Int),())).2.1:Int),())),());
            let r3:=g93 ((List.getD x0 (Int.toNat x2) (0:Int):Int),());
            Tr.test (Option.isSome (f128 (((r3.1.1.1,(r3.1.1.2.1,())),((r3.1.2.1.1,(r3.1.2.1.2.1,())),())),(((r0.1.1.1,(r0.1.1.2.1,())),((r0.1.2.1.1,(r0.1.2.1.2.1,())),())),()))))
              (let r5:=g128 (((r3.1.1.1,(r3.1.1.2.1,())),((r3.1.2.1.1,(r3.1.2.1.2.1,())),())),(((r0.1.1.1,(r0.1.1.2.1,())),((r0.1.2.1.1,(r0.1.2.1.2.1,())),())),()));
              Tr.fin ((((r5.1.1.1,(r5.1.1.2.1,())),((r5.1.2.1.1,(r5.1.2.1.2.1,())),())),())))
              (Tr.stop))
            (Tr.stop))
          (Tr.stop)))
      (Tr.stop))
    (Tr.stop)
def f94 (d:Tys.data as94):Option (Tys.data rs94):=(t94 d.1.1 d.1.2.1 d.2.1 d.2.2.1).val
def g94 (d:Tys.data as94):Tys.data rs94:=(f94 d).getD (Tys.dflt rs94)
def p94:PureC:=pcOf as94 rs94 f94 g94
theorem wk94 (x0:(List Int)) (x0':(List Int)) (x1:(List (Int×(Int×Unit)))) (x2:Int):Walks (runPure (kf128 Go.Proofs.Tryz.prog).orc Go.Proofs.Tryz.prog 400 94 as94 rs94 ((x0,x0',()),x1,x2,())) (t94 x0 x0' x1 x2) [([true,true,true,true,true,true,true,true,true],[2,4,6,8,10,12,14,16,18]),([true,true,false,true,true,true],[2,4,6,8,10,12])] :=
  ⟨by kernel_rfl,by kernel_rfl,trivial⟩
theorem ok94_t (x0:(List Int)) (x0':(List Int)) (x1:(List (Int×(Int×Unit)))) (x2:Int):TrOk (PureRuns Go.Proofs.Tryz.prog (kf128 Go.Proofs.Tryz.prog).orc 94 as94 rs94 ((x0,x0',()),x1,x2,())) (t94 x0 x0' x1 x2) :=
  Walks.ok (fun _ _ _=>PureRuns.of) (wk94 x0 x0' x1 x2) (by kernel_rfl)
theorem ok94:PureOk Go.Proofs.Tryz.prog 94 p94:=pureOk_of kf128_ok.base (T:=fun (d:Tys.data as94)=>t94 d.1.1 d.1.2.1 d.2.1 d.2.2.1) (by kernel_rfl) (fun (d:Tys.data as94)=>ok94_t d.1.1 d.1.2.1 d.2.1 d.2.2.1)
def kf94 (P:Go.Program):Known:=(kf128 P).func 94 p94
theorem kf94_ok:KnownOk Go.Proofs.Tryz.prog (kf94 Go.Proofs.Tryz.prog):=kf128_ok.func ok94
abbrev as43:List Ty:=[(.pair (.pair (.int .i64) (.pair (.slice (.int .i64)) .unit)) (.pair (.pair (.int .i64) (.pair (.slice (.int .i64)) .unit)) .unit)),(.pair (.pair (.int .i64) (.pair (.slice (.int .i64)) .unit)) (.pair (.pair (.int .i64) (.pair (.slice (.int .i64)) .unit)) .unit))]
abbrev rs43:List Ty:=[(.int .i64)]
def t43 (x0_:Int) (x0_':(List Int)) (x0'_:Int) (x0'_':(List Int)) (x1_:Int) (x1_':(List Int)) (x1'_:Int) (x1'_':(List Int)):Tr (Tys.data rs43) :=
  Tr.test (Option.isSome (f98 ((x0_,(x0_',())),((x1'_,(x1'_',())),()))))
    (Tr.test (Option.isSome (f98 ((x1_,(x1_',())),((x0'_,(x0'_',())),()))))
      (let r0:=g98 ((x0_,(x0_',())),((x1'_,(x1'_',())),()));
      let r1:=g98 ((x1_,(x1_',())),((x0'_,(x0'_',())),()));
      Tr.test (Option.isSome (f97 ((r0.1.1,(r0.1.2.1,())),((r1.1.1,(r1.1.2.1,())),()))))
        (let r2:=g97 ((r0.1.1,(r0.1.2.1,())),((r1.1.1,(r1.1.2.1,())),()));
        Tr.fin ((r2.1,())))
        (Tr.stop))
      (Tr.stop))
    (Tr.stop)
def f43 (d:Tys.data as43):Option (Tys.data rs43):=(t43 d.1.1.1 d.1.1.2.1 d.1.2.1.1 d.1.2.1.2.1 d.2.1.1.1 d.2.1.1.2.1 d.2.1.2.1.1 d.2.1.2.1.2.1).val
def g43 (d:Tys.data as43):Tys.data rs43:=(f43 d).getD (Tys.dflt rs43)
def p43:PureC:=pcOf as43 rs43 f43 g43
theorem wk43 (x0_:Int) (x0_':(List Int)) (x0'_:Int) (x0'_':(List Int)) (x1_:Int) (x1_':(List Int)) (x1'_:Int) (x1'_':(List Int)):Walks (runPure (kf94 Go.Proofs.Tryz.prog).orc Go.Proofs.Tryz.prog 400 43 as43 rs43 (((x0_,x0_',()),(x0'_,x0'_',()),()),((x1_,x1_',()),(x1'_,x1'_',()),()),())) (t43 x0_ x0_' x0'_ x0'_' x1_ x1_' x1'_ x1'_') [([true,true,true],[2,4,6])] :=
  ⟨by kernel_rfl,trivial⟩
theorem ok43_t (x0_:Int) (x0_':(List Int)) (x0'_:Int) (x0'_':(List Int)) (x1_:Int) (x1_':(List Int)) (x1'_:Int) (x1'_':(List Int)):TrOk (PureRuns Go.Proofs.Tryz.prog (kf94 Go.Proofs.Tryz.prog).orc 43 as43 rs43 (((x0_,x0_',()),(x0'_,x0'_',()),()),((x1_,x1_',()),(x1'_,x1'_',()),()),())) (t43 x0_ x0_' x0'_ x0'_' x1_ x1_' x1'_ x1'_') :=
  Walks.ok (fun _ _ _=>PureRuns.of) (wk43 x0_ x0_' x0'_ x0'_' x1_ x1_' x1'_ x1'_') (by kernel_rfl)
theorem ok43:PureOk Go.Proofs.Tryz.prog 43 p43:=pureOk_of kf94_ok.base (T:=fun (d:Tys.data as43)=>t43 d.1.1.1 d.1.1.2.1 d.1.2.1.1 d.1.2.1.2.1 d.2.1.1.1 d.2.1.1.2.1 d.2.1.2.1.1 d.2.1.2.1.2.1) (by kernel_rfl) (fun (d:Tys.data as43)=>ok43_t d.1.1.1 d.1.1.2.1 d.1.2.1.1 d.1.2.1.2.1 d.2.1.1.1 d.2.1.1.2.1 d.2.1.2.1.1 d.2.1.2.1.2.1)
def kf43 (P:Go.Program):Known:=(kf94 P).func 43 p43
theorem kf43_ok:KnownOk Go.Proofs.Tryz.prog (kf43 Go.Proofs.Tryz.prog):=kf94_ok.func ok43
abbrev sh34_0:Sh:={ n:=109,slots:=[1,3,5,8,9],pats:=[.ty (.int .i64),.ptr 0 2 0,.ptr 1 3 0,.nil,.ty (.int .i64)],boxes:=[.row [.ty (.slice (.int .i64)),.ty (.slice (.int .i64))],.row [.ty (.slice (.pair (.int .i64) (.pair (.int .i64) .unit))),.ty (.slice (.pair (.int .i64) (.pair (.int .i64) .unit))),.ty (.int .i64)]] }
abbrev shb34_0:Sh:={ n:=109,slots:=[1,3,5,8],pats:=[.ty (.int .i64),.ptr 0 2 0,.ptr 1 3 0,.nil],boxes:=[.row [.ty (.slice (.int .i64)),.ty (.slice (.int .i64))],.row [.ty (.slice (.pair (.int .i64) (.pair (.int .i64) .unit))),.ty (.slice (.pair (.int .i64) (.pair (.int .i64) .unit))),.ty (.int .i64)]] }
abbrev shr34_0:Sh:={ n:=109,slots:=[],pats:=[],boxes:=[.row [.ty (.slice (.int .i64)),.ty (.slice (.int .i64))],.row [.ty (.slice (.pair (.int .i64) (.pair (.int .i64) .unit))),.ty (.slice (.pair (.int .i64) (.pair (.int .i64) .unit))),.ty (.int .i64)]] }
def t34_0 (x0:Int) (x4:Int) (b0_0:(List Int)) (b0_1:(List Int)) (b1_0:(List (Int×(Int×Unit)))) (b1_1:(List (Int×(Int×Unit)))) (b1_2:Int):Tr (Out sh34_0.data shb34_0.data shr34_0.data) :=
  Tr.test ((!leF (0:Int) x4:Bool))
    (Tr.stop)
    (Tr.fin (.brk ((x0,()),((b0_0,(b0_1,())),((b1_0,(b1_1,(b1_2,()))),())))))
def s34_0 (d:sh34_0.data):Option (Out sh34_0.data shb34_0.data shr34_0.data):=(t34_0 d.1.1 d.1.2.1 d.2.1.1 d.2.1.2.1 d.2.2.1.1 d.2.2.1.2.1 d.2.2.1.2.2.1).val
def l34_0 (d:sh34_0.data):Option (shb34_0.data ⊕ shr34_0.data):=itr s34_0 rounds d
def b34_0 (d:sh34_0.data):shb34_0.data:=outB shb34_0.dflt (l34_0 d)
def lc34_0:LoopC:=lcB sh34_0 shb34_0 shr34_0 l34_0 b34_0
theorem wk34_0 (x0:Int) (x4:Int) (b0_0:(List Int)) (b0_1:(List Int)) (b1_0:(List (Int×(Int×Unit)))) (b1_1:(List (Int×(Int×Unit)))) (b1_2:Int):Walks (runBody (kf43 Go.Proofs.Tryz.prog).orc Go.Proofs.Tryz.prog 400 34 0 sh34_0 shb34_0 shr34_0 ((x0,x4,()),(b0_0,b0_1,()),(b1_0,b1_1,b1_2,()),())) (t34_0 x0 x4 b0_0 b0_1 b1_0 b1_1 b1_2) [([ff],[2])] :=
  ⟨by kernel_rfl,trivial⟩
theorem ok34_0_t (x0:Int) (x4:Int) (b0_0:(List Int)) (b0_1:(List Int)) (b1_0:(List (Int×(Int×Unit)))) (b1_1:(List (Int×(Int×Unit)))) (b1_2:Int):TrOk (BodyRuns Go.Proofs.Tryz.prog (kf43 Go.Proofs.Tryz.prog).orc 34 0 sh34_0 shb34_0 shr34_0 ((x0,x4,()),(b0_0,b0_1,()),(b1_0,b1_1,b1_2,()),())) (t34_0 x0 x4 b0_0 b0_1 b1_0 b1_1 b1_2) :=
  Walks.ok (fun _ _ _=>BodyRuns.of) (wk34_0 x0 x4 b0_0 b0_1 b1_0 b1_1 b1_2) (by kernel_rfl)
theorem ok34_0:LoopOk Go.Proofs.Tryz.prog 34 0 lc34_0:=loopOk_ofB (sh:=sh34_0) (shB:=shb34_0) (shR:=shr34_0) kf43_ok.base (T:=fun (d:sh34_0.data)=>t34_0 d.1.1 d.1.2.1 d.2.1.1 d.2.1.2.1 d.2.2.1.1 d.2.2.1.2.1 d.2.2.1.2.2.1) (by kernel_rfl) rfl (fun (d:sh34_0.data)=>ok34_0_t d.1.1 d.1.2.1 d.2.1.1 d.2.1.2.1 d.2.2.1.1 d.2.2.1.2.1 d.2.2.1.2.2.1) (fun _=>rfl)
def kl34_0 (P:Go.Program):Known:=(kf43 P).loop 34 0 lc34_0
theorem kl34_0_ok:KnownOk Go.Proofs.Tryz.prog (kl34_0 Go.Proofs.Tryz.prog):=kf43_ok.loop ok34_0
abbrev sh34_0_1:Sh:={ n:=109,slots:=[1,3,5,8,9],pats:=[.ty (.int .i64),.ptr 0 2 0,.ptr 1 3 0,.ty (.slice (.pair (.int .i64) (.pair (.int .i64) .unit))),.ty (.int .i64)],boxes:=[.row [.ty (.slice (.int .i64)),.ty (.slice (.int .i64))],.row [.ty (.slice (.pair (.int .i64) (.pair (.int .i64) .unit))),.ty (.slice (.pair (.int .i64) (.pair (.int .i64) .unit))),.ty (.int .i64)]] }
abbrev shb34_0_1:Sh:={ n:=109,slots:=[1,3,5,8],pats:=[.ty (.int .i64),.ptr 0 2 0,.ptr 1 3 0,.ty (.slice (.pair (.int .i64) (.pair (.int .i64) .unit)))],boxes:=[.row [.ty (.slice (.int .i64)),.ty (.slice (.int .i64))],.row [.ty (.slice (.pair (.int .i64) (.pair (.int .i64) .unit))),.ty (.slice (.pair (.int .i64) (.pair (.int .i64) .unit))),.ty (.int .i64)]] }
abbrev shr34_0_1:Sh:={ n:=109,slots:=[6,7],pats:=[.ty (.int .i64),.ty (.int .i64)],boxes:=[.row [.ty (.slice (.int .i64)),.ty (.slice (.int .i64))],.row [.ty (.slice (.pair (.int .i64) (.pair (.int .i64) .unit))),.ty (.slice (.pair (.int .i64) (.pair (.int .i64) .unit))),.ty (.int .i64)]] }
def t34_0_1 (x0:Int) (x3:(List (Int×(Int×Unit)))) (x4:Int) (b0_0:(List Int)) (b0_1:(List Int)) (b1_0:(List (Int×(Int×Unit)))) (b1_1:(List (Int×(Int×Unit)))) (b1_2:Int):Tr (Out sh34_0_1.data shb34_0_1.data shr34_0_1.data) :=
  Tr.test ((!leF (↑(List.length x3):Int) x4:Bool))
    (Tr.test (decide ((0:Int) ≤ x4) && decide (x4 < (↑(List.length x3):Int)))
      (Tr.test (Option.isSome (f36 ((((List.getD x3 (Int.toNat x4) ((0:Int),(0:Int),())).1:Int),(((List.getD x3 (Int.toNat x4) ((0:Int),(0:Int),())).2.1:Int),())),())))
        (let r0:=g36 ((((List.getD x3 (Int.toNat x4) ((0:Int),(0:Int),())).1:Int),(((List.getD x3 (Int.toNat x4) ((0:Int),(0:Int),())).2.1:Int),())),());
        Tr.test ((!r0.1:Bool))
          (Tr.fin (.ret ((x4,((3:Int),())),((b0_0,(b0_1,())),((b1_0,(b1_1,(b1_2,()))),())))))
          (Tr.test (Option.isSome (f32 (((List.getD x3 (Int.toNat x4) ((0:Int),(0:Int),())).1:Int),((-1000000000:Int),((1000000000:Int),())))))
            (let r1:=g32 (((List.getD x3 (Int.toNat x4) ((0:Int),(0:Int),())).1:Int),((-1000000000:Int),((1000000000:Int),())));
            Tr.test ((!r1.1:Bool))
              (Tr.fin (.ret ((x4,((2:Int),())),((b0_0,(b0_1,())),((b1_0,(b1_1,(b1_2,()))),())))))
              (Tr.test ((!leF (List.getD x3 (Int.toNat x4) ((0:Int),(0:Int),())).2.1 (1000000000:Int):Bool))
                (Tr.fin (.ret ((x4,((2:Int),())),((b0_0,(b0_1,())),((b1_0,(b1_1,(b1_2,()))),())))))
                (Tr.fin (.again ((x0,(x3,((wrap64 (x4 + (1:Int)):Int),()))),((b0_0,(b0_1,())),((b1_0,(b1_1,(b1_2,()))),())))))))
            (Tr.stop)))
        (Tr.stop))
      (Tr.stop))
    (Tr.fin (.brk ((x0,(x3,())),((b0_0,(b0_1,())),((b1_0,(b1_1,(b1_2,()))),())))))
def s34_0_1 (d:sh34_0_1.data):Option (Out sh34_0_1.data shb34_0_1.data shr34_0_1.data):=(t34_0_1 d.1.1 d.1.2.1 d.1.2.2.1 d.2.1.1 d.2.1.2.1 d.2.2.1.1 d.2.2.1.2.1 d.2.2.1.2.2.1).val
def l34_0_1 (d:sh34_0_1.data):Option (shb34_0_1.data ⊕ shr34_0_1.data):=itr s34_0_1 rounds d
def b34_0_1 (d:sh34_0_1.data):shb34_0_1.data:=outB shb34_0_1.dflt (l34_0_1 d)
def r34_0_1 (d:sh34_0_1.data):shr34_0_1.data:=outR shr34_0_1.dflt (l34_0_1 d)
def lc34_0_1:LoopC:=lcOf sh34_0_1 shb34_0_1 shr34_0_1 l34_0_1 b34_0_1 r34_0_1
theorem wk34_0_1 (x0:Int) (x3:(List (Int×(Int×Unit)))) (x4:Int) (b0_0:(List Int)) (b0_1:(List Int)) (b1_0:(List (Int×(Int×Unit)))) (b1_1:(List (Int×(Int×Unit)))) (b1_2:Int):Walks (runBody (kl34_0 Go.Proofs.Tryz.prog).orc Go.Proofs.Tryz.prog 400 34 0 sh34_0_1 shb34_0_1 shr34_0_1 ((x0,x3,x4,()),(b0_0,b0_1,()),(b1_0,b1_1,b1_2,()),())) (t34_0_1 x0 x3 x4 b0_0 b0_1 b1_0 b1_1 b1_2) [([true,true,true,true],[2,4,6,8]),([true,true,true,false,true,true],[1,2,2,2,2,2,2,2,4,10,6,8,10,12]),([true,true,true,false,true,false,true],[2,4,4,4,4,12,4,4,4,6,12,8,10,12,14]),([true,true,true,false,true,false,false],[2,4,4,4,4,12,4,4,4,6,12,8,10,12,14]),([ff],[2])] :=
  ⟨by kernel_rfl,by kernel_rfl,by kernel_rfl,by kernel_rfl,by kernel_rfl,trivial⟩
theorem ok34_0_1_t (x0:Int) (x3:(List (Int×(Int×Unit)))) (x4:Int) (b0_0:(List Int)) (b0_1:(List Int)) (b1_0:(List (Int×(Int×Unit)))) (b1_1:(List (Int×(Int×Unit)))) (b1_2:Int):TrOk (BodyRuns Go.Proofs.Tryz.prog (kl34_0 Go.Proofs.Tryz.prog).orc 34 0 sh34_0_1 shb34_0_1 shr34_0_1 ((x0,x3,x4,()),(b0_0,b0_1,()),(b1_0,b1_1,b1_2,()),())) (t34_0_1 x0 x3 x4 b0_0 b0_1 b1_0 b1_1 b1_2) :=
  Walks.ok (fun _ _ _=>BodyRuns.of) (wk34_0_1 x0 x3 x4 b0_0 b0_1 b1_0 b1_1 b1_2) (by kernel_rfl)
theorem ok34_0_1:LoopOk Go.Proofs.Tryz.prog 34 0 lc34_0_1:=loopOk_of (sh:=sh34_0_1) (shB:=shb34_0_1) (shR:=shr34_0_1) kl34_0_ok.base (T:=fun (d:sh34_0_1.data)=>t34_0_1 d.1.1 d.1.2.1 d.1.2.2.1 d.2.1.1 d.2.1.2.1 d.2.2.1.1 d.2.2.1.2.1 d.2.2.1.2.2.1) (by kernel_rfl) rfl (fun (d:sh34_0_1.data)=>ok34_0_1_t d.1.1 d.1.2.1 d.1.2.2.1 d.2.1.1 d.2.1.2.1 d.2.2.1.1 d.2.2.1.2.1 d.2.2.1.2.2.1) (fun _=>rfl)
def kl34_0_1 (P:Go.Program):Known:=(kl34_0 P).loop 34 0 lc34_0_1
theorem kl34_0_1_ok:KnownOk Go.Proofs.Tryz.prog (kl34_0_1 Go.Proofs.Tryz.prog):=kl34_0_ok.loop ok34_0_1
abbrev sh34_2:Sh:={ n:=109,slots:=[1,3,5,8,10],pats:=[.ty (.int .i64),.ptr 0 2 0,.ptr 1 3 0,.ty (.slice (.pair (.int .i64) (.pair (.int .i64) .unit))),.ty (.int .i64)],boxes:=[.row [.ty (.slice (.int .i64)),.ty (.slice (.int .i64))],.row [.ty (.slice (.pair (.int .i64) (.pair (.int .i64) .unit))),.ty (.slice (.pair (.int .i64) (.pair (.int .i64) .unit))),.ty (.int .i64)]] }
abbrev shb34_2:Sh:={ n:=109,slots:=[],pats:=[],boxes:=[.row [.ty (.slice (.int .i64)),.ty (.slice (.int .i64))],.row [.ty (.slice (.pair (.int .i64) (.pair (.int .i64) .unit))),.ty (.slice (.pair (.int .i64) (.pair (.int .i64) .unit))),.ty (.int .i64)]] }
abbrev shr34_2:Sh:={ n:=109,slots:=[6,7],pats:=[.ty (.int .i64),.ty (.int .i64)],boxes:=[.row [.ty (.slice (.int .i64)),.ty (.slice (.int .i64))],.row [.ty (.slice (.pair (.int .i64) (.pair (.int .i64) .unit))),.ty (.slice (.pair (.int .i64) (.pair (.int .i64) .unit))),.ty (.int .i64)]] }
def t34_2 (x0:Int) (x3:(List (Int×(Int×Unit)))) (x4:Int) (b0_0:(List Int)) (b0_1:(List Int)) (b1_0:(List (Int×(Int×Unit)))) (b1_1:(List (Int×(Int×Unit)))) (b1_2:Int):Tr (Out sh34_2.data shb34_2.data shr34_2.data) :=
  Tr.test ((!leF (↑(List.length x3):Int) x4:Bool))
    (Tr.test (Option.isSome (f93 ((0:Int),())))
      (Tr.test ((eqF x4 x0:Bool))
        (Tr.test (Option.isSome (f93 (b1_2,())))
          (Tr.test ((decide ((0:Int) ≤ x4) && decide (x4 < (↑(List.length b0_1):Int)):Bool))
            (Tr.test (Option.isSome (f93 ((List.getD b0_1 (Int.toNat x4) (0:Int):Int),())))
              (let r1:=g93 (b1_2,());
              let r3:=g93 ((List.getD b0_1 (Int.toNat x4) (0:Int):Int),());
              Tr.test (Option.isSome (f44 (((r1.1.1.1,(r1.1.1.2.1,())),((r1.1.2.1.1,(r1.1.2.1.2.1,())),())),(((r3.1.1.1,(r3.1.1.2.1,())),((r3.1.2.1.1,(r3.1.2.1.2.1,())),())),()))))
                (Tr.test (Option.isSome (f94 ((b0_0,(b0_1,())),(x3,(x4,())))))
                  (let r4:=g44 (((r1.1.1.1,(r1.1.1.2.1,())),((r1.1.2.1.1,(r1.1.2.1.2.1,())),())),(((r3.1.1.1,(r3.1.1.2.1,())),((r3.1.2.1.1,(r3.1.2.1.2.1,())),())),()));
                  let r5:=g94 ((b0_0,(b0_1,())),(x3,(x4,())));
                  Tr.test (Option.isSome (f43 (((r4.1.1.1,(r4.1.1.2.1,())),((r4.1.2.1.1,(r4.1.2.1.2.1,())),())),(((r5.1.1.1,(r5.1.1.2.1,())),((r5.1.2.1.1,(r5.1.2.1.2.1,())),())),()))))
                    (let r6:=g43 (((r4.1.1.1,(r4.1.1.2.1,())),((r4.1.2.1.1,(r4.1.2.1.2.1,())),())),(((r5.1.1.1,(r5.1.1.2.1,())),((r5.1.2.1.1,(r5.1.2.1.2.1,())),())),()));
                    Tr.test ((!eqF r6.1 0:Bool))
                      (Tr.fin (.ret ((x4,((19:Int),())),((b0_0,(b0_1,())),((b1_0,(b1_1,(b1_2,()))),())))))
                      (Tr.fin (.again ((x0,(x3,((wrap64 (x4 + (1:Int)):Int),()))),((b0_0,(b0_1,())),((b1_0,(b1_1,(b1_2,()))),()))))))
                    (Tr.stop))
                  (Tr.stop))
                (Tr.stop))
              (Tr.stop))
            (Tr.stop))
          (Tr.stop))
        (Tr.test ((!leF (↑(List.length x3):Int) (wrap64 (x4 + (1:Int))):Bool))
          (Tr.test (Option.isSome (f94 ((b0_0,(b0_1,())),(x3,((wrap64 (x4 + (1:Int)):Int),())))))
            (Tr.test ((decide ((0:Int) ≤ x4) && decide (x4 < (↑(List.length b0_1):Int)):Bool))
              (Tr.test (Option.isSome (f93 ((List.getD b0_1 (Int.toNat x4) (0:Int):Int),())))
                (let r2:=g94 ((b0_0,(b0_1,())),(x3,((wrap64 (x4 + (1:Int)):Int),())));
                let r3:=g93 ((List.getD b0_1 (Int.toNat x4) (0:Int):Int),());
                Tr.test (Option.isSome (f44 (((r2.1.1.1,(r2.1.1.2.1,())),((r2.1.2.1.1,(r2.1.2.1.2.1,())),())),(((r3.1.1.1,(r3.1.1.2.1,())),((r3.1.2.1.1,(r3.1.2.1.2.1,())),())),()))))
                  (Tr.test (Option.isSome (f94 ((b0_0,(b0_1,())),(x3,(x4,())))))
                    (let r5:=g94 ((b0_0,(b0_1,())),(x3,(x4,())));
                    let r7:=g44 (((r2.1.1.1,(r2.1.1.2.1,())),((r2.1.2.1.1,(r2.1.2.1.2.1,())),())),(((r3.1.1.1,(r3.1.1.2.1,())),((r3.1.2.1.1,(r3.1.2.1.2.1,())),())),()));
                    Tr.test (Option.isSome (f43 (((r7.1.1.1,(r7.1.1.2.1,())),((r7.1.2.1.1,(r7.1.2.1.2.1,())),())),(((r5.1.1.1,(r5.1.1.2.1,())),((r5.1.2.1.1,(r5.1.2.1.2.1,())),())),()))))
                      (let r8:=g43 (((r7.1.1.1,(r7.1.1.2.1,())),((r7.1.2.1.1,(r7.1.2.1.2.1,())),())),(((r5.1.1.1,(r5.1.1.2.1,())),((r5.1.2.1.1,(r5.1.2.1.2.1,())),())),()));
                      Tr.test ((!eqF r8.1 0:Bool))
                        (Tr.fin (.ret ((x4,((19:Int),())),((b0_0,(b0_1,())),((b1_0,(b1_1,(b1_2,()))),())))))
                        (Tr.fin (.again ((x0,(x3,((wrap64 (x4 + (1:Int)):Int),()))),((b0_0,(b0_1,())),((b1_0,(b1_1,(b1_2,()))),()))))))
                      (Tr.stop))
                    (Tr.stop))
                  (Tr.stop))
                (Tr.stop))
              (Tr.stop))
            (Tr.stop))
          (Tr.test ((decide ((0:Int) ≤ x4) && decide (x4 < (↑(List.length b0_1):Int)):Bool))
            (Tr.test (Option.isSome (f93 ((List.getD b0_1 (Int.toNat x4) (0:Int):Int),())))
              (let r0:=g93 ((0:Int),());
              let r3:=g93 ((List.getD b0_1 (Int.toNat x4) (0:Int):Int),());
              Tr.test (Option.isSome (f44 (((r0.1.1.1,(r0.1.1.2.1,())),((r0.1.2.1.1,(r0.1.2.1.2.1,())),())),(((r3.1.1.1,(r3.1.1.2.1,())),((r3.1.2.1.1,(r3.1.2.1.2.1,())),())),()))))
                (Tr.test (Option.isSome (f94 ((b0_0,(b0_1,())),(x3,(x4,())))))
                  (let r5:=g94 ((b0_0,(b0_1,())),(x3,(x4,())));
                  let r9:=g44 (((r0.1.1.1,(r0.1.1.2.1,())),((r0.1.2.1.1,(r0.1.2.1.2.1,())),())),(((r3.1.1.1,(r3.1.1.2.1,())),((r3.1.2.1.1,(r3.1.2.1.2.1,())),())),()));
                  Tr.test (Option.isSome (f43 (((r9.1.1.1,(r9.1.1.2.1,())),((r9.1.2.1.1,(r9.1.2.1.2.1,())),())),(((r5.1.1.1,(r5.1.1.2.1,())),((r5.1.2.1.1,(r5.1.2.1.2.1,())),())),()))))
                    (let r10:=g43 (((r9.1.1.1,(r9.1.1.2.1,())),((r9.1.2.1.1,(r9.1.2.1.2.1,())),())),(((r5.1.1.1,(r5.1.1.2.1,())),((r5.1.2.1.1,(r5.1.2.1.2.1,())),())),()));
                    Tr.test ((!eqF r10.1 0:Bool))
                      (Tr.fin (.ret ((x4,((19:Int),())),((b0_0,(b0_1,())),((b1_0,(b1_1,(b1_2,()))),())))))
                      (Tr.fin (.again ((x0,(x3,((wrap64 (x4 + (1:Int)):Int),()))),((b0_0,(b0_1,())),((b1_0,(b1_1,(b1_2,()))),()))))))
                    (Tr.stop))
                  (Tr.stop))
                (Tr.stop))
              (Tr.stop))
            (Tr.stop))))
      (Tr.stop))
    (Tr.fin (.brk ((),((b0_0,(b0_1,())),((b1_0,(b1_1,(b1_2,()))),())))))
def s34_2 (d:sh34_2.data):Option (Out sh34_2.data shb34_2.data shr34_2.data):=(t34_2 d.1.1 d.1.2.1 d.1.2.2.1 d.2.1.1 d.2.1.2.1 d.2.2.1.1 d.2.2.1.2.1 d.2.2.1.2.2.1).val
def l34_2 (d:sh34_2.data):Option (shb34_2.data ⊕ shr34_2.data):=itr s34_2 rounds d
def b34_2 (d:sh34_2.data):shb34_2.data:=outB shb34_2.dflt (l34_2 d)
def r34_2 (d:sh34_2.data):shr34_2.data:=outR shr34_2.dflt (l34_2 d)
def lc34_2:LoopC:=lcOf sh34_2 shb34_2 shr34_2 l34_2 b34_2 r34_2
theorem wk34_2 (x0:Int) (x3:(List (Int×(Int×Unit)))) (x4:Int) (b0_0:(List Int)) (b0_1:(List Int)) (b1_0:(List (Int×(Int×Unit)))) (b1_1:(List (Int×(Int×Unit)))) (b1_2:Int):Walks (runBody (kl34_0_1 Go.Proofs.Tryz.prog).orc Go.Proofs.Tryz.prog 400 34 2 sh34_2 shb34_2 shr34_2 ((x0,x3,x4,()),(b0_0,b0_1,()),(b1_0,b1_1,b1_2,()),())) (t34_2 x0 x3 x4 b0_0 b0_1 b1_0 b1_1 b1_2) [([true,true,true,true,true,true,true,true,true,true],[2,4,6,8,10,12,14,16,18,20]),([true,true,true,true,true,true,true,true,true,false],[2,4,6,8,10,12,14,16,18,20]),([true,true,false,true,true,true,true,true,true,true,true],[2,4,6,8,10,12,14,16,18,20,22]),([true,true,false,true,true,true,true,true,true,true,false],[2,4,6,8,10,12,14,16,18,20,22]),([true,true,false,false,true,true,true,true,true,true],[2,4,6,8,10,12,14,16,18,20]),([true,true,false,false,true,true,true,true,true,false],[2,4,6,8,10,12,14,16,18,20]),([ff],[2])] :=
  ⟨by kernel_rfl,by kernel_rfl,by kernel_rfl,by kernel_rfl,by kernel_rfl,by kernel_rfl,by kernel_rfl,trivial⟩
theorem ok34_2_t (x0:Int) (x3:(List (Int×(Int×Unit)))) (x4:Int) (b0_0:(List Int)) (b0_1:(List Int)) (b1_0:(List (Int×(Int×Unit)))) (b1_1:(List (Int×(Int×Unit)))) (b1_2:Int):TrOk (BodyRuns Go.Proofs.Tryz.prog (kl34_0_1 Go.Proofs.Tryz.prog).orc 34 2 sh34_2 shb34_2 shr34_2 ((x0,x3,x4,()),(b0_0,b0_1,()),(b1_0,b1_1,b1_2,()),())) (t34_2 x0 x3 x4 b0_0 b0_1 b1_0 b1_1 b1_2) :=
  Walks.ok (fun _ _ _=>BodyRuns.of) (wk34_2 x0 x3 x4 b0_0 b0_1 b1_0 b1_1 b1_2) (by kernel_rfl)
theorem ok34_2:LoopOk Go.Proofs.Tryz.prog 34 2 lc34_2:=loopOk_of (sh:=sh34_2) (shB:=shb34_2) (shR:=shr34_2) kl34_0_1_ok.base (T:=fun (d:sh34_2.data)=>t34_2 d.1.1 d.1.2.1 d.1.2.2.1 d.2.1.1 d.2.1.2.1 d.2.2.1.1 d.2.2.1.2.1 d.2.2.1.2.2.1) (by kernel_rfl) rfl (fun (d:sh34_2.data)=>ok34_2_t d.1.1 d.1.2.1 d.1.2.2.1 d.2.1.1 d.2.1.2.1 d.2.2.1.1 d.2.2.1.2.1 d.2.2.1.2.2.1) (fun _=>rfl)
def kl34_2 (P:Go.Program):Known:=(kl34_0_1 P).loop 34 2 lc34_2
theorem kl34_2_ok:KnownOk Go.Proofs.Tryz.prog (kl34_2 Go.Proofs.Tryz.prog):=kl34_0_1_ok.loop ok34_2
abbrev as34:List Ty:=[(.pair (.slice (.int .i64)) (.pair (.slice (.int .i64)) .unit)),(.int .i64),(.pair (.slice (.pair (.int .i64) (.pair (.int .i64) .unit))) (.pair (.slice (.pair (.int .i64) (.pair (.int .i64) .unit))) (.pair (.int .i64) .unit)))]
abbrev rs34:List Ty:=[(.int .i64),(.int .i64)]
def t34 (x0:(List Int)) (x0':(List Int)) (x1:Int) (x2:(List (Int×(Int×Unit)))) (x2':(List (Int×(Int×Unit)))) (x2'':Int):Tr (Tys.data rs34) :=
  Tr.test ((!eqF (↑(List.length x2):Int) (wrap64 (x1 + (1:Int))):Bool))
    (Tr.fin (((0:Int),((10:Int),()))))
    (Tr.test (!eqF (↑(List.length x2'):Int) (wrap64 (wrap64 ((↑(List.length x0):Int) - x1) - (1:Int))))
      (Tr.fin (((0:Int),((10:Int),()))))
      (Tr.test ((Nat.beq (List.length x2) (0:Nat):Bool))
        (Tr.test ((Nat.beq (List.length x2') (0:Nat):Bool))
          (Tr.stop /- a loop that is known -/)
          (Tr.test ((Nat.ble ((0:Nat) + List.length x2') (0:Nat):Bool))
            (Tr.stop)
            (Tr.test ((Nat.ble (((2:Nat) * ((0:Nat) + List.length x2') + (192:Nat)) * (16:Nat)) (281474976710656:Nat) && Nat.ble ((0:Nat) + List.length x2') (281474976710656:Nat):Bool))
              (Tr.test ((Nat.beq ((0:Nat) + List.length x2') (List.length ([]++x2')):Bool))
                (Tr.test (Option.isSome (l34_0_1 ((x1,(([]++x2':List (Int×Int×PUnit)),((0:Int),()))),((x0,(x0',())),((x2,(x2',(x2'',()))),())))))
                  (Tr.test (isRet (l34_0_1 ((x1,(([]++x2':List (Int×Int×PUnit)),((0:Int),()))),((x0,(x0',())),((x2,(x2',(x2'',()))),())))))
                    (let r0:=r34_0_1 ((x1,(([]++x2':List (Int×Int×PUnit)),((0:Int),()))),((x0,(x0',())),((x2,(x2',(x2'',()))),())));
                    Tr.fin ((r0.1.1,(r0.1.2.1,()))))
                    (let r1:=b34_0_1 ((x1,(([]++x2':List (Int×Int×PUnit)),((0:Int),()))),((x0,(x0',())),((x2,(x2',(x2'',()))),())));
                    Tr.test (Option.isSome (f92 ((r1.2.1.1,(r1.2.1.2.1,())),(r1.1.1,()))))
                      (let r2:=g92 ((r1.2.1.1,(r1.2.1.2.1,())),(r1.1.1,()));
                      Tr.test ((!eqF r1.2.2.1.2.2.1 r2.1:Bool))
                        (Tr.fin (((0:Int),((13:Int),()))))
                        (Tr.test (Option.isSome (l34_2 ((r1.1.1,(r1.1.2.1,((0:Int),()))),((r1.2.1.1,(r1.2.1.2.1,())),((r1.2.2.1.1,(r1.2.2.1.2.1,(r1.2.2.1.2.2.1,()))),())))))
                          (Tr.test (isRet (l34_2 ((r1.1.1,(r1.1.2.1,((0:Int),()))),((r1.2.1.1,(r1.2.1.2.1,())),((r1.2.2.1.1,(r1.2.2.1.2.1,(r1.2.2.1.2.2.1,()))),())))))
                            (let r3:=r34_2 ((r1.1.1,(r1.1.2.1,((0:Int),()))),((r1.2.1.1,(r1.2.1.2.1,())),((r1.2.2.1.1,(r1.2.2.1.2.1,(r1.2.2.1.2.2.1,()))),())));
                            Tr.fin ((r3.1.1,(r3.1.2.1,()))))
                            (Tr.fin (((0:Int),((0:Int),())))))
                          (Tr.stop)))
                      (Tr.stop)))
                  (Tr.stop))
                (Tr.stop))
              (Tr.stop))))
        (Tr.test ((Nat.ble ((0:Nat) + List.length x2) (0:Nat):Bool))
          (Tr.stop)
          (Tr.test ((Nat.ble (((2:Nat) * ((0:Nat) + List.length x2) + (192:Nat)) * (16:Nat)) (281474976710656:Nat) && Nat.ble ((0:Nat) + List.length x2) (281474976710656:Nat):Bool))
            (Tr.test ((Nat.beq (List.length x2') (0:Nat):Bool))
              (Tr.test ((Nat.beq ((0:Nat) + List.length x2) (List.length ([]++x2)):Bool))
                (Tr.test (Option.isSome (l34_0_1 ((x1,(([]++x2:List (Int×Int×PUnit)),((0:Int),()))),((x0,(x0',())),((x2,(x2',(x2'',()))),())))))
                  (Tr.test (isRet (l34_0_1 ((x1,(([]++x2:List (Int×Int×PUnit)),((0:Int),()))),((x0,(x0',())),((x2,(x2',(x2'',()))),())))))
                    (let r5:=r34_0_1 ((x1,(([]++x2:List (Int×Int×PUnit)),((0:Int),()))),((x0,(x0',())),((x2,(x2',(x2'',()))),())));
                    Tr.fin ((r5.1.1,(r5.1.2.1,()))))
                    (let r6:=b34_0_1 ((x1,(([]++x2:List (Int×Int×PUnit)),((0:Int),()))),((x0,(x0',())),((x2,(x2',(x2'',()))),())));
                    Tr.test (Option.isSome (f92 ((r6.2.1.1,(r6.2.1.2.1,())),(r6.1.1,()))))
                      (let r7:=g92 ((r6.2.1.1,(r6.2.1.2.1,())),(r6.1.1,()));
                      Tr.test ((!eqF r6.2.2.1.2.2.1 r7.1:Bool))
                        (Tr.fin (((0:Int),((13:Int),()))))
                        (Tr.test (Option.isSome (l34_2 ((r6.1.1,(r6.1.2.1,((0:Int),()))),((r6.2.1.1,(r6.2.1.2.1,())),((r6.2.2.1.1,(r6.2.2.1.2.1,(r6.2.2.1.2.2.1,()))),())))))
                          (Tr.test (isRet (l34_2 ((r6.1.1,(r6.1.2.1,((0:Int),()))),((r6.2.1.1,(r6.2.1.2.1,())),((r6.2.2.1.1,(r6.2.2.1.2.1,(r6.2.2.1.2.2.1,()))),())))))
                            (let r8:=r34_2 ((r6.1.1,(r6.1.2.1,((0:Int),()))),((r6.2.1.1,(r6.2.1.2.1,())),((r6.2.2.1.1,(r6.2.2.1.2.1,(r6.2.2.1.2.2.1,()))),())));
                            Tr.fin ((r8.1.1,(r8.1.2.1,()))))
                            (Tr.fin (((0:Int),((0:Int),())))))
                          (Tr.stop)))
                      (Tr.stop)))
                  (Tr.stop))
                (Tr.stop))
              (Tr.test ((Nat.ble (((2:Nat) * ((0:Nat) + List.length x2 + List.length x2') + (192:Nat)) * (16:Nat)) (281474976710656:Nat) && Nat.ble ((0:Nat) + List.length x2 + List.length x2') (281474976710656:Nat):Bool))
                (Tr.test ((Nat.beq ((0:Nat) + List.length x2) (List.length ([]++x2)):Bool))
                  (Tr.test ((Nat.beq ((0:Nat) + List.length x2 + List.length x2') (List.length ([]++x2++x2')):Bool))
                    (Tr.test (Option.isSome (l34_0_1 ((x1,(([]++x2++x2':List (Int×Int×PUnit)),((0:Int),()))),((x0,(x0',())),((x2,(x2',(x2'',()))),())))))
                      (Tr.test (isRet (l34_0_1 ((x1,(([]++x2++x2':List (Int×Int×PUnit)),((0:Int),()))),((x0,(x0',())),((x2,(x2',(x2'',()))),())))))
                        (let r10:=r34_0_1 ((x1,(([]++x2++x2':List (Int×Int×PUnit)),((0:Int),()))),((x0,(x0',())),((x2,(x2',(x2'',()))),())));
                        Tr.fin ((r10.1.1,(r10.1.2.1,()))))
                        (let r11:=b34_0_1 ((x1,(([]++x2++x2':List (Int×Int×PUnit)),((0:Int),()))),((x0,(x0',())),((x2,(x2',(x2'',()))),())));
                        Tr.test (Option.isSome (f92 ((r11.2.1.1,(r11.2.1.2.1,())),(r11.1.1,()))))
                          (let r12:=g92 ((r11.2.1.1,(r11.2.1.2.1,())),(r11.1.1,()));
                          Tr.test ((!eqF r11.2.2.1.2.2.1 r12.1:Bool))
                            (Tr.fin (((0:Int),((13:Int),()))))
                            (Tr.test (Option.isSome (l34_2 ((r11.1.1,(r11.1.2.1,((0:Int),()))),((r11.2.1.1,(r11.2.1.2.1,())),((r11.2.2.1.1,(r11.2.2.1.2.1,(r11.2.2.1.2.2.1,()))),())))))
                              (Tr.test (isRet (l34_2 ((r11.1.1,(r11.1.2.1,((0:Int),()))),((r11.2.1.1,(r11.2.1.2.1,())),((r11.2.2.1.1,(r11.2.2.1.2.1,(r11.2.2.1.2.2.1,()))),())))))
                                (let r13:=r34_2 ((r11.1.1,(r11.1.2.1,((0:Int),()))),((r11.2.1.1,(r11.2.1.2.1,())),((r11.2.2.1.1,(r11.2.2.1.2.1,(r11.2.2.1.2.2.1,()))),())));
                                Tr.fin ((r13.1.1,(r13.1.2.1,()))))
                                (Tr.fin (((0:Int),((0:Int),())))))
                              (Tr.stop)))
                          (Tr.stop)))
                      (Tr.stop))
                    (Tr.stop))
                  (Tr.stop))
                (Tr.stop)))
            (Tr.stop)))))
def f34 (d:Tys.data as34):Option (Tys.data rs34):=(t34 d.1.1 d.1.2.1 d.2.1 d.2.2.1.1 d.2.2.1.2.1 d.2.2.1.2.2.1).val
def g34 (d:Tys.data as34):Tys.data rs34:=(f34 d).getD (Tys.dflt rs34)
def p34:PureC:=pcOf as34 rs34 f34 g34
theorem wk34 (x0:(List Int)) (x0':(List Int)) (x1:Int) (x2:(List (Int×(Int×Unit)))) (x2':(List (Int×(Int×Unit)))) (x2'':Int):Walks (runPure (kl34_2 Go.Proofs.Tryz.prog).orc Go.Proofs.Tryz.prog 400 34 as34 rs34 ((x0,x0',()),x1,(x2,x2',x2'',()),())) (t34 x0 x0' x1 x2 x2' x2'') [([tt],[1,2,2,2,2,2,2,2,2,2,2,2]),([false,true],[2,4,4,4,4,4,4,4,4,4,4,4]),([false,false,true,false,false,true,true,true,true],[2,4,6,8,10,12,14,16,18,18,18,18,18,18,18,18,18,18,18]),([false,false,true,false,false,true,true,true,false,true,true],[2,4,6,8,10,12,14,16,18,20,22,22,22,22,22,22,22,22,22,22,22]),([false,false,true,false,false,true,true,true,false,true,false,true,true],[2,4,6,8,10,12,14,16,18,20,22,24,26,26,26,26,26,26,26,26,26,26,26]),([false,false,true,false,false,true,true,true,false,true,false,true,false],[2,4,6,8,10,12,14,16,18,20,22,24,26,26,26,26,26,26,26,26,26,26,26]),([false,false,false,false,true,true,true,true,true],[2,4,6,8,10,12,14,16,18,18,18,18,18,18,18,18,18,18,18]),([false,false,false,false,true,true,true,true,false,true,true],[2,4,6,8,10,12,14,16,18,20,22,22,22,22,22,22,22,22,22,22,22]),([false,false,false,false,true,true,true,true,false,true,false,true,true],[2,4,6,8,10,12,14,16,18,20,22,24,26,26,26,26,26,26,26,26,26,26,26]),([false,false,false,false,true,true,true,true,false,true,false,true,false],[2,4,6,8,10,12,14,16,18,20,22,24,26,26,26,26,26,26,26,26,26,26,26]),([false,false,false,false,true,false,true,true,true,true,true],[2,4,6,8,10,12,14,16,18,20,22,22,22,22,22,22,22,22,22,22,22]),([false,false,false,false,true,false,true,true,true,true,false,true,true],[2,4,6,8,10,12,14,16,18,20,22,24,26,26,26,26,26,26,26,26,26,26,26]),([false,false,false,false,true,false,true,true,true,true,false,true,false,true,true],[2,4,6,8,10,12,14,16,18,20,22,24,26,28,30,30,30,30,30,30,30,30,30,30,30]),([false,false,false,false,true,false,true,true,true,true,false,true,false,true,false],[2,4,6,8,10,12,14,16,18,20,22,24,26,28,30,30,30,30,30,30,30,30,30,30,30])] :=
  ⟨by kernel_rfl,by kernel_rfl,by kernel_rfl,by kernel_rfl,by kernel_rfl,by kernel_rfl,by kernel_rfl,by kernel_rfl,by kernel_rfl,by kernel_rfl,by kernel_rfl,by kernel_rfl,by kernel_rfl,by kernel_rfl,trivial⟩
theorem ok34_t (x0:(List Int)) (x0':(List Int)) (x1:Int) (x2:(List (Int×(Int×Unit)))) (x2':(List (Int×(Int×Unit)))) (x2'':Int):TrOk (PureRuns Go.Proofs.Tryz.prog (kl34_2 Go.Proofs.Tryz.prog).orc 34 as34 rs34 ((x0,x0',()),x1,(x2,x2',x2'',()),())) (t34 x0 x0' x1 x2 x2' x2'') :=
  Walks.ok (fun _ _ _=>PureRuns.of) (wk34 x0 x0' x1 x2 x2' x2'') (by kernel_rfl)
theorem ok34:PureOk Go.Proofs.Tryz.prog 34 p34:=pureOk_of kl34_2_ok.base (T:=fun (d:Tys.data as34)=>t34 d.1.1 d.1.2.1 d.2.1 d.2.2.1.1 d.2.2.1.2.1 d.2.2.1.2.2.1) (by kernel_rfl) (fun (d:Tys.data as34)=>ok34_t d.1.1 d.1.2.1 d.2.1 d.2.2.1.1 d.2.2.1.2.1 d.2.2.1.2.2.1)
def kf34 (P:Go.Program):Known:=(kl34_2 P).func 34 p34
theorem kf34_ok:KnownOk Go.Proofs.Tryz.prog (kf34 Go.Proofs.Tryz.prog):=kl34_2_ok.func ok34
abbrev as4:List Ty:=[(.pair (.slice (.int .i64)) (.pair (.slice (.int .i64)) .unit)),(.int .i64),(.pair (.slice (.pair (.int .i64) (.pair (.int .i64) .unit))) (.pair (.slice (.pair (.int .i64) (.pair (.int .i64) .unit))) (.pair (.int .i64) .unit)))]
abbrev rs4:List Ty:=[.bool]
def t4 (x0:(List Int)) (x0':(List Int)) (x1:Int) (x2:(List (Int×(Int×Unit)))) (x2':(List (Int×(Int×Unit)))) (x2'':Int):Tr (Tys.data rs4) :=
  Tr.test ((!leF (↑(List.length x0):Int) (8:Int):Bool))
    (Tr.fin ((true,())))
    (Tr.test (!leF (↑(List.length x0'):Int) (8:Int))
      (Tr.fin (((true:Bool),())))
      (Tr.test ((!leF (↑(List.length x2):Int) (8:Int):Bool))
        (Tr.fin (((true:Bool),())))
        (Tr.test ((!leF (↑(List.length x2'):Int) (8:Int):Bool))
          (Tr.fin (((true:Bool),())))
          (Tr.test (Option.isSome (f21 ((x0,(x0',())),())))
            (let r0:=g21 ((x0,(x0',())),());
            Tr.test (Option.isSome (f20 ((r0.1.1,(r0.1.2.1,())),())))
              (Tr.test (Option.isSome (f22 ((r0.1.1,(r0.1.2.1,())),())))
                (Tr.test (Option.isSome (f23 ((r0.1.1,(r0.1.2.1,())),(x1,()))))
                  (Tr.test (Option.isSome (f25 ((x2,(x2',(x2'',()))),())))
                    (let r4:=g25 ((x2,(x2',(x2'',()))),());
                    Tr.test (Option.isSome (f24 ((r0.1.1,(r0.1.2.1,())),(x1,((r4.1.1,(r4.1.2.1,(r4.1.2.2.1,()))),())))))
                      (Tr.test (Option.isSome (f26 ((r0.1.1,(r0.1.2.1,())),())))
                        (Tr.test (Option.isSome (f27 ((x0,(x0',())),())))
                          (let r1:=g20 ((r0.1.1,(r0.1.2.1,())),());
                          let r7:=g27 ((x0,(x0',())),());
                          Tr.test ((!eqF r1.2.1 r7.2.1:Bool))
                            (Tr.fin (((false:Bool),())))
                            (Tr.test ((!eqF r1.1 r7.1:Bool))
                              (Tr.fin (((false:Bool),())))
                              (Tr.test ((!eqF r7.2.1 0:Bool))
                                (let r2:=g22 ((r0.1.1,(r0.1.2.1,())),());
                                Tr.test ((eqF r2.2.1 r7.2.1:Bool))
                                  (let r3:=g23 ((r0.1.1,(r0.1.2.1,())),(x1,()));
                                  Tr.test ((eqF r3.2.1 r7.2.1:Bool))
                                    (let r5:=g24 ((r0.1.1,(r0.1.2.1,())),(x1,((r4.1.1,(r4.1.2.1,(r4.1.2.2.1,()))),())));
                                    Tr.test ((eqF r5.2.1 r7.2.1:Bool))
                                      (let r6:=g26 ((r0.1.1,(r0.1.2.1,())),());
                                      Tr.test ((eqF r6.2.1 r7.2.1:Bool))
                                        (Tr.test ((eqF (↑(List.length r2.1):Int) (0:Int):Bool))
                                          (Tr.test (Option.isSome (f28 ((r3.1.1,(r3.1.2.1,(r3.1.2.2.1,()))),((([]:List (Int×Int×PUnit)),(([]:List (Int×Int×PUnit)),((0:Int),()))),()))))
                                            (let r8:=g28 ((r3.1.1,(r3.1.2.1,(r3.1.2.2.1,()))),((([]:List (Int×Int×PUnit)),(([]:List (Int×Int×PUnit)),((0:Int),()))),()));
                                            Tr.test (r8.1)
                                              (Tr.test ((eqF r5.1 0:Bool))
                                                (Tr.fin (((r6.1.1 == (0:Int) && (r6.1.2.1 == (0:Int) && true):Bool),())))
                                                (Tr.fin (((false:Bool),()))))
                                              (Tr.fin (((false:Bool),()))))
                                            (Tr.stop))
                                          (Tr.fin (((false:Bool),()))))
                                        (Tr.fin (((false:Bool),()))))
                                      (Tr.fin (((false:Bool),()))))
                                    (Tr.fin (((false:Bool),()))))
                                  (Tr.fin (((false:Bool),()))))
                                (let r6:=g26 ((r0.1.1,(r0.1.2.1,())),());
                                Tr.test ((!eqF r6.2.1 0:Bool))
                                  (Tr.fin (((false:Bool),())))
                                  (Tr.test (Option.isSome (f29 ((x0,(x0',())),())))
                                    (let r9:=g29 ((x0,(x0',())),());
                                    Tr.test ((!(r6.1.1 == r9.1.1 && (r6.1.2.1 == r9.1.2.1 && true)):Bool))
                                      (Tr.fin (((false:Bool),())))
                                      (Tr.test (Option.isSome (f30 ((x0,(x0',())),())))
                                        (let r10:=g30 ((x0,(x0',())),());
                                        Tr.test (r10.2.1)
                                          (let r2:=g22 ((r0.1.1,(r0.1.2.1,())),());
                                          Tr.test ((!eqF r2.2.1 0:Bool))
                                            (Tr.fin (((false:Bool),())))
                                            (Tr.test (Option.isSome (f31 (r2.1,(r10.1,()))))
                                              (let r11:=g31 (r2.1,(r10.1,()));
                                              Tr.test ((!r11.1:Bool))
                                                (Tr.fin (((false:Bool),())))
                                                (Tr.test (Option.isSome (f32 (x1,((0:Int),((wrap64 ((↑(List.length x0):Int) - (1:Int)):Int),())))))
                                                  (let r12:=g32 (x1,((0:Int),((wrap64 ((↑(List.length x0):Int) - (1:Int)):Int),())));
                                                  Tr.test ((!r12.1:Bool))
                                                    (let r3:=g23 ((r0.1.1,(r0.1.2.1,())),(x1,()));
                                                    Tr.test ((eqF r3.2.1 6:Bool))
                                                      (let r5:=g24 ((r0.1.1,(r0.1.2.1,())),(x1,((r4.1.1,(r4.1.2.1,(r4.1.2.2.1,()))),())));
                                                      Tr.test ((eqF r5.2.1 6:Bool))
                                                        (Tr.test (Option.isSome (f28 ((r3.1.1,(r3.1.2.1,(r3.1.2.2.1,()))),((([]:List (Int×Int×PUnit)),(([]:List (Int×Int×PUnit)),((0:Int),()))),()))))
                                                          (let r8:=g28 ((r3.1.1,(r3.1.2.1,(r3.1.2.2.1,()))),((([]:List (Int×Int×PUnit)),(([]:List (Int×Int×PUnit)),((0:Int),()))),()));
                                                          Tr.test (r8.1)
                                                            (Tr.fin (((eqF r5.1 0:Bool),())))
                                                            (Tr.fin (((false:Bool),()))))
                                                          (Tr.stop))
                                                        (Tr.fin (((false:Bool),()))))
                                                      (Tr.fin (((false:Bool),()))))
                                                    (Tr.test (Option.isSome (f33 ((x0,(x0',())),(x1,()))))
                                                      (let r13:=g33 ((x0,(x0',())),(x1,()));
                                                      Tr.test (r13.2.1)
                                                        (let r3:=g23 ((r0.1.1,(r0.1.2.1,())),(x1,()));
                                                        Tr.test ((!eqF r3.2.1 0:Bool))
                                                          (Tr.fin (((false:Bool),())))
                                                          (Tr.test (Option.isSome (f28 ((r3.1.1,(r3.1.2.1,(r3.1.2.2.1,()))),((r13.1.1,(r13.1.2.1,(r13.1.2.2.1,()))),()))))
                                                            (let r14:=g28 ((r3.1.1,(r3.1.2.1,(r3.1.2.2.1,()))),((r13.1.1,(r13.1.2.1,(r13.1.2.2.1,()))),()));
                                                            Tr.test ((!r14.1:Bool))
                                                              (Tr.fin (((false:Bool),())))
                                                              (Tr.test (Option.isSome (f34 ((x0,(x0',())),(x1,((x2,(x2',(x2'',()))),())))))
                                                                (let r5:=g24 ((r0.1.1,(r0.1.2.1,())),(x1,((r4.1.1,(r4.1.2.1,(r4.1.2.2.1,()))),())));
                                                                let r15:=g34 ((x0,(x0',())),(x1,((x2,(x2',(x2'',()))),())));
                                                                Tr.test ((eqF r5.2.1 r15.2.1:Bool))
                                                                  (Tr.fin (((eqF r5.1 r15.1:Bool),())))
                                                                  (Tr.fin (((false:Bool),()))))
                                                                (Tr.stop)))
                                                            (Tr.stop)))
                                                        (let r3:=g23 ((r0.1.1,(r0.1.2.1,())),(x1,()));
                                                        Tr.test ((!eqF r3.2.1 8:Bool))
                                                          (Tr.fin (((false:Bool),())))
                                                          (Tr.test (Option.isSome (f28 ((r3.1.1,(r3.1.2.1,(r3.1.2.2.1,()))),((([]:List (Int×Int×PUnit)),(([]:List (Int×Int×PUnit)),((0:Int),()))),()))))
                                                            (let r8:=g28 ((r3.1.1,(r3.1.2.1,(r3.1.2.2.1,()))),((([]:List (Int×Int×PUnit)),(([]:List (Int×Int×PUnit)),((0:Int),()))),()));
                                                            Tr.test ((!r8.1:Bool))
                                                              (Tr.fin (((false:Bool),())))
                                                              (Tr.test (Option.isSome (f34 ((x0,(x0',())),(x1,((x2,(x2',(x2'',()))),())))))
                                                                (let r5:=g24 ((r0.1.1,(r0.1.2.1,())),(x1,((r4.1.1,(r4.1.2.1,(r4.1.2.2.1,()))),())));
                                                                let r15:=g34 ((x0,(x0',())),(x1,((x2,(x2',(x2'',()))),())));
                                                                Tr.test ((eqF r5.2.1 r15.2.1:Bool))
                                                                  (Tr.fin (((eqF r5.1 r15.1:Bool),())))
                                                                  (Tr.fin (((false:Bool),()))))
                                                                (Tr.stop)))
                                                            (Tr.stop))))
                                                      (Tr.stop)))
                                                  (Tr.stop)))
                                              (Tr.stop)))
                                          (let r2:=g22 ((r0.1.1,(r0.1.2.1,())),());
                                          Tr.test ((!eqF r2.2.1 8:Bool))
                                            (Tr.fin (((false:Bool),())))
                                            (Tr.test ((!eqF (↑(List.length r2.1):Int) (0:Int):Bool))
                                              (Tr.fin (((false:Bool),())))
                                              (Tr.test (Option.isSome (f32 (x1,((0:Int),((wrap64 ((↑(List.length x0):Int) - (1:Int)):Int),())))))
                                                (let r12:=g32 (x1,((0:Int),((wrap64 ((↑(List.length x0):Int) - (1:Int)):Int),())));
                                                Tr.test ((!r12.1:Bool))
                                                  (let r3:=g23 ((r0.1.1,(r0.1.2.1,())),(x1,()));
                                                  Tr.test ((eqF r3.2.1 6:Bool))
                                                    (let r5:=g24 ((r0.1.1,(r0.1.2.1,())),(x1,((r4.1.1,(r4.1.2.1,(r4.1.2.2.1,()))),())));
                                                    Tr.test ((eqF r5.2.1 6:Bool))
                                                      (Tr.test (Option.isSome (f28 ((r3.1.1,(r3.1.2.1,(r3.1.2.2.1,()))),((([]:List (Int×Int×PUnit)),(([]:List (Int×Int×PUnit)),((0:Int),()))),()))))
                                                        (let r8:=g28 ((r3.1.1,(r3.1.2.1,(r3.1.2.2.1,()))),((([]:List (Int×Int×PUnit)),(([]:List (Int×Int×PUnit)),((0:Int),()))),()));
                                                        Tr.test (r8.1)
                                                          (Tr.fin (((eqF r5.1 0:Bool),())))
                                                          (Tr.fin (((false:Bool),()))))
                                                        (Tr.stop))
                                                      (Tr.fin (((false:Bool),()))))
                                                    (Tr.fin (((false:Bool),()))))
                                                  (Tr.test (Option.isSome (f33 ((x0,(x0',())),(x1,()))))
                                                    (let r13:=g33 ((x0,(x0',())),(x1,()));
                                                    Tr.test (r13.2.1)
                                                      (let r3:=g23 ((r0.1.1,(r0.1.2.1,())),(x1,()));
                                                      Tr.test ((!eqF r3.2.1 0:Bool))
                                                        (Tr.fin (((false:Bool),())))
                                                        (Tr.test (Option.isSome (f28 ((r3.1.1,(r3.1.2.1,(r3.1.2.2.1,()))),((r13.1.1,(r13.1.2.1,(r13.1.2.2.1,()))),()))))
                                                          (let r14:=g28 ((r3.1.1,(r3.1.2.1,(r3.1.2.2.1,()))),((r13.1.1,(r13.1.2.1,(r13.1.2.2.1,()))),()));
                                                          Tr.test ((!r14.1:Bool))
                                                            (Tr.fin (((false:Bool),())))
                                                            (Tr.test (Option.isSome (f34 ((x0,(x0',())),(x1,((x2,(x2',(x2'',()))),())))))
                                                              (let r5:=g24 ((r0.1.1,(r0.1.2.1,())),(x1,((r4.1.1,(r4.1.2.1,(r4.1.2.2.1,()))),())));
                                                              let r15:=g34 ((x0,(x0',())),(x1,((x2,(x2',(x2'',()))),())));
                                                              Tr.test ((eqF r5.2.1 r15.2.1:Bool))
                                                                (Tr.fin (((eqF r5.1 r15.1:Bool),())))
                                                                (Tr.fin (((false:Bool),()))))
                                                              (Tr.stop)))
                                                          (Tr.stop)))
                                                      (let r3:=g23 ((r0.1.1,(r0.1.2.1,())),(x1,()));
                                                      Tr.test ((!eqF r3.2.1 8:Bool))
                                                        (Tr.fin (((false:Bool),())))
                                                        (Tr.test (Option.isSome (f28 ((r3.1.1,(r3.1.2.1,(r3.1.2.2.1,()))),((([]:List (Int×Int×PUnit)),(([]:List (Int×Int×PUnit)),((0:Int),()))),()))))
                                                          (let r8:=g28 ((r3.1.1,(r3.1.2.1,(r3.1.2.2.1,()))),((([]:List (Int×Int×PUnit)),(([]:List (Int×Int×PUnit)),((0:Int),()))),()));
                                                          Tr.test ((!r8.1:Bool))
                                                            (Tr.fin (((false:Bool),())))
                                                            (Tr.test (Option.isSome (f34 ((x0,(x0',())),(x1,((x2,(x2',(x2'',()))),())))))
                                                              (let r5:=g24 ((r0.1.1,(r0.1.2.1,())),(x1,((r4.1.1,(r4.1.2.1,(r4.1.2.2.1,()))),())));
                                                              let r15:=g34 ((x0,(x0',())),(x1,((x2,(x2',(x2'',()))),())));
                                                              Tr.test ((eqF r5.2.1 r15.2.1:Bool))
                                                                (Tr.fin (((eqF r5.1 r15.1:Bool),())))
                                                                (Tr.fin (((false:Bool),()))))
                                                              (Tr.stop)))
                                                          (Tr.stop))))
                                                    (Tr.stop)))
                                                (Tr.stop)))))
                                        (Tr.stop)))
                                    (Tr.stop))))))
                          (Tr.stop))
                        (Tr.stop))
                      (Tr.stop))
                    (Tr.stop))
                  (Tr.stop))
                (Tr.stop))
              (Tr.stop))
            (Tr.stop)))))
def f4 (d:Tys.data as4):Option (Tys.data rs4):=(t4 d.1.1 d.1.2.1 d.2.1 d.2.2.1.1 d.2.2.1.2.1 d.2.2.1.2.2.1).val
def g4 (d:Tys.data as4):Tys.data rs4:=(f4 d).getD (Tys.dflt rs4)
def p4:PureC:=pcOf as4 rs4 f4 g4
theorem wk4 (x0:(List Int)) (x0':(List Int)) (x1:Int) (x2:(List (Int×(Int×Unit)))) (x2':(List (Int×(Int×Unit)))) (x2'':Int):Walks (runPure (kf34 Go.Proofs.Tryz.prog).orc Go.Proofs.Tryz.prog 400 4 as4 rs4 ((x0,x0',()),x1,(x2,x2',x2'',()),())) (t4 x0 x0' x1 x2 x2' x2'') [([tt],[1,1,1,1,1,1,1,1,1,1,1,2,2,2,2,2,0,1]),([false,true],[1,1,1,1,1,1,2,2,2,2,2,4,4,4,4,4,0,1]),([false,false,true],[1,2,2,2,2,2,4,4,4,4,4,6,6,6,6,6,0,1]),([false,false,false,true],[2,4,4,4,4,4,6,6,6,6,6,8,8,8,8,8,0,1]),([false,false,false,false,true,true,true,true,true,true,true,true,true],[1,2,2,2,2,4,6,18,8,10,18,12,18,14,18,16,18,20,22,22,22,22,22,24,24,24,24,24,26,26,26,26,26,0,1]),([false,false,false,false,true,true,true,true,true,true,true,true,false,true],[2,4,4,4,4,6,8,20,10,12,20,14,20,16,20,18,20,22,24,24,24,24,24,26,26,26,26,26,28,28,28,28,28,0,1]),([false,false,false,false,true,true,true,true,true,true,true,true,false,false,true,true,true,true,true,true,true,true,true],[2,2,2,2,4,4,4,8,6,8,8,8,10,10,10,10,12,12,12,12,14,14,14,14,16,16,16,16,18,20,22,22,22,22,24,26,38,28,30,38,32,38,34,38,36,38,40,42,42,42,42,42,44,44,44,44,44,46,46,46,46,46,0,1]),([false,false,false,false,true,true,true,true,true,true,true,true,false,false,true,true,true,true,true,true,true,true,false],[2,2,2,2,4,4,4,8,6,8,8,8,10,10,10,10,12,12,12,12,14,14,14,14,16,16,16,16,18,20,22,22,22,22,24,26,38,28,30,38,32,38,34,38,36,38,40,42,42,42,42,42,44,44,44,44,44,46,46,46,46,46,0,1]),([false,false,false,false,true,true,true,true,true,true,true,true,false,false,true,true,true,true,true,true,true,false],[0,0,0,0,2,2,2,6,4,6,6,6,8,8,8,8,10,10,10,10,12,12,12,12,14,14,14,14,16,18,20,20,20,20,22,24,36,26,28,36,30,36,32,36,34,36,38,40,40,40,40,40,42,42,42,42,42,44,44,44,44,44,0,1]),([false,false,false,false,true,true,true,true,true,true,true,true,false,false,true,true,true,true,true,false],[0,0,0,0,0,0,0,2,2,2,2,4,4,4,4,6,6,6,6,8,8,8,8,10,10,10,10,12,14,16,16,16,16,18,20,32,22,24,32,26,32,28,32,30,32,34,36,36,36,36,36,38,38,38,38,38,40,40,40,40,40,0,1]),([false,false,false,false,true,true,true,true,true,true,true,true,false,false,true,true,true,true,false],[0,0,0,0,0,0,0,0,0,0,0,2,2,2,2,4,4,4,4,6,6,6,6,8,8,8,8,10,12,14,14,14,14,16,18,30,20,22,30,24,30,26,30,28,30,32,34,34,34,34,34,36,36,36,36,36,38,38,38,38,38,0,1]),([false,false,false,false,true,true,true,true,true,true,true,true,false,false,true,true,true,false],[0,0,0,0,0,0,0,0,0,0,0,0,0,0,0,2,2,2,2,4,4,4,4,6,6,6,6,8,10,12,12,12,12,14,16,28,18,20,28,22,28,24,28,26,28,30,32,32,32,32,32,34,34,34,34,34,36,36,36,36,36,0,1]),([false,false,false,false,true,true,true,true,true,true,true,true,false,false,true,true,false],[0,0,0,0,0,0,0,0,0,0,0,0,0,0,0,0,0,0,0,2,2,2,2,4,4,4,4,6,8,10,10,10,10,12,14,26,16,18,26,20,26,22,26,24,26,28,30,30,30,30,30,32,32,32,32,32,34,34,34,34,34,0,1]),([false,false,false,false,true,true,true,true,true,true,true,true,false,false,true,false],[0,0,0,0,0,0,0,0,0,0,0,0,0,0,0,0,0,0,0,0,0,0,0,2,2,2,2,4,6,8,8,8,8,10,12,24,14,16,24,18,24,20,24,22,24,26,28,28,28,28,28,30,30,30,30,30,32,32,32,32,32,0,1]),([false,false,false,false,true,true,true,true,true,true,true,true,false,false,false,true],[1,2,2,2,2,2,4,6,8,8,8,8,10,12,24,14,16,24,18,24,20,24,22,24,26,28,28,28,28,28,30,30,30,30,30,32,32,32,32,32,0,1]),([false,false,false,false,true,true,true,true,true,true,true,true,false,false,false,false,true,true],[2,6,6,4,6,6,6,8,10,12,12,12,12,14,16,28,18,20,28,22,28,24,28,26,28,30,32,32,32,32,32,34,34,34,34,34,36,36,36,36,36,0,1]),([false,false,false,false,true,true,true,true,true,true,true,true,false,false,false,false,true,false,true,true,true],[1,1,1,1,1,1,4,2,4,2,2,2,2,4,4,4,6,8,12,12,10,12,12,12,14,16,18,18,18,18,20,22,34,24,26,34,28,34,30,34,32,34,36,38,38,38,38,38,40,40,40,40,40,42,42,42,42,42,0,1]),([false,false,false,false,true,true,true,true,true,true,true,true,false,false,false,false,true,false,true,true,false,true,true],[1,2,2,2,2,2,8,6,8,6,4,6,6,6,8,8,8,10,12,16,16,14,16,16,16,18,20,22,22,22,22,24,26,38,28,30,38,32,38,34,38,36,38,40,42,42,42,42,42,44,44,44,44,44,46,46,46,46,46,0,1]),([false,false,false,false,true,true,true,true,true,true,true,true,false,false,false,false,true,false,true,true,false,true,false,true,true,true,true,true,true],[2,2,2,6,4,6,6,6,8,8,8,10,12,0,14,21,14,21,21,21,21,14,14,14,20,18,20,18,16,18,18,18,20,20,20,22,24,28,28,26,28,28,28,30,32,34,34,34,34,36,38,50,40,42,50,44,50,46,50,48,50,52,54,54,54,54,54,56,56,56,56,56,58,58,58,58,58,0,1]),([false,false,false,false,true,true,true,true,true,true,true,true,false,false,false,false,true,false,true,true,false,true,false,true,true,true,true,true,false],[2,2,2,6,4,6,6,6,8,8,8,10,12,0,14,21,14,21,21,21,21,14,14,14,20,18,20,18,16,18,18,18,20,20,20,22,24,28,28,26,28,28,28,30,32,34,34,34,34,36,38,50,40,42,50,44,50,46,50,48,50,52,54,54,54,54,54,56,56,56,56,56,58,58,58,58,58,0,1]),([false,false,false,false,true,true,true,true,true,true,true,true,false,false,false,false,true,false,true,true,false,true,false,true,true,true,false],[0,0,0,2,2,2,2,4,4,4,6,8,0,10,17,10,17,17,17,17,10,10,10,16,14,16,14,12,14,14,14,16,16,16,18,20,24,24,22,24,24,24,26,28,30,30,30,30,32,34,46,36,38,46,40,46,42,46,44,46,48,50,50,50,50,50,52,52,52,52,52,54,54,54,54,54,0,1]),([false,false,false,false,true,true,true,true,true,true,true,true,false,false,false,false,true,false,true,true,false,true,false,true,true,false],[0,0,0,0,0,0,0,2,2,2,4,6,0,8,15,8,15,15,15,15,8,8,8,14,12,14,12,10,12,12,12,14,14,14,16,18,22,22,20,22,22,22,24,26,28,28,28,28,30,32,44,34,36,44,38,44,40,44,42,44,46,48,48,48,48,48,50,50,50,50,50,52,52,52,52,52,0,1]),([false,false,false,false,true,true,true,true,true,true,true,true,false,false,false,false,true,false,true,true,false,true,false,true,false,true,true,true],[1,1,1,1,1,1,4,2,4,2,2,2,2,4,4,4,6,8,10,0,12,19,12,19,19,19,19,12,12,12,18,16,18,16,14,16,16,16,18,18,18,20,22,26,26,24,26,26,26,28,30,32,32,32,32,34,36,48,38,40,48,42,48,44,48,46,48,50,52,52,52,52,52,54,54,54,54,54,56,56,56,56,56,0,1]),([false,false,false,false,true,true,true,true,true,true,true,true,false,false,false,false,true,false,true,true,false,true,false,true,false,true,true,false,true,true],[1,2,2,2,2,2,8,6,8,6,4,6,6,6,8,8,8,10,12,14,0,16,23,16,23,23,23,23,16,16,16,22,20,22,20,18,20,20,20,22,22,22,24,26,30,30,28,30,30,30,32,34,36,36,36,36,38,40,52,42,44,52,46,52,48,52,50,52,54,56,56,56,56,56,58,58,58,58,58,60,60,60,60,60,0,1]),([false,false,false,false,true,true,true,true,true,true,true,true,false,false,false,false,true,false,true,true,false,true,false,true,false,true,true,false,true,false,true,true],[2,2,2,2,4,0,6,13,6,13,13,13,13,6,6,6,12,10,12,10,8,10,10,10,12,12,12,14,16,18,0,20,27,20,27,27,27,27,20,20,20,26,24,26,24,22,24,24,24,26,26,26,28,30,34,34,32,34,34,34,36,38,40,40,40,40,42,44,56,46,48,56,50,56,52,56,54,56,58,60,60,60,60,60,62,62,62,62,62,64,64,64,64,64,0,1]),([false,false,false,false,true,true,true,true,true,true,true,true,false,false,false,false,true,false,true,true,false,true,false,true,false,true,true,false,true,false,true,false],[2,2,2,2,4,0,6,13,6,13,13,13,13,6,6,6,12,10,12,10,8,10,10,10,12,12,12,14,16,18,0,20,27,20,27,27,27,27,20,20,20,26,24,26,24,22,24,24,24,26,26,26,28,30,34,34,32,34,34,34,36,38,40,40,40,40,42,44,56,46,48,56,50,56,52,56,54,56,58,60,60,60,60,60,62,62,62,62,62,64,64,64,64,64,0,1]),([false,false,false,false,true,true,true,true,true,true,true,true,false,false,false,false,true,false,true,true,false,true,false,true,false,true,false,true],[1,0,5,0,2,5,2,2,2,2,5,5,5,0,0,0,4,4,4,4,4,6,8,10,0,12,19,12,19,19,19,19,12,12,12,18,16,18,16,14,16,16,16,18,18,18,20,22,26,26,24,26,26,26,28,30,32,32,32,32,34,36,48,38,40,48,42,48,44,48,46,48,50,52,52,52,52,52,54,54,54,54,54,56,56,56,56,56,0,1]),([false,false,false,false,true,true,true,true,true,true,true,true,false,false,false,false,true,false,true,true,false,true,false,true,false,true,false,false,true,true],[2,0,9,0,6,9,6,4,6,6,6,9,9,9,0,0,0,8,8,8,8,8,10,12,14,0,16,23,16,23,23,23,23,16,16,16,22,20,22,20,18,20,20,20,22,22,22,24,26,30,30,28,30,30,30,32,34,36,36,36,36,38,40,52,42,44,52,46,52,48,52,50,52,54,56,56,56,56,56,58,58,58,58,58,60,60,60,60,60,0,1]),([false,false,false,false,true,true,true,true,true,true,true,true,false,false,false,false,true,false,true,true,false,true,false,true,false,true,false,false,true,false,true,true],[2,2,2,2,4,6,0,13,0,10,13,10,8,10,10,10,13,13,13,0,0,0,12,12,12,12,12,14,16,18,0,20,27,20,27,27,27,27,20,20,20,26,24,26,24,22,24,24,24,26,26,26,28,30,34,34,32,34,34,34,36,38,40,40,40,40,42,44,56,46,48,56,50,56,52,56,54,56,58,60,60,60,60,60,62,62,62,62,62,64,64,64,64,64,0,1]),([false,false,false,false,true,true,true,true,true,true,true,true,false,false,false,false,true,false,true,true,false,true,false,true,false,true,false,false,true,false,true,false],[2,2,2,2,4,6,0,13,0,10,13,10,8,10,10,10,13,13,13,0,0,0,12,12,12,12,12,14,16,18,0,20,27,20,27,27,27,27,20,20,20,26,24,26,24,22,24,24,24,26,26,26,28,30,34,34,32,34,34,34,36,38,40,40,40,40,42,44,56,46,48,56,50,56,52,56,54,56,58,60,60,60,60,60,62,62,62,62,62,64,64,64,64,64,0,1]),([false,false,false,false,true,true,true,true,true,true,true,true,false,false,false,false,true,false,true,false,true],[1,0,5,0,2,5,2,2,2,5,5,5,0,0,0,4,4,4,4,4,6,8,12,12,10,12,12,12,14,16,18,18,18,18,20,22,34,24,26,34,28,34,30,34,32,34,36,38,38,38,38,38,40,40,40,40,40,42,42,42,42,42,0,1]),([false,false,false,false,true,true,true,true,true,true,true,true,false,false,false,false,true,false,true,false,false,true],[2,0,7,0,4,7,4,4,4,7,7,7,0,0,0,6,6,6,6,6,8,10,14,14,12,14,14,14,16,18,20,20,20,20,22,24,36,26,28,36,30,36,32,36,34,36,38,40,40,40,40,40,42,42,42,42,42,44,44,44,44,44,0,1]),([false,false,false,false,true,true,true,true,true,true,true,true,false,false,false,false,true,false,true,false,false,false,true,true,true,true,true,true],[2,2,2,6,4,6,6,6,8,8,8,10,12,14,0,19,0,16,19,16,16,16,19,19,19,0,0,0,18,18,18,18,18,20,22,26,26,24,26,26,26,28,30,32,32,32,32,34,36,48,38,40,48,42,48,44,48,46,48,50,52,52,52,52,52,54,54,54,54,54,56,56,56,56,56,0,1]),([false,false,false,false,true,true,true,true,true,true,true,true,false,false,false,false,true,false,true,false,false,false,true,true,true,true,true,false],[2,2,2,6,4,6,6,6,8,8,8,10,12,14,0,19,0,16,19,16,16,16,19,19,19,0,0,0,18,18,18,18,18,20,22,26,26,24,26,26,26,28,30,32,32,32,32,34,36,48,38,40,48,42,48,44,48,46,48,50,52,52,52,52,52,54,54,54,54,54,56,56,56,56,56,0,1]),([false,false,false,false,true,true,true,true,true,true,true,true,false,false,false,false,true,false,true,false,false,false,true,true,true,false],[0,0,0,2,2,2,2,4,4,4,6,8,10,0,15,0,12,15,12,12,12,15,15,15,0,0,0,14,14,14,14,14,16,18,22,22,20,22,22,22,24,26,28,28,28,28,30,32,44,34,36,44,38,44,40,44,42,44,46,48,48,48,48,48,50,50,50,50,50,52,52,52,52,52,0,1]),([false,false,false,false,true,true,true,true,true,true,true,true,false,false,false,false,true,false,true,false,false,false,true,true,false],[0,0,0,0,0,0,0,2,2,2,4,6,8,0,13,0,10,13,10,10,10,13,13,13,0,0,0,12,12,12,12,12,14,16,20,20,18,20,20,20,22,24,26,26,26,26,28,30,42,32,34,42,36,42,38,42,40,42,44,46,46,46,46,46,48,48,48,48,48,50,50,50,50,50,0,1]),([false,false,false,false,true,true,true,true,true,true,true,true,false,false,false,false,true,false,true,false,false,false,true,false,true,true,true],[1,1,1,1,1,1,4,2,4,2,2,2,2,4,4,4,6,8,10,12,0,17,0,14,17,14,14,14,17,17,17,0,0,0,16,16,16,16,16,18,20,24,24,22,24,24,24,26,28,30,30,30,30,32,34,46,36,38,46,40,46,42,46,44,46,48,50,50,50,50,50,52,52,52,52,52,54,54,54,54,54,0,1]),([false,false,false,false,true,true,true,true,true,true,true,true,false,false,false,false,true,false,true,false,false,false,true,false,true,true,false,true,true],[1,2,2,2,2,2,8,6,8,6,4,6,6,6,8,8,8,10,12,14,16,0,21,0,18,21,18,18,18,21,21,21,0,0,0,20,20,20,20,20,22,24,28,28,26,28,28,28,30,32,34,34,34,34,36,38,50,40,42,50,44,50,46,50,48,50,52,54,54,54,54,54,56,56,56,56,56,58,58,58,58,58,0,1]),([false,false,false,false,true,true,true,true,true,true,true,true,false,false,false,false,true,false,true,false,false,false,true,false,true,true,false,true,false,true,true],[2,2,2,2,4,0,6,13,6,13,13,13,13,6,6,6,12,10,12,10,8,10,10,10,12,12,12,14,16,18,20,0,25,0,22,25,22,22,22,25,25,25,0,0,0,24,24,24,24,24,26,28,32,32,30,32,32,32,34,36,38,38,38,38,40,42,54,44,46,54,48,54,50,54,52,54,56,58,58,58,58,58,60,60,60,60,60,62,62,62,62,62,0,1]),([false,false,false,false,true,true,true,true,true,true,true,true,false,false,false,false,true,false,true,false,false,false,true,false,true,true,false,true,false,true,false],[2,2,2,2,4,0,6,13,6,13,13,13,13,6,6,6,12,10,12,10,8,10,10,10,12,12,12,14,16,18,20,0,25,0,22,25,22,22,22,25,25,25,0,0,0,24,24,24,24,24,26,28,32,32,30,32,32,32,34,36,38,38,38,38,40,42,54,44,46,54,48,54,50,54,52,54,56,58,58,58,58,58,60,60,60,60,60,62,62,62,62,62,0,1]),([false,false,false,false,true,true,true,true,true,true,true,true,false,false,false,false,true,false,true,false,false,false,true,false,true,false,true],[1,0,5,0,2,5,2,2,2,2,5,5,5,0,0,0,4,4,4,4,4,6,8,10,12,0,17,0,14,17,14,14,14,17,17,17,0,0,0,16,16,16,16,16,18,20,24,24,22,24,24,24,26,28,30,30,30,30,32,34,46,36,38,46,40,46,42,46,44,46,48,50,50,50,50,50,52,52,52,52,52,54,54,54,54,54,0,1]),([false,false,false,false,true,true,true,true,true,true,true,true,false,false,false,false,true,false,true,false,false,false,true,false,true,false,false,true,true],[2,0,9,0,6,9,6,4,6,6,6,9,9,9,0,0,0,8,8,8,8,8,10,12,14,16,0,21,0,18,21,18,18,18,21,21,21,0,0,0,20,20,20,20,20,22,24,28,28,26,28,28,28,30,32,34,34,34,34,36,38,50,40,42,50,44,50,46,50,48,50,52,54,54,54,54,54,56,56,56,56,56,58,58,58,58,58,0,1]),([false,false,false,false,true,true,true,true,true,true,true,true,false,false,false,false,true,false,true,false,false,false,true,false,true,false,false,true,false,true,true],[2,2,2,2,4,6,0,13,0,10,13,10,8,10,10,10,13,13,13,0,0,0,12,12,12,12,12,14,16,18,20,0,25,0,22,25,22,22,22,25,25,25,0,0,0,24,24,24,24,24,26,28,32,32,30,32,32,32,34,36,38,38,38,38,40,42,54,44,46,54,48,54,50,54,52,54,56,58,58,58,58,58,60,60,60,60,60,62,62,62,62,62,0,1]),([false,false,false,false,true,true,true,true,true,true,true,true,false,false,false,false,true,false,true,false,false,false,true,false,true,false,false,true,false,true,false],[2,2,2,2,4,6,0,13,0,10,13,10,8,10,10,10,13,13,13,0,0,0,12,12,12,12,12,14,16,18,20,0,25,0,22,25,22,22,22,25,25,25,0,0,0,24,24,24,24,24,26,28,32,32,30,32,32,32,34,36,38,38,38,38,40,42,54,44,46,54,48,54,50,54,52,54,56,58,58,58,58,58,60,60,60,60,60,62,62,62,62,62,0,1])] :=
  ⟨by kernel_rfl,by kernel_rfl,by kernel_rfl,by kernel_rfl,by kernel_rfl,by kernel_rfl,by kernel_rfl,by kernel_rfl,by kernel_rfl,by kernel_rfl,by kernel_rfl,by kernel_rfl,by kernel_rfl,by kernel_rfl,by kernel_rfl,by kernel_rfl,by kernel_rfl,by kernel_rfl,by kernel_rfl,by kernel_rfl,by kernel_rfl,by kernel_rfl,by kernel_rfl,by kernel_rfl,by kernel_rfl,by kernel_rfl,by kernel_rfl,by kernel_rfl,by kernel_rfl,by kernel_rfl,by kernel_rfl,by kernel_rfl,by kernel_rfl,by kernel_rfl,by kernel_rfl,by kernel_rfl,by kernel_rfl,by kernel_rfl,by kernel_rfl,by kernel_rfl,by kernel_rfl,by kernel_rfl,by kernel_rfl,by kernel_rfl,trivial⟩
theorem ok4_t (x0:(List Int)) (x0':(List Int)) (x1:Int) (x2:(List (Int×(Int×Unit)))) (x2':(List (Int×(Int×Unit)))) (x2'':Int):TrOk (PureRuns Go.Proofs.Tryz.prog (kf34 Go.Proofs.Tryz.prog).orc 4 as4 rs4 ((x0,x0',()),x1,(x2,x2',x2'',()),())) (t4 x0 x0' x1 x2 x2' x2'') :=
  Walks.ok (fun _ _ _=>PureRuns.of) (wk4 x0 x0' x1 x2 x2' x2'') (by kernel_rfl)
theorem ok4:PureOk Go.Proofs.Tryz.prog 4 p4:=pureOk_of kf34_ok.base (T:=fun (d:Tys.data as4)=>t4 d.1.1 d.1.2.1 d.2.1 d.2.2.1.1 d.2.2.1.2.1 d.2.2.1.2.2.1) (by kernel_rfl) (fun (d:Tys.data as4)=>ok4_t d.1.1 d.1.2.1 d.2.1 d.2.2.1.1 d.2.2.1.2.1 d.2.2.1.2.2.1)
end Go.Vm.Mo
