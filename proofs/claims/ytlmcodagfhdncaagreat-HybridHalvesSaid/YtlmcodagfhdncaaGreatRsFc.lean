import Derived.Test.YtlmcodagfhdncaaGreatA5
import Derived.KernelRfl
import Derived.Test.YtlmcodagfhdncaaGreatProg
import Derived.Test.YtlmcodagfhdncaaGreatRsFb
set_option linter.unusedVariables false
set_option linter.unusedSimpArgs false

namespace Go.Vm.Mo
open Go
set_option linter.unusedVariables false
abbrev as100:List Ty:=[(.pair (.int .i64) (.pair (.slice (.int .i64)) .unit)),(.pair (.int .i64) (.pair (.slice (.int .i64)) .unit))]
abbrev rs100:List Ty:=[(.pair (.int .i64) (.pair (.slice (.int .i64)) .unit))]
def t100(x0:Int)(x0':List Int)(x1:Int)(x1':List Int):Tr (Tys.data rs100):= Tr.test ((eqF x0 0:Bool)) (Tr.fin (((x1,(x1',())),()))) (Tr.test (eqF x1 0) (Tr.fin (((x0,(x0',())),()))) (Tr.test ((eqF x0 x1:Bool)) (Tr.test (Option.isSome (f135 (x0',(x1',())))) (let r0:=g135 (x0',(x1',()));Tr.test (Option.isSome (f130 (x0,(r0.1,())))) (let r1:=g130 (x0,(r0.1,()));Tr.fin (((r1.1.1,(r1.1.2.1,())),()))) (Tr.stop)) (Tr.stop)) (Tr.test (Option.isSome (f136 (x0',(x1',())))) (let r2:=g136 (x0',(x1',()));Tr.test ((eqF r2.1 0:Bool)) (Tr.fin ((((0:Int),(([]:List Int),())),()))) (Tr.test ((!leF r2.1 0:Bool)) (Tr.test (Option.isSome (f137 (x0',(x1',())))) (let r3:=g137 (x0',(x1',()));Tr.test (Option.isSome (f130 (x0,(r3.1,())))) (let r4:=g130 (x0,(r3.1,()));Tr.fin (((r4.1.1,(r4.1.2.1,())),()))) (Tr.stop)) (Tr.stop)) (Tr.test (Option.isSome (f137 (x1',(x0',())))) (let r5:=g137 (x1',(x0',()));Tr.test (Option.isSome (f130 (x1,(r5.1,())))) (let r6:=g130 (x1,(r5.1,()));Tr.fin (((r6.1.1,(r6.1.2.1,())),()))) (Tr.stop)) (Tr.stop)))) (Tr.stop))))
def f100(d:Tys.data as100):Option (Tys.data rs100):=(t100 d.1.1 d.1.2.1 d.2.1.1 d.2.1.2.1).val
def g100(d:Tys.data as100):Tys.data rs100:=(f100 d).getD (Tys.dflt rs100)
def p100:PureC:=pcOf as100 rs100 f100 g100
def ww38:List Nat:=[2]
def ww39:List Nat:=4::ww38
def ww3a:List Nat:=10::8::6::ww39
def ww3b:List Nat:=16::14::12::ww3a
theorem wk100(x0:Int)(x0':List Int)(x1:Int)(x1':List Int):Walks (runPure (kf135 Proofs.Tryz.prog).orc Proofs.Tryz.prog 400 100 as100 rs100 ((x0,x0',()),(x1,x1',()),())) (t100 x0 x0' x1 x1') [(bl 1 1,ww38),(bl 2 2,ww39),(bl 5 28,ww3a),(bl 5 24,ww3a),(bl 8 232,ww3b),(bl 8 200,ww3b)]:=by
 repeat refine⟨by kernel_rfl,?_⟩
 exact trivial
theorem ok100:PureOk Proofs.Tryz.prog 100 p100:=qac kf135_ok.base (T:=fun(d:Tys.data as100)=>t100 d.1.1 d.1.2.1 d.2.1.1 d.2.1.2.1) (by kernel_rfl) (fun(d:Tys.data as100)=>wP (wk100 d.1.1 d.1.2.1 d.2.1.1 d.2.1.2.1) (by kernel_rfl))
def kf100(P:Go.Program):Known:=(kf135 P).func 100 p100
theorem kf100_ok:KnownOk Proofs.Tryz.prog (kf100 Proofs.Tryz.prog):=kf135_ok.func ok100
abbrev as129:List Ty:=[(.pair (.int .i64) (.pair (.slice (.int .i64)) .unit)),(.pair (.int .i64) (.pair (.slice (.int .i64)) .unit))]
abbrev rs129:List Ty:=[(.pair (.int .i64) (.pair (.slice (.int .i64)) .unit))]
def t129(x0:Int)(x0':List Int)(x1:Int)(x1':List Int):Tr (Tys.data rs129):= Tr.test (Option.isSome (f132 ((x1,(x1',())),()))) (let r0:=g132 ((x1,(x1',())),());Tr.test (Option.isSome (f100 ((x0,(x0',())),((r0.1.1,(r0.1.2.1,())),())))) (let r1:=g100 ((x0,(x0',())),((r0.1.1,(r0.1.2.1,())),()));Tr.fin (((r1.1.1,(r1.1.2.1,())),()))) (Tr.stop)) (Tr.stop)
def f129(d:Tys.data as129):Option (Tys.data rs129):=(t129 d.1.1 d.1.2.1 d.2.1.1 d.2.1.2.1).val
def g129(d:Tys.data as129):Tys.data rs129:=(f129 d).getD (Tys.dflt rs129)
def p129:PureC:=pcOf as129 rs129 f129 g129
theorem wk129(x0:Int)(x0':List Int)(x1:Int)(x1':List Int):Walks (runPure (kf100 Proofs.Tryz.prog).orc Proofs.Tryz.prog 400 129 as129 rs129 ((x0,x0',()),(x1,x1',()),())) (t129 x0 x0' x1 x1') [(bl 2 3,[4,2])]:=
 ⟨by kernel_rfl,trivial⟩
theorem ok129:PureOk Proofs.Tryz.prog 129 p129:=qac kf100_ok.base (T:=fun(d:Tys.data as129)=>t129 d.1.1 d.1.2.1 d.2.1.1 d.2.1.2.1) (by kernel_rfl) (fun(d:Tys.data as129)=>wP (wk129 d.1.1 d.1.2.1 d.2.1.1 d.2.1.2.1) (by kernel_rfl))
def kf129(P:Go.Program):Known:=(kf100 P).func 129 p129
theorem kf129_ok:KnownOk Proofs.Tryz.prog (kf129 Proofs.Tryz.prog):=kf100_ok.func ok129
abbrev sh134_2:Sh:={ n:=88,slots:=[2,3,4,5,6,7,8,9],pats:=[.ptr 0 2 0,.ptr 1 2 0,.ptr 2 2 0,.sli 3 1,.ty (.slice (.int .i64)),.ty (.int .i64),.ty (.int .i64),.ty (.int .i64)],boxes:=[.row [.ty (.int .i64),.ty (.slice (.int .i64))],.row [.ty (.int .i64),.ty (.slice (.int .i64))],.row [.ty (.int .i64),.nil],.arr (.int .i64)] }
abbrev shb134_2:Sh:={ n:=88,slots:=[2,3,4,5,6,7,8],pats:=[.ptr 0 2 0,.ptr 1 2 0,.ptr 2 2 0,.sli 3 1,.ty (.slice (.int .i64)),.ty (.int .i64),.ty (.int .i64)],boxes:=[.row [.ty (.int .i64),.ty (.slice (.int .i64))],.row [.ty (.int .i64),.ty (.slice (.int .i64))],.row [.ty (.int .i64),.nil],.arr (.int .i64)] }
abbrev shr134_2:Sh:={ n:=88,slots:=[],pats:=[],boxes:=[.row [.ty (.int .i64),.ty (.slice (.int .i64))],.row [.ty (.int .i64),.ty (.slice (.int .i64))],.row [.ty (.int .i64),.nil],.arr (.int .i64)] }
def t134_2(x3n:Nat)(x3c:Nat)(x4:List Int)(x5:Int)(x6:Int)(x7:Int)(b0_0:Int)(b0_1:List Int)(b1_0:Int)(b1_1:List Int)(b2_0:Int)(b3:List Int):Tr (Out sh134_2.data shb134_2.data shr134_2.data):= Tr.test ((!leF x7 x6:Bool)) (Tr.test (Option.isSome (f130 ((1:Int),(b1_1,())))) (Tr.test (Option.isSome (f126 ((Go.IntKind.wrap Go.IntKind.i64 (Int.tdiv (wrap64 (wrap64 (x6+x7)+(1:Int))) (2:Int)):Int),()))) (let r0:=g130 ((1:Int),(b1_1,()));let r1:=g126 ((Go.IntKind.wrap Go.IntKind.i64 (Int.tdiv (wrap64 (wrap64 (x6+x7)+(1:Int))) (2:Int)):Int),());Tr.test (Option.isSome (f98 ((r0.1.1,(r0.1.2.1,())),((r1.1.1,(r1.1.2.1,())),())))) (let r2:=g98 ((r0.1.1,(r0.1.2.1,())),((r1.1.1,(r1.1.2.1,())),()));Tr.test (Option.isSome (f136 (r2.1.2.1,(x4,())))) (let r3:=g136 (r2.1.2.1,(x4,()));Tr.test ((leF r3.1 0:Bool)) (Tr.fin (.again (((x3n,x3c),(x4,(x5,((Go.IntKind.wrap Go.IntKind.i64 (Int.tdiv (wrap64 (wrap64 (x6+x7)+(1:Int))) (2:Int)):Int),(x7,()))))),((b0_0,(b0_1,())),((b1_0,(b1_1,())),((b2_0,()),(b3,()))))))) (Tr.fin (.again (((x3n,x3c),(x4,(x5,(x6,((wrap64 (Go.IntKind.wrap Go.IntKind.i64 (Int.tdiv (wrap64 (wrap64 (x6+x7)+(1:Int))) (2:Int))-(1:Int)):Int),()))))),((b0_0,(b0_1,())),((b1_0,(b1_1,())),((b2_0,()),(b3,())))))))) (Tr.stop)) (Tr.stop)) (Tr.stop)) (Tr.stop)) (Tr.fin (.brk (((x3n,x3c),(x4,(x5,(x6,())))),((b0_0,(b0_1,())),((b1_0,(b1_1,())),((b2_0,()),(b3,())))))))
def s134_2(d:sh134_2.data):Option (Out sh134_2.data shb134_2.data shr134_2.data):=(t134_2 d.1.1.1 d.1.1.2 d.1.2.1 d.1.2.2.1 d.1.2.2.2.1 d.1.2.2.2.2.1 d.2.1.1 d.2.1.2.1 d.2.2.1.1 d.2.2.1.2.1 d.2.2.2.1.1 d.2.2.2.2.1).val
def l134_2(d:sh134_2.data):Option (shb134_2.data ⊕ shr134_2.data):=itr s134_2 rounds d
def b134_2(d:sh134_2.data):shb134_2.data:=outB shb134_2.dflt (l134_2 d)
def lc134_2:LoopC:=lcB sh134_2 shb134_2 shr134_2 l134_2 b134_2
def ww3c:List Nat:=[2]
def ww3d:List Nat:=pk 6 6 16236016 ww3c
theorem wk134_2(x3n:Nat)(x3c:Nat)(x4:List Int)(x5:Int)(x6:Int)(x7:Int)(b0_0:Int)(b0_1:List Int)(b1_0:Int)(b1_1:List Int)(b2_0:Int)(b3:List Int):Walks (qar (kf129 Proofs.Tryz.prog).orc Proofs.Tryz.prog 400 134 2 sh134_2 shb134_2 shr134_2 (((x3n,x3c),x4,x5,x6,x7,()),(b0_0,b0_1,()),(b1_0,b1_1,()),(b2_0,()),b3,())) (t134_2 x3n x3c x4 x5 x6 x7 b0_0 b0_1 b1_0 b1_1 b2_0 b3) [(bl 6 63,ww3d),(bl 6 31,ww3d),(bl 1 0,ww3c)]:=
 ⟨by kernel_rfl,by kernel_rfl,by kernel_rfl,trivial⟩
theorem ok134_2:qau Proofs.Tryz.prog 134 2 lc134_2:=qaC (sh:=sh134_2) (shB:=shb134_2) (shR:=shr134_2) kf129_ok.base (T:=fun(d:sh134_2.data)=>t134_2 d.1.1.1 d.1.1.2 d.1.2.1 d.1.2.2.1 d.1.2.2.2.1 d.1.2.2.2.2.1 d.2.1.1 d.2.1.2.1 d.2.2.1.1 d.2.2.1.2.1 d.2.2.2.1.1 d.2.2.2.2.1) (by kernel_rfl) rfl (fun(d:sh134_2.data)=>wB (wk134_2 d.1.1.1 d.1.1.2 d.1.2.1 d.1.2.2.1 d.1.2.2.2.1 d.1.2.2.2.2.1 d.2.1.1 d.2.1.2.1 d.2.2.1.1 d.2.2.1.2.1 d.2.2.2.1.1 d.2.2.2.2.1) (by kernel_rfl)) (fun _=>rfl)
def kl134_2(P:Go.Program):Known:=(kf129 P).loop 134 2 lc134_2
theorem kl134_2_ok:KnownOk Proofs.Tryz.prog (kl134_2 Proofs.Tryz.prog):=kf129_ok.loop ok134_2
abbrev sh134_0:Sh:={ n:=88,slots:=[2,3,4,5,6,7],pats:=[.ptr 0 2 0,.ptr 1 2 0,.ptr 2 2 0,.sli 3 1,.ty (.slice (.int .i64)),.ty (.int .i64)],boxes:=[.row [.ty (.int .i64),.ty (.slice (.int .i64))],.row [.ty (.int .i64),.ty (.slice (.int .i64))],.row [.ty (.int .i64),.nil],.arr (.int .i64)] }
abbrev shb134_0:Sh:={ n:=88,slots:=[2,4,5,6],pats:=[.ptr 0 2 0,.ptr 2 2 0,.sli 3 1,.ty (.slice (.int .i64))],boxes:=[.row [.ty (.int .i64),.ty (.slice (.int .i64))],.row [.ty (.int .i64),.ty (.slice (.int .i64))],.row [.ty (.int .i64),.nil],.arr (.int .i64)] }
abbrev shr134_0:Sh:={ n:=88,slots:=[],pats:=[],boxes:=[.row [.ty (.int .i64),.ty (.slice (.int .i64))],.row [.ty (.int .i64),.ty (.slice (.int .i64))],.row [.ty (.int .i64),.nil],.arr (.int .i64)] }
def t134_0(x3n:Nat)(x3c:Nat)(x4:List Int)(x5:Int)(b0_0:Int)(b0_1:List Int)(b1_0:Int)(b1_1:List Int)(b2_0:Int)(b3:List Int):Tr (Out sh134_0.data shb134_0.data shr134_0.data):= Tr.test ((leF (0:Int) x5:Bool)) (Tr.test (decide ((0:Int)≤x5)&&decide (x5<(↑(List.length b0_1):Int))) (Tr.test ((Nat.ble (((2:Nat)*((1:Nat)+List.length x4)+(192:Nat))*(8:Nat)) (281474976710656:Nat)&&Nat.ble ((1:Nat)+List.length x4) (281474976710656:Nat):Bool)) (Tr.test (Option.isSome (f161 (([List.getD b0_1 (Int.toNat x5) (0:Int)]++x4:List Int),()))) (let r0:=g161 (([List.getD b0_1 (Int.toNat x5) (0:Int)]++x4:List Int),());Tr.test (qax (l134_2 (((x3n,x3c),(r0.1,(x5,((0:Int),((999999999:Int),()))))),((b0_0,(b0_1,())),((b1_0,(b1_1,())),((b2_0,()),(b3,()))))))) (let r1:=b134_2 (((x3n,x3c),(r0.1,(x5,((0:Int),((999999999:Int),()))))),((b0_0,(b0_1,())),((b1_0,(b1_1,())),((b2_0,()),(b3,())))));Tr.test ((decide ((0:Int)≤r1.1.2.2.1)&&decide (r1.1.2.2.1<(↑r1.1.1.1:Int)):Bool)) (Tr.test ((Nat.ble ((0:Nat)+Int.toNat r1.1.2.2.1+(1:Nat)) (List.length r1.2.2.2.2.1):Bool)) (Tr.test (Option.isSome (f130 ((1:Int),(r1.2.2.1.2.1,())))) (Tr.test (Option.isSome (f126 (r1.1.2.2.2.1,()))) (let r2:=g130 ((1:Int),(r1.2.2.1.2.1,()));let r3:=g126 (r1.1.2.2.2.1,());Tr.test (Option.isSome (f98 ((r2.1.1,(r2.1.2.1,())),((r3.1.1,(r3.1.2.1,())),())))) (let r4:=g98 ((r2.1.1,(r2.1.2.1,())),((r3.1.1,(r3.1.2.1,())),()));Tr.test (Option.isSome (f137 (r1.1.2.1,(r4.1.2.1,())))) (let r5:=g137 (r1.1.2.1,(r4.1.2.1,()));Tr.fin (.again (((r1.1.1.1,r1.1.1.2),(r5.1,((wrap64 (r1.1.2.2.1-(1:Int)):Int),()))),((r1.2.1.1,(r1.2.1.2.1,())),((r1.2.2.1.1,(r1.2.2.1.2.1,())),((r1.2.2.2.1.1,()),((List.set r1.2.2.2.2.1 ((0:Nat)+Int.toNat r1.1.2.2.1) r1.1.2.2.2.1:List Int),()))))))) (Tr.stop)) (Tr.stop)) (Tr.stop)) (Tr.stop)) (Tr.stop)) (Tr.stop)) (Tr.stop)) (Tr.stop)) (Tr.stop)) (Tr.stop)) (Tr.fin (.brk (((x3n,x3c),(x4,())),((b0_0,(b0_1,())),((b1_0,(b1_1,())),((b2_0,()),(b3,())))))))
def s134_0(d:sh134_0.data):Option (Out sh134_0.data shb134_0.data shr134_0.data):=(t134_0 d.1.1.1 d.1.1.2 d.1.2.1 d.1.2.2.1 d.2.1.1 d.2.1.2.1 d.2.2.1.1 d.2.2.1.2.1 d.2.2.2.1.1 d.2.2.2.2.1).val
def l134_0(d:sh134_0.data):Option (shb134_0.data ⊕ shr134_0.data):=itr s134_0 rounds d
def b134_0(d:sh134_0.data):shb134_0.data:=outB shb134_0.dflt (l134_0 d)
def lc134_0:LoopC:=lcB sh134_0 shb134_0 shr134_0 l134_0 b134_0
def ww3e:List Nat:=[2]
theorem wk134_0(x3n:Nat)(x3c:Nat)(x4:List Int)(x5:Int)(b0_0:Int)(b0_1:List Int)(b1_0:Int)(b1_1:List Int)(b2_0:Int)(b3:List Int):Walks (qar (kl134_2 Proofs.Tryz.prog).orc Proofs.Tryz.prog 400 134 0 sh134_0 shb134_0 shr134_0 (((x3n,x3c),x4,x5,()),(b0_0,b0_1,()),(b1_0,b1_1,()),(b2_0,()),b3,())) (t134_0 x3n x3c x4 x5 b0_0 b0_1 b1_0 b1_1 b2_0 b3) [(bl 11 2047,pk 11 11 0x3def785ef7bdf0 ww3e),(bl 1 0,ww3e)]:=
 ⟨by kernel_rfl,by kernel_rfl,trivial⟩
theorem ok134_0:qau Proofs.Tryz.prog 134 0 lc134_0:=qaC (sh:=sh134_0) (shB:=shb134_0) (shR:=shr134_0) kl134_2_ok.base (T:=fun(d:sh134_0.data)=>t134_0 d.1.1.1 d.1.1.2 d.1.2.1 d.1.2.2.1 d.2.1.1 d.2.1.2.1 d.2.2.1.1 d.2.2.1.2.1 d.2.2.2.1.1 d.2.2.2.2.1) (by kernel_rfl) rfl (fun(d:sh134_0.data)=>wB (wk134_0 d.1.1.1 d.1.1.2 d.1.2.1 d.1.2.2.1 d.2.1.1 d.2.1.2.1 d.2.2.1.1 d.2.2.1.2.1 d.2.2.2.1.1 d.2.2.2.2.1) (by kernel_rfl)) (fun _=>rfl)
def kl134_0(P:Go.Program):Known:=(kl134_2 P).loop 134 0 lc134_0
theorem kl134_0_ok:KnownOk Proofs.Tryz.prog (kl134_0 Proofs.Tryz.prog):=kl134_2_ok.loop ok134_0
abbrev as134:List Ty:=[(.pair (.int .i64) (.pair (.slice (.int .i64)) .unit)),(.pair (.int .i64) (.pair (.slice (.int .i64)) .unit))]
abbrev rs134:List Ty:=[(.pair (.int .i64) (.pair (.slice (.int .i64)) .unit))]
def t134(x0:Int)(x0':List Int)(x1:Int)(x1':List Int):Tr (Tys.data rs134):= Tr.test ((eqF x0 0:Bool)) (Tr.fin ((((0:Int),(([]:List Int),())),()))) (Tr.test (decide ((0:Int)≤(↑(List.length x0'):Int))&&decide ((↑(List.length x0'):Int)≤(↑(List.length x0'):Int))&&decide ((8:Int)*(↑(List.length x0'):Int)≤(281474976710656:Int))&&decide ((↑(List.length x0'):Int)≤(281474976710656:Int))) (Tr.test (qax (l134_0 ((((Int.toNat (↑(List.length x0'):Int):Nat),(Int.toNat (↑(List.length x0'):Int):Nat)),(([]:List Int),((wrap64 ((↑(List.length x0'):Int)-(1:Int)):Int),()))),((x0,(x0',())),((x1,(x1',())),(((0:Int),()),((List.replicate (Int.toNat (↑(List.length x0'):Int)) (0:Int):List Int),()))))))) (let r0:=b134_0 ((((Int.toNat (↑(List.length x0'):Int):Nat),(Int.toNat (↑(List.length x0'):Int):Nat)),(([]:List Int),((wrap64 ((↑(List.length x0'):Int)-(1:Int)):Int),()))),((x0,(x0',())),((x1,(x1',())),(((0:Int),()),((List.replicate (Int.toNat (↑(List.length x0'):Int)) (0:Int):List Int),())))));Tr.test ((Nat.beq r0.1.1.1 (List.length r0.2.2.2.2.1):Bool)) (Tr.test (Option.isSome (f130 (r0.2.1.1,(r0.2.2.2.2.1,())))) (Tr.test ((!leF (0:Int) r0.2.1.1:Bool)) (Tr.test ((!leF (↑(List.length r0.1.2.1):Int) (0:Int):Bool)) (Tr.test (Option.isSome (f126 ((1:Int),()))) (let r1:=g130 (r0.2.1.1,(r0.2.2.2.2.1,()));let r3:=g126 ((1:Int),());Tr.test (Option.isSome (f129 ((r1.1.1,(r1.1.2.1,())),((r3.1.1,(r3.1.2.1,())),())))) (let r4:=g129 ((r1.1.1,(r1.1.2.1,())),((r3.1.1,(r3.1.2.1,())),()));Tr.fin (((r4.1.1,(r4.1.2.1,())),()))) (Tr.stop)) (Tr.stop)) (let r1:=g130 (r0.2.1.1,(r0.2.2.2.2.1,()));Tr.fin (((r1.1.1,(r1.1.2.1,())),())))) (let r1:=g130 (r0.2.1.1,(r0.2.2.2.2.1,()));Tr.fin (((r1.1.1,(r1.1.2.1,())),())))) (Tr.stop)) (Tr.test ((Nat.ble r0.1.1.1 (List.length r0.2.2.2.2.1):Bool)) (Tr.test (Option.isSome (f130 (r0.2.1.1,((List.take r0.1.1.1 r0.2.2.2.2.1:List Int),())))) (Tr.test ((!leF (0:Int) r0.2.1.1:Bool)) (Tr.test ((!leF (↑(List.length r0.1.2.1):Int) (0:Int):Bool)) (Tr.test (Option.isSome (f126 ((1:Int),()))) (let r2:=g130 (r0.2.1.1,((List.take r0.1.1.1 r0.2.2.2.2.1:List Int),()));let r3:=g126 ((1:Int),());Tr.test (Option.isSome (f129 ((r2.1.1,(r2.1.2.1,())),((r3.1.1,(r3.1.2.1,())),())))) (let r5:=g129 ((r2.1.1,(r2.1.2.1,())),((r3.1.1,(r3.1.2.1,())),()));Tr.fin (((r5.1.1,(r5.1.2.1,())),()))) (Tr.stop)) (Tr.stop)) (let r2:=g130 (r0.2.1.1,((List.take r0.1.1.1 r0.2.2.2.2.1:List Int),()));Tr.fin (((r2.1.1,(r2.1.2.1,())),())))) (let r2:=g130 (r0.2.1.1,((List.take r0.1.1.1 r0.2.2.2.2.1:List Int),()));Tr.fin (((r2.1.1,(r2.1.2.1,())),())))) (Tr.stop)) (Tr.stop))) (Tr.stop)) (Tr.stop))
def f134(d:Tys.data as134):Option (Tys.data rs134):=(t134 d.1.1 d.1.2.1 d.2.1.1 d.2.1.2.1).val
def g134(d:Tys.data as134):Tys.data rs134:=(f134 d).getD (Tys.dflt rs134)
def p134:PureC:=pcOf as134 rs134 f134 g134
def ww3f:List Nat:=[2]
def ww3g:List Nat:=pk 6 6 519093744 ww3f
def ww3h:List Nat:=12::12::12::ww3g
def ww3i:List Nat:=14::ww3h
def ww3j:List Nat:=pk 4 7 541200 ww3g
def ww3k:List Nat:=16::ww3j
theorem wk134(x0:Int)(x0':List Int)(x1:Int)(x1':List Int):Walks (runPure (kl134_0 Proofs.Tryz.prog).orc Proofs.Tryz.prog 400 134 as134 rs134 ((x0,x0',()),(x1,x1',()),())) (t134 x0 x0' x1 x1') [(bl 1 1,ww3f),(bl 9 510,18::16::ww3i),(bl 7 62,ww3i),(bl 6 30,0::ww3h),(bl 10 1014,20::18::ww3k),(bl 8 118,ww3k),(bl 7 54,0::ww3j)]:=by
 repeat refine⟨by kernel_rfl,?_⟩
 exact trivial
theorem ok134:PureOk Proofs.Tryz.prog 134 p134:=qac kl134_0_ok.base (T:=fun(d:Tys.data as134)=>t134 d.1.1 d.1.2.1 d.2.1.1 d.2.1.2.1) (by kernel_rfl) (fun(d:Tys.data as134)=>wP (wk134 d.1.1 d.1.2.1 d.2.1.1 d.2.1.2.1) (by kernel_rfl))
def kf134(P:Go.Program):Known:=(kl134_0 P).func 134 p134
theorem kf134_ok:KnownOk Proofs.Tryz.prog (kf134 Proofs.Tryz.prog):=kl134_0_ok.func ok134
abbrev sh133_0:Sh:={ n:=23,slots:=[2,3,4],pats:=[.ptr 0 2 0,.ptr 1 2 0,.ptr 2 2 0],boxes:=[.row [.ty (.int .i64),.ty (.slice (.int .i64))],.row [.ty (.int .i64),.ty (.slice (.int .i64))],.row [.ty (.int .i64),.nil]] }
abbrev shb133_0:Sh:={ n:=23,slots:=[2,4],pats:=[.ptr 0 2 0,.ptr 2 2 0],boxes:=[.row [.ty (.int .i64),.ty (.slice (.int .i64))],.row [.ty (.int .i64),.ty (.slice (.int .i64))],.row [.ty (.int .i64),.nil]] }
abbrev shr133_0:Sh:={ n:=23,slots:=[],pats:=[],boxes:=[.row [.ty (.int .i64),.ty (.slice (.int .i64))],.row [.ty (.int .i64),.ty (.slice (.int .i64))],.row [.ty (.int .i64),.nil]] }
def t133_0(b0_0:Int)(b0_1:List Int)(b1_0:Int)(b1_1:List Int)(b2_0:Int):Tr (Out sh133_0.data shb133_0.data shr133_0.data):= Tr.test (Option.isSome (f131 ((b1_0,(b1_1,())),()))) (let r0:=g131 ((b1_0,(b1_1,())),());Tr.test ((!eqF r0.1 0:Bool)) (Tr.test (Option.isSome (f134 ((b0_0,(b0_1,())),((b1_0,(b1_1,())),())))) (let r1:=g134 ((b0_0,(b0_1,())),((b1_0,(b1_1,())),()));Tr.test (Option.isSome (f98 ((r1.1.1,(r1.1.2.1,())),((b1_0,(b1_1,())),())))) (let r2:=g98 ((r1.1.1,(r1.1.2.1,())),((b1_0,(b1_1,())),()));Tr.test (Option.isSome (f129 ((b0_0,(b0_1,())),((r2.1.1,(r2.1.2.1,())),())))) (let r3:=g129 ((b0_0,(b0_1,())),((r2.1.1,(r2.1.2.1,())),()));Tr.fin (.again ((),((b1_0,(b1_1,())),((r3.1.1,(r3.1.2.1,())),((b2_0,()),())))))) (Tr.stop)) (Tr.stop)) (Tr.stop)) (Tr.fin (.brk ((),((b0_0,(b0_1,())),((b1_0,(b1_1,())),((b2_0,()),()))))))) (Tr.stop)
def s133_0(d:sh133_0.data):Option (Out sh133_0.data shb133_0.data shr133_0.data):=(t133_0 d.2.1.1 d.2.1.2.1 d.2.2.1.1 d.2.2.1.2.1 d.2.2.2.1.1).val
def l133_0(d:sh133_0.data):Option (shb133_0.data ⊕ shr133_0.data):=itr s133_0 rounds d
def b133_0(d:sh133_0.data):shb133_0.data:=outB shb133_0.dflt (l133_0 d)
def lc133_0:LoopC:=lcB sh133_0 shb133_0 shr133_0 l133_0 b133_0
def ww3l:List Nat:=[4,2]
theorem wk133_0(b0_0:Int)(b0_1:List Int)(b1_0:Int)(b1_1:List Int)(b2_0:Int):Walks (qar (kf134 Proofs.Tryz.prog).orc Proofs.Tryz.prog 400 133 0 sh133_0 shb133_0 shr133_0 ((),(b0_0,b0_1,()),(b1_0,b1_1,()),(b2_0,()),())) (t133_0 b0_0 b0_1 b1_0 b1_1 b2_0) [(bl 5 31,10::8::6::ww3l),(bl 2 1,ww3l)]:=
 ⟨by kernel_rfl,by kernel_rfl,trivial⟩
theorem ok133_0:qau Proofs.Tryz.prog 133 0 lc133_0:=qaC (sh:=sh133_0) (shB:=shb133_0) (shR:=shr133_0) kf134_ok.base (T:=fun(d:sh133_0.data)=>t133_0 d.2.1.1 d.2.1.2.1 d.2.2.1.1 d.2.2.1.2.1 d.2.2.2.1.1) (by kernel_rfl) rfl (fun(d:sh133_0.data)=>wB (wk133_0 d.2.1.1 d.2.1.2.1 d.2.2.1.1 d.2.2.1.2.1 d.2.2.2.1.1) (by kernel_rfl)) (fun _=>rfl)
def kl133_0(P:Go.Program):Known:=(kf134 P).loop 133 0 lc133_0
theorem kl133_0_ok:KnownOk Proofs.Tryz.prog (kl133_0 Proofs.Tryz.prog):=kf134_ok.loop ok133_0
abbrev as133:List Ty:=[(.pair (.int .i64) (.pair (.slice (.int .i64)) .unit)),(.pair (.int .i64) (.pair (.slice (.int .i64)) .unit))]
abbrev rs133:List Ty:=[(.pair (.int .i64) (.pair (.slice (.int .i64)) .unit))]
def t133(x0:Int)(x0':List Int)(x1:Int)(x1':List Int):Tr (Tys.data rs133):= Tr.test (Option.isSome (f162 ((x0,(x0',())),()))) (Tr.test (Option.isSome (f162 ((x1,(x1',())),()))) (let r0:=g162 ((x0,(x0',())),());let r1:=g162 ((x1,(x1',())),());Tr.test (qax (l133_0 ((),((r0.1.1,(r0.1.2.1,())),((r1.1.1,(r1.1.2.1,())),(((0:Int),()),())))))) (let r2:=b133_0 ((),((r0.1.1,(r0.1.2.1,())),((r1.1.1,(r1.1.2.1,())),(((0:Int),()),()))));Tr.fin (((r2.2.1.1,(r2.2.1.2.1,())),()))) (Tr.stop)) (Tr.stop)) (Tr.stop)
def f133(d:Tys.data as133):Option (Tys.data rs133):=(t133 d.1.1 d.1.2.1 d.2.1.1 d.2.1.2.1).val
def g133(d:Tys.data as133):Tys.data rs133:=(f133 d).getD (Tys.dflt rs133)
def p133:PureC:=pcOf as133 rs133 f133 g133
theorem wk133(x0:Int)(x0':List Int)(x1:Int)(x1':List Int):Walks (runPure (kl133_0 Proofs.Tryz.prog).orc Proofs.Tryz.prog 400 133 as133 rs133 ((x0,x0',()),(x1,x1',()),())) (t133 x0 x0' x1 x1') [(bl 3 7,[1,6,4,2])]:=
 ⟨by kernel_rfl,trivial⟩
theorem ok133:PureOk Proofs.Tryz.prog 133 p133:=qac kl133_0_ok.base (T:=fun(d:Tys.data as133)=>t133 d.1.1 d.1.2.1 d.2.1.1 d.2.1.2.1) (by kernel_rfl) (fun(d:Tys.data as133)=>wP (wk133 d.1.1 d.1.2.1 d.2.1.1 d.2.1.2.1) (by kernel_rfl))
def kf133(P:Go.Program):Known:=(kl133_0 P).func 133 p133
theorem kf133_ok:KnownOk Proofs.Tryz.prog (kf133 Proofs.Tryz.prog):=kl133_0_ok.func ok133
abbrev as97:List Ty:=[(.pair (.int .i64) (.pair (.slice (.int .i64)) .unit)),(.pair (.int .i64) (.pair (.slice (.int .i64)) .unit))]
abbrev rs97:List Ty:=[(.int .i64)]
def t97(x0:Int)(x0':List Int)(x1:Int)(x1':List Int):Tr (Tys.data rs97):= Tr.test (Option.isSome (f129 ((x0,(x0',())),((x1,(x1',())),())))) (let r0:=g129 ((x0,(x0',())),((x1,(x1',())),()));Tr.fin ((r0.1.1,()))) (Tr.stop)
def f97(d:Tys.data as97):Option (Tys.data rs97):=(t97 d.1.1 d.1.2.1 d.2.1.1 d.2.1.2.1).val
def g97(d:Tys.data as97):Tys.data rs97:=(f97 d).getD (Tys.dflt rs97)
def p97:PureC:=pcOf as97 rs97 f97 g97
theorem wk97(x0:Int)(x0':List Int)(x1:Int)(x1':List Int):Walks (runPure (kf133 Proofs.Tryz.prog).orc Proofs.Tryz.prog 400 97 as97 rs97 ((x0,x0',()),(x1,x1',()),())) (t97 x0 x0' x1 x1') [(bl 1 1,[2])]:=
 ⟨by kernel_rfl,trivial⟩
theorem ok97:PureOk Proofs.Tryz.prog 97 p97:=qac kf133_ok.base (T:=fun(d:Tys.data as97)=>t97 d.1.1 d.1.2.1 d.2.1.1 d.2.1.2.1) (by kernel_rfl) (fun(d:Tys.data as97)=>wP (wk97 d.1.1 d.1.2.1 d.2.1.1 d.2.1.2.1) (by kernel_rfl))
def kf97(P:Go.Program):Known:=(kf133 P).func 97 p97
theorem kf97_ok:KnownOk Proofs.Tryz.prog (kf97 Proofs.Tryz.prog):=kf133_ok.func ok97
abbrev as99:List Ty:=[(.pair (.int .i64) (.pair (.slice (.int .i64)) .unit)),(.pair (.int .i64) (.pair (.slice (.int .i64)) .unit))]
abbrev rs99:List Ty:=[(.pair (.pair (.int .i64) (.pair (.slice (.int .i64)) .unit)) (.pair (.pair (.int .i64) (.pair (.slice (.int .i64)) .unit)) .unit))]
def t99(x0:Int)(x0':List Int)(x1:Int)(x1':List Int):Tr (Tys.data rs99):= Tr.test (Option.isSome (f131 ((x1,(x1',())),()))) (let r0:=g131 ((x1,(x1',())),());Tr.test ((!leF (0:Int) r0.1:Bool)) (Tr.test (Option.isSome (f132 ((x0,(x0',())),()))) (Tr.test (Option.isSome (f132 ((x1,(x1',())),()))) (let r1:=g132 ((x0,(x0',())),());let r2:=g132 ((x1,(x1',())),());Tr.test (Option.isSome (f133 ((r1.1.1,(r1.1.2.1,())),((r2.1.1,(r2.1.2.1,())),())))) (Tr.test (Option.isSome (f126 ((1:Int),()))) (let r3:=g133 ((r1.1.1,(r1.1.2.1,())),((r2.1.1,(r2.1.2.1,())),()));let r4:=g126 ((1:Int),());Tr.test (Option.isSome (f97 ((r3.1.1,(r3.1.2.1,())),((r4.1.1,(r4.1.2.1,())),())))) (let r5:=g97 ((r3.1.1,(r3.1.2.1,())),((r4.1.1,(r4.1.2.1,())),()));Tr.test ((eqF r5.1 0:Bool)) (Tr.fin ((((r1.1.1,(r1.1.2.1,())),((r2.1.1,(r2.1.2.1,())),())),()))) (Tr.test (Option.isSome (f134 ((r1.1.1,(r1.1.2.1,())),((r3.1.1,(r3.1.2.1,())),())))) (Tr.test (Option.isSome (f134 ((r2.1.1,(r2.1.2.1,())),((r3.1.1,(r3.1.2.1,())),())))) (let r6:=g134 ((r1.1.1,(r1.1.2.1,())),((r3.1.1,(r3.1.2.1,())),()));let r7:=g134 ((r2.1.1,(r2.1.2.1,())),((r3.1.1,(r3.1.2.1,())),()));Tr.fin ((((r6.1.1,(r6.1.2.1,())),((r7.1.1,(r7.1.2.1,())),())),()))) (Tr.stop)) (Tr.stop))) (Tr.stop)) (Tr.stop)) (Tr.stop)) (Tr.stop)) (Tr.stop)) (Tr.test (Option.isSome (f133 ((x0,(x0',())),((x1,(x1',())),())))) (Tr.test (Option.isSome (f126 ((1:Int),()))) (let r4:=g126 ((1:Int),());let r8:=g133 ((x0,(x0',())),((x1,(x1',())),()));Tr.test (Option.isSome (f97 ((r8.1.1,(r8.1.2.1,())),((r4.1.1,(r4.1.2.1,())),())))) (let r9:=g97 ((r8.1.1,(r8.1.2.1,())),((r4.1.1,(r4.1.2.1,())),()));Tr.test ((eqF r9.1 0:Bool)) (Tr.fin ((((x0,(x0',())),((x1,(x1',())),())),()))) (Tr.test (Option.isSome (f134 ((x0,(x0',())),((r8.1.1,(r8.1.2.1,())),())))) (Tr.test (Option.isSome (f134 ((x1,(x1',())),((r8.1.1,(r8.1.2.1,())),())))) (let r10:=g134 ((x0,(x0',())),((r8.1.1,(r8.1.2.1,())),()));let r11:=g134 ((x1,(x1',())),((r8.1.1,(r8.1.2.1,())),()));Tr.fin ((((r10.1.1,(r10.1.2.1,())),((r11.1.1,(r11.1.2.1,())),())),()))) (Tr.stop)) (Tr.stop))) (Tr.stop)) (Tr.stop)) (Tr.stop))) (Tr.stop)
def f99(d:Tys.data as99):Option (Tys.data rs99):=(t99 d.1.1 d.1.2.1 d.2.1.1 d.2.1.2.1).val
def g99(d:Tys.data as99):Tys.data rs99:=(f99 d).getD (Tys.dflt rs99)
def p99:PureC:=pcOf as99 rs99 f99 g99
def ww3m:List Nat:=[12,10,8,6,4,2]
def ww3n:List Nat:=16::14::ww3m
theorem wk99(x0:Int)(x0':List Int)(x1:Int)(x1':List Int):Walks (runPure (kf97 Proofs.Tryz.prog).orc Proofs.Tryz.prog 400 99 as99 rs99 ((x0,x0',()),(x1,x1',()),())) (t99 x0 x0' x1 x1') [(bl 8 255,ww3n),(bl 10 895,20::18::ww3n),(bl 6 61,ww3m),(bl 8 221,ww3n)]:=by
 repeat refine⟨by kernel_rfl,?_⟩
 exact trivial
theorem ok99:PureOk Proofs.Tryz.prog 99 p99:=qac kf97_ok.base (T:=fun(d:Tys.data as99)=>t99 d.1.1 d.1.2.1 d.2.1.1 d.2.1.2.1) (by kernel_rfl) (fun(d:Tys.data as99)=>wP (wk99 d.1.1 d.1.2.1 d.2.1.1 d.2.1.2.1) (by kernel_rfl))
def kf99(P:Go.Program):Known:=(kf97 P).func 99 p99
theorem kf99_ok:KnownOk Proofs.Tryz.prog (kf99 Proofs.Tryz.prog):=kf97_ok.func ok99
abbrev as101:List Ty:=[(.int .i64),(.int .i64)]
abbrev rs101:List Ty:=[(.pair (.pair (.int .i64) (.pair (.slice (.int .i64)) .unit)) (.pair (.pair (.int .i64) (.pair (.slice (.int .i64)) .unit)) .unit))]
def t101(x0:Int)(x1:Int):Tr (Tys.data rs101):= Tr.test (Option.isSome (f126 (x0,()))) (Tr.test (Option.isSome (f126 (x1,()))) (let r0:=g126 (x0,());let r1:=g126 (x1,());Tr.test (Option.isSome (f99 ((r0.1.1,(r0.1.2.1,())),((r1.1.1,(r1.1.2.1,())),())))) (let r2:=g99 ((r0.1.1,(r0.1.2.1,())),((r1.1.1,(r1.1.2.1,())),()));Tr.fin ((((r2.1.1.1,(r2.1.1.2.1,())),((r2.1.2.1.1,(r2.1.2.1.2.1,())),())),()))) (Tr.stop)) (Tr.stop)) (Tr.stop)
def f101(d:Tys.data as101):Option (Tys.data rs101):=(t101 d.1 d.2.1).val
def g101(d:Tys.data as101):Tys.data rs101:=(f101 d).getD (Tys.dflt rs101)
def p101:PureC:=pcOf as101 rs101 f101 g101
theorem wk101(x0:Int)(x1:Int):Walks (runPure (kf99 Proofs.Tryz.prog).orc Proofs.Tryz.prog 400 101 as101 rs101 (x0,x1,())) (t101 x0 x1) [(bl 3 7,[6,4,2])]:=
 ⟨by kernel_rfl,trivial⟩
theorem ok101:PureOk Proofs.Tryz.prog 101 p101:=qac kf99_ok.base (T:=fun(d:Tys.data as101)=>t101 d.1 d.2.1) (by kernel_rfl) (fun(d:Tys.data as101)=>wP (wk101 d.1 d.2.1) (by kernel_rfl))
def kf101(P:Go.Program):Known:=(kf99 P).func 101 p101
theorem kf101_ok:KnownOk Proofs.Tryz.prog (kf101 Proofs.Tryz.prog):=kf99_ok.func ok101
abbrev as45:List Ty:=[(.pair (.int .i64) (.pair (.int .i64) .unit))]
abbrev rs45:List Ty:=[(.pair (.pair (.int .i64) (.pair (.slice (.int .i64)) .unit)) (.pair (.pair (.int .i64) (.pair (.slice (.int .i64)) .unit)) .unit))]
def t45(x0:Int)(x0':Int):Tr (Tys.data rs45):= Tr.test (Option.isSome (f101 (x0,(x0',())))) (let r0:=g101 (x0,(x0',()));Tr.fin ((((r0.1.1.1,(r0.1.1.2.1,())),((r0.1.2.1.1,(r0.1.2.1.2.1,())),())),()))) (Tr.stop)
def f45(d:Tys.data as45):Option (Tys.data rs45):=(t45 d.1.1 d.1.2.1).val
def g45(d:Tys.data as45):Tys.data rs45:=(f45 d).getD (Tys.dflt rs45)
def p45:PureC:=pcOf as45 rs45 f45 g45
theorem wk45(x0:Int)(x0':Int):Walks (runPure (kf101 Proofs.Tryz.prog).orc Proofs.Tryz.prog 400 45 as45 rs45 ((x0,x0',()),())) (t45 x0 x0') [(bl 1 1,[2])]:=
 ⟨by kernel_rfl,trivial⟩
theorem ok45:PureOk Proofs.Tryz.prog 45 p45:=qac kf101_ok.base (T:=fun(d:Tys.data as45)=>t45 d.1.1 d.1.2.1) (by kernel_rfl) (fun(d:Tys.data as45)=>wP (wk45 d.1.1 d.1.2.1) (by kernel_rfl))
def kf45(P:Go.Program):Known:=(kf101 P).func 45 p45
theorem kf45_ok:KnownOk Proofs.Tryz.prog (kf45 Proofs.Tryz.prog):=kf101_ok.func ok45
abbrev as44:List Ty:=[(.pair (.pair (.int .i64) (.pair (.slice (.int .i64)) .unit)) (.pair (.pair (.int .i64) (.pair (.slice (.int .i64)) .unit)) .unit)),(.pair (.pair (.int .i64) (.pair (.slice (.int .i64)) .unit)) (.pair (.pair (.int .i64) (.pair (.slice (.int .i64)) .unit)) .unit))]
abbrev rs44:List Ty:=[(.pair (.pair (.int .i64) (.pair (.slice (.int .i64)) .unit)) (.pair (.pair (.int .i64) (.pair (.slice (.int .i64)) .unit)) .unit))]
def t44(x0_:Int)(x0_':List Int)(x0'_:Int)(x0'_':(List Int))(x1_:Int)(x1_':List Int)(x1'_:Int)(x1'_':(List Int)):Tr (Tys.data rs44):= Tr.test (Option.isSome (f98 ((x0_,(x0_',())),((x1'_,(x1'_',())),())))) (Tr.test (Option.isSome (f98 ((x1_,(x1_',())),((x0'_,(x0'_',())),())))) (let r0:=g98 ((x0_,(x0_',())),((x1'_,(x1'_',())),()));let r1:=g98 ((x1_,(x1_',())),((x0'_,(x0'_',())),()));Tr.test (Option.isSome (f100 ((r0.1.1,(r0.1.2.1,())),((r1.1.1,(r1.1.2.1,())),())))) (Tr.test (Option.isSome (f98 ((x0'_,(x0'_',())),((x1'_,(x1'_',())),())))) (let r2:=g100 ((r0.1.1,(r0.1.2.1,())),((r1.1.1,(r1.1.2.1,())),()));let r3:=g98 ((x0'_,(x0'_',())),((x1'_,(x1'_',())),()));Tr.test (Option.isSome (f99 ((r2.1.1,(r2.1.2.1,())),((r3.1.1,(r3.1.2.1,())),())))) (let r4:=g99 ((r2.1.1,(r2.1.2.1,())),((r3.1.1,(r3.1.2.1,())),()));Tr.fin ((((r4.1.1.1,(r4.1.1.2.1,())),((r4.1.2.1.1,(r4.1.2.1.2.1,())),())),()))) (Tr.stop)) (Tr.stop)) (Tr.stop)) (Tr.stop)) (Tr.stop)
def f44(d:Tys.data as44):Option (Tys.data rs44):=(t44 d.1.1.1 d.1.1.2.1 d.1.2.1.1 d.1.2.1.2.1 d.2.1.1.1 d.2.1.1.2.1 d.2.1.2.1.1 d.2.1.2.1.2.1).val
def g44(d:Tys.data as44):Tys.data rs44:=(f44 d).getD (Tys.dflt rs44)
def p44:PureC:=pcOf as44 rs44 f44 g44
theorem wk44(x0_:Int)(x0_':List Int)(x0'_:Int)(x0'_':(List Int))(x1_:Int)(x1_':List Int)(x1'_:Int)(x1'_':(List Int)):Walks (runPure (kf45 Proofs.Tryz.prog).orc Proofs.Tryz.prog 400 44 as44 rs44 (((x0_,x0_',()),(x0'_,x0'_',()),()),((x1_,x1_',()),(x1'_,x1'_',()),()),())) (t44 x0_ x0_' x0'_ x0'_' x1_ x1_' x1'_ x1'_') [(bl 5 31,[10,8,6,4,2])]:=
 ⟨by kernel_rfl,trivial⟩
theorem ok44:PureOk Proofs.Tryz.prog 44 p44:=qac kf45_ok.base (T:=fun(d:Tys.data as44)=>t44 d.1.1.1 d.1.1.2.1 d.1.2.1.1 d.1.2.1.2.1 d.2.1.1.1 d.2.1.1.2.1 d.2.1.2.1.1 d.2.1.2.1.2.1) (by kernel_rfl) (fun(d:Tys.data as44)=>wP (wk44 d.1.1.1 d.1.1.2.1 d.1.2.1.1 d.1.2.1.2.1 d.2.1.1.1 d.2.1.1.2.1 d.2.1.2.1.1 d.2.1.2.1.2.1) (by kernel_rfl))
def kf44(P:Go.Program):Known:=(kf45 P).func 44 p44
theorem kf44_ok:KnownOk Proofs.Tryz.prog (kf44 Proofs.Tryz.prog):=kf45_ok.func ok44
abbrev as43:List Ty:=[(.pair (.pair (.int .i64) (.pair (.slice (.int .i64)) .unit)) (.pair (.pair (.int .i64) (.pair (.slice (.int .i64)) .unit)) .unit)),(.pair (.pair (.int .i64) (.pair (.slice (.int .i64)) .unit)) (.pair (.pair (.int .i64) (.pair (.slice (.int .i64)) .unit)) .unit))]
abbrev rs43:List Ty:=[(.int .i64)]
def t43(x0_:Int)(x0_':List Int)(x0'_:Int)(x0'_':(List Int))(x1_:Int)(x1_':List Int)(x1'_:Int)(x1'_':(List Int)):Tr (Tys.data rs43):= Tr.test (Option.isSome (f98 ((x0_,(x0_',())),((x1'_,(x1'_',())),())))) (Tr.test (Option.isSome (f98 ((x1_,(x1_',())),((x0'_,(x0'_',())),())))) (let r0:=g98 ((x0_,(x0_',())),((x1'_,(x1'_',())),()));let r1:=g98 ((x1_,(x1_',())),((x0'_,(x0'_',())),()));Tr.test (Option.isSome (f97 ((r0.1.1,(r0.1.2.1,())),((r1.1.1,(r1.1.2.1,())),())))) (let r2:=g97 ((r0.1.1,(r0.1.2.1,())),((r1.1.1,(r1.1.2.1,())),()));Tr.fin ((r2.1,()))) (Tr.stop)) (Tr.stop)) (Tr.stop)
def f43(d:Tys.data as43):Option (Tys.data rs43):=(t43 d.1.1.1 d.1.1.2.1 d.1.2.1.1 d.1.2.1.2.1 d.2.1.1.1 d.2.1.1.2.1 d.2.1.2.1.1 d.2.1.2.1.2.1).val
def g43(d:Tys.data as43):Tys.data rs43:=(f43 d).getD (Tys.dflt rs43)
def p43:PureC:=pcOf as43 rs43 f43 g43
theorem wk43(x0_:Int)(x0_':List Int)(x0'_:Int)(x0'_':(List Int))(x1_:Int)(x1_':List Int)(x1'_:Int)(x1'_':(List Int)):Walks (runPure (kf44 Proofs.Tryz.prog).orc Proofs.Tryz.prog 400 43 as43 rs43 (((x0_,x0_',()),(x0'_,x0'_',()),()),((x1_,x1_',()),(x1'_,x1'_',()),()),())) (t43 x0_ x0_' x0'_ x0'_' x1_ x1_' x1'_ x1'_') [(bl 3 7,[6,4,2])]:=
 ⟨by kernel_rfl,trivial⟩
theorem ok43:PureOk Proofs.Tryz.prog 43 p43:=qac kf44_ok.base (T:=fun(d:Tys.data as43)=>t43 d.1.1.1 d.1.1.2.1 d.1.2.1.1 d.1.2.1.2.1 d.2.1.1.1 d.2.1.1.2.1 d.2.1.2.1.1 d.2.1.2.1.2.1) (by kernel_rfl) (fun(d:Tys.data as43)=>wP (wk43 d.1.1.1 d.1.1.2.1 d.1.2.1.1 d.1.2.1.2.1 d.2.1.1.1 d.2.1.1.2.1 d.2.1.2.1.1 d.2.1.2.1.2.1) (by kernel_rfl))
def kf43(P:Go.Program):Known:=(kf44 P).func 43 p43
theorem kf43_ok:KnownOk Proofs.Tryz.prog (kf43 Proofs.Tryz.prog):=kf44_ok.func ok43
abbrev sh5_0:Sh:={ n:=409,slots:=[2,3,5,6,7,8],pats:=[.ptr 0 2 0,.ptr 1 2 0,.ptr 2 2 0,.ty (.int .i64),.ptr 3 2 0,.ty (.int .i64)],boxes:=[.row [.ty (.slice (.int .i64)),.ty (.slice (.int .i64))],.row [.ty (.int .i64),.ty (.int .i64)],.row [.ty (.int .i64),.ty (.int .i64)],.row [.aco (.int .i64),.aco (.int .i64)]] }
abbrev shb5_0:Sh:={ n:=409,slots:=[2,3,5,6,7],pats:=[.ptr 0 2 0,.ptr 1 2 0,.ptr 2 2 0,.ty (.int .i64),.ptr 3 2 0],boxes:=[.row [.ty (.slice (.int .i64)),.ty (.slice (.int .i64))],.row [.ty (.int .i64),.ty (.int .i64)],.row [.ty (.int .i64),.ty (.int .i64)],.row [.aco (.int .i64),.aco (.int .i64)]] }
abbrev shr5_0:Sh:={ n:=409,slots:=[],pats:=[],boxes:=[.row [.ty (.slice (.int .i64)),.ty (.slice (.int .i64))],.row [.ty (.int .i64),.ty (.int .i64)],.row [.ty (.int .i64),.ty (.int .i64)],.row [.aco (.int .i64),.aco (.int .i64)]] }
def t5_0(x3:Int)(x5:Int)(b0_0:List Int)(b0_1:List Int)(b1_0:Int)(b1_1:Int)(b2_0:Int)(b2_1:Int)(b3_0:List Int)(b3_1:List Int):Tr (Out sh5_0.data shb5_0.data shr5_0.data):= Tr.test ((leF (0:Int) x5:Bool)) (Tr.test (decide ((0:Int)≤x5)&&decide (x5<(↑(List.length b0_0):Int))) (Tr.test ((Nat.ble (((2:Nat)*(List.length b3_0+(1:Nat))+(192:Nat))*(8:Nat)) (281474976710656:Nat)&&Nat.ble (List.length b3_0+(1:Nat)) (281474976710656:Nat):Bool)) (Tr.test ((decide ((0:Int)≤x5)&&decide (x5<(↑(List.length b0_1):Int)):Bool)) (Tr.test ((Nat.ble (((2:Nat)*(List.length b3_1+(1:Nat))+(192:Nat))*(8:Nat)) (281474976710656:Nat)&&Nat.ble (List.length b3_1+(1:Nat)) (281474976710656:Nat):Bool)) (Tr.fin (.again ((x3,((wrap64 (x5-(1:Int)):Int),())),((b0_0,(b0_1,())),((b1_0,(b1_1,())),((b2_0,(b2_1,())),(((b3_0++[List.getD b0_0 (Int.toNat x5) (0:Int)]:List Int),((b3_1++[List.getD b0_1 (Int.toNat x5) (0:Int)]:List Int),())),()))))))) (Tr.stop)) (Tr.stop)) (Tr.stop)) (Tr.stop)) (Tr.fin (.brk ((x3,()),((b0_0,(b0_1,())),((b1_0,(b1_1,())),((b2_0,(b2_1,())),((b3_0,(b3_1,())),())))))))
def s5_0(d:sh5_0.data):Option (Out sh5_0.data shb5_0.data shr5_0.data):=(t5_0 d.1.1 d.1.2.1 d.2.1.1 d.2.1.2.1 d.2.2.1.1 d.2.2.1.2.1 d.2.2.2.1.1 d.2.2.2.1.2.1 d.2.2.2.2.1.1 d.2.2.2.2.1.2.1).val
def l5_0(d:sh5_0.data):Option (shb5_0.data ⊕ shr5_0.data):=itr s5_0 rounds d
def b5_0(d:sh5_0.data):shb5_0.data:=outB shb5_0.dflt (l5_0 d)
def lc5_0:LoopC:=lcB sh5_0 shb5_0 shr5_0 l5_0 b5_0
def ww3o:List Nat:=[2]
theorem wk5_0(x3:Int)(x5:Int)(b0_0:List Int)(b0_1:List Int)(b1_0:Int)(b1_1:Int)(b2_0:Int)(b2_1:Int)(b3_0:List Int)(b3_1:List Int):Walks (qar (kf43 Proofs.Tryz.prog).orc Proofs.Tryz.prog 400 5 0 sh5_0 shb5_0 shr5_0 ((x3,x5,()),(b0_0,b0_1,()),(b1_0,b1_1,()),(b2_0,b2_1,()),(b3_0,b3_1,()),())) (t5_0 x3 x5 b0_0 b0_1 b1_0 b1_1 b2_0 b2_1 b3_0 b3_1) [(bl 5 31,10::8::6::4::ww3o),(bl 1 0,ww3o)]:=
 ⟨by kernel_rfl,by kernel_rfl,trivial⟩
theorem ok5_0:qau Proofs.Tryz.prog 5 0 lc5_0:=qaC (sh:=sh5_0) (shB:=shb5_0) (shR:=shr5_0) kf43_ok.base (T:=fun(d:sh5_0.data)=>t5_0 d.1.1 d.1.2.1 d.2.1.1 d.2.1.2.1 d.2.2.1.1 d.2.2.1.2.1 d.2.2.2.1.1 d.2.2.2.1.2.1 d.2.2.2.2.1.1 d.2.2.2.2.1.2.1) (by kernel_rfl) rfl (fun(d:sh5_0.data)=>wB (wk5_0 d.1.1 d.1.2.1 d.2.1.1 d.2.1.2.1 d.2.2.1.1 d.2.2.1.2.1 d.2.2.2.1.1 d.2.2.2.1.2.1 d.2.2.2.2.1.1 d.2.2.2.2.1.2.1) (by kernel_rfl)) (fun _=>rfl)
def kl5_0(P:Go.Program):Known:=(kf43 P).loop 5 0 lc5_0
theorem kl5_0_ok:KnownOk Proofs.Tryz.prog (kl5_0 Proofs.Tryz.prog):=kf43_ok.loop ok5_0
abbrev sh5_2:Sh:={ n:=409,slots:=[2,3,5,11],pats:=[.ptr 0 2 0,.ptr 1 2 0,.ptr 2 2 0,.ty (.int .i64)],boxes:=[.row [.ty (.slice (.int .i64)),.ty (.slice (.int .i64))],.row [.ty (.int .i64),.ty (.int .i64)],.row [.ty (.int .i64),.ty (.int .i64)]] }
abbrev shb5_2:Sh:={ n:=409,slots:=[2,3],pats:=[.ptr 0 2 0,.ptr 1 2 0],boxes:=[.row [.ty (.slice (.int .i64)),.ty (.slice (.int .i64))],.row [.ty (.int .i64),.ty (.int .i64)],.row [.ty (.int .i64),.ty (.int .i64)]] }
abbrev shr5_2:Sh:={ n:=409,slots:=[4],pats:=[.ty .bool],boxes:=[.row [.ty (.slice (.int .i64)),.ty (.slice (.int .i64))],.row [.ty (.int .i64),.ty (.int .i64)],.row [.ty (.int .i64),.ty (.int .i64)]] }
def t5_2(x3:Int)(b0_0:List Int)(b0_1:List Int)(b1_0:Int)(b1_1:Int)(b2_0:Int)(b2_1:Int):Tr (Out sh5_2.data shb5_2.data shr5_2.data):= Tr.test ((!leF (↑(List.length b0_0):Int) x3:Bool)) (Tr.test (decide ((0:Int)≤x3)&&decide (x3<(↑(List.length b0_0):Int))) (Tr.test (Option.isSome (f37 (b2_0,(b2_1,((List.getD b0_0 (Int.toNat x3) (0:Int):Int),((1:Int),())))))) (let r0:=g37 (b2_0,(b2_1,((List.getD b0_0 (Int.toNat x3) (0:Int):Int),((1:Int),()))));Tr.test ((!leF r0.1 0:Bool)) (Tr.fin (.ret (((false:Bool),()),((b0_0,(b0_1,())),((b1_0,(b1_1,())),((b2_0,(b2_1,())),())))))) (Tr.fin (.again (((wrap64 (x3+(1:Int)):Int),()),((b0_0,(b0_1,())),((b1_0,(b1_1,())),((b2_0,(b2_1,())),()))))))) (Tr.stop)) (Tr.stop)) (Tr.fin (.brk ((),((b0_0,(b0_1,())),((b1_0,(b1_1,())),((b2_0,(b2_1,())),()))))))
def s5_2(d:sh5_2.data):Option (Out sh5_2.data shb5_2.data shr5_2.data):=(t5_2 d.1.1 d.2.1.1 d.2.1.2.1 d.2.2.1.1 d.2.2.1.2.1 d.2.2.2.1.1 d.2.2.2.1.2.1).val
def l5_2(d:sh5_2.data):Option (shb5_2.data ⊕ shr5_2.data):=itr s5_2 rounds d
def b5_2(d:sh5_2.data):shb5_2.data:=outB shb5_2.dflt (l5_2 d)
def r5_2(d:sh5_2.data):shr5_2.data:=outR shr5_2.dflt (l5_2 d)
def lc5_2:LoopC:=lcOf sh5_2 shb5_2 shr5_2 l5_2 b5_2 r5_2
def ww3p:List Nat:=[2]
def ww3q:List Nat:=8::6::4::ww3p
theorem wk5_2(x3:Int)(b0_0:List Int)(b0_1:List Int)(b1_0:Int)(b1_1:Int)(b2_0:Int)(b2_1:Int):Walks (qar (kl5_0 Proofs.Tryz.prog).orc Proofs.Tryz.prog 400 5 2 sh5_2 shb5_2 shr5_2 ((x3,()),(b0_0,b0_1,()),(b1_0,b1_1,()),(b2_0,b2_1,()),())) (t5_2 x3 b0_0 b0_1 b1_0 b1_1 b2_0 b2_1) [(bl 4 15,ww3q),(bl 4 7,ww3q),(bl 1 0,ww3p)]:=
 ⟨by kernel_rfl,by kernel_rfl,by kernel_rfl,trivial⟩
theorem ok5_2:qau Proofs.Tryz.prog 5 2 lc5_2:=qaF (sh:=sh5_2) (shB:=shb5_2) (shR:=shr5_2) kl5_0_ok.base (T:=fun(d:sh5_2.data)=>t5_2 d.1.1 d.2.1.1 d.2.1.2.1 d.2.2.1.1 d.2.2.1.2.1 d.2.2.2.1.1 d.2.2.2.1.2.1) (by kernel_rfl) rfl (fun(d:sh5_2.data)=>wB (wk5_2 d.1.1 d.2.1.1 d.2.1.2.1 d.2.2.1.1 d.2.2.1.2.1 d.2.2.2.1.1 d.2.2.2.1.2.1) (by kernel_rfl)) (fun _=>rfl)
def kl5_2(P:Go.Program):Known:=(kl5_0 P).loop 5 2 lc5_2
theorem kl5_2_ok:KnownOk Proofs.Tryz.prog (kl5_2 Proofs.Tryz.prog):=kl5_0_ok.loop ok5_2
abbrev sh5_4:Sh:={ n:=409,slots:=[2,12,14,15,24,26],pats:=[.ptr 0 2 0,.ty (.slice (.pair (.int .i64) (.pair (.int .i64) .unit))),.ty (.int .i64),.ptr 1 3 0,.ty (.slice (.pair (.int .i64) (.pair (.int .i64) .unit))),.ty (.int .i64)],boxes:=[.row [.ty (.slice (.int .i64)),.ty (.slice (.int .i64))],.row [.ty (.slice (.pair (.int .i64) (.pair (.int .i64) .unit))),.ty (.slice (.pair (.int .i64) (.pair (.int .i64) .unit))),.ty (.int .i64)]] }
abbrev shb5_4:Sh:={ n:=409,slots:=[2,12],pats:=[.ptr 0 2 0,.ty (.slice (.pair (.int .i64) (.pair (.int .i64) .unit)))],boxes:=[.row [.ty (.slice (.int .i64)),.ty (.slice (.int .i64))],.row [.ty (.slice (.pair (.int .i64) (.pair (.int .i64) .unit))),.ty (.slice (.pair (.int .i64) (.pair (.int .i64) .unit))),.ty (.int .i64)]] }
abbrev shr5_4:Sh:={ n:=409,slots:=[4],pats:=[.ty .bool],boxes:=[.row [.ty (.slice (.int .i64)),.ty (.slice (.int .i64))],.row [.ty (.slice (.pair (.int .i64) (.pair (.int .i64) .unit))),.ty (.slice (.pair (.int .i64) (.pair (.int .i64) .unit))),.ty (.int .i64)]] }
def t5_4(x1:(List (Int×(Int×Unit))))(x2:Int)(x4:List (Int×(Int×Unit)))(x5:Int)(b0_0:List Int)(b0_1:List Int)(b1_0:List (Int×(Int×Unit)))(b1_1:List (Int×(Int×Unit)))(b1_2:Int):Tr (Out sh5_4.data shb5_4.data shr5_4.data):= Tr.test ((!leF (↑(List.length x4):Int) x5:Bool)) (Tr.test (decide ((0:Int)≤x5)&&decide (x5<(↑(List.length x4):Int))) (Tr.test (Option.isSome (f45 ((((List.getD x4 (Int.toNat x5) ((0:Int),(0:Int),())).1:Int),(((List.getD x4 (Int.toNat x5) ((0:Int),(0:Int),())).2.1:Int),())),()))) (Tr.test ((decide ((0:Int)≤x2)&&decide (x2<(↑(List.length x1):Int)):Bool)) (Tr.test (Option.isSome (f45 ((((List.getD x1 (Int.toNat x2) ((0:Int),(0:Int),())).1:Int),(((List.getD x1 (Int.toNat x2) ((0:Int),(0:Int),())).2.1:Int),())),()))) (let r0:=g45 ((((List.getD x4 (Int.toNat x5) ((0:Int),(0:Int),())).1:Int),(((List.getD x4 (Int.toNat x5) ((0:Int),(0:Int),())).2.1:Int),())),());let r1:=g45 ((((List.getD x1 (Int.toNat x2) ((0:Int),(0:Int),())).1:Int),(((List.getD x1 (Int.toNat x2) ((0:Int),(0:Int),())).2.1:Int),())),());Tr.test (Option.isSome (f44 (((r0.1.1.1,(r0.1.1.2.1,())),((r0.1.2.1.1,(r0.1.2.1.2.1,())),())),(((r1.1.1.1,(r1.1.1.2.1,())),((r1.1.2.1.1,(r1.1.2.1.2.1,())),())),())))) (Tr.test ((decide ((0:Int)≤x5)&&decide (x5<(↑(List.length b1_1):Int)):Bool)) (Tr.test (Option.isSome (f45 ((((List.getD b1_1 (Int.toNat x5) ((0:Int),(0:Int),())).1:Int),(((List.getD b1_1 (Int.toNat x5) ((0:Int),(0:Int),())).2.1:Int),())),()))) (let r2:=g44 (((r0.1.1.1,(r0.1.1.2.1,())),((r0.1.2.1.1,(r0.1.2.1.2.1,())),())),(((r1.1.1.1,(r1.1.1.2.1,())),((r1.1.2.1.1,(r1.1.2.1.2.1,())),())),()));let r3:=g45 ((((List.getD b1_1 (Int.toNat x5) ((0:Int),(0:Int),())).1:Int),(((List.getD b1_1 (Int.toNat x5) ((0:Int),(0:Int),())).2.1:Int),())),());Tr.test (Option.isSome (f43 (((r2.1.1.1,(r2.1.1.2.1,())),((r2.1.2.1.1,(r2.1.2.1.2.1,())),())),(((r3.1.1.1,(r3.1.1.2.1,())),((r3.1.2.1.1,(r3.1.2.1.2.1,())),())),())))) (let r4:=g43 (((r2.1.1.1,(r2.1.1.2.1,())),((r2.1.2.1.1,(r2.1.2.1.2.1,())),())),(((r3.1.1.1,(r3.1.1.2.1,())),((r3.1.2.1.1,(r3.1.2.1.2.1,())),())),()));Tr.test ((!eqF r4.1 0:Bool)) (Tr.fin (.ret (((false:Bool),()),((b0_0,(b0_1,())),((b1_0,(b1_1,(b1_2,()))),()))))) (Tr.fin (.again ((x1,(x2,(x4,((wrap64 (x5+(1:Int)):Int),())))),((b0_0,(b0_1,())),((b1_0,(b1_1,(b1_2,()))),())))))) (Tr.stop)) (Tr.stop)) (Tr.stop)) (Tr.stop)) (Tr.stop)) (Tr.stop)) (Tr.stop)) (Tr.stop)) (Tr.fin (.brk ((x1,()),((b0_0,(b0_1,())),((b1_0,(b1_1,(b1_2,()))),())))))
def s5_4(d:sh5_4.data):Option (Out sh5_4.data shb5_4.data shr5_4.data):=(t5_4 d.1.1 d.1.2.1 d.1.2.2.1 d.1.2.2.2.1 d.2.1.1 d.2.1.2.1 d.2.2.1.1 d.2.2.1.2.1 d.2.2.1.2.2.1).val
def l5_4(d:sh5_4.data):Option (shb5_4.data ⊕ shr5_4.data):=itr s5_4 rounds d
def b5_4(d:sh5_4.data):shb5_4.data:=outB shb5_4.dflt (l5_4 d)
def r5_4(d:sh5_4.data):shr5_4.data:=outR shr5_4.dflt (l5_4 d)
def lc5_4:LoopC:=lcOf sh5_4 shb5_4 shr5_4 l5_4 b5_4 r5_4
def ww3r:List Nat:=[2]
def ww3s:List Nat:=pk 9 10 0xf7bdef7bdf0 ww3r
theorem wk5_4(x1:(List (Int×(Int×Unit))))(x2:Int)(x4:List (Int×(Int×Unit)))(x5:Int)(b0_0:List Int)(b0_1:List Int)(b1_0:List (Int×(Int×Unit)))(b1_1:List (Int×(Int×Unit)))(b1_2:Int):Walks (qar (kl5_2 Proofs.Tryz.prog).orc Proofs.Tryz.prog 400 5 4 sh5_4 shb5_4 shr5_4 ((x1,x2,x4,x5,()),(b0_0,b0_1,()),(b1_0,b1_1,b1_2,()),())) (t5_4 x1 x2 x4 x5 b0_0 b0_1 b1_0 b1_1 b1_2) [(bl 10 1023,ww3s),(bl 10 511,ww3s),(bl 1 0,ww3r)]:=
 ⟨by kernel_rfl,by kernel_rfl,by kernel_rfl,trivial⟩
theorem ok5_4:qau Proofs.Tryz.prog 5 4 lc5_4:=qaF (sh:=sh5_4) (shB:=shb5_4) (shR:=shr5_4) kl5_2_ok.base (T:=fun(d:sh5_4.data)=>t5_4 d.1.1 d.1.2.1 d.1.2.2.1 d.1.2.2.2.1 d.2.1.1 d.2.1.2.1 d.2.2.1.1 d.2.2.1.2.1 d.2.2.1.2.2.1) (by kernel_rfl) rfl (fun(d:sh5_4.data)=>wB (wk5_4 d.1.1 d.1.2.1 d.1.2.2.1 d.1.2.2.2.1 d.2.1.1 d.2.1.2.1 d.2.2.1.1 d.2.2.1.2.1 d.2.2.1.2.2.1) (by kernel_rfl)) (fun _=>rfl)
def kl5_4(P:Go.Program):Known:=(kl5_2 P).loop 5 4 lc5_4
theorem kl5_4_ok:KnownOk Proofs.Tryz.prog (kl5_4 Proofs.Tryz.prog):=kl5_2_ok.loop ok5_4
abbrev sh5_6:Sh:={ n:=409,slots:=[12,27,28],pats:=[.ty (.slice (.pair (.int .i64) (.pair (.int .i64) .unit))),.ptr 0 2 0,.ty (.int .i64)],boxes:=[.row [.slu 1 1,.slu 2 1],.arr (.int .i64),.arr (.int .i64)] }
abbrev shb5_6:Sh:={ n:=409,slots:=[12,27],pats:=[.ty (.slice (.pair (.int .i64) (.pair (.int .i64) .unit))),.ptr 0 2 0],boxes:=[.row [.slu 1 1,.slu 2 1],.arr (.int .i64),.arr (.int .i64)] }
abbrev shr5_6:Sh:={ n:=409,slots:=[4],pats:=[.ty .bool],boxes:=[.row [.slu 1 1,.slu 2 1],.arr (.int .i64),.arr (.int .i64)] }
def t5_6(x0:(List (Int×(Int×Unit))))(x2:Int)(b0_0n:Nat)(b0_1n:Nat)(b1:List Int)(b2:List Int):Tr (Out sh5_6.data shb5_6.data shr5_6.data):= Tr.test ((!leF (↑b0_1n:Int) x2:Bool)) (Tr.test (decide ((0:Int)≤x2)&&decide (x2<(↑b0_1n:Int))) (Tr.test ((Nat.ble ((0:Nat)+Int.toNat x2+(1:Nat)) (List.length b2):Bool)) (Tr.test ((Nat.ble ((0:Nat)+Int.toNat x2+(1:Nat)) (List.length (List.set b2 ((0:Nat)+Int.toNat x2) (wrap64 ((2:Int)*List.getD b2 ((0:Nat)+Int.toNat x2) (0:Int))))):Bool)) (Tr.test (Option.isSome (f46 ((List.getD (List.set b2 ((0:Nat)+Int.toNat x2) (wrap64 ((2:Int)*List.getD b2 ((0:Nat)+Int.toNat x2) (0:Int)))) ((0:Nat)+Int.toNat x2) (0:Int):Int),()))) (let r0:=g46 ((List.getD (List.set b2 ((0:Nat)+Int.toNat x2) (wrap64 ((2:Int)*List.getD b2 ((0:Nat)+Int.toNat x2) (0:Int)))) ((0:Nat)+Int.toNat x2) (0:Int):Int),());Tr.test ((!leF r0.1 1000:Bool)) (Tr.fin (.ret (((true:Bool),()),((b0_0n,(b0_1n,())),(b1,((List.set b2 ((0:Nat)+Int.toNat x2) (wrap64 ((2:Int)*List.getD b2 ((0:Nat)+Int.toNat x2) (0:Int))):List Int),())))))) (Tr.fin (.again ((x0,((wrap64 (x2+(1:Int)):Int),())),((b0_0n,(b0_1n,())),(b1,((List.set b2 ((0:Nat)+Int.toNat x2) (wrap64 ((2:Int)*List.getD b2 ((0:Nat)+Int.toNat x2) (0:Int))):List Int),()))))))) (Tr.stop)) (Tr.stop)) (Tr.stop)) (Tr.stop)) (Tr.fin (.brk ((x0,()),((b0_0n,(b0_1n,())),(b1,(b2,()))))))
def s5_6(d:sh5_6.data):Option (Out sh5_6.data shb5_6.data shr5_6.data):=(t5_6 d.1.1 d.1.2.1 d.2.1.1 d.2.1.2.1 d.2.2.1 d.2.2.2.1).val
def l5_6(d:sh5_6.data):Option (shb5_6.data ⊕ shr5_6.data):=itr s5_6 rounds d
def b5_6(d:sh5_6.data):shb5_6.data:=outB shb5_6.dflt (l5_6 d)
def r5_6(d:sh5_6.data):shr5_6.data:=outR shr5_6.dflt (l5_6 d)
def lc5_6:LoopC:=lcOf sh5_6 shb5_6 shr5_6 l5_6 b5_6 r5_6
def ww3t:List Nat:=[2]
def ww3u:List Nat:=pk 8 6 534171303408 ww3t
theorem wk5_6(x0:(List (Int×(Int×Unit))))(x2:Int)(b0_0n:Nat)(b0_1n:Nat)(b1:List Int)(b2:List Int):Walks (qar (kl5_4 Proofs.Tryz.prog).orc Proofs.Tryz.prog 400 5 6 sh5_6 shb5_6 shr5_6 ((x0,x2,()),(b0_0n,b0_1n,()),b1,b2,())) (t5_6 x0 x2 b0_0n b0_1n b1 b2) [(bl 6 63,ww3u),(bl 6 31,ww3u),(bl 1 0,ww3t)]:=
 ⟨by kernel_rfl,by kernel_rfl,by kernel_rfl,trivial⟩
theorem ok5_6:qau Proofs.Tryz.prog 5 6 lc5_6:=qaF (sh:=sh5_6) (shB:=shb5_6) (shR:=shr5_6) kl5_4_ok.base (T:=fun(d:sh5_6.data)=>t5_6 d.1.1 d.1.2.1 d.2.1.1 d.2.1.2.1 d.2.2.1 d.2.2.2.1) (by kernel_rfl) rfl (fun(d:sh5_6.data)=>wB (wk5_6 d.1.1 d.1.2.1 d.2.1.1 d.2.1.2.1 d.2.2.1 d.2.2.2.1) (by kernel_rfl)) (fun _=>rfl)
def kl5_6(P:Go.Program):Known:=(kl5_4 P).loop 5 6 lc5_6
theorem kl5_6_ok:KnownOk Proofs.Tryz.prog (kl5_6 Proofs.Tryz.prog):=kl5_4_ok.loop ok5_6
abbrev sh5_8:Sh:={ n:=409,slots:=[12,29,31],pats:=[.ty (.slice (.pair (.int .i64) (.pair (.int .i64) .unit))),.ty (.slice (.pair (.int .i64) (.pair (.int .i64) .unit))),.ty (.int .i64)],boxes:=[] }
abbrev shb5_8:Sh:={ n:=409,slots:=[],pats:=[],boxes:=[] }
abbrev shr5_8:Sh:={ n:=409,slots:=[4],pats:=[.ty .bool],boxes:=[] }
def t5_8(x0:(List (Int×(Int×Unit))))(x1:List (Int×(Int×Unit)))(x2:Int):Tr (Out sh5_8.data shb5_8.data shr5_8.data):= Tr.test ((!leF (↑(List.length x1):Int) x2:Bool)) (Tr.test (decide ((0:Int)≤x2)&&decide (x2<(↑(List.length x1):Int))) (Tr.test ((decide ((0:Int)≤x2)&&decide (x2<(↑(List.length x0):Int)):Bool)) (Tr.test (Option.isSome (f41 ((wrap64 ((2:Int)*(List.getD x0 (Int.toNat x2) ((0:Int),(0:Int),())).1):Int),(((List.getD x0 (Int.toNat x2) ((0:Int),(0:Int),())).2.1:Int),())))) (let r0:=g41 ((wrap64 ((2:Int)*(List.getD x0 (Int.toNat x2) ((0:Int),(0:Int),())).1):Int),(((List.getD x0 (Int.toNat x2) ((0:Int),(0:Int),())).2.1:Int),()));Tr.test ((!((List.getD x1 (Int.toNat x2) ((0:Int),(0:Int),())).1==r0.1.1&&((List.getD x1 (Int.toNat x2) ((0:Int),(0:Int),())).2.1==r0.1.2.1&&true)):Bool)) (Tr.fin (.ret (((false:Bool),()),()))) (Tr.fin (.again ((x0,(x1,((wrap64 (x2+(1:Int)):Int),()))),())))) (Tr.stop)) (Tr.stop)) (Tr.stop)) (Tr.fin (.brk ((),())))
def s5_8(d:sh5_8.data):Option (Out sh5_8.data shb5_8.data shr5_8.data):=(t5_8 d.1.1 d.1.2.1 d.1.2.2.1).val
def l5_8(d:sh5_8.data):Option (shb5_8.data ⊕ shr5_8.data):=itr s5_8 rounds d
def b5_8(d:sh5_8.data):shb5_8.data:=outB shb5_8.dflt (l5_8 d)
def r5_8(d:sh5_8.data):shr5_8.data:=outR shr5_8.dflt (l5_8 d)
def lc5_8:LoopC:=lcOf sh5_8 shb5_8 shr5_8 l5_8 b5_8 r5_8
def ww3v:List Nat:=[2]
def ww3w:List Nat:=10::8::6::6::4::ww3v
theorem wk5_8(x0:(List (Int×(Int×Unit))))(x1:List (Int×(Int×Unit)))(x2:Int):Walks (qar (kl5_6 Proofs.Tryz.prog).orc Proofs.Tryz.prog 400 5 8 sh5_8 shb5_8 shr5_8 ((x0,x1,x2,()),())) (t5_8 x0 x1 x2) [(bl 5 31,ww3w),(bl 5 15,ww3w),(bl 1 0,ww3v)]:=
 ⟨by kernel_rfl,by kernel_rfl,by kernel_rfl,trivial⟩
theorem ok5_8:qau Proofs.Tryz.prog 5 8 lc5_8:=qaF (sh:=sh5_8) (shB:=shb5_8) (shR:=shr5_8) kl5_6_ok.base (T:=fun(d:sh5_8.data)=>t5_8 d.1.1 d.1.2.1 d.1.2.2.1) (by kernel_rfl) rfl (fun(d:sh5_8.data)=>wB (wk5_8 d.1.1 d.1.2.1 d.1.2.2.1) (by kernel_rfl)) (fun _=>rfl)
def kl5_8(P:Go.Program):Known:=(kl5_6 P).loop 5 8 lc5_8
theorem kl5_8_ok:KnownOk Proofs.Tryz.prog (kl5_8 Proofs.Tryz.prog):=kl5_6_ok.loop ok5_8
end Go.Vm.Mo
