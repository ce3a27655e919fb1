import Derived.Test.YtifpmnmpinjcgaaGreatA5
import Derived.KernelRfl
import Derived.Test.YtifpmnmpinjcgaaGreatProg
import Derived.Test.YtifpmnmpinjcgaaGreatRsFa
set_option linter.unusedVariables false
set_option linter.unusedSimpArgs false

namespace Go.Vm.Mo
open Go
set_option linter.unusedVariables false
abbrev as33:List Ty:=[(.slice (.int .i64))]
abbrev rs33:List Ty:=[.bool]
def t33(x0:(List Int)):Tr (Tys.data rs33):= Tr.test (Option.isSome (f32 (x0,()))) (let r0:=g32 (x0,());Tr.test ((decide ((0:Int)≤wrap64 ((↑(List.length r0.1):Int)-(1:Int)))&&decide (wrap64 ((↑(List.length r0.1):Int)-(1:Int))<(↑(List.length r0.1):Int)):Bool)) (Tr.fin (((eqF (↑(List.length (List.getD r0.1 (Int.toNat (wrap64 ((↑(List.length r0.1):Int)-(1:Int)))) [])):Int) (1:Int):Bool),()))) (Tr.stop)) (Tr.stop)
def f33(d:Tys.data as33):Option (Tys.data rs33):=(t33 d.1).val
def g33(d:Tys.data as33):Tys.data rs33:=(f33 d).getD (Tys.dflt rs33)
def p33:PureC:=pcOf as33 rs33 f33 g33
theorem wk33(x0:(List Int)):Walks (runPure (kf7 Proofs.Tryz.prog).orc Proofs.Tryz.prog 400 33 as33 rs33 (x0,())) (t33 x0) [(bl 2 3,[4,2])]:=
 ⟨by kernel_rfl,trivial⟩
theorem ok33:PureOk Proofs.Tryz.prog 33 p33:=qag kf7_ok.base (T:=fun(d:Tys.data as33)=>t33 d.1) (by kernel_rfl) (fun(d:Tys.data as33)=>wP (wk33 d.1) (by kernel_rfl))
def kf33(P:Go.Program):Known:=(kf7 P).func 33 p33
theorem kf33_ok:KnownOk Proofs.Tryz.prog (kf33 Proofs.Tryz.prog):=kf7_ok.func ok33
abbrev as9:List Ty:=[(.slice (.int .i64))]
abbrev rs9:List Ty:=[.bool,(.int .i64)]
def t9(x0:(List Int)):Tr (Tys.data rs9):= Tr.test (Option.isSome (f31 (x0,()))) (let r0:=g31 (x0,());Tr.test ((!eqF r0.1 0:Bool)) (Tr.fin (((false:Bool),(r0.1,())))) (Tr.test (Option.isSome (f33 (x0,()))) (let r1:=g33 (x0,());Tr.fin ((r1.1,((0:Int),())))) (Tr.stop))) (Tr.stop)
def f9(d:Tys.data as9):Option (Tys.data rs9):=(t9 d.1).val
def g9(d:Tys.data as9):Tys.data rs9:=(f9 d).getD (Tys.dflt rs9)
def p9:PureC:=pcOf as9 rs9 f9 g9
def wwg:List Nat:=[4,2]
theorem wk9(x0:(List Int)):Walks (runPure (kf33 Proofs.Tryz.prog).orc Proofs.Tryz.prog 400 9 as9 rs9 (x0,())) (t9 x0) [(bl 2 3,wwg),(bl 3 5,6::wwg)]:=
 ⟨by kernel_rfl,by kernel_rfl,trivial⟩
theorem ok9:PureOk Proofs.Tryz.prog 9 p9:=qag kf33_ok.base (T:=fun(d:Tys.data as9)=>t9 d.1) (by kernel_rfl) (fun(d:Tys.data as9)=>wP (wk9 d.1) (by kernel_rfl))
def kf9(P:Go.Program):Known:=(kf33 P).func 9 p9
theorem kf9_ok:KnownOk Proofs.Tryz.prog (kf9 Proofs.Tryz.prog):=kf33_ok.func ok9
abbrev as16:List Ty:=[(.int .i64),(.int .i64),(.int .i64)]
abbrev rs16:List Ty:=[.bool]
def t16(x0:Int)(x1:Int)(x2:Int):Tr (Tys.data rs16):= Tr.test ((leF x1 x0:Bool)) (Tr.fin ((leF x0 x2,()))) (Tr.fin ((false,())))
def f16(d:Tys.data as16):Option (Tys.data rs16):=(t16 d.1 d.2.1 d.2.2.1).val
def g16(d:Tys.data as16):Tys.data rs16:=(f16 d).getD (Tys.dflt rs16)
def p16:PureC:=pcOf as16 rs16 f16 g16
def wwh:List Nat:=[2,2,2,2]
theorem wk16(x0:Int)(x1:Int)(x2:Int):Walks (runPure (kf9 Proofs.Tryz.prog).orc Proofs.Tryz.prog 400 16 as16 rs16 (x0,x1,x2,())) (t16 x0 x1 x2) [(bl 1 1,wwh),(bl 1 0,wwh)]:=
 ⟨by kernel_rfl,by kernel_rfl,trivial⟩
theorem ok16:PureOk Proofs.Tryz.prog 16 p16:=qag kf9_ok.base (T:=fun(d:Tys.data as16)=>t16 d.1 d.2.1 d.2.2.1) (by kernel_rfl) (fun(d:Tys.data as16)=>wP (wk16 d.1 d.2.1 d.2.2.1) (by kernel_rfl))
def kf16(P:Go.Program):Known:=(kf9 P).func 16 p16
theorem kf16_ok:KnownOk Proofs.Tryz.prog (kf16 Proofs.Tryz.prog):=kf9_ok.func ok16
abbrev sh10_0:Sh:={ n:=26,slots:=[0,3],pats:=[.ty (.slice (.int .i64)),.ty (.int .i64)],boxes:=[] }
abbrev shb10_0:Sh:={ n:=26,slots:=[0],pats:=[.ty (.slice (.int .i64))],boxes:=[] }
abbrev shr10_0:Sh:={ n:=26,slots:=[2],pats:=[.ty (.int .i64)],boxes:=[] }
def t10_0(x0:(List Int))(x1:Int):Tr (Out sh10_0.data shb10_0.data shr10_0.data):= Tr.test ((!leF (↑(List.length x0):Int) x1:Bool)) (Tr.test (decide ((0:Int)≤x1)&&decide (x1<(↑(List.length x0):Int))) (Tr.test (Option.isSome (f16 ((List.getD x0 (Int.toNat x1) (0:Int):Int),((-1000:Int),((1000:Int),()))))) (let r0:=g16 ((List.getD x0 (Int.toNat x1) (0:Int):Int),((-1000:Int),((1000:Int),())));Tr.test ((!r0.1:Bool)) (Tr.fin (.ret (((2:Int),()),()))) (Tr.fin (.again ((x0,((wrap64 (x1+(1:Int)):Int),())),())))) (Tr.stop)) (Tr.stop)) (Tr.fin (.brk ((x0,()),())))
def s10_0(d:sh10_0.data):Option (Out sh10_0.data shb10_0.data shr10_0.data):=(t10_0 d.1.1 d.1.2.1).val
def l10_0(d:sh10_0.data):Option (shb10_0.data ⊕ shr10_0.data):=itr s10_0 rounds d
def b10_0(d:sh10_0.data):shb10_0.data:=outB shb10_0.dflt (l10_0 d)
def r10_0(d:sh10_0.data):shr10_0.data:=outR shr10_0.dflt (l10_0 d)
def lc10_0:LoopC:=lcOf sh10_0 shb10_0 shr10_0 l10_0 b10_0 r10_0
def wwi:List Nat:=[2]
def wwj:List Nat:=8::6::4::wwi
theorem wk10_0(x0:(List Int))(x1:Int):Walks (qav (kf16 Proofs.Tryz.prog).orc Proofs.Tryz.prog 400 10 0 sh10_0 shb10_0 shr10_0 ((x0,x1,()),())) (t10_0 x0 x1) [(bl 4 15,wwj),(bl 4 7,wwj),(bl 1 0,wwi)]:=
 ⟨by kernel_rfl,by kernel_rfl,by kernel_rfl,trivial⟩
theorem ok10_0:qaR Proofs.Tryz.prog 10 0 lc10_0:=qcT (sh:=sh10_0) (shB:=shb10_0) (shR:=shr10_0) kf16_ok.base (T:=fun(d:sh10_0.data)=>t10_0 d.1.1 d.1.2.1) (by kernel_rfl) rfl (fun(d:sh10_0.data)=>wB (wk10_0 d.1.1 d.1.2.1) (by kernel_rfl)) (fun _=>rfl)
def kl10_0(P:Go.Program):Known:=(kf16 P).loop 10 0 lc10_0
theorem kl10_0_ok:KnownOk Proofs.Tryz.prog (kl10_0 Proofs.Tryz.prog):=kf16_ok.loop ok10_0
abbrev as10:List Ty:=[(.slice (.int .i64))]
abbrev rs10:List Ty:=[(.int .i64)]
def t10(x0:(List Int)):Tr (Tys.data rs10):= Tr.test ((eqF (↑(List.length x0):Int) (0:Int):Bool)) (Tr.fin (((10:Int),()))) (Tr.test (!leF (↑(List.length x0):Int) (4:Int)) (Tr.fin (((8:Int),()))) (Tr.test (Option.isSome (l10_0 ((x0,((0:Int),())),()))) (Tr.test (qee (l10_0 ((x0,((0:Int),())),()))) (let r0:=r10_0 ((x0,((0:Int),())),());Tr.fin ((r0.1.1,()))) (let r1:=b10_0 ((x0,((0:Int),())),());Tr.test ((true&&decide ((0:Int)<(↑(List.length r1.1.1):Int)):Bool)) (Tr.test ((eqF (List.getD r1.1.1 (0:Nat) (0:Int)) (0:Int):Bool)) (Tr.fin (((11:Int),()))) (Tr.fin (((0:Int),())))) (Tr.stop))) (Tr.stop)))
def f10(d:Tys.data as10):Option (Tys.data rs10):=(t10 d.1).val
def g10(d:Tys.data as10):Tys.data rs10:=(f10 d).getD (Tys.dflt rs10)
def p10:PureC:=pcOf as10 rs10 f10 g10
def wwk:List Nat:=[2]
def wwl:List Nat:=4::wwk
def wwm:List Nat:=8::6::wwl
def wwn:List Nat:=12::10::wwm
theorem wk10(x0:(List Int)):Walks (runPure (kl10_0 Proofs.Tryz.prog).orc Proofs.Tryz.prog 400 10 as10 rs10 (x0,())) (t10 x0) [(bl 1 1,wwk),(bl 2 2,wwl),(bl 4 12,wwm),(bl 6 52,wwn),(bl 6 20,wwn)]:=by
 repeat refine⟨by kernel_rfl,?_⟩
 exact trivial
theorem ok10:PureOk Proofs.Tryz.prog 10 p10:=qag kl10_0_ok.base (T:=fun(d:Tys.data as10)=>t10 d.1) (by kernel_rfl) (fun(d:Tys.data as10)=>wP (wk10 d.1) (by kernel_rfl))
def kf10(P:Go.Program):Known:=(kl10_0 P).func 10 p10
theorem kf10_ok:KnownOk Proofs.Tryz.prog (kf10 Proofs.Tryz.prog):=kl10_0_ok.func ok10
abbrev as15:List Ty:=[(.int .i64)]
abbrev rs15:List Ty:=[(.int .i64)]
def t15(x0:Int):Tr (Tys.data rs15):= Tr.fin (((if x0<Go.IntKind.wrap Go.IntKind.i64 ((0:Int)-x0)then Go.IntKind.wrap Go.IntKind.i64 ((0:Int)-x0)else x0:Int),()))
def f15(d:Tys.data as15):Option (Tys.data rs15):=(t15 d.1).val
def g15(d:Tys.data as15):Tys.data rs15:=(f15 d).getD (Tys.dflt rs15)
def p15:PureC:=pcOf as15 rs15 f15 g15
theorem wk15(x0:Int):Walks (runPure (kf10 Proofs.Tryz.prog).orc Proofs.Tryz.prog 400 15 as15 rs15 (x0,())) (t15 x0) [(bl 0 0,[])]:=
 ⟨by kernel_rfl,trivial⟩
theorem ok15:PureOk Proofs.Tryz.prog 15 p15:=qag kf10_ok.base (T:=fun(d:Tys.data as15)=>t15 d.1) (by kernel_rfl) (fun(d:Tys.data as15)=>wP (wk15 d.1) (by kernel_rfl))
def kf15(P:Go.Program):Known:=(kf10 P).func 15 p15
theorem kf15_ok:KnownOk Proofs.Tryz.prog (kf15 Proofs.Tryz.prog):=kf10_ok.func ok15
abbrev sh57_0:Sh:={ n:=13,slots:=[0,1],pats:=[.ty (.int .i64),.ty (.int .i64)],boxes:=[] }
abbrev shb57_0:Sh:={ n:=13,slots:=[0],pats:=[.ty (.int .i64)],boxes:=[] }
abbrev shr57_0:Sh:={ n:=13,slots:=[],pats:=[],boxes:=[] }
def t57_0(x0:Int)(x1:Int):Tr (Out sh57_0.data shb57_0.data shr57_0.data):= Tr.test ((!eqF x1 0:Bool)) (Tr.test (x1==(0:Int)) (Tr.stop) (Tr.fin (.again ((x1,((Int.tmod x0 x1:Int),())),())))) (Tr.fin (.brk ((x0,()),())))
def s57_0(d:sh57_0.data):Option (Out sh57_0.data shb57_0.data shr57_0.data):=(t57_0 d.1.1 d.1.2.1).val
def l57_0(d:sh57_0.data):Option (shb57_0.data ⊕ shr57_0.data):=itr s57_0 rounds d
def b57_0(d:sh57_0.data):shb57_0.data:=outB shb57_0.dflt (l57_0 d)
def lc57_0:LoopC:=lcB sh57_0 shb57_0 shr57_0 l57_0 b57_0
def wwo:List Nat:=[2]
theorem wk57_0(x0:Int)(x1:Int):Walks (qav (kf15 Proofs.Tryz.prog).orc Proofs.Tryz.prog 400 57 0 sh57_0 shb57_0 shr57_0 ((x0,x1,()),())) (t57_0 x0 x1) [(bl 2 1,4::wwo),(bl 1 0,wwo)]:=
 ⟨by kernel_rfl,by kernel_rfl,trivial⟩
theorem ok57_0:qaR Proofs.Tryz.prog 57 0 lc57_0:=qaO (sh:=sh57_0) (shB:=shb57_0) (shR:=shr57_0) kf15_ok.base (T:=fun(d:sh57_0.data)=>t57_0 d.1.1 d.1.2.1) (by kernel_rfl) rfl (fun(d:sh57_0.data)=>wB (wk57_0 d.1.1 d.1.2.1) (by kernel_rfl)) (fun _=>rfl)
def kl57_0(P:Go.Program):Known:=(kf15 P).loop 57 0 lc57_0
theorem kl57_0_ok:KnownOk Proofs.Tryz.prog (kl57_0 Proofs.Tryz.prog):=kf15_ok.loop ok57_0
abbrev as57:List Ty:=[(.int .i64),(.int .i64)]
abbrev rs57:List Ty:=[(.int .i64)]
def t57(x0:Int)(x1:Int):Tr (Tys.data rs57):= Tr.test (qbv (l57_0 ((x0,(x1,())),()))) (let r0:=b57_0 ((x0,(x1,())),());Tr.test (Option.isSome (f15 (r0.1.1,()))) (let r1:=g15 (r0.1.1,());Tr.fin ((r1.1,()))) (Tr.stop)) (Tr.stop)
def f57(d:Tys.data as57):Option (Tys.data rs57):=(t57 d.1 d.2.1).val
def g57(d:Tys.data as57):Tys.data rs57:=(f57 d).getD (Tys.dflt rs57)
def p57:PureC:=pcOf as57 rs57 f57 g57
theorem wk57(x0:Int)(x1:Int):Walks (runPure (kl57_0 Proofs.Tryz.prog).orc Proofs.Tryz.prog 400 57 as57 rs57 (x0,x1,())) (t57 x0 x1) [(bl 2 3,[4,1,2])]:=
 ⟨by kernel_rfl,trivial⟩
theorem ok57:PureOk Proofs.Tryz.prog 57 p57:=qag kl57_0_ok.base (T:=fun(d:Tys.data as57)=>t57 d.1 d.2.1) (by kernel_rfl) (fun(d:Tys.data as57)=>wP (wk57 d.1 d.2.1) (by kernel_rfl))
def kf57(P:Go.Program):Known:=(kl57_0 P).func 57 p57
theorem kf57_ok:KnownOk Proofs.Tryz.prog (kf57 Proofs.Tryz.prog):=kl57_0_ok.func ok57
abbrev sh35_0:Sh:={ n:=41,slots:=[0,3,4],pats:=[.ty (.slice (.int .i64)),.ty (.int .i64),.ty (.int .i64)],boxes:=[] }
abbrev shb35_0:Sh:={ n:=41,slots:=[0,3],pats:=[.ty (.slice (.int .i64)),.ty (.int .i64)],boxes:=[] }
abbrev shr35_0:Sh:={ n:=41,slots:=[],pats:=[],boxes:=[] }
def t35_0(x0:(List Int))(x1:Int)(x2:Int):Tr (Out sh35_0.data shb35_0.data shr35_0.data):= Tr.test ((!leF (↑(List.length x0):Int) x2:Bool)) (Tr.test (decide ((0:Int)≤x2)&&decide (x2<(↑(List.length x0):Int))) (Tr.test (Option.isSome (f57 (x1,((List.getD x0 (Int.toNat x2) (0:Int):Int),())))) (let r0:=g57 (x1,((List.getD x0 (Int.toNat x2) (0:Int):Int),()));Tr.fin (.again ((x0,(r0.1,((wrap64 (x2+(1:Int)):Int),()))),()))) (Tr.stop)) (Tr.stop)) (Tr.fin (.brk ((x0,(x1,())),())))
def s35_0(d:sh35_0.data):Option (Out sh35_0.data shb35_0.data shr35_0.data):=(t35_0 d.1.1 d.1.2.1 d.1.2.2.1).val
def l35_0(d:sh35_0.data):Option (shb35_0.data ⊕ shr35_0.data):=itr s35_0 rounds d
def b35_0(d:sh35_0.data):shb35_0.data:=outB shb35_0.dflt (l35_0 d)
def lc35_0:LoopC:=lcB sh35_0 shb35_0 shr35_0 l35_0 b35_0
def wwp:List Nat:=[2]
theorem wk35_0(x0:(List Int))(x1:Int)(x2:Int):Walks (qav (kf57 Proofs.Tryz.prog).orc Proofs.Tryz.prog 400 35 0 sh35_0 shb35_0 shr35_0 ((x0,x1,x2,()),())) (t35_0 x0 x1 x2) [(bl 3 7,6::4::wwp),(bl 1 0,wwp)]:=
 ⟨by kernel_rfl,by kernel_rfl,trivial⟩
theorem ok35_0:qaR Proofs.Tryz.prog 35 0 lc35_0:=qaO (sh:=sh35_0) (shB:=shb35_0) (shR:=shr35_0) kf57_ok.base (T:=fun(d:sh35_0.data)=>t35_0 d.1.1 d.1.2.1 d.1.2.2.1) (by kernel_rfl) rfl (fun(d:sh35_0.data)=>wB (wk35_0 d.1.1 d.1.2.1 d.1.2.2.1) (by kernel_rfl)) (fun _=>rfl)
def kl35_0(P:Go.Program):Known:=(kf57 P).loop 35 0 lc35_0
theorem kl35_0_ok:KnownOk Proofs.Tryz.prog (kl35_0 Proofs.Tryz.prog):=kf57_ok.loop ok35_0
abbrev sh35_2:Sh:={ n:=41,slots:=[0,3,5,6],pats:=[.ty (.slice (.int .i64)),.ty (.int .i64),.aco (.int .i64),.ty (.int .i64)],boxes:=[] }
abbrev shb35_2:Sh:={ n:=41,slots:=[5],pats:=[.aco (.int .i64)],boxes:=[] }
abbrev shr35_2:Sh:={ n:=41,slots:=[],pats:=[],boxes:=[] }
def t35_2(x0:(List Int))(x1:Int)(x2:List Int)(x3:Int):Tr (Out sh35_2.data shb35_2.data shr35_2.data):= Tr.test ((!leF (↑(List.length x0):Int) x3:Bool)) (Tr.test (decide ((0:Int)≤x3)&&decide (x3<(↑(List.length x0):Int))) (Tr.test ((x1==(0:Int):Bool)) (Tr.stop) (Tr.test ((Nat.ble (((2:Nat)*(List.length x2+(1:Nat))+(192:Nat))*(8:Nat)) (281474976710656:Nat)&&Nat.ble (List.length x2+(1:Nat)) (281474976710656:Nat):Bool)) (Tr.fin (.again ((x0,(x1,((x2++[Go.IntKind.wrap Go.IntKind.i64 (Int.tdiv (List.getD x0 (Int.toNat x3) (0:Int)) x1)]:List Int),((wrap64 (x3+(1:Int)):Int),())))),()))) (Tr.stop))) (Tr.stop)) (Tr.fin (.brk ((x2,()),())))
def s35_2(d:sh35_2.data):Option (Out sh35_2.data shb35_2.data shr35_2.data):=(t35_2 d.1.1 d.1.2.1 d.1.2.2.1 d.1.2.2.2.1).val
def l35_2(d:sh35_2.data):Option (shb35_2.data ⊕ shr35_2.data):=itr s35_2 rounds d
def b35_2(d:sh35_2.data):shb35_2.data:=outB shb35_2.dflt (l35_2 d)
def lc35_2:LoopC:=lcB sh35_2 shb35_2 shr35_2 l35_2 b35_2
def wwq:List Nat:=[2]
theorem wk35_2(x0:(List Int))(x1:Int)(x2:List Int)(x3:Int):Walks (qav (kl35_0 Proofs.Tryz.prog).orc Proofs.Tryz.prog 400 35 2 sh35_2 shb35_2 shr35_2 ((x0,x1,x2,x3,()),())) (t35_2 x0 x1 x2 x3) [(bl 4 11,8::6::4::wwq),(bl 1 0,wwq)]:=
 ⟨by kernel_rfl,by kernel_rfl,trivial⟩
theorem ok35_2:qaR Proofs.Tryz.prog 35 2 lc35_2:=qaO (sh:=sh35_2) (shB:=shb35_2) (shR:=shr35_2) kl35_0_ok.base (T:=fun(d:sh35_2.data)=>t35_2 d.1.1 d.1.2.1 d.1.2.2.1 d.1.2.2.2.1) (by kernel_rfl) rfl (fun(d:sh35_2.data)=>wB (wk35_2 d.1.1 d.1.2.1 d.1.2.2.1 d.1.2.2.2.1) (by kernel_rfl)) (fun _=>rfl)
def kl35_2(P:Go.Program):Known:=(kl35_0 P).loop 35 2 lc35_2
theorem kl35_2_ok:KnownOk Proofs.Tryz.prog (kl35_2 Proofs.Tryz.prog):=kl35_0_ok.loop ok35_2
abbrev as35:List Ty:=[(.slice (.int .i64))]
abbrev rs35:List Ty:=[(.slice (.int .i64))]
def t35(x0:(List Int)):Tr (Tys.data rs35):= Tr.test (qbv (l35_0 ((x0,((0:Int),((0:Int),()))),()))) (let r0:=b35_0 ((x0,((0:Int),((0:Int),()))),());Tr.test ((true&&decide ((0:Int)<(↑(List.length r0.1.1):Int)):Bool)) (Tr.test ((!leF (0:Int) (List.getD r0.1.1 (0:Nat) (0:Int)):Bool)) (Tr.test (qbv (l35_2 ((r0.1.1,((Go.IntKind.wrap Go.IntKind.i64 ((0:Int)-r0.1.2.1):Int),(([]:List Int),((0:Int),())))),()))) (let r1:=b35_2 ((r0.1.1,((Go.IntKind.wrap Go.IntKind.i64 ((0:Int)-r0.1.2.1):Int),(([]:List Int),((0:Int),())))),());Tr.fin ((r1.1.1,()))) (Tr.stop)) (Tr.test (qbv (l35_2 ((r0.1.1,(r0.1.2.1,(([]:List Int),((0:Int),())))),()))) (let r2:=b35_2 ((r0.1.1,(r0.1.2.1,(([]:List Int),((0:Int),())))),());Tr.fin ((r2.1.1,()))) (Tr.stop))) (Tr.stop)) (Tr.stop)
def f35(d:Tys.data as35):Option (Tys.data rs35):=(t35 d.1).val
def g35(d:Tys.data as35):Tys.data rs35:=(f35 d).getD (Tys.dflt rs35)
def p35:PureC:=pcOf as35 rs35 f35 g35
def wwr:List Nat:=[1,8,6,4,1,2]
theorem wk35(x0:(List Int)):Walks (runPure (kl35_2 Proofs.Tryz.prog).orc Proofs.Tryz.prog 400 35 as35 rs35 (x0,())) (t35 x0) [(bl 4 15,wwr),(bl 4 11,wwr)]:=
 ⟨by kernel_rfl,by kernel_rfl,trivial⟩
theorem ok35:PureOk Proofs.Tryz.prog 35 p35:=qag kl35_2_ok.base (T:=fun(d:Tys.data as35)=>t35 d.1) (by kernel_rfl) (fun(d:Tys.data as35)=>wP (wk35 d.1) (by kernel_rfl))
def kf35(P:Go.Program):Known:=(kl35_2 P).func 35 p35
theorem kf35_ok:KnownOk Proofs.Tryz.prog (kf35 Proofs.Tryz.prog):=kl35_2_ok.func ok35
abbrev sh12_2:Sh:={ n:=72,slots:=[3,4,5,6,7],pats:=[.ty (.slice (.int .i64)),.acc (.slice (.int .i64)),.ty (.int .i64),.aco (.int .i64),.ty (.int .i64)],boxes:=[] }
abbrev shb12_2:Sh:={ n:=72,slots:=[4,6],pats:=[.acc (.slice (.int .i64)),.aco (.int .i64)],boxes:=[] }
abbrev shr12_2:Sh:={ n:=72,slots:=[],pats:=[],boxes:=[] }
def t12_2(x0:(List Int))(x1:List (List Int))(x2:Int)(x3:List Int)(x4:Int):Tr (Out sh12_2.data shb12_2.data shr12_2.data):= Tr.test ((!leF x2 x4:Bool)) (Tr.test (true&&decide ((0:Int)<(↑(List.length x0):Int))) (Tr.test ((decide ((0:Int)≤x4)&&decide (x4<(↑(List.length x0):Int)):Bool)) (Tr.test ((decide ((0:Int)≤x2)&&decide (x2<(↑(List.length x0):Int)):Bool)) (Tr.test ((decide ((0:Int)≤wrap64 (x2-x4))&&decide (wrap64 (x2-x4)<(↑(List.length x0):Int)):Bool)) (Tr.test ((Nat.ble (((2:Nat)*(List.length x3+(1:Nat))+(192:Nat))*(8:Nat)) (281474976710656:Nat)&&Nat.ble (List.length x3+(1:Nat)) (281474976710656:Nat):Bool)) (Tr.fin (.again ((x0,(x1,(x2,((x3++[wrap64 (wrap64 (List.getD x0 (0:Nat) (0:Int)*List.getD x0 (Int.toNat x4) (0:Int))-wrap64 (List.getD x0 (Int.toNat x2) (0:Int)*List.getD x0 (Int.toNat (wrap64 (x2-x4))) (0:Int)))]:List Int),((wrap64 (x4+(1:Int)):Int),()))))),()))) (Tr.stop)) (Tr.stop)) (Tr.stop)) (Tr.stop)) (Tr.stop)) (Tr.fin (.brk ((x1,(x3,())),())))
def s12_2(d:sh12_2.data):Option (Out sh12_2.data shb12_2.data shr12_2.data):=(t12_2 d.1.1 d.1.2.1 d.1.2.2.1 d.1.2.2.2.1 d.1.2.2.2.2.1).val
def l12_2(d:sh12_2.data):Option (shb12_2.data ⊕ shr12_2.data):=itr s12_2 rounds d
def b12_2(d:sh12_2.data):shb12_2.data:=outB shb12_2.dflt (l12_2 d)
def lc12_2:LoopC:=lcB sh12_2 shb12_2 shr12_2 l12_2 b12_2
def wws:List Nat:=[2]
theorem wk12_2(x0:(List Int))(x1:List (List Int))(x2:Int)(x3:List Int)(x4:Int):Walks (qav (kf35 Proofs.Tryz.prog).orc Proofs.Tryz.prog 400 12 2 sh12_2 shb12_2 shr12_2 ((x0,x1,x2,x3,x4,()),())) (t12_2 x0 x1 x2 x3 x4) [(bl 6 63,pk 5 6 16236016 wws),(bl 1 0,wws)]:=
 ⟨by kernel_rfl,by kernel_rfl,trivial⟩
theorem ok12_2:qaR Proofs.Tryz.prog 12 2 lc12_2:=qaO (sh:=sh12_2) (shB:=shb12_2) (shR:=shr12_2) kf35_ok.base (T:=fun(d:sh12_2.data)=>t12_2 d.1.1 d.1.2.1 d.1.2.2.1 d.1.2.2.2.1 d.1.2.2.2.2.1) (by kernel_rfl) rfl (fun(d:sh12_2.data)=>wB (wk12_2 d.1.1 d.1.2.1 d.1.2.2.1 d.1.2.2.2.1 d.1.2.2.2.2.1) (by kernel_rfl)) (fun _=>rfl)
def kl12_2(P:Go.Program):Known:=(kf35 P).loop 12 2 lc12_2
theorem kl12_2_ok:KnownOk Proofs.Tryz.prog (kl12_2 Proofs.Tryz.prog):=kf35_ok.loop ok12_2
abbrev sh12_0:Sh:={ n:=72,slots:=[3,4],pats:=[.ty (.slice (.int .i64)),.acc (.slice (.int .i64))],boxes:=[] }
abbrev shb12_0:Sh:={ n:=72,slots:=[4],pats:=[.acc (.slice (.int .i64))],boxes:=[] }
abbrev shr12_0:Sh:={ n:=72,slots:=[2],pats:=[.acc (.slice (.int .i64))],boxes:=[] }
def t12_0(x0:(List Int))(x1:List (List Int)):Tr (Out sh12_0.data shb12_0.data shr12_0.data):= Tr.test ((!leF (↑(List.length x0):Int) (1:Int):Bool)) (Tr.test (decide ((0:Int)≤wrap64 ((↑(List.length x0):Int)-(1:Int)))&&decide (wrap64 ((↑(List.length x0):Int)-(1:Int))<(↑(List.length x0):Int))) (Tr.test (Option.isSome (f15 ((List.getD x0 (Int.toNat (wrap64 ((↑(List.length x0):Int)-(1:Int)))) (0:Int):Int),()))) (Tr.test ((true&&decide ((0:Int)<(↑(List.length x0):Int)):Bool)) (let r0:=g15 ((List.getD x0 (Int.toNat (wrap64 ((↑(List.length x0):Int)-(1:Int)))) (0:Int):Int),());Tr.test ((!leF (List.getD x0 (0:Nat) (0:Int)) r0.1:Bool)) (Tr.test ((eqF (wrap64 ((↑(List.length x0):Int)-(1:Int))) (1:Int):Bool)) (Tr.test ((Nat.ble (((2:Nat)*(List.length x1+(1:Nat))+(192:Nat))*(24:Nat)) (281474976710656:Nat)&&Nat.ble (List.length x1+(1:Nat)) (281474976710656:Nat):Bool)) (Tr.fin (.ret (((x1++[[(1:Int)]]:List (List Int)),()),()))) (Tr.stop)) (Tr.test (qbv (l12_2 ((x0,(x1,((wrap64 ((↑(List.length x0):Int)-(1:Int)):Int),(([]:List Int),((0:Int),()))))),()))) (let r1:=b12_2 ((x0,(x1,((wrap64 ((↑(List.length x0):Int)-(1:Int)):Int),(([]:List Int),((0:Int),()))))),());Tr.test (Option.isSome (f35 (r1.1.2.1,()))) (Tr.test ((Nat.ble (((2:Nat)*(List.length r1.1.1+(1:Nat))+(192:Nat))*(24:Nat)) (281474976710656:Nat)&&Nat.ble (List.length r1.1.1+(1:Nat)) (281474976710656:Nat):Bool)) (let r2:=g35 (r1.1.2.1,());Tr.fin (.again ((r2.1,((r1.1.1++[r2.1]:List (List Int)),())),()))) (Tr.stop)) (Tr.stop)) (Tr.stop))) (Tr.fin (.brk ((x1,()),())))) (Tr.stop)) (Tr.stop)) (Tr.stop)) (Tr.fin (.brk ((x1,()),())))
def s12_0(d:sh12_0.data):Option (Out sh12_0.data shb12_0.data shr12_0.data):=(t12_0 d.1.1 d.1.2.1).val
def l12_0(d:sh12_0.data):Option (shb12_0.data ⊕ shr12_0.data):=itr s12_0 rounds d
def b12_0(d:sh12_0.data):shb12_0.data:=outB shb12_0.dflt (l12_0 d)
def r12_0(d:sh12_0.data):shr12_0.data:=outR shr12_0.dflt (l12_0 d)
def lc12_0:LoopC:=lcOf sh12_0 shb12_0 shr12_0 l12_0 b12_0 r12_0
def wwt:List Nat:=[2,2,2,2,2]
def wwu:List Nat:=pk 11 5 0x460e941b384190 wwt
def wwv:List Nat:=14::12::wwu
theorem wk12_0(x0:(List Int))(x1:List (List Int)):Walks (qav (kl12_2 Proofs.Tryz.prog).orc Proofs.Tryz.prog 400 12 0 sh12_0 shb12_0 shr12_0 ((x0,x1,()),())) (t12_0 x0 x1) [(bl 7 127,wwv),(bl 9 479,18::16::1::wwv),(bl 5 15,wwu),(bl 1 0,pk 8 1 567489872384 wwt)]:=by
 repeat refine⟨by kernel_rfl,?_⟩
 exact trivial
theorem ok12_0:qaR Proofs.Tryz.prog 12 0 lc12_0:=qcT (sh:=sh12_0) (shB:=shb12_0) (shR:=shr12_0) kl12_2_ok.base (T:=fun(d:sh12_0.data)=>t12_0 d.1.1 d.1.2.1) (by kernel_rfl) rfl (fun(d:sh12_0.data)=>wB (wk12_0 d.1.1 d.1.2.1) (by kernel_rfl)) (fun _=>rfl)
def kl12_0(P:Go.Program):Known:=(kl12_2 P).loop 12 0 lc12_0
theorem kl12_0_ok:KnownOk Proofs.Tryz.prog (kl12_0 Proofs.Tryz.prog):=kl12_2_ok.loop ok12_0
abbrev as12:List Ty:=[(.slice (.int .i64))]
abbrev rs12:List Ty:=[(.slice (.slice (.int .i64)))]
def t12(x0:(List Int)):Tr (Tys.data rs12):= Tr.test (Option.isSome (f35 (x0,()))) (let r0:=g35 (x0,());Tr.test (Option.isSome (l12_0 ((r0.1,(([r0.1]:List (List Int)),())),()))) (Tr.test (qee (l12_0 ((r0.1,(([r0.1]:List (List Int)),())),()))) (let r1:=r12_0 ((r0.1,(([r0.1]:List (List Int)),())),());Tr.fin ((r1.1.1,()))) (let r2:=b12_0 ((r0.1,(([r0.1]:List (List Int)),())),());Tr.fin ((r2.1.1,())))) (Tr.stop)) (Tr.stop)
def f12(d:Tys.data as12):Option (Tys.data rs12):=(t12 d.1).val
def g12(d:Tys.data as12):Tys.data rs12:=(f12 d).getD (Tys.dflt rs12)
def p12:PureC:=pcOf as12 rs12 f12 g12
def www:List Nat:=[6,4,2]
theorem wk12(x0:(List Int)):Walks (runPure (kl12_0 Proofs.Tryz.prog).orc Proofs.Tryz.prog 400 12 as12 rs12 (x0,())) (t12 x0) [(bl 3 7,www),(bl 3 3,www)]:=
 ⟨by kernel_rfl,by kernel_rfl,trivial⟩
theorem ok12:PureOk Proofs.Tryz.prog 12 p12:=qag kl12_0_ok.base (T:=fun(d:Tys.data as12)=>t12 d.1) (by kernel_rfl) (fun(d:Tys.data as12)=>wP (wk12 d.1) (by kernel_rfl))
def kf12(P:Go.Program):Known:=(kl12_0 P).func 12 p12
theorem kf12_ok:KnownOk Proofs.Tryz.prog (kf12 Proofs.Tryz.prog):=kl12_0_ok.func ok12
abbrev sh34_0:Sh:={ n:=26,slots:=[0,1,5],pats:=[.ty (.slice (.int .i64)),.ty (.slice (.int .i64)),.ty (.int .i64)],boxes:=[] }
abbrev shb34_0:Sh:={ n:=26,slots:=[],pats:=[],boxes:=[] }
abbrev shr34_0:Sh:={ n:=26,slots:=[4],pats:=[.ty .bool],boxes:=[] }
def t34_0(x0:(List Int))(x1:List Int)(x2:Int):Tr (Out sh34_0.data shb34_0.data shr34_0.data):= Tr.test ((!leF (↑(List.length x0):Int) x2:Bool)) (Tr.test (decide ((0:Int)≤x2)&&decide (x2<(↑(List.length x0):Int))) (Tr.test ((decide ((0:Int)≤x2)&&decide (x2<(↑(List.length x1):Int)):Bool)) (Tr.test ((!eqF (List.getD x0 (Int.toNat x2) (0:Int)) (List.getD x1 (Int.toNat x2) (0:Int)):Bool)) (Tr.fin (.ret (((false:Bool),()),()))) (Tr.fin (.again ((x0,(x1,((wrap64 (x2+(1:Int)):Int),()))),())))) (Tr.stop)) (Tr.stop)) (Tr.fin (.brk ((),())))
def s34_0(d:sh34_0.data):Option (Out sh34_0.data shb34_0.data shr34_0.data):=(t34_0 d.1.1 d.1.2.1 d.1.2.2.1).val
def l34_0(d:sh34_0.data):Option (shb34_0.data ⊕ shr34_0.data):=itr s34_0 rounds d
def b34_0(d:sh34_0.data):shb34_0.data:=outB shb34_0.dflt (l34_0 d)
def r34_0(d:sh34_0.data):shr34_0.data:=outR shr34_0.dflt (l34_0 d)
def lc34_0:LoopC:=lcOf sh34_0 shb34_0 shr34_0 l34_0 b34_0 r34_0
def wwx:List Nat:=[2]
def wwy:List Nat:=8::6::4::wwx
theorem wk34_0(x0:(List Int))(x1:List Int)(x2:Int):Walks (qav (kf12 Proofs.Tryz.prog).orc Proofs.Tryz.prog 400 34 0 sh34_0 shb34_0 shr34_0 ((x0,x1,x2,()),())) (t34_0 x0 x1 x2) [(bl 4 15,wwy),(bl 4 7,wwy),(bl 1 0,wwx)]:=
 ⟨by kernel_rfl,by kernel_rfl,by kernel_rfl,trivial⟩
theorem ok34_0:qaR Proofs.Tryz.prog 34 0 lc34_0:=qcT (sh:=sh34_0) (shB:=shb34_0) (shR:=shr34_0) kf12_ok.base (T:=fun(d:sh34_0.data)=>t34_0 d.1.1 d.1.2.1 d.1.2.2.1) (by kernel_rfl) rfl (fun(d:sh34_0.data)=>wB (wk34_0 d.1.1 d.1.2.1 d.1.2.2.1) (by kernel_rfl)) (fun _=>rfl)
def kl34_0(P:Go.Program):Known:=(kf12 P).loop 34 0 lc34_0
theorem kl34_0_ok:KnownOk Proofs.Tryz.prog (kl34_0 Proofs.Tryz.prog):=kf12_ok.loop ok34_0
abbrev as34:List Ty:=[(.slice (.int .i64)),(.slice (.int .i64))]
abbrev rs34:List Ty:=[.bool]
def t34(x0:(List Int))(x1:List Int):Tr (Tys.data rs34):= Tr.test ((!eqF (↑(List.length x0):Int) (↑(List.length x1):Int):Bool)) (Tr.fin ((false,()))) (Tr.test (Option.isSome (l34_0 ((x0,(x1,((0:Int),()))),()))) (Tr.test (qee (l34_0 ((x0,(x1,((0:Int),()))),()))) (let r0:=r34_0 ((x0,(x1,((0:Int),()))),());Tr.fin ((r0.1.1,()))) (Tr.fin (((true:Bool),())))) (Tr.stop))
def f34(d:Tys.data as34):Option (Tys.data rs34):=(t34 d.1 d.2.1).val
def g34(d:Tys.data as34):Tys.data rs34:=(f34 d).getD (Tys.dflt rs34)
def p34:PureC:=pcOf as34 rs34 f34 g34
def wwz:List Nat:=[2]
def ww10:List Nat:=6::4::wwz
theorem wk34(x0:(List Int))(x1:List Int):Walks (runPure (kl34_0 Proofs.Tryz.prog).orc Proofs.Tryz.prog 400 34 as34 rs34 (x0,x1,())) (t34 x0 x1) [(bl 1 1,wwz),(bl 3 6,ww10),(bl 3 2,ww10)]:=
 ⟨by kernel_rfl,by kernel_rfl,by kernel_rfl,trivial⟩
theorem ok34:PureOk Proofs.Tryz.prog 34 p34:=qag kl34_0_ok.base (T:=fun(d:Tys.data as34)=>t34 d.1 d.2.1) (by kernel_rfl) (fun(d:Tys.data as34)=>wP (wk34 d.1 d.2.1) (by kernel_rfl))
def kf34(P:Go.Program):Known:=(kl34_0 P).func 34 p34
theorem kf34_ok:KnownOk Proofs.Tryz.prog (kf34 Proofs.Tryz.prog):=kl34_0_ok.func ok34
abbrev sh11_0:Sh:={ n:=27,slots:=[0,1,5],pats:=[.ty (.slice (.slice (.int .i64))),.ty (.slice (.slice (.int .i64))),.ty (.int .i64)],boxes:=[] }
abbrev shb11_0:Sh:={ n:=27,slots:=[],pats:=[],boxes:=[] }
abbrev shr11_0:Sh:={ n:=27,slots:=[4],pats:=[.ty .bool],boxes:=[] }
def t11_0(x0:(List (List Int)))(x1:List (List Int))(x2:Int):Tr (Out sh11_0.data shb11_0.data shr11_0.data):= Tr.test ((!leF (↑(List.length x0):Int) x2:Bool)) (Tr.test (decide ((0:Int)≤x2)&&decide (x2<(↑(List.length x0):Int))) (Tr.test ((decide ((0:Int)≤x2)&&decide (x2<(↑(List.length x1):Int)):Bool)) (Tr.test (Option.isSome (f34 ((List.getD x0 (Int.toNat x2) []:List Int),((List.getD x1 (Int.toNat x2) []:List Int),())))) (let r0:=g34 ((List.getD x0 (Int.toNat x2) []:List Int),((List.getD x1 (Int.toNat x2) []:List Int),()));Tr.test ((!r0.1:Bool)) (Tr.fin (.ret (((false:Bool),()),()))) (Tr.fin (.again ((x0,(x1,((wrap64 (x2+(1:Int)):Int),()))),())))) (Tr.stop)) (Tr.stop)) (Tr.stop)) (Tr.fin (.brk ((),())))
def s11_0(d:sh11_0.data):Option (Out sh11_0.data shb11_0.data shr11_0.data):=(t11_0 d.1.1 d.1.2.1 d.1.2.2.1).val
def l11_0(d:sh11_0.data):Option (shb11_0.data ⊕ shr11_0.data):=itr s11_0 rounds d
def b11_0(d:sh11_0.data):shb11_0.data:=outB shb11_0.dflt (l11_0 d)
def r11_0(d:sh11_0.data):shr11_0.data:=outR shr11_0.dflt (l11_0 d)
def lc11_0:LoopC:=lcOf sh11_0 shb11_0 shr11_0 l11_0 b11_0 r11_0
def ww11:List Nat:=[2]
def ww12:List Nat:=10::8::6::4::ww11
theorem wk11_0(x0:(List (List Int)))(x1:List (List Int))(x2:Int):Walks (qav (kf34 Proofs.Tryz.prog).orc Proofs.Tryz.prog 400 11 0 sh11_0 shb11_0 shr11_0 ((x0,x1,x2,()),())) (t11_0 x0 x1 x2) [(bl 5 31,ww12),(bl 5 15,ww12),(bl 1 0,ww11)]:=
 ⟨by kernel_rfl,by kernel_rfl,by kernel_rfl,trivial⟩
theorem ok11_0:qaR Proofs.Tryz.prog 11 0 lc11_0:=qcT (sh:=sh11_0) (shB:=shb11_0) (shR:=shr11_0) kf34_ok.base (T:=fun(d:sh11_0.data)=>t11_0 d.1.1 d.1.2.1 d.1.2.2.1) (by kernel_rfl) rfl (fun(d:sh11_0.data)=>wB (wk11_0 d.1.1 d.1.2.1 d.1.2.2.1) (by kernel_rfl)) (fun _=>rfl)
def kl11_0(P:Go.Program):Known:=(kf34 P).loop 11 0 lc11_0
theorem kl11_0_ok:KnownOk Proofs.Tryz.prog (kl11_0 Proofs.Tryz.prog):=kf34_ok.loop ok11_0
abbrev as11:List Ty:=[(.slice (.slice (.int .i64))),(.slice (.slice (.int .i64)))]
abbrev rs11:List Ty:=[.bool]
def t11(x0:(List (List Int)))(x1:List (List Int)):Tr (Tys.data rs11):= Tr.test ((!eqF (↑(List.length x0):Int) (↑(List.length x1):Int):Bool)) (Tr.fin ((false,()))) (Tr.test (Option.isSome (l11_0 ((x0,(x1,((0:Int),()))),()))) (Tr.test (qee (l11_0 ((x0,(x1,((0:Int),()))),()))) (let r0:=r11_0 ((x0,(x1,((0:Int),()))),());Tr.fin ((r0.1.1,()))) (Tr.fin (((true:Bool),())))) (Tr.stop))
def f11(d:Tys.data as11):Option (Tys.data rs11):=(t11 d.1 d.2.1).val
def g11(d:Tys.data as11):Tys.data rs11:=(f11 d).getD (Tys.dflt rs11)
def p11:PureC:=pcOf as11 rs11 f11 g11
def ww13:List Nat:=[2]
def ww14:List Nat:=6::4::ww13
theorem wk11(x0:(List (List Int)))(x1:List (List Int)):Walks (runPure (kl11_0 Proofs.Tryz.prog).orc Proofs.Tryz.prog 400 11 as11 rs11 (x0,x1,())) (t11 x0 x1) [(bl 1 1,ww13),(bl 3 6,ww14),(bl 3 2,ww14)]:=
 ⟨by kernel_rfl,by kernel_rfl,by kernel_rfl,trivial⟩
theorem ok11:PureOk Proofs.Tryz.prog 11 p11:=qag kl11_0_ok.base (T:=fun(d:Tys.data as11)=>t11 d.1 d.2.1) (by kernel_rfl) (fun(d:Tys.data as11)=>wP (wk11 d.1 d.2.1) (by kernel_rfl))
def kf11(P:Go.Program):Known:=(kl11_0 P).func 11 p11
theorem kf11_ok:KnownOk Proofs.Tryz.prog (kf11 Proofs.Tryz.prog):=kl11_0_ok.func ok11
abbrev as13:List Ty:=[(.slice (.int .i64))]
abbrev rs13:List Ty:=[.bool]
def t13(x0:(List Int)):Tr (Tys.data rs13):= Tr.test (Option.isSome (f12 (x0,()))) (let r0:=g12 (x0,());Tr.test ((decide ((0:Int)≤wrap64 ((↑(List.length r0.1):Int)-(1:Int)))&&decide (wrap64 ((↑(List.length r0.1):Int)-(1:Int))<(↑(List.length r0.1):Int)):Bool)) (Tr.fin (((eqF (↑(List.length (List.getD r0.1 (Int.toNat (wrap64 ((↑(List.length r0.1):Int)-(1:Int)))) [])):Int) (1:Int):Bool),()))) (Tr.stop)) (Tr.stop)
def f13(d:Tys.data as13):Option (Tys.data rs13):=(t13 d.1).val
def g13(d:Tys.data as13):Tys.data rs13:=(f13 d).getD (Tys.dflt rs13)
def p13:PureC:=pcOf as13 rs13 f13 g13
theorem wk13(x0:(List Int)):Walks (runPure (kf11 Proofs.Tryz.prog).orc Proofs.Tryz.prog 400 13 as13 rs13 (x0,())) (t13 x0) [(bl 2 3,[4,2])]:=
 ⟨by kernel_rfl,trivial⟩
theorem ok13:PureOk Proofs.Tryz.prog 13 p13:=qag kf11_ok.base (T:=fun(d:Tys.data as13)=>t13 d.1) (by kernel_rfl) (fun(d:Tys.data as13)=>wP (wk13 d.1) (by kernel_rfl))
def kf13(P:Go.Program):Known:=(kf11 P).func 13 p13
theorem kf13_ok:KnownOk Proofs.Tryz.prog (kf13 Proofs.Tryz.prog):=kf11_ok.func ok13
abbrev as14:List Ty:=[(.int .i64),(.int .i64)]
abbrev rs14:List Ty:=[(.int .i64)]
def t14(x0:Int)(x1:Int):Tr (Tys.data rs14):= Tr.test ((x1==(0:Int):Bool)) (Tr.stop) (Tr.test (!leF (0:Int) (Int.tmod x0 x1)) (Tr.fin (((wrap64 (Int.tmod x0 x1+x1):Int),()))) (Tr.fin (((Int.tmod x0 x1:Int),()))))
def f14(d:Tys.data as14):Option (Tys.data rs14):=(t14 d.1 d.2.1).val
def g14(d:Tys.data as14):Tys.data rs14:=(f14 d).getD (Tys.dflt rs14)
def p14:PureC:=pcOf as14 rs14 f14 g14
def ww15:List Nat:=[4,2]
theorem wk14(x0:Int)(x1:Int):Walks (runPure (kf13 Proofs.Tryz.prog).orc Proofs.Tryz.prog 400 14 as14 rs14 (x0,x1,())) (t14 x0 x1) [(bl 2 2,ww15),(bl 2 0,ww15)]:=
 ⟨by kernel_rfl,by kernel_rfl,trivial⟩
theorem ok14:PureOk Proofs.Tryz.prog 14 p14:=qag kf13_ok.base (T:=fun(d:Tys.data as14)=>t14 d.1 d.2.1) (by kernel_rfl) (fun(d:Tys.data as14)=>wP (wk14 d.1 d.2.1) (by kernel_rfl))
def kf14(P:Go.Program):Known:=(kf13 P).func 14 p14
theorem kf14_ok:KnownOk Proofs.Tryz.prog (kf14 Proofs.Tryz.prog):=kf13_ok.func ok14
abbrev sh3_0:Sh:={ n:=149,slots:=[0,5,8,9,10],pats:=[.ty (.slice (.int .i64)),.ty .bool,.aco (.int .i64),.aco (.int .i64),.ty (.int .i64)],boxes:=[] }
abbrev shb3_0:Sh:={ n:=149,slots:=[0,5,8,9],pats:=[.ty (.slice (.int .i64)),.ty .bool,.aco (.int .i64),.aco (.int .i64)],boxes:=[] }
abbrev shr3_0:Sh:={ n:=149,slots:=[],pats:=[],boxes:=[] }
def t3_0(x0:(List Int))(x1:Bool)(x2:List Int)(x3:List Int)(x4:Int):Tr (Out sh3_0.data shb3_0.data shr3_0.data):= Tr.test ((!leF (↑(List.length x0):Int) x4:Bool)) (Tr.test (decide ((0:Int)≤x4)&&decide (x4<(↑(List.length x0):Int))) (Tr.test (Option.isSome (f14 (x4,((2:Int),())))) (let r0:=g14 (x4,((2:Int),()));Tr.test ((eqF r0.1 1:Bool)) (Tr.test ((Nat.ble (((2:Nat)*(List.length x2+(1:Nat))+(192:Nat))*(8:Nat)) (281474976710656:Nat)&&Nat.ble (List.length x2+(1:Nat)) (281474976710656:Nat):Bool)) (Tr.test ((Nat.ble (((2:Nat)*(List.length x3+(1:Nat))+(192:Nat))*(8:Nat)) (281474976710656:Nat)&&Nat.ble (List.length x3+(1:Nat)) (281474976710656:Nat):Bool)) (Tr.fin (.again ((x0,(x1,((x2++[Go.IntKind.wrap Go.IntKind.i64 ((0:Int)-List.getD x0 (Int.toNat x4) (0:Int))]:List Int),((x3++[Go.IntKind.wrap Go.IntKind.i64 ((0:Int)-List.getD x0 (Int.toNat x4) (0:Int))]:List Int),((wrap64 (x4+(1:Int)):Int),()))))),()))) (Tr.stop)) (Tr.stop)) (Tr.test ((Nat.ble (((2:Nat)*(List.length x2+(1:Nat))+(192:Nat))*(8:Nat)) (281474976710656:Nat)&&Nat.ble (List.length x2+(1:Nat)) (281474976710656:Nat):Bool)) (Tr.test ((Nat.ble (((2:Nat)*(List.length x3+(1:Nat))+(192:Nat))*(8:Nat)) (281474976710656:Nat)&&Nat.ble (List.length x3+(1:Nat)) (281474976710656:Nat):Bool)) (Tr.fin (.again ((x0,(x1,((x2++[List.getD x0 (Int.toNat x4) (0:Int)]:List Int),((x3++[Go.IntKind.wrap Go.IntKind.i64 ((0:Int)-List.getD x0 (Int.toNat x4) (0:Int))]:List Int),((wrap64 (x4+(1:Int)):Int),()))))),()))) (Tr.stop)) (Tr.stop))) (Tr.stop)) (Tr.stop)) (Tr.fin (.brk ((x0,(x1,(x2,(x3,())))),())))
def s3_0(d:sh3_0.data):Option (Out sh3_0.data shb3_0.data shr3_0.data):=(t3_0 d.1.1 d.1.2.1 d.1.2.2.1 d.1.2.2.2.1 d.1.2.2.2.2.1).val
def l3_0(d:sh3_0.data):Option (shb3_0.data ⊕ shr3_0.data):=itr s3_0 rounds d
def b3_0(d:sh3_0.data):shb3_0.data:=outB shb3_0.dflt (l3_0 d)
def lc3_0:LoopC:=lcB sh3_0 shb3_0 shr3_0 l3_0 b3_0
def ww16:List Nat:=[2]
def ww17:List Nat:=pk 6 6 519556496 ww16
theorem wk3_0(x0:(List Int))(x1:Bool)(x2:List Int)(x3:List Int)(x4:Int):Walks (qav (kf14 Proofs.Tryz.prog).orc Proofs.Tryz.prog 400 3 0 sh3_0 shb3_0 shr3_0 ((x0,x1,x2,x3,x4,()),())) (t3_0 x0 x1 x2 x3 x4) [(bl 6 63,ww17),(bl 6 55,ww17),(bl 1 0,ww16)]:=
 ⟨by kernel_rfl,by kernel_rfl,by kernel_rfl,trivial⟩
theorem ok3_0:qaR Proofs.Tryz.prog 3 0 lc3_0:=qaO (sh:=sh3_0) (shB:=shb3_0) (shR:=shr3_0) kf14_ok.base (T:=fun(d:sh3_0.data)=>t3_0 d.1.1 d.1.2.1 d.1.2.2.1 d.1.2.2.2.1 d.1.2.2.2.2.1) (by kernel_rfl) rfl (fun(d:sh3_0.data)=>wB (wk3_0 d.1.1 d.1.2.1 d.1.2.2.1 d.1.2.2.2.1 d.1.2.2.2.2.1) (by kernel_rfl)) (fun _=>rfl)
def kl3_0(P:Go.Program):Known:=(kf14 P).loop 3 0 lc3_0
theorem kl3_0_ok:KnownOk Proofs.Tryz.prog (kl3_0 Proofs.Tryz.prog):=kf14_ok.loop ok3_0
abbrev as3:List Ty:=[(.slice (.int .i64))]
abbrev rs3:List Ty:=[.bool]
def t3(x0:(List Int)):Tr (Tys.data rs3):= Tr.test ((!leF (↑(List.length x0):Int) (6:Int):Bool)) (Tr.fin ((true,()))) (Tr.test (Option.isSome (f8 (x0,()))) (let r0:=g8 (x0,());Tr.test (Option.isSome (f7 (r0.1,()))) (Tr.test (Option.isSome (f9 (r0.1,()))) (Tr.test (Option.isSome (f10 (x0,()))) (let r3:=g10 (x0,());Tr.test ((!eqF r3.1 0:Bool)) (let r1:=g7 (r0.1,());Tr.test ((eqF r1.2.1 r3.1:Bool)) (let r2:=g9 (r0.1,());Tr.test ((eqF r2.2.1 r3.1:Bool)) (Tr.test ((eqF (↑(List.length r1.1):Int) (0:Int):Bool)) (Tr.fin (((!r2.1:Bool),()))) (Tr.fin (((false:Bool),())))) (Tr.fin (((false:Bool),())))) (Tr.fin (((false:Bool),())))) (let r1:=g7 (r0.1,());Tr.test ((!eqF r1.2.1 0:Bool)) (Tr.fin (((false:Bool),()))) (Tr.test (Option.isSome (f12 (x0,()))) (let r4:=g12 (x0,());Tr.test (Option.isSome (f11 (r1.1,(r4.1,())))) (let r5:=g11 (r1.1,(r4.1,()));Tr.test ((!r5.1:Bool)) (Tr.fin (((false:Bool),()))) (let r2:=g9 (r0.1,());Tr.test ((!eqF r2.2.1 0:Bool)) (Tr.fin (((false:Bool),()))) (Tr.test (Option.isSome (f13 (x0,()))) (let r6:=g13 (x0,());Tr.test ((!r2.1==r6.1:Bool)) (Tr.fin (((false:Bool),()))) (Tr.test (qbv (l3_0 ((x0,(r2.1,(([]:List Int),(([]:List Int),((0:Int),()))))),()))) (let r7:=b3_0 ((x0,(r2.1,(([]:List Int),(([]:List Int),((0:Int),()))))),());Tr.test (Option.isSome (f9 (r7.1.2.2.1,()))) (Tr.test (Option.isSome (f9 (r7.1.2.2.2.1,()))) (let r8:=g9 (r7.1.2.2.1,());Tr.test ((eqF r8.2.1 0:Bool)) (let r9:=g9 (r7.1.2.2.2.1,());Tr.test ((eqF r9.2.1 0:Bool)) (Tr.test ((r8.1==r7.1.2.1:Bool)) (Tr.test ((r9.1==r7.1.2.1:Bool)) (Tr.test ((!r7.1.2.1:Bool)) (Tr.fin (((true:Bool),()))) (Tr.test ((eqF (↑(List.length r7.1.1):Int) (1:Int):Bool)) (Tr.fin (((true:Bool),()))) (Tr.test ((decide ((0:Int)≤wrap64 ((↑(List.length r7.1.1):Int)-(1:Int)))&&decide (wrap64 ((↑(List.length r7.1.1):Int)-(1:Int))<(↑(List.length r7.1.1):Int)):Bool)) (Tr.test (Option.isSome (f15 ((List.getD r7.1.1 (Int.toNat (wrap64 ((↑(List.length r7.1.1):Int)-(1:Int)))) (0:Int):Int),()))) (Tr.test ((true&&decide ((0:Int)<(↑(List.length r7.1.1):Int)):Bool)) (Tr.test (Option.isSome (f15 ((List.getD r7.1.1 (0:Nat) (0:Int):Int),()))) (let r10:=g15 ((List.getD r7.1.1 (Int.toNat (wrap64 ((↑(List.length r7.1.1):Int)-(1:Int)))) (0:Int):Int),());let r11:=g15 ((List.getD r7.1.1 (0:Nat) (0:Int):Int),());Tr.fin (((!leF r11.1 r10.1:Bool),()))) (Tr.stop)) (Tr.stop)) (Tr.stop)) (Tr.stop)))) (Tr.fin (((false:Bool),())))) (Tr.fin (((false:Bool),())))) (Tr.fin (((false:Bool),())))) (Tr.fin (((false:Bool),())))) (Tr.stop)) (Tr.stop)) (Tr.stop))) (Tr.stop)))) (Tr.stop)) (Tr.stop)))) (Tr.stop)) (Tr.stop)) (Tr.stop)) (Tr.stop))
def f3(d:Tys.data as3):Option (Tys.data rs3):=(t3 d.1).val
def g3(d:Tys.data as3):Tys.data rs3:=(f3 d).getD (Tys.dflt rs3)
def p3:PureC:=pcOf as3 rs3 f3 g3
def ww18:List Nat:=[2,0,1]
def ww19:List Nat:=pk 9 7 0xf8b9ef7c210 ww18
def ww1a:List Nat:=14::ww19
def ww1b:List Nat:=pk 4 8 541200 ww1a
def ww1c:List Nat:=18::18::18::ww1b
def ww1d:List Nat:=pk 8 10 599769137680 ww19
def ww1e:List Nat:=22::22::22::ww1d
def ww1f:List Nat:=pk 4 13 573904 ww1e
def ww1g:List Nat:=pk 7 17 16155918864 ww1f
def ww1h:List Nat:=pk 4 18 541200 ww1g
def ww1i:List Nat:=pk 4 19 541200 ww1h
def ww1j:List Nat:=40::40::40::ww1i
def ww1k:List Nat:=pk 6 20 554221104 ww1j
def ww1l:List Nat:=pk 5 22 17318416 ww1k
theorem wk3(x0:(List Int)):Walks (runPure (kl3_0 Proofs.Tryz.prog).orc Proofs.Tryz.prog 400 3 as3 rs3 (x0,())) (t3 x0) [(bl 1 1,ww18),(bl 9 510,ww1c),(bl 9 254,ww1c),(bl 8 126,0::0::0::ww1b),(bl 7 62,pk 7 0 0 ww1a),(bl 7 94,pk 11 7 0x42010842108421 ww1a),(bl 10 926,pk 6 0 34636833 ww1d),(bl 11 1438,1::22::22::ww1e),(bl 13 6558,ww1f),(bl 21 2091422,pk 15 20 0x42108421084210c030 ww1k),(bl 22 3139998,pk 10 20 581109629401680 ww1l),(bl 26 63957406,pk 14 20 0x23074a0d9c19493a50 ww1l),(bl 20 518558,pk 4 20 541200 ww1j),(bl 19 256414,pk 7 0 0 ww1i),(bl 18 125342,pk 11 0 0 ww1h),(bl 17 59806,pk 15 0 0 ww1g)]:=by
 repeat refine⟨by kernel_rfl,?_⟩
 exact trivial
theorem ok3:PureOk Proofs.Tryz.prog 3 p3:=qag kl3_0_ok.base (T:=fun(d:Tys.data as3)=>t3 d.1) (by kernel_rfl) (fun(d:Tys.data as3)=>wP (wk3 d.1) (by kernel_rfl))
end Go.Vm.Mo
