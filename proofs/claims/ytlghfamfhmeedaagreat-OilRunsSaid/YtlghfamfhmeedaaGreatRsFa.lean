import Derived.Test.YtlghfamfhmeedaaGreatA5
import Derived.KernelRfl
import Derived.Test.YtlghfamfhmeedaaGreatProg
set_option linter.unusedVariables false
set_option linter.unusedSimpArgs false

namespace Go.Vm.Mo
open Go
set_option linter.unusedVariables false
abbrev MK:Ty:=.pair (.int .i64) (.pair .bool .unit)
abbrev MV:Ty:=.bool
def kn0(_:Go.Program):Known:=⟨[],[]⟩
abbrev tt:Bool:=true
abbrev ff:Bool:=false
theorem ac{b d:Bool}{r:List (Bool×Bool)}(h:b=d)(t:All r):All ((b,d)::r):=All.cons h t
theorem plainP:Plain Proofs.Tryz.prog:=by
 have h : (Proofs.Tryz.prog.funcs.toList.all fun fn => !(fn.body.isSome && fn.name == "runtime.NumGoroutine")) = true := by kernel_rfl
 intro f fn hf hb
 have hm:fn∈Proofs.Tryz.prog.funcs.toList:=by
  have:=Array.getElem?_eq_some_iff.1 hf
  obtain⟨hlt,rfl⟩:=this
  simp
 have:=List.all_eq_true.1 h fn hm
 rw[hb]at this
 simpa using this
theorem kn0_ok:KnownOk Proofs.Tryz.prog (kn0 Proofs.Tryz.prog):=⟨plainP,by kernel_rfl,(fun _ h=>by cases h),(fun _ h=>by cases h)⟩
abbrev sh93_0:Sh:={ n:=24,slots:=[0,1,9,10,11],pats:=[.ty (.int .i64),.ty (.int .i64),.ty (.slice (.int .i64)),.ty (.int .i64),.ty (.int .i64)],boxes:=[] }
abbrev shb93_0:Sh:={ n:=24,slots:=[],pats:=[],boxes:=[] }
abbrev shr93_0:Sh:={ n:=24,slots:=[6],pats:=[.ty .bool],boxes:=[] }
def t93_0(x0:Int)(x1:Int)(x2:List Int)(x3:Int)(x4:Int):Tr (Out sh93_0.data shb93_0.data shr93_0.data):= Tr.test ((!leF x3 x4:Bool)) (Tr.test (decide ((0:Int)≤x4)&&decide (x4<(↑(List.length x2):Int))) (Tr.test ((!leF x0 (List.getD x2 (Int.toNat x4) (0:Int)):Bool)) (Tr.fin (.ret (((false:Bool),()),()))) (Tr.test ((!leF (List.getD x2 (Int.toNat x4) (0:Int)) x1:Bool)) (Tr.fin (.ret (((false:Bool),()),()))) (Tr.fin (.again ((x0,(x1,(x2,(x3,((wrap64 (x4+(1:Int)):Int),()))))),()))))) (Tr.stop)) (Tr.fin (.brk ((),())))
def s93_0(d:sh93_0.data):Option (Out sh93_0.data shb93_0.data shr93_0.data):=(t93_0 d.1.1 d.1.2.1 d.1.2.2.1 d.1.2.2.2.1 d.1.2.2.2.2.1).val
def l93_0(d:sh93_0.data):Option (shb93_0.data ⊕ shr93_0.data):=itr s93_0 rounds d
def b93_0(d:sh93_0.data):shb93_0.data:=outB shb93_0.dflt (l93_0 d)
def r93_0(d:sh93_0.data):shr93_0.data:=outR shr93_0.dflt (l93_0 d)
def lc93_0:LoopC:=lcOf sh93_0 shb93_0 shr93_0 l93_0 b93_0 r93_0
theorem wk93_0(x0:Int)(x1:Int)(x2:List Int)(x3:Int)(x4:Int):Walks (qat (kn0 Proofs.Tryz.prog).orc Proofs.Tryz.prog 400 93 0 sh93_0 shb93_0 shr93_0 ((x0,x1,x2,x3,x4,()),())) (t93_0 x0 x1 x2 x3 x4) [(bl 3 7,[1,2,2,2,2,4,6]),(bl 4 11,[2,4,4,4,4,6,8]),(bl 4 3,[2,4,4,4,4,6,8]),(bl 1 0,[2])]:=by
 repeat refine⟨by kernel_rfl,?_⟩
 exact trivial
theorem ok93_0:qaz Proofs.Tryz.prog 93 0 lc93_0:=qbe (sh:=sh93_0) (shB:=shb93_0) (shR:=shr93_0) kn0_ok.base (T:=fun(d:sh93_0.data)=>t93_0 d.1.1 d.1.2.1 d.1.2.2.1 d.1.2.2.2.1 d.1.2.2.2.2.1) (by kernel_rfl) rfl (fun(d:sh93_0.data)=>wB (wk93_0 d.1.1 d.1.2.1 d.1.2.2.1 d.1.2.2.2.1 d.1.2.2.2.2.1) (by kernel_rfl)) (fun _=>rfl)
def kl93_0(P:Go.Program):Known:=(kn0 P).loop 93 0 lc93_0
theorem kl93_0_ok:KnownOk Proofs.Tryz.prog (kl93_0 Proofs.Tryz.prog):=kn0_ok.loop ok93_0
abbrev as93:List Ty:=[(.int .i64),(.int .i64),(.slice (.int .i64))]
abbrev rs93:List Ty:=[.bool]
def t93(x0:Int)(x1:Int)(x2:List Int):Tr (Tys.data rs93):= Tr.test (Option.isSome (l93_0 ((x0,(x1,(x2,((↑(List.length x2):Int),((0:Int),()))))),()))) (Tr.test (qa8 (l93_0 ((x0,(x1,(x2,((↑(List.length x2):Int),((0:Int),()))))),()))) (let r0:=r93_0 ((x0,(x1,(x2,((↑(List.length x2):Int),((0:Int),()))))),());Tr.fin ((r0.1.1,()))) (Tr.fin (((true:Bool),())))) (Tr.stop)
def f93(d:Tys.data as93):Option (Tys.data rs93):=(t93 d.1 d.2.1 d.2.2.1).val
def g93(d:Tys.data as93):Tys.data rs93:=(f93 d).getD (Tys.dflt rs93)
def p93:PureC:=pcOf as93 rs93 f93 g93
theorem wk93(x0:Int)(x1:Int)(x2:List Int):Walks (runPure (kl93_0 Proofs.Tryz.prog).orc Proofs.Tryz.prog 400 93 as93 rs93 (x0,x1,x2,())) (t93 x0 x1 x2) [(bl 2 3,[2,4]),(bl 2 1,[2,4])]:=
 ⟨by kernel_rfl,by kernel_rfl,trivial⟩
theorem ok93:PureOk Proofs.Tryz.prog 93 p93:=qab kl93_0_ok.base (T:=fun(d:Tys.data as93)=>t93 d.1 d.2.1 d.2.2.1) (by kernel_rfl) (fun(d:Tys.data as93)=>wP (wk93 d.1 d.2.1 d.2.2.1) (by kernel_rfl))
def kf93(P:Go.Program):Known:=(kl93_0 P).func 93 p93
theorem kf93_ok:KnownOk Proofs.Tryz.prog (kf93 Proofs.Tryz.prog):=kl93_0_ok.func ok93
abbrev as95:List Ty:=[.bool,(.int .i64)]
abbrev rs95:List Ty:=[(.int .i64)]
def t95(x0:Bool)(x1:Int):Tr (Tys.data rs95):= Tr.test (x0) (Tr.fin ((x1,()))) (Tr.fin (((0:Int),())))
def f95(d:Tys.data as95):Option (Tys.data rs95):=(t95 d.1 d.2.1).val
def g95(d:Tys.data as95):Tys.data rs95:=(f95 d).getD (Tys.dflt rs95)
def p95:PureC:=pcOf as95 rs95 f95 g95
theorem wk95(x0:Bool)(x1:Int):Walks (runPure (kf93 Proofs.Tryz.prog).orc Proofs.Tryz.prog 400 95 as95 rs95 (x0,x1,())) (t95 x0 x1) [(bl 1 1,[2]),(bl 1 0,[2])]:=
 ⟨by kernel_rfl,by kernel_rfl,trivial⟩
theorem ok95:PureOk Proofs.Tryz.prog 95 p95:=qab kf93_ok.base (T:=fun(d:Tys.data as95)=>t95 d.1 d.2.1) (by kernel_rfl) (fun(d:Tys.data as95)=>wP (wk95 d.1 d.2.1) (by kernel_rfl))
def kf95(P:Go.Program):Known:=(kf93 P).func 95 p95
theorem kf95_ok:KnownOk Proofs.Tryz.prog (kf95 Proofs.Tryz.prog):=kf93_ok.func ok95
abbrev sh94_0:Sh:={ n:=15,slots:=[5,6,7],pats:=[.ty (.slice (.int .i64)),.ty (.int .i64),.ty (.int .i64)],boxes:=[] }
abbrev shb94_0:Sh:={ n:=15,slots:=[],pats:=[],boxes:=[] }
abbrev shr94_0:Sh:={ n:=15,slots:=[2],pats:=[.ty (.int .i64)],boxes:=[] }
def t94_0(x0:(List Int))(x1:Int)(x2:Int):Tr (Out sh94_0.data shb94_0.data shr94_0.data):= Tr.test ((!leF x1 x2:Bool)) (Tr.test (decide ((0:Int)≤x2)&&decide (x2<(↑(List.length x0):Int))) (Tr.test ((!eqF (List.getD x0 (Int.toNat x2) (0:Int)) (0:Int):Bool)) (Tr.fin (.ret (((List.getD x0 (Int.toNat x2) (0:Int):Int),()),()))) (Tr.fin (.again ((x0,(x1,((wrap64 (x2+(1:Int)):Int),()))),())))) (Tr.stop)) (Tr.fin (.brk ((),())))
def s94_0(d:sh94_0.data):Option (Out sh94_0.data shb94_0.data shr94_0.data):=(t94_0 d.1.1 d.1.2.1 d.1.2.2.1).val
def l94_0(d:sh94_0.data):Option (shb94_0.data ⊕ shr94_0.data):=itr s94_0 rounds d
def b94_0(d:sh94_0.data):shb94_0.data:=outB shb94_0.dflt (l94_0 d)
def r94_0(d:sh94_0.data):shr94_0.data:=outR shr94_0.dflt (l94_0 d)
def lc94_0:LoopC:=lcOf sh94_0 shb94_0 shr94_0 l94_0 b94_0 r94_0
theorem wk94_0(x0:(List Int))(x1:Int)(x2:Int):Walks (qat (kf95 Proofs.Tryz.prog).orc Proofs.Tryz.prog 400 94 0 sh94_0 shb94_0 shr94_0 ((x0,x1,x2,()),())) (t94_0 x0 x1 x2) [(bl 3 7,[2,4,6]),(bl 3 3,[2,4,6]),(bl 1 0,[2])]:=
 ⟨by kernel_rfl,by kernel_rfl,by kernel_rfl,trivial⟩
theorem ok94_0:qaz Proofs.Tryz.prog 94 0 lc94_0:=qbe (sh:=sh94_0) (shB:=shb94_0) (shR:=shr94_0) kf95_ok.base (T:=fun(d:sh94_0.data)=>t94_0 d.1.1 d.1.2.1 d.1.2.2.1) (by kernel_rfl) rfl (fun(d:sh94_0.data)=>wB (wk94_0 d.1.1 d.1.2.1 d.1.2.2.1) (by kernel_rfl)) (fun _=>rfl)
def kl94_0(P:Go.Program):Known:=(kf95 P).loop 94 0 lc94_0
theorem kl94_0_ok:KnownOk Proofs.Tryz.prog (kl94_0 Proofs.Tryz.prog):=kf95_ok.loop ok94_0
abbrev as94:List Ty:=[(.slice (.int .i64))]
abbrev rs94:List Ty:=[(.int .i64)]
def t94(x0:(List Int)):Tr (Tys.data rs94):= Tr.test (Option.isSome (l94_0 ((x0,((↑(List.length x0):Int),((0:Int),()))),()))) (Tr.test (qa8 (l94_0 ((x0,((↑(List.length x0):Int),((0:Int),()))),()))) (let r0:=r94_0 ((x0,((↑(List.length x0):Int),((0:Int),()))),());Tr.fin ((r0.1.1,()))) (Tr.fin (((0:Int),())))) (Tr.stop)
def f94(d:Tys.data as94):Option (Tys.data rs94):=(t94 d.1).val
def g94(d:Tys.data as94):Tys.data rs94:=(f94 d).getD (Tys.dflt rs94)
def p94:PureC:=pcOf as94 rs94 f94 g94
theorem wk94(x0:(List Int)):Walks (runPure (kl94_0 Proofs.Tryz.prog).orc Proofs.Tryz.prog 400 94 as94 rs94 (x0,())) (t94 x0) [(bl 2 3,[2,4]),(bl 2 1,[2,4])]:=
 ⟨by kernel_rfl,by kernel_rfl,trivial⟩
theorem ok94:PureOk Proofs.Tryz.prog 94 p94:=qab kl94_0_ok.base (T:=fun(d:Tys.data as94)=>t94 d.1) (by kernel_rfl) (fun(d:Tys.data as94)=>wP (wk94 d.1) (by kernel_rfl))
def kf94(P:Go.Program):Known:=(kl94_0 P).func 94 p94
theorem kf94_ok:KnownOk Proofs.Tryz.prog (kf94 Proofs.Tryz.prog):=kl94_0_ok.func ok94
abbrev as142:List Ty:=[(.int .i64),(.int .i64),(.pair (.int .i64) (.pair (.int .i64) .unit))]
abbrev rs142:List Ty:=[(.int .i64)]
def t142(x0:Int)(x1:Int)(x2:Int)(x2':Int):Tr (Tys.data rs142):= Tr.test (Option.isSome (f93 (x0,(x1,(([x2,x2']:List Int),()))))) (let r0:=g93 (x0,(x1,(([x2,x2']:List Int),())));Tr.test (Option.isSome (f95 ((!r0.1:Bool),((2:Int),())))) (Tr.test (Option.isSome (f95 ((!leF x2 x2':Bool),((9:Int),())))) (let r1:=g95 ((!r0.1:Bool),((2:Int),()));let r2:=g95 ((!leF x2 x2':Bool),((9:Int),()));Tr.test (Option.isSome (f94 (([r1.1,r2.1]:List Int),()))) (let r3:=g94 (([r1.1,r2.1]:List Int),());Tr.fin ((r3.1,()))) (Tr.stop)) (Tr.stop)) (Tr.stop)) (Tr.stop)
def f142(d:Tys.data as142):Option (Tys.data rs142):=(t142 d.1 d.2.1 d.2.2.1.1 d.2.2.1.2.1).val
def g142(d:Tys.data as142):Tys.data rs142:=(f142 d).getD (Tys.dflt rs142)
def p142:PureC:=pcOf as142 rs142 f142 g142
theorem wk142(x0:Int)(x1:Int)(x2:Int)(x2':Int):Walks (runPure (kf94 Proofs.Tryz.prog).orc Proofs.Tryz.prog 400 142 as142 rs142 (x0,x1,(x2,x2',()),())) (t142 x0 x1 x2 x2') [(bl 4 15,[2,4,6,8])]:=
 ⟨by kernel_rfl,trivial⟩
theorem ok142:PureOk Proofs.Tryz.prog 142 p142:=qab kf94_ok.base (T:=fun(d:Tys.data as142)=>t142 d.1 d.2.1 d.2.2.1.1 d.2.2.1.2.1) (by kernel_rfl) (fun(d:Tys.data as142)=>wP (wk142 d.1 d.2.1 d.2.2.1.1 d.2.2.1.2.1) (by kernel_rfl))
def kf142(P:Go.Program):Known:=(kf94 P).func 142 p142
theorem kf142_ok:KnownOk Proofs.Tryz.prog (kf142 Proofs.Tryz.prog):=kf94_ok.func ok142
abbrev as111:List Ty:=[(.pair (.int .i64) (.pair (.int .i64) .unit))]
abbrev rs111:List Ty:=[(.int .i64)]
def t111(x0:Int)(x0':Int):Tr (Tys.data rs111):= Tr.test (Option.isSome (f142 ((0:Int),((50:Int),((x0,(x0',())),()))))) (let r0:=g142 ((0:Int),((50:Int),((x0,(x0',())),())));Tr.fin ((r0.1,()))) (Tr.stop)
def f111(d:Tys.data as111):Option (Tys.data rs111):=(t111 d.1.1 d.1.2.1).val
def g111(d:Tys.data as111):Tys.data rs111:=(f111 d).getD (Tys.dflt rs111)
def p111:PureC:=pcOf as111 rs111 f111 g111
theorem wk111(x0:Int)(x0':Int):Walks (runPure (kf142 Proofs.Tryz.prog).orc Proofs.Tryz.prog 400 111 as111 rs111 ((x0,x0',()),())) (t111 x0 x0') [(bl 1 1,[2])]:=
 ⟨by kernel_rfl,trivial⟩
theorem ok111:PureOk Proofs.Tryz.prog 111 p111:=qab kf142_ok.base (T:=fun(d:Tys.data as111)=>t111 d.1.1 d.1.2.1) (by kernel_rfl) (fun(d:Tys.data as111)=>wP (wk111 d.1.1 d.1.2.1) (by kernel_rfl))
def kf111(P:Go.Program):Known:=(kf142 P).func 111 p111
theorem kf111_ok:KnownOk Proofs.Tryz.prog (kf111 Proofs.Tryz.prog):=kf142_ok.func ok111
abbrev as100:List Ty:=[(.int .i64)]
abbrev rs100:List Ty:=[(.int .i64)]
def t100(x0:Int):Tr (Tys.data rs100):= Tr.test (Option.isSome (f93 ((0:Int),((1000:Int),(([x0]:List Int),()))))) (let r0:=g93 ((0:Int),((1000:Int),(([x0]:List Int),())));Tr.test (Option.isSome (f95 ((!r0.1:Bool),((2:Int),())))) (let r1:=g95 ((!r0.1:Bool),((2:Int),()));Tr.fin ((r1.1,()))) (Tr.stop)) (Tr.stop)
def f100(d:Tys.data as100):Option (Tys.data rs100):=(t100 d.1).val
def g100(d:Tys.data as100):Tys.data rs100:=(f100 d).getD (Tys.dflt rs100)
def p100:PureC:=pcOf as100 rs100 f100 g100
theorem wk100(x0:Int):Walks (runPure (kf111 Proofs.Tryz.prog).orc Proofs.Tryz.prog 400 100 as100 rs100 (x0,())) (t100 x0) [(bl 2 3,[2,4])]:=
 ⟨by kernel_rfl,trivial⟩
theorem ok100:PureOk Proofs.Tryz.prog 100 p100:=qab kf111_ok.base (T:=fun(d:Tys.data as100)=>t100 d.1) (by kernel_rfl) (fun(d:Tys.data as100)=>wP (wk100 d.1) (by kernel_rfl))
def kf100(P:Go.Program):Known:=(kf111 P).func 100 p100
theorem kf100_ok:KnownOk Proofs.Tryz.prog (kf100 Proofs.Tryz.prog):=kf111_ok.func ok100
abbrev as90:List Ty:=[(.int .i64)]
abbrev rs90:List Ty:=[(.int .i64)]
def t90(x0:Int):Tr (Tys.data rs90):= Tr.test (Option.isSome (f95 ((!leF (2:Int) x0:Bool),((10:Int),())))) (Tr.test (Option.isSome (f95 (!leF x0 8,((8:Int),())))) (let r0:=g95 ((!leF (2:Int) x0:Bool),((10:Int),()));let r1:=g95 ((!leF x0 8:Bool),((8:Int),()));Tr.test (Option.isSome (f94 (([r0.1,r1.1]:List Int),()))) (let r2:=g94 (([r0.1,r1.1]:List Int),());Tr.fin ((r2.1,()))) (Tr.stop)) (Tr.stop)) (Tr.stop)
def f90(d:Tys.data as90):Option (Tys.data rs90):=(t90 d.1).val
def g90(d:Tys.data as90):Tys.data rs90:=(f90 d).getD (Tys.dflt rs90)
def p90:PureC:=pcOf as90 rs90 f90 g90
theorem wk90(x0:Int):Walks (runPure (kf100 Proofs.Tryz.prog).orc Proofs.Tryz.prog 400 90 as90 rs90 (x0,())) (t90 x0) [(bl 3 7,[2,4,6])]:=
 ⟨by kernel_rfl,trivial⟩
theorem ok90:PureOk Proofs.Tryz.prog 90 p90:=qab kf100_ok.base (T:=fun(d:Tys.data as90)=>t90 d.1) (by kernel_rfl) (fun(d:Tys.data as90)=>wP (wk90 d.1) (by kernel_rfl))
def kf90(P:Go.Program):Known:=(kf100 P).func 90 p90
theorem kf90_ok:KnownOk Proofs.Tryz.prog (kf90 Proofs.Tryz.prog):=kf100_ok.func ok90
abbrev as96:List Ty:=[(.slice (.pair (.int .i64) (.pair (.int .i64) .unit))),(.int .i64)]
abbrev rs96:List Ty:=[.bool]
def t96(x0:(List (Int×(Int×Unit))))(x1:Int):Tr (Tys.data rs96):= Tr.test ((eqF x1 0:Bool)) (Tr.test (decide ((0:Int)≤x1)&&decide (x1<(↑(List.length x0):Int))) (Tr.fin (((eqF (List.getD x0 (Int.toNat x1) ((0:Int),(0:Int),())).1 (0:Int):Bool),()))) (Tr.stop)) (Tr.test (decide ((0:Int)≤x1)&&decide (x1<(↑(List.length x0):Int))) (Tr.test ((decide ((0:Int)≤wrap64 (x1-(1:Int)))&&decide (wrap64 (x1-(1:Int))<(↑(List.length x0):Int)):Bool)) (Tr.test ((!leF (List.getD x0 (Int.toNat x1) ((0:Int),(0:Int),())).1 (List.getD x0 (Int.toNat (wrap64 (x1-(1:Int)))) ((0:Int),(0:Int),())).1:Bool)) (Tr.fin (((!leF (List.getD x0 (Int.toNat x1) ((0:Int),(0:Int),())).2.1 (List.getD x0 (Int.toNat (wrap64 (x1-(1:Int)))) ((0:Int),(0:Int),())).2.1:Bool),()))) (Tr.fin (((false:Bool),())))) (Tr.stop)) (Tr.stop))
def f96(d:Tys.data as96):Option (Tys.data rs96):=(t96 d.1 d.2.1).val
def g96(d:Tys.data as96):Tys.data rs96:=(f96 d).getD (Tys.dflt rs96)
def p96:PureC:=pcOf as96 rs96 f96 g96
theorem wk96(x0:(List (Int×(Int×Unit))))(x1:Int):Walks (runPure (kf90 Proofs.Tryz.prog).orc Proofs.Tryz.prog 400 96 as96 rs96 (x0,x1,())) (t96 x0 x1) [(bl 2 3,[2,4]),(bl 4 14,pk 18 0 0x999773b77777597779),(bl 4 6,pk 16 0 0x9997777777777779)]:=
 ⟨by kernel_rfl,by kernel_rfl,by kernel_rfl,trivial⟩
theorem ok96:PureOk Proofs.Tryz.prog 96 p96:=qab kf90_ok.base (T:=fun(d:Tys.data as96)=>t96 d.1 d.2.1) (by kernel_rfl) (fun(d:Tys.data as96)=>wP (wk96 d.1 d.2.1) (by kernel_rfl))
def kf96(P:Go.Program):Known:=(kf90 P).func 96 p96
theorem kf96_ok:KnownOk Proofs.Tryz.prog (kf96 Proofs.Tryz.prog):=kf90_ok.func ok96
abbrev sh91_0:Sh:={ n:=25,slots:=[1,9,10,11],pats:=[.fn 92 [(0,4)],.ty (.slice (.pair (.int .i64) (.pair (.int .i64) .unit))),.ty (.int .i64),.ty (.int .i64)],boxes:=[.row [.ty (.slice (.pair (.int .i64) (.pair (.int .i64) .unit))),.ty (.int .i64),.ty (.int .i64),.ty (.int .i64)]] }
abbrev shb91_0:Sh:={ n:=25,slots:=[],pats:=[],boxes:=[.row [.ty (.slice (.pair (.int .i64) (.pair (.int .i64) .unit))),.ty (.int .i64),.ty (.int .i64),.ty (.int .i64)]] }
abbrev shr91_0:Sh:={ n:=25,slots:=[4,5],pats:=[.ty (.int .i64),.ty (.int .i64)],boxes:=[.row [.ty (.slice (.pair (.int .i64) (.pair (.int .i64) .unit))),.ty (.int .i64),.ty (.int .i64),.ty (.int .i64)]] }
def t91_0(x1:(List (Int×(Int×Unit))))(x2:Int)(x3:Int)(b0_0:List (Int×(Int×Unit)))(b0_1:Int)(b0_2:Int)(b0_3:Int):Tr (Out sh91_0.data shb91_0.data shr91_0.data):= Tr.test ((!leF x2 x3:Bool)) (Tr.test (decide ((0:Int)≤x3)&&decide (x3<(↑(List.length x1):Int))) (Tr.test (Option.isSome (f93 ((0:Int),((200:Int),(([(List.getD x1 (Int.toNat x3) ((0:Int),(0:Int),())).1]:List Int),()))))) (let r0:=g93 ((0:Int),((200:Int),(([(List.getD x1 (Int.toNat x3) ((0:Int),(0:Int),())).1]:List Int),())));Tr.test ((!r0.1:Bool)) (Tr.test (Option.isSome (f95 ((true:Bool),((2:Int),())))) (Tr.test (Option.isSome (f96 (b0_0,(x3,())))) (let r1:=g96 (b0_0,(x3,()));Tr.test (Option.isSome (f95 ((!r1.1:Bool),((9:Int),())))) (let r2:=g95 ((true:Bool),((2:Int),()));let r3:=g95 ((!r1.1:Bool),((9:Int),()));Tr.test (Option.isSome (f94 (([r2.1,r3.1]:List Int),()))) (let r6:=g94 (([r2.1,r3.1]:List Int),());Tr.test ((!eqF r6.1 0:Bool)) (Tr.fin (.ret ((x3,(r6.1,())),((b0_0,(b0_1,(b0_2,(b0_3,())))),())))) (Tr.fin (.again ((x1,(x2,((wrap64 (x3+(1:Int)):Int),()))),((b0_0,(b0_1,(b0_2,(b0_3,())))),()))))) (Tr.stop)) (Tr.stop)) (Tr.stop)) (Tr.stop)) (Tr.test (Option.isSome (f93 ((0:Int),((1000:Int),(([(List.getD x1 (Int.toNat x3) ((0:Int),(0:Int),())).2.1]:List Int),()))))) (let r4:=g93 ((0:Int),((1000:Int),(([(List.getD x1 (Int.toNat x3) ((0:Int),(0:Int),())).2.1]:List Int),())));Tr.test (Option.isSome (f95 ((!r4.1:Bool),((2:Int),())))) (Tr.test (Option.isSome (f96 (b0_0,(x3,())))) (let r1:=g96 (b0_0,(x3,()));Tr.test (Option.isSome (f95 ((!r1.1:Bool),((9:Int),())))) (let r3:=g95 ((!r1.1:Bool),((9:Int),()));let r5:=g95 ((!r4.1:Bool),((2:Int),()));Tr.test (Option.isSome (f94 (([r5.1,r3.1]:List Int),()))) (let r7:=g94 (([r5.1,r3.1]:List Int),());Tr.test ((!eqF r7.1 0:Bool)) (Tr.fin (.ret ((x3,(r7.1,())),((b0_0,(b0_1,(b0_2,(b0_3,())))),())))) (Tr.fin (.again ((x1,(x2,((wrap64 (x3+(1:Int)):Int),()))),((b0_0,(b0_1,(b0_2,(b0_3,())))),()))))) (Tr.stop)) (Tr.stop)) (Tr.stop)) (Tr.stop)) (Tr.stop))) (Tr.stop)) (Tr.stop)) (Tr.fin (.brk ((),((b0_0,(b0_1,(b0_2,(b0_3,())))),()))))
def s91_0(d:sh91_0.data):Option (Out sh91_0.data shb91_0.data shr91_0.data):=(t91_0 d.1.1 d.1.2.1 d.1.2.2.1 d.2.1.1 d.2.1.2.1 d.2.1.2.2.1 d.2.1.2.2.2.1).val
def l91_0(d:sh91_0.data):Option (shb91_0.data ⊕ shr91_0.data):=itr s91_0 rounds d
def b91_0(d:sh91_0.data):shb91_0.data:=outB shb91_0.dflt (l91_0 d)
def r91_0(d:sh91_0.data):shr91_0.data:=outR shr91_0.dflt (l91_0 d)
def lc91_0:LoopC:=lcOf sh91_0 shb91_0 shr91_0 l91_0 b91_0 r91_0
theorem wk91_0(x1:(List (Int×(Int×Unit))))(x2:Int)(x3:Int)(b0_0:List (Int×(Int×Unit)))(b0_1:Int)(b0_2:Int)(b0_3:Int):Walks (qat (kf96 Proofs.Tryz.prog).orc Proofs.Tryz.prog 400 91 0 sh91_0 shb91_0 shr91_0 ((x1,x2,x3,()),(b0_0,b0_1,b0_2,b0_3,()),())) (t91_0 x1 x2 x3 b0_0 b0_1 b0_2 b0_3) [(bl 9 511,pk 14 0 0x99977777999999),(bl 9 255,pk 14 0 0x99977777999999),(bl 10 1015,pk 15 0 0x999777957b99999),(bl 10 503,pk 15 0 0x999777957b99999),(bl 1 0,[2])]:=by
 repeat refine⟨by kernel_rfl,?_⟩
 exact trivial
theorem ok91_0:qaz Proofs.Tryz.prog 91 0 lc91_0:=qbe (sh:=sh91_0) (shB:=shb91_0) (shR:=shr91_0) kf96_ok.base (T:=fun(d:sh91_0.data)=>t91_0 d.1.1 d.1.2.1 d.1.2.2.1 d.2.1.1 d.2.1.2.1 d.2.1.2.2.1 d.2.1.2.2.2.1) (by kernel_rfl) rfl (fun(d:sh91_0.data)=>wB (wk91_0 d.1.1 d.1.2.1 d.1.2.2.1 d.2.1.1 d.2.1.2.1 d.2.1.2.2.1 d.2.1.2.2.2.1) (by kernel_rfl)) (fun _=>rfl)
def kl91_0(P:Go.Program):Known:=(kf96 P).loop 91 0 lc91_0
theorem kl91_0_ok:KnownOk Proofs.Tryz.prog (kl91_0 Proofs.Tryz.prog):=kf96_ok.loop ok91_0
abbrev as15:List Ty:=[(.pair (.slice (.pair (.int .i64) (.pair (.int .i64) .unit))) (.pair (.int .i64) (.pair (.int .i64) (.pair (.int .i64) .unit))))]
abbrev rs15:List Ty:=[(.int .i64),(.int .i64)]
def t15(x0:(List (Int×(Int×Unit))))(x0':Int)(x0'':Int)(x0''':Int):Tr (Tys.data rs15):= Tr.test (Option.isSome (f90 ((↑(List.length x0):Int),()))) (let r0:=g90 ((↑(List.length x0):Int),());Tr.test ((!eqF r0.1 0:Bool)) (Tr.fin (((0:Int),(r0.1,())))) (Tr.test (Option.isSome (l91_0 ((x0,((↑(List.length x0):Int),((0:Int),()))),((x0,(x0',(x0'',(x0''',())))),())))) (Tr.test (qa8 (l91_0 ((x0,((↑(List.length x0):Int),((0:Int),()))),((x0,(x0',(x0'',(x0''',())))),())))) (let r1:=r91_0 ((x0,((↑(List.length x0):Int),((0:Int),()))),((x0,(x0',(x0'',(x0''',())))),()));Tr.test ((!eqF r1.1.2.1 0:Bool)) (Tr.fin ((r1.1.1,(r1.1.2.1,())))) (Tr.test (Option.isSome (f93 ((0:Int),((50:Int),(([r1.2.1.2.1]:List Int),()))))) (let r3:=g93 ((0:Int),((50:Int),(([r1.2.1.2.1]:List Int),())));Tr.test ((!r3.1:Bool)) (Tr.test (Option.isSome (f95 ((true:Bool),((2:Int),())))) (Tr.test (Option.isSome (f95 ((leF r1.2.1.2.2.2.1 r1.2.1.2.2.1:Bool),((9:Int),())))) (let r5:=g95 ((true:Bool),((2:Int),()));let r6:=g95 ((leF r1.2.1.2.2.2.1 r1.2.1.2.2.1:Bool),((9:Int),()));Tr.test (Option.isSome (f94 (([r5.1,r6.1]:List Int),()))) (let r7:=g94 (([r5.1,r6.1]:List Int),());Tr.fin (((0:Int),(r7.1,())))) (Tr.stop)) (Tr.stop)) (Tr.stop)) (Tr.test (Option.isSome (f93 ((0:Int),((1000:Int),(([r1.2.1.2.2.1,r1.2.1.2.2.2.1]:List Int),()))))) (let r4:=g93 ((0:Int),((1000:Int),(([r1.2.1.2.2.1,r1.2.1.2.2.2.1]:List Int),())));Tr.test (Option.isSome (f95 ((!r4.1:Bool),((2:Int),())))) (Tr.test (Option.isSome (f95 ((leF r1.2.1.2.2.2.1 r1.2.1.2.2.1:Bool),((9:Int),())))) (let r6:=g95 ((leF r1.2.1.2.2.2.1 r1.2.1.2.2.1:Bool),((9:Int),()));let r8:=g95 ((!r4.1:Bool),((2:Int),()));Tr.test (Option.isSome (f94 (([r8.1,r6.1]:List Int),()))) (let r9:=g94 (([r8.1,r6.1]:List Int),());Tr.fin (((0:Int),(r9.1,())))) (Tr.stop)) (Tr.stop)) (Tr.stop)) (Tr.stop))) (Tr.stop))) (let r2:=b91_0 ((x0,((↑(List.length x0):Int),((0:Int),()))),((x0,(x0',(x0'',(x0''',())))),()));Tr.test (Option.isSome (f93 ((0:Int),((50:Int),(([r2.2.1.2.1]:List Int),()))))) (let r10:=g93 ((0:Int),((50:Int),(([r2.2.1.2.1]:List Int),())));Tr.test ((!r10.1:Bool)) (Tr.test (Option.isSome (f95 ((true:Bool),((2:Int),())))) (Tr.test (Option.isSome (f95 ((leF r2.2.1.2.2.2.1 r2.2.1.2.2.1:Bool),((9:Int),())))) (let r5:=g95 ((true:Bool),((2:Int),()));let r12:=g95 ((leF r2.2.1.2.2.2.1 r2.2.1.2.2.1:Bool),((9:Int),()));Tr.test (Option.isSome (f94 (([r5.1,r12.1]:List Int),()))) (let r13:=g94 (([r5.1,r12.1]:List Int),());Tr.fin (((0:Int),(r13.1,())))) (Tr.stop)) (Tr.stop)) (Tr.stop)) (Tr.test (Option.isSome (f93 ((0:Int),((1000:Int),(([r2.2.1.2.2.1,r2.2.1.2.2.2.1]:List Int),()))))) (let r11:=g93 ((0:Int),((1000:Int),(([r2.2.1.2.2.1,r2.2.1.2.2.2.1]:List Int),())));Tr.test (Option.isSome (f95 ((!r11.1:Bool),((2:Int),())))) (Tr.test (Option.isSome (f95 ((leF r2.2.1.2.2.2.1 r2.2.1.2.2.1:Bool),((9:Int),())))) (let r12:=g95 ((leF r2.2.1.2.2.2.1 r2.2.1.2.2.1:Bool),((9:Int),()));let r14:=g95 ((!r11.1:Bool),((2:Int),()));Tr.test (Option.isSome (f94 (([r14.1,r12.1]:List Int),()))) (let r15:=g94 (([r14.1,r12.1]:List Int),());Tr.fin (((0:Int),(r15.1,())))) (Tr.stop)) (Tr.stop)) (Tr.stop)) (Tr.stop))) (Tr.stop))) (Tr.stop))) (Tr.stop)
def f15(d:Tys.data as15):Option (Tys.data rs15):=(t15 d.1.1 d.1.2.1 d.1.2.2.1 d.1.2.2.2.1).val
def g15(d:Tys.data as15):Tys.data rs15:=(f15 d).getD (Tys.dflt rs15)
def p15:PureC:=pcOf as15 rs15 f15 g15
theorem wk15(x0:(List (Int×(Int×Unit))))(x0':Int)(x0'':Int)(x0''':Int):Walks (runPure (kl91_0 Proofs.Tryz.prog).orc Proofs.Tryz.prog 400 15 as15 rs15 ((x0,x0',x0'',x0''',()),())) (t15 x0 x0' x0'' x0''') [(bl 2 3,[2,4]),(bl 5 29,[2,4,6,8,10]),(bl 10 1005,pk 17 0 0x99999977777779999),(bl 11 1965,pk 18 0 0x99999977777957b999),(bl 9 501,pl 17 0 0x21861ad585f7df7df7df861861),(bl 10 981,pl 18 0 0x86186d4e17df7df7e175f8e1861)]:=by
 repeat refine⟨by kernel_rfl,?_⟩
 exact trivial
theorem ok15:PureOk Proofs.Tryz.prog 15 p15:=qab kl91_0_ok.base (T:=fun(d:Tys.data as15)=>t15 d.1.1 d.1.2.1 d.1.2.2.1 d.1.2.2.2.1) (by kernel_rfl) (fun(d:Tys.data as15)=>wP (wk15 d.1.1 d.1.2.1 d.1.2.2.1 d.1.2.2.2.1) (by kernel_rfl))
def kf15(P:Go.Program):Known:=(kl91_0 P).func 15 p15
theorem kf15_ok:KnownOk Proofs.Tryz.prog (kf15 Proofs.Tryz.prog):=kl91_0_ok.func ok15
abbrev as158:List Ty:=[(.pair (.int .i64) (.pair (.int .i64) .unit))]
abbrev rs158:List Ty:=[(.pair (.int .i64) (.pair (.int .i64) .unit))]
def t158(x0:Int)(x0':Int):Tr (Tys.data rs158):= Tr.fin (((x0,(x0',())),()))
def f158(d:Tys.data as158):Option (Tys.data rs158):=(t158 d.1.1 d.1.2.1).val
def g158(d:Tys.data as158):Tys.data rs158:=(f158 d).getD (Tys.dflt rs158)
def p158:PureC:=pcOf as158 rs158 f158 g158
theorem wk158(x0:Int)(x0':Int):Walks (runPure (kf15 Proofs.Tryz.prog).orc Proofs.Tryz.prog 400 158 as158 rs158 ((x0,x0',()),())) (t158 x0 x0') [(bl 0 0,[])]:=
 ⟨by kernel_rfl,trivial⟩
theorem ok158:PureOk Proofs.Tryz.prog 158 p158:=qab kf15_ok.base (T:=fun(d:Tys.data as158)=>t158 d.1.1 d.1.2.1) (by kernel_rfl) (fun(d:Tys.data as158)=>wP (wk158 d.1.1 d.1.2.1) (by kernel_rfl))
def kf158(P:Go.Program):Known:=(kf15 P).func 158 p158
theorem kf158_ok:KnownOk Proofs.Tryz.prog (kf158 Proofs.Tryz.prog):=kf15_ok.func ok158
abbrev as153:List Ty:=[(.pair (.int .i64) (.pair (.int .i64) .unit)),(.int .i64)]
abbrev rs153:List Ty:=[.bool]
def t153(x0:Int)(x0':Int)(x1:Int):Tr (Tys.data rs153):= Tr.fin (((!leF x0 (wrap64 (x1*x0')):Bool),()))
def f153(d:Tys.data as153):Option (Tys.data rs153):=(t153 d.1.1 d.1.2.1 d.2.1).val
def g153(d:Tys.data as153):Tys.data rs153:=(f153 d).getD (Tys.dflt rs153)
def p153:PureC:=pcOf as153 rs153 f153 g153
theorem wk153(x0:Int)(x0':Int)(x1:Int):Walks (runPure (kf158 Proofs.Tryz.prog).orc Proofs.Tryz.prog 400 153 as153 rs153 ((x0,x0',()),x1,())) (t153 x0 x0' x1) [(bl 0 0,[])]:=
 ⟨by kernel_rfl,trivial⟩
theorem ok153:PureOk Proofs.Tryz.prog 153 p153:=qab kf158_ok.base (T:=fun(d:Tys.data as153)=>t153 d.1.1 d.1.2.1 d.2.1) (by kernel_rfl) (fun(d:Tys.data as153)=>wP (wk153 d.1.1 d.1.2.1 d.2.1) (by kernel_rfl))
def kf153(P:Go.Program):Known:=(kf158 P).func 153 p153
theorem kf153_ok:KnownOk Proofs.Tryz.prog (kf153 Proofs.Tryz.prog):=kf158_ok.func ok153
abbrev as143:List Ty:=[(.slice (.pair (.int .i64) (.pair (.int .i64) .unit)))]
abbrev rs143:List Ty:=[(.int .i64)]
def t143(x0:(List (Int×(Int×Unit)))):Tr (Tys.data rs143):= Tr.test ((decide ((0:Int)≤wrap64 ((↑(List.length x0):Int)-(1:Int)))&&decide (wrap64 ((↑(List.length x0):Int)-(1:Int))<(↑(List.length x0):Int)):Bool)) (Tr.fin ((((List.getD x0 (Int.toNat (wrap64 ((↑(List.length x0):Int)-(1:Int)))) ((0:Int),(0:Int),())).1:Int),()))) (Tr.stop)
def f143(d:Tys.data as143):Option (Tys.data rs143):=(t143 d.1).val
def g143(d:Tys.data as143):Tys.data rs143:=(f143 d).getD (Tys.dflt rs143)
def p143:PureC:=pcOf as143 rs143 f143 g143
theorem wk143(x0:(List (Int×(Int×Unit)))):Walks (runPure (kf153 Proofs.Tryz.prog).orc Proofs.Tryz.prog 400 143 as143 rs143 (x0,())) (t143 x0) [(bl 1 1,[2])]:=
 ⟨by kernel_rfl,trivial⟩
theorem ok143:PureOk Proofs.Tryz.prog 143 p143:=qab kf153_ok.base (T:=fun(d:Tys.data as143)=>t143 d.1) (by kernel_rfl) (fun(d:Tys.data as143)=>wP (wk143 d.1) (by kernel_rfl))
def kf143(P:Go.Program):Known:=(kf153 P).func 143 p143
theorem kf143_ok:KnownOk Proofs.Tryz.prog (kf143 Proofs.Tryz.prog):=kf153_ok.func ok143
abbrev sh156_0:Sh:={ n:=22,slots:=[0,1,4,5,6],pats:=[.ty (.int .i64),.ty (.int .i64),.ptr 0 2 0,.ty (.int .i64),.ty (.int .i64)],boxes:=[.row [.ty (.int .i64),.ty (.int .i64)]] }
abbrev shb156_0:Sh:={ n:=22,slots:=[0,1,4,5],pats:=[.ty (.int .i64),.ty (.int .i64),.ptr 0 2 0,.ty (.int .i64)],boxes:=[.row [.ty (.int .i64),.ty (.int .i64)]] }
abbrev shr156_0:Sh:={ n:=22,slots:=[],pats:=[],boxes:=[.row [.ty (.int .i64),.ty (.int .i64)]] }
def t156_0(x0:Int)(x1:Int)(x3:Int)(x4:Int)(b0_0:Int)(b0_1:Int):Tr (Out sh156_0.data shb156_0.data shr156_0.data):= Tr.test ((!eqF x4 0:Bool)) (Tr.test (x4==(0:Int)) (Tr.stop) (Tr.fin (.again ((x0,(x1,(x4,((Int.tmod x3 x4:Int),())))),((b0_0,(b0_1,())),()))))) (Tr.fin (.brk ((x0,(x1,(x3,()))),((b0_0,(b0_1,())),()))))
def s156_0(d:sh156_0.data):Option (Out sh156_0.data shb156_0.data shr156_0.data):=(t156_0 d.1.1 d.1.2.1 d.1.2.2.1 d.1.2.2.2.1 d.2.1.1 d.2.1.2.1).val
def l156_0(d:sh156_0.data):Option (shb156_0.data ⊕ shr156_0.data):=itr s156_0 rounds d
def b156_0(d:sh156_0.data):shb156_0.data:=outB shb156_0.dflt (l156_0 d)
def lc156_0:LoopC:=lcB sh156_0 shb156_0 shr156_0 l156_0 b156_0
theorem wk156_0(x0:Int)(x1:Int)(x3:Int)(x4:Int)(b0_0:Int)(b0_1:Int):Walks (qat (kf143 Proofs.Tryz.prog).orc Proofs.Tryz.prog 400 156 0 sh156_0 shb156_0 shr156_0 ((x0,x1,x3,x4,()),(b0_0,b0_1,()),())) (t156_0 x0 x1 x3 x4 b0_0 b0_1) [(bl 2 1,[2,4]),(bl 1 0,[2])]:=
 ⟨by kernel_rfl,by kernel_rfl,trivial⟩
theorem ok156_0:qaz Proofs.Tryz.prog 156 0 lc156_0:=qaA (sh:=sh156_0) (shB:=shb156_0) (shR:=shr156_0) kf143_ok.base (T:=fun(d:sh156_0.data)=>t156_0 d.1.1 d.1.2.1 d.1.2.2.1 d.1.2.2.2.1 d.2.1.1 d.2.1.2.1) (by kernel_rfl) rfl (fun(d:sh156_0.data)=>wB (wk156_0 d.1.1 d.1.2.1 d.1.2.2.1 d.1.2.2.2.1 d.2.1.1 d.2.1.2.1) (by kernel_rfl)) (fun _=>rfl)
def kl156_0(P:Go.Program):Known:=(kf143 P).loop 156 0 lc156_0
theorem kl156_0_ok:KnownOk Proofs.Tryz.prog (kl156_0 Proofs.Tryz.prog):=kf143_ok.loop ok156_0
abbrev as156:List Ty:=[(.int .i64),(.int .i64)]
abbrev rs156:List Ty:=[(.pair (.int .i64) (.pair (.int .i64) .unit))]
def t156(x0:Int)(x1:Int):Tr (Tys.data rs156):= Tr.test (qbl (l156_0 ((x0,(x1,(x1,(x0,())))),(((0:Int),((0:Int),())),())))) (let r0:=b156_0 ((x0,(x1,(x1,(x0,())))),(((0:Int),((0:Int),())),()));Tr.test ((r0.1.2.2.1==(0:Int):Bool)) (Tr.stop) (Tr.fin ((((Go.IntKind.wrap Go.IntKind.i64 (Int.tdiv r0.1.1 r0.1.2.2.1):Int),((Go.IntKind.wrap Go.IntKind.i64 (Int.tdiv r0.1.2.1 r0.1.2.2.1):Int),())),())))) (Tr.stop)
def f156(d:Tys.data as156):Option (Tys.data rs156):=(t156 d.1 d.2.1).val
def g156(d:Tys.data as156):Tys.data rs156:=(f156 d).getD (Tys.dflt rs156)
def p156:PureC:=pcOf as156 rs156 f156 g156
theorem wk156(x0:Int)(x1:Int):Walks (runPure (kl156_0 Proofs.Tryz.prog).orc Proofs.Tryz.prog 400 156 as156 rs156 (x0,x1,())) (t156 x0 x1) [(bl 2 1,[2,2,1,4])]:=
 ⟨by kernel_rfl,trivial⟩
theorem ok156:PureOk Proofs.Tryz.prog 156 p156:=qab kl156_0_ok.base (T:=fun(d:Tys.data as156)=>t156 d.1 d.2.1) (by kernel_rfl) (fun(d:Tys.data as156)=>wP (wk156 d.1 d.2.1) (by kernel_rfl))
def kf156(P:Go.Program):Known:=(kl156_0 P).func 156 p156
theorem kf156_ok:KnownOk Proofs.Tryz.prog (kf156 Proofs.Tryz.prog):=kl156_0_ok.func ok156
abbrev sh98_0:Sh:={ n:=49,slots:=[0,1,4,5],pats:=[.ty (.slice (.pair (.int .i64) (.pair (.int .i64) .unit))),.ty (.int .i64),.ptr 0 2 0,.ty (.int .i64)],boxes:=[.row [.ty (.int .i64),.ty (.int .i64)]] }
abbrev shb98_0:Sh:={ n:=49,slots:=[0,1,4,5],pats:=[.ty (.slice (.pair (.int .i64) (.pair (.int .i64) .unit))),.ty (.int .i64),.ptr 0 2 0,.ty (.int .i64)],boxes:=[.row [.ty (.int .i64),.ty (.int .i64)]] }
abbrev shr98_0:Sh:={ n:=49,slots:=[],pats:=[],boxes:=[.row [.ty (.int .i64),.ty (.int .i64)]] }
def t98_0(x0:(List (Int×(Int×Unit))))(x1:Int)(x3:Int)(b0_0:Int)(b0_1:Int):Tr (Out sh98_0.data shb98_0.data shr98_0.data):= Tr.test ((decide ((0:Int)≤x3)&&decide (x3<(↑(List.length x0):Int)):Bool)) (Tr.test (!leF x1 (List.getD x0 (Int.toNat x3) ((0:Int),(0:Int),())).1) (Tr.fin (.again ((x0,(x1,((wrap64 (x3+(1:Int)):Int),()))),((b0_0,(b0_1,())),())))) (Tr.fin (.brk ((x0,(x1,(x3,()))),((b0_0,(b0_1,())),()))))) (Tr.stop)
def s98_0(d:sh98_0.data):Option (Out sh98_0.data shb98_0.data shr98_0.data):=(t98_0 d.1.1 d.1.2.1 d.1.2.2.1 d.2.1.1 d.2.1.2.1).val
def l98_0(d:sh98_0.data):Option (shb98_0.data ⊕ shr98_0.data):=itr s98_0 rounds d
def b98_0(d:sh98_0.data):shb98_0.data:=outB shb98_0.dflt (l98_0 d)
def lc98_0:LoopC:=lcB sh98_0 shb98_0 shr98_0 l98_0 b98_0
theorem wk98_0(x0:(List (Int×(Int×Unit))))(x1:Int)(x3:Int)(b0_0:Int)(b0_1:Int):Walks (qat (kf156 Proofs.Tryz.prog).orc Proofs.Tryz.prog 400 98 0 sh98_0 shb98_0 shr98_0 ((x0,x1,x3,()),(b0_0,b0_1,()),())) (t98_0 x0 x1 x3 b0_0 b0_1) [(bl 2 3,[2,4]),(bl 2 1,[2,4])]:=
 ⟨by kernel_rfl,by kernel_rfl,trivial⟩
theorem ok98_0:qaz Proofs.Tryz.prog 98 0 lc98_0:=qaA (sh:=sh98_0) (shB:=shb98_0) (shR:=shr98_0) kf156_ok.base (T:=fun(d:sh98_0.data)=>t98_0 d.1.1 d.1.2.1 d.1.2.2.1 d.2.1.1 d.2.1.2.1) (by kernel_rfl) rfl (fun(d:sh98_0.data)=>wB (wk98_0 d.1.1 d.1.2.1 d.1.2.2.1 d.2.1.1 d.2.1.2.1) (by kernel_rfl)) (fun _=>rfl)
def kl98_0(P:Go.Program):Known:=(kf156 P).loop 98 0 lc98_0
theorem kl98_0_ok:KnownOk Proofs.Tryz.prog (kl98_0 Proofs.Tryz.prog):=kf156_ok.loop ok98_0
abbrev as98:List Ty:=[(.slice (.pair (.int .i64) (.pair (.int .i64) .unit))),(.int .i64)]
abbrev rs98:List Ty:=[(.pair (.int .i64) (.pair (.int .i64) .unit))]
def t98(x0:(List (Int×(Int×Unit))))(x1:Int):Tr (Tys.data rs98):= Tr.test (qbl (l98_0 ((x0,(x1,((1:Int),()))),(((0:Int),((0:Int),())),())))) (let r0:=b98_0 ((x0,(x1,((1:Int),()))),(((0:Int),((0:Int),())),()));Tr.test ((decide ((0:Int)≤Go.IntKind.wrap Go.IntKind.i64 (r0.1.2.2.1-(1:Int)))&&decide (Go.IntKind.wrap Go.IntKind.i64 (r0.1.2.2.1-(1:Int))<(↑(List.length r0.1.1):Int)):Bool)) (Tr.test ((decide ((0:Int)≤r0.1.2.2.1)&&decide (r0.1.2.2.1<(↑(List.length r0.1.1):Int)):Bool)) (Tr.test (Option.isSome (f156 ((wrap64 (wrap64 ((List.getD r0.1.1 (Int.toNat (Go.IntKind.wrap Go.IntKind.i64 (r0.1.2.2.1-(1:Int)))) ((0:Int),(0:Int),())).2.1*wrap64 ((List.getD r0.1.1 (Int.toNat r0.1.2.2.1) ((0:Int),(0:Int),())).1-(List.getD r0.1.1 (Int.toNat (Go.IntKind.wrap Go.IntKind.i64 (r0.1.2.2.1-(1:Int)))) ((0:Int),(0:Int),())).1))+wrap64 (wrap64 ((List.getD r0.1.1 (Int.toNat r0.1.2.2.1) ((0:Int),(0:Int),())).2.1-(List.getD r0.1.1 (Int.toNat (Go.IntKind.wrap Go.IntKind.i64 (r0.1.2.2.1-(1:Int)))) ((0:Int),(0:Int),())).2.1)*wrap64 (r0.1.2.1-(List.getD r0.1.1 (Int.toNat (Go.IntKind.wrap Go.IntKind.i64 (r0.1.2.2.1-(1:Int)))) ((0:Int),(0:Int),())).1))):Int),((wrap64 ((List.getD r0.1.1 (Int.toNat r0.1.2.2.1) ((0:Int),(0:Int),())).1-(List.getD r0.1.1 (Int.toNat (Go.IntKind.wrap Go.IntKind.i64 (r0.1.2.2.1-(1:Int)))) ((0:Int),(0:Int),())).1):Int),())))) (let r1:=g156 ((wrap64 (wrap64 ((List.getD r0.1.1 (Int.toNat (Go.IntKind.wrap Go.IntKind.i64 (r0.1.2.2.1-(1:Int)))) ((0:Int),(0:Int),())).2.1*wrap64 ((List.getD r0.1.1 (Int.toNat r0.1.2.2.1) ((0:Int),(0:Int),())).1-(List.getD r0.1.1 (Int.toNat (Go.IntKind.wrap Go.IntKind.i64 (r0.1.2.2.1-(1:Int)))) ((0:Int),(0:Int),())).1))+wrap64 (wrap64 ((List.getD r0.1.1 (Int.toNat r0.1.2.2.1) ((0:Int),(0:Int),())).2.1-(List.getD r0.1.1 (Int.toNat (Go.IntKind.wrap Go.IntKind.i64 (r0.1.2.2.1-(1:Int)))) ((0:Int),(0:Int),())).2.1)*wrap64 (r0.1.2.1-(List.getD r0.1.1 (Int.toNat (Go.IntKind.wrap Go.IntKind.i64 (r0.1.2.2.1-(1:Int)))) ((0:Int),(0:Int),())).1))):Int),((wrap64 ((List.getD r0.1.1 (Int.toNat r0.1.2.2.1) ((0:Int),(0:Int),())).1-(List.getD r0.1.1 (Int.toNat (Go.IntKind.wrap Go.IntKind.i64 (r0.1.2.2.1-(1:Int)))) ((0:Int),(0:Int),())).1):Int),()));Tr.fin (((r1.1.1,(r1.1.2.1,())),()))) (Tr.stop)) (Tr.stop)) (Tr.stop)) (Tr.stop)
def f98(d:Tys.data as98):Option (Tys.data rs98):=(t98 d.1 d.2.1).val
def g98(d:Tys.data as98):Tys.data rs98:=(f98 d).getD (Tys.dflt rs98)
def p98:PureC:=pcOf as98 rs98 f98 g98
theorem wk98(x0:(List (Int×(Int×Unit))))(x1:Int):Walks (runPure (kl98_0 Proofs.Tryz.prog).orc Proofs.Tryz.prog 400 98 as98 rs98 (x0,x1,())) (t98 x0 x1) [(bl 4 15,[2,4,6,1,8])]:=
 ⟨by kernel_rfl,trivial⟩
theorem ok98:PureOk Proofs.Tryz.prog 98 p98:=qab kl98_0_ok.base (T:=fun(d:Tys.data as98)=>t98 d.1 d.2.1) (by kernel_rfl) (fun(d:Tys.data as98)=>wP (wk98 d.1 d.2.1) (by kernel_rfl))
def kf98(P:Go.Program):Known:=(kl98_0 P).func 98 p98
theorem kf98_ok:KnownOk Proofs.Tryz.prog (kf98 Proofs.Tryz.prog):=kl98_0_ok.func ok98
abbrev sh181_0:Sh:={ n:=26,slots:=[1,5,6],pats:=[.fn 182 [(0,1),(1,1)],.ty (.int .i64),.ty (.int .i64)],boxes:=[.row [.fn 180 [(2,1)]],.row [.ty (.slice (.pair (.int .i64) (.pair (.int .i64) .unit)))],.row [.ty (.int .i64)]] }
abbrev shb181_0:Sh:={ n:=26,slots:=[5],pats:=[.ty (.int .i64)],boxes:=[.row [.fn 180 [(2,1)]],.row [.ty (.slice (.pair (.int .i64) (.pair (.int .i64) .unit)))],.row [.ty (.int .i64)]] }
abbrev shr181_0:Sh:={ n:=26,slots:=[],pats:=[],boxes:=[.row [.fn 180 [(2,1)]],.row [.ty (.slice (.pair (.int .i64) (.pair (.int .i64) .unit)))],.row [.ty (.int .i64)]] }
def t181_0(x1:Int)(x2:Int)(b1_0:List (Int×(Int×Unit)))(b2_0:Int):Tr (Out sh181_0.data shb181_0.data shr181_0.data):= Tr.test ((!leF x2 x1:Bool)) (Tr.test (Option.isSome (f98 (b1_0,((Go.IntKind.wrap Go.IntKind.i64 (shrV Go.IntKind.u64 (Go.IntKind.wrap Go.IntKind.u64 (wrap64 (x1+x2))) (1:Int)):Int),())))) (let r0:=g98 (b1_0,((Go.IntKind.wrap Go.IntKind.i64 (shrV Go.IntKind.u64 (Go.IntKind.wrap Go.IntKind.u64 (wrap64 (x1+x2))) (1:Int)):Int),()));Tr.test (Option.isSome (f153 ((r0.1.1,(r0.1.2.1,())),(b2_0,())))) (let r1:=g153 ((r0.1.1,(r0.1.2.1,())),(b2_0,()));Tr.test ((!r1.1:Bool)) (Tr.fin (.again (((wrap64 (Go.IntKind.wrap Go.IntKind.i64 (shrV Go.IntKind.u64 (Go.IntKind.wrap Go.IntKind.u64 (wrap64 (x1+x2))) (1:Int))+(1:Int)):Int),(x2,())),((),((b1_0,()),((b2_0,()),())))))) (Tr.fin (.again ((x1,((Go.IntKind.wrap Go.IntKind.i64 (shrV Go.IntKind.u64 (Go.IntKind.wrap Go.IntKind.u64 (wrap64 (x1+x2))) (1:Int)):Int),())),((),((b1_0,()),((b2_0,()),()))))))) (Tr.stop)) (Tr.stop)) (Tr.fin (.brk ((x1,()),((),((b1_0,()),((b2_0,()),()))))))
def s181_0(d:sh181_0.data):Option (Out sh181_0.data shb181_0.data shr181_0.data):=(t181_0 d.1.1 d.1.2.1 d.2.2.1.1 d.2.2.2.1.1).val
def l181_0(d:sh181_0.data):Option (shb181_0.data ⊕ shr181_0.data):=itr s181_0 rounds d
def b181_0(d:sh181_0.data):shb181_0.data:=outB shb181_0.dflt (l181_0 d)
def lc181_0:LoopC:=lcB sh181_0 shb181_0 shr181_0 l181_0 b181_0
theorem wk181_0(x1:Int)(x2:Int)(b1_0:List (Int×(Int×Unit)))(b2_0:Int):Walks (qat (kf98 Proofs.Tryz.prog).orc Proofs.Tryz.prog 400 181 0 sh181_0 shb181_0 shr181_0 ((x1,x2,()),(),(b1_0,()),(b2_0,()),())) (t181_0 x1 x2 b1_0 b2_0) [(bl 4 15,[2,4,6,0,8]),(bl 4 7,[2,4,6,0,8]),(bl 1 0,[2])]:=
 ⟨by kernel_rfl,by kernel_rfl,by kernel_rfl,trivial⟩
theorem ok181_0:qaz Proofs.Tryz.prog 181 0 lc181_0:=qaA (sh:=sh181_0) (shB:=shb181_0) (shR:=shr181_0) kf98_ok.base (T:=fun(d:sh181_0.data)=>t181_0 d.1.1 d.1.2.1 d.2.2.1.1 d.2.2.2.1.1) (by kernel_rfl) rfl (fun(d:sh181_0.data)=>wB (wk181_0 d.1.1 d.1.2.1 d.2.2.1.1 d.2.2.2.1.1) (by kernel_rfl)) (fun _=>rfl)
def kl181_0(P:Go.Program):Known:=(kf98 P).loop 181 0 lc181_0
theorem kl181_0_ok:KnownOk Proofs.Tryz.prog (kl181_0 Proofs.Tryz.prog):=kf98_ok.loop ok181_0
abbrev as159:List Ty:=[(.slice (.pair (.int .i64) (.pair (.int .i64) .unit))),(.int .i64)]
abbrev rs159:List Ty:=[(.int .i64)]
def t159(x0:(List (Int×(Int×Unit))))(x1:Int):Tr (Tys.data rs159):= Tr.test (Option.isSome (f143 (x0,()))) (let r0:=g143 (x0,());Tr.test (qbl (l181_0 (((0:Int),((wrap64 (r0.1+(1:Int)):Int),())),((),((x0,()),((x1,()),())))))) (let r1:=b181_0 (((0:Int),((wrap64 (r0.1+(1:Int)):Int),())),((),((x0,()),((x1,()),()))));Tr.fin ((r1.1.1,()))) (Tr.stop)) (Tr.stop)
def f159(d:Tys.data as159):Option (Tys.data rs159):=(t159 d.1 d.2.1).val
def g159(d:Tys.data as159):Tys.data rs159:=(f159 d).getD (Tys.dflt rs159)
def p159:PureC:=pcOf as159 rs159 f159 g159
theorem wk159(x0:(List (Int×(Int×Unit))))(x1:Int):Walks (runPure (kl181_0 Proofs.Tryz.prog).orc Proofs.Tryz.prog 400 159 as159 rs159 (x0,x1,())) (t159 x0 x1) [(bl 2 3,[1,2,4])]:=
 ⟨by kernel_rfl,trivial⟩
theorem ok159:PureOk Proofs.Tryz.prog 159 p159:=qab kl181_0_ok.base (T:=fun(d:Tys.data as159)=>t159 d.1 d.2.1) (by kernel_rfl) (fun(d:Tys.data as159)=>wP (wk159 d.1 d.2.1) (by kernel_rfl))
def kf159(P:Go.Program):Known:=(kl181_0 P).func 159 p159
theorem kf159_ok:KnownOk Proofs.Tryz.prog (kf159 Proofs.Tryz.prog):=kl181_0_ok.func ok159
abbrev as152:List Ty:=[(.pair (.int .i64) (.pair (.int .i64) .unit)),(.int .i64)]
abbrev rs152:List Ty:=[.bool]
def t152(x0:Int)(x0':Int)(x1:Int):Tr (Tys.data rs152):= Tr.fin (((!leF (wrap64 (x1*x0')) x0:Bool),()))
def f152(d:Tys.data as152):Option (Tys.data rs152):=(t152 d.1.1 d.1.2.1 d.2.1).val
def g152(d:Tys.data as152):Tys.data rs152:=(f152 d).getD (Tys.dflt rs152)
def p152:PureC:=pcOf as152 rs152 f152 g152
theorem wk152(x0:Int)(x0':Int)(x1:Int):Walks (runPure (kf159 Proofs.Tryz.prog).orc Proofs.Tryz.prog 400 152 as152 rs152 ((x0,x0',()),x1,())) (t152 x0 x0' x1) [(bl 0 0,[])]:=
 ⟨by kernel_rfl,trivial⟩
theorem ok152:PureOk Proofs.Tryz.prog 152 p152:=qab kf159_ok.base (T:=fun(d:Tys.data as152)=>t152 d.1.1 d.1.2.1 d.2.1) (by kernel_rfl) (fun(d:Tys.data as152)=>wP (wk152 d.1.1 d.1.2.1 d.2.1) (by kernel_rfl))
def kf152(P:Go.Program):Known:=(kf159 P).func 152 p152
theorem kf152_ok:KnownOk Proofs.Tryz.prog (kf152 Proofs.Tryz.prog):=kf159_ok.func ok152
abbrev sh181_0_1:Sh:={ n:=26,slots:=[1,5,6],pats:=[.fn 182 [(0,1),(1,1)],.ty (.int .i64),.ty (.int .i64)],boxes:=[.row [.fn 161 [(2,1)]],.row [.ty (.slice (.pair (.int .i64) (.pair (.int .i64) .unit)))],.row [.ty (.int .i64)]] }
abbrev shb181_0_1:Sh:={ n:=26,slots:=[5],pats:=[.ty (.int .i64)],boxes:=[.row [.fn 161 [(2,1)]],.row [.ty (.slice (.pair (.int .i64) (.pair (.int .i64) .unit)))],.row [.ty (.int .i64)]] }
abbrev shr181_0_1:Sh:={ n:=26,slots:=[],pats:=[],boxes:=[.row [.fn 161 [(2,1)]],.row [.ty (.slice (.pair (.int .i64) (.pair (.int .i64) .unit)))],.row [.ty (.int .i64)]] }
def t181_0_1(x1:Int)(x2:Int)(b1_0:List (Int×(Int×Unit)))(b2_0:Int):Tr (Out sh181_0_1.data shb181_0_1.data shr181_0_1.data):= Tr.test ((!leF x2 x1:Bool)) (Tr.test (Option.isSome (f98 (b1_0,((Go.IntKind.wrap Go.IntKind.i64 (shrV Go.IntKind.u64 (Go.IntKind.wrap Go.IntKind.u64 (wrap64 (x1+x2))) (1:Int)):Int),())))) (let r0:=g98 (b1_0,((Go.IntKind.wrap Go.IntKind.i64 (shrV Go.IntKind.u64 (Go.IntKind.wrap Go.IntKind.u64 (wrap64 (x1+x2))) (1:Int)):Int),()));Tr.test (Option.isSome (f152 ((r0.1.1,(r0.1.2.1,())),(b2_0,())))) (let r1:=g152 ((r0.1.1,(r0.1.2.1,())),(b2_0,()));Tr.test ((!!r1.1:Bool)) (Tr.fin (.again (((wrap64 (Go.IntKind.wrap Go.IntKind.i64 (shrV Go.IntKind.u64 (Go.IntKind.wrap Go.IntKind.u64 (wrap64 (x1+x2))) (1:Int))+(1:Int)):Int),(x2,())),((),((b1_0,()),((b2_0,()),())))))) (Tr.fin (.again ((x1,((Go.IntKind.wrap Go.IntKind.i64 (shrV Go.IntKind.u64 (Go.IntKind.wrap Go.IntKind.u64 (wrap64 (x1+x2))) (1:Int)):Int),())),((),((b1_0,()),((b2_0,()),()))))))) (Tr.stop)) (Tr.stop)) (Tr.fin (.brk ((x1,()),((),((b1_0,()),((b2_0,()),()))))))
def s181_0_1(d:sh181_0_1.data):Option (Out sh181_0_1.data shb181_0_1.data shr181_0_1.data):=(t181_0_1 d.1.1 d.1.2.1 d.2.2.1.1 d.2.2.2.1.1).val
def l181_0_1(d:sh181_0_1.data):Option (shb181_0_1.data ⊕ shr181_0_1.data):=itr s181_0_1 rounds d
def b181_0_1(d:sh181_0_1.data):shb181_0_1.data:=outB shb181_0_1.dflt (l181_0_1 d)
def lc181_0_1:LoopC:=lcB sh181_0_1 shb181_0_1 shr181_0_1 l181_0_1 b181_0_1
theorem wk181_0_1(x1:Int)(x2:Int)(b1_0:List (Int×(Int×Unit)))(b2_0:Int):Walks (qat (kf152 Proofs.Tryz.prog).orc Proofs.Tryz.prog 400 181 0 sh181_0_1 shb181_0_1 shr181_0_1 ((x1,x2,()),(),(b1_0,()),(b2_0,()),())) (t181_0_1 x1 x2 b1_0 b2_0) [(bl 4 15,[2,4,6,0,8]),(bl 4 7,[2,4,6,0,8]),(bl 1 0,[2])]:=
 ⟨by kernel_rfl,by kernel_rfl,by kernel_rfl,trivial⟩
theorem ok181_0_1:qaz Proofs.Tryz.prog 181 0 lc181_0_1:=qaA (sh:=sh181_0_1) (shB:=shb181_0_1) (shR:=shr181_0_1) kf152_ok.base (T:=fun(d:sh181_0_1.data)=>t181_0_1 d.1.1 d.1.2.1 d.2.2.1.1 d.2.2.2.1.1) (by kernel_rfl) rfl (fun(d:sh181_0_1.data)=>wB (wk181_0_1 d.1.1 d.1.2.1 d.2.2.1.1 d.2.2.2.1.1) (by kernel_rfl)) (fun _=>rfl)
def kl181_0_1(P:Go.Program):Known:=(kf152 P).loop 181 0 lc181_0_1
theorem kl181_0_1_ok:KnownOk Proofs.Tryz.prog (kl181_0_1 Proofs.Tryz.prog):=kf152_ok.loop ok181_0_1
abbrev as101:List Ty:=[(.slice (.pair (.int .i64) (.pair (.int .i64) .unit))),(.int .i64)]
abbrev rs101:List Ty:=[(.int .i64)]
def t101(x0:(List (Int×(Int×Unit))))(x1:Int):Tr (Tys.data rs101):= Tr.test (Option.isSome (f143 (x0,()))) (let r0:=g143 (x0,());Tr.test (qbl (l181_0_1 (((0:Int),((wrap64 (r0.1+(1:Int)):Int),())),((),((x0,()),((x1,()),())))))) (let r1:=b181_0_1 (((0:Int),((wrap64 (r0.1+(1:Int)):Int),())),((),((x0,()),((x1,()),()))));Tr.fin ((r1.1.1,()))) (Tr.stop)) (Tr.stop)
def f101(d:Tys.data as101):Option (Tys.data rs101):=(t101 d.1 d.2.1).val
def g101(d:Tys.data as101):Tys.data rs101:=(f101 d).getD (Tys.dflt rs101)
def p101:PureC:=pcOf as101 rs101 f101 g101
theorem wk101(x0:(List (Int×(Int×Unit))))(x1:Int):Walks (runPure (kl181_0_1 Proofs.Tryz.prog).orc Proofs.Tryz.prog 400 101 as101 rs101 (x0,x1,())) (t101 x0 x1) [(bl 2 3,[1,2,4])]:=
 ⟨by kernel_rfl,trivial⟩
theorem ok101:PureOk Proofs.Tryz.prog 101 p101:=qab kl181_0_1_ok.base (T:=fun(d:Tys.data as101)=>t101 d.1 d.2.1) (by kernel_rfl) (fun(d:Tys.data as101)=>wP (wk101 d.1 d.2.1) (by kernel_rfl))
def kf101(P:Go.Program):Known:=(kl181_0_1 P).func 101 p101
theorem kf101_ok:KnownOk Proofs.Tryz.prog (kf101 Proofs.Tryz.prog):=kl181_0_1_ok.func ok101
abbrev sh157_0:Sh:={ n:=22,slots:=[1,5,8,9,10],pats:=[.fn 158 [],.aco (.pair (.int .i64) (.pair (.int .i64) .unit)),.ty (.slice (.pair (.int .i64) (.pair (.int .i64) .unit))),.ty (.int .i64),.ty (.int .i64)],boxes:=[] }
abbrev shb157_0:Sh:={ n:=22,slots:=[5],pats:=[.aco (.pair (.int .i64) (.pair (.int .i64) .unit))],boxes:=[] }
abbrev shr157_0:Sh:={ n:=22,slots:=[],pats:=[],boxes:=[] }
def t157_0(x1:(List (Int×(Int×Unit))))(x2:List (Int×(Int×Unit)))(x3:Int)(x4:Int):Tr (Out sh157_0.data shb157_0.data shr157_0.data):= Tr.test ((!leF x3 x4:Bool)) (Tr.test (decide ((0:Int)≤x4)&&decide (x4<(↑(List.length x2):Int))) (Tr.test (Option.isSome (f158 ((((List.getD x2 (Int.toNat x4) ((0:Int),(0:Int),())).1:Int),(((List.getD x2 (Int.toNat x4) ((0:Int),(0:Int),())).2.1:Int),())),()))) (Tr.test ((Nat.ble (((2:Nat)*(List.length x1+(1:Nat))+(192:Nat))*(16:Nat)) (281474976710656:Nat)&&Nat.ble (List.length x1+(1:Nat)) (281474976710656:Nat):Bool)) (let r0:=g158 ((((List.getD x2 (Int.toNat x4) ((0:Int),(0:Int),())).1:Int),(((List.getD x2 (Int.toNat x4) ((0:Int),(0:Int),())).2.1:Int),())),());Tr.fin (.again (((x1++[(r0.1.1,r0.1.2.1,())]:List (Int×Int×PUnit)),(x2,(x3,((wrap64 (x4+(1:Int)):Int),())))),()))) (Tr.stop)) (Tr.stop)) (Tr.stop)) (Tr.fin (.brk ((x1,()),())))
def s157_0(d:sh157_0.data):Option (Out sh157_0.data shb157_0.data shr157_0.data):=(t157_0 d.1.1 d.1.2.1 d.1.2.2.1 d.1.2.2.2.1).val
def l157_0(d:sh157_0.data):Option (shb157_0.data ⊕ shr157_0.data):=itr s157_0 rounds d
def b157_0(d:sh157_0.data):shb157_0.data:=outB shb157_0.dflt (l157_0 d)
def lc157_0:LoopC:=lcB sh157_0 shb157_0 shr157_0 l157_0 b157_0
theorem wk157_0(x1:(List (Int×(Int×Unit))))(x2:List (Int×(Int×Unit)))(x3:Int)(x4:Int):Walks (qat (kf101 Proofs.Tryz.prog).orc Proofs.Tryz.prog 400 157 0 sh157_0 shb157_0 shr157_0 ((x1,x2,x3,x4,()),())) (t157_0 x1 x2 x3 x4) [(bl 4 15,[2,4,6,8]),(bl 1 0,[2])]:=
 ⟨by kernel_rfl,by kernel_rfl,trivial⟩
theorem ok157_0:qaz Proofs.Tryz.prog 157 0 lc157_0:=qaA (sh:=sh157_0) (shB:=shb157_0) (shR:=shr157_0) kf101_ok.base (T:=fun(d:sh157_0.data)=>t157_0 d.1.1 d.1.2.1 d.1.2.2.1 d.1.2.2.2.1) (by kernel_rfl) rfl (fun(d:sh157_0.data)=>wB (wk157_0 d.1.1 d.1.2.1 d.1.2.2.1 d.1.2.2.2.1) (by kernel_rfl)) (fun _=>rfl)
def kl157_0(P:Go.Program):Known:=(kf101 P).loop 157 0 lc157_0
theorem kl157_0_ok:KnownOk Proofs.Tryz.prog (kl157_0 Proofs.Tryz.prog):=kf101_ok.loop ok157_0
abbrev as99:List Ty:=[(.pair (.slice (.pair (.int .i64) (.pair (.int .i64) .unit))) (.pair (.int .i64) (.pair (.int .i64) (.pair (.int .i64) .unit)))),(.slice (.int .i64))]
abbrev rs99:List Ty:=[(.pair (.pair (.slice (.pair (.int .i64) (.pair (.int .i64) .unit))) (.pair (.int .i64) (.pair (.int .i64) (.pair (.int .i64) .unit)))) (.pair (.slice (.pair (.int .i64) (.pair (.int .i64) .unit))) (.pair (.int .i64) (.pair (.int .i64) .unit)))),(.int .i64)]
def t99(x0:(List (Int×(Int×Unit))))(x0':Int)(x0'':Int)(x0''':Int)(x1:List Int):Tr (Tys.data rs99):= Tr.test (Option.isSome (f15 ((x0,(x0',(x0'',(x0''',())))),()))) (Tr.test (Option.isSome (f94 (x1,()))) (let r0:=g15 ((x0,(x0',(x0'',(x0''',())))),());let r1:=g94 (x1,());Tr.test (Option.isSome (f94 (([r0.2.1,r1.1]:List Int),()))) (let r2:=g94 (([r0.2.1,r1.1]:List Int),());Tr.test ((!eqF r2.1 0:Bool)) (Tr.fin ((((([]:List (Int×Int×PUnit)),((0:Int),((0:Int),((0:Int),())))),(([]:List (Int×Int×PUnit)),((0:Int),((0:Int),())))),(r2.1,())))) (Tr.test (qbl (l157_0 ((([]:List (Int×Int×PUnit)),(x0,((↑(List.length x0):Int),((0:Int),())))),()))) (let r3:=b157_0 ((([]:List (Int×Int×PUnit)),(x0,((↑(List.length x0):Int),((0:Int),())))),());Tr.test (Option.isSome (f159 (r3.1.1,(x0'',())))) (Tr.test (Option.isSome (f101 (r3.1.1,(x0''',())))) (let r4:=g159 (r3.1.1,(x0'',()));let r5:=g101 (r3.1.1,(x0''',()));Tr.fin ((((x0,(x0',(x0'',(x0''',())))),(r3.1.1,(r4.1,(r5.1,())))),((0:Int),())))) (Tr.stop)) (Tr.stop)) (Tr.stop))) (Tr.stop)) (Tr.stop)) (Tr.stop)
def f99(d:Tys.data as99):Option (Tys.data rs99):=(t99 d.1.1 d.1.2.1 d.1.2.2.1 d.1.2.2.2.1 d.2.1).val
def g99(d:Tys.data as99):Tys.data rs99:=(f99 d).getD (Tys.dflt rs99)
def p99:PureC:=pcOf as99 rs99 f99 g99
theorem wk99(x0:(List (Int×(Int×Unit))))(x0':Int)(x0'':Int)(x0''':Int)(x1:List Int):Walks (runPure (kl157_0 Proofs.Tryz.prog).orc Proofs.Tryz.prog 400 99 as99 rs99 ((x0,x0',x0'',x0''',()),x1,())) (t99 x0 x0' x0'' x0''' x1) [(bl 4 15,[2,4,6,8]),(bl 7 119,pk 8 0 0x9999c499)]:=
 ⟨by kernel_rfl,by kernel_rfl,trivial⟩
theorem ok99:PureOk Proofs.Tryz.prog 99 p99:=qab kl157_0_ok.base (T:=fun(d:Tys.data as99)=>t99 d.1.1 d.1.2.1 d.1.2.2.1 d.1.2.2.2.1 d.2.1) (by kernel_rfl) (fun(d:Tys.data as99)=>wP (wk99 d.1.1 d.1.2.1 d.1.2.2.1 d.1.2.2.2.1 d.2.1) (by kernel_rfl))
def kf99(P:Go.Program):Known:=(kl157_0 P).func 99 p99
theorem kf99_ok:KnownOk Proofs.Tryz.prog (kf99 Proofs.Tryz.prog):=kl157_0_ok.func ok99
abbrev as126:List Ty:=[(.pair (.slice (.pair (.int .i64) (.pair (.int .i64) .unit))) (.pair (.int .i64) (.pair (.int .i64) (.pair (.int .i64) .unit)))),(.pair (.int .i64) (.pair (.int .i64) .unit)),(.int .i64)]
abbrev rs126:List Ty:=[(.pair (.pair (.pair (.slice (.pair (.int .i64) (.pair (.int .i64) .unit))) (.pair (.int .i64) (.pair (.int .i64) (.pair (.int .i64) .unit)))) (.pair (.slice (.pair (.int .i64) (.pair (.int .i64) .unit))) (.pair (.int .i64) (.pair (.int .i64) .unit)))) (.pair (.pair (.int .i64) (.pair (.int .i64) .unit)) (.pair (.int .i64) .unit))),(.int .i64)]
def t126(x0:(List (Int×(Int×Unit))))(x0':Int)(x0'':Int)(x0''':Int)(x1:Int)(x1':Int)(x2:Int):Tr (Tys.data rs126):= Tr.test (Option.isSome (f111 ((x1,(x1',())),()))) (Tr.test (Option.isSome (f100 (x2,()))) (let r0:=g111 ((x1,(x1',())),());let r1:=g100 (x2,());Tr.test (Option.isSome (f99 ((x0,(x0',(x0'',(x0''',())))),(([r0.1,r1.1]:List Int),())))) (let r2:=g99 ((x0,(x0',(x0'',(x0''',())))),(([r0.1,r1.1]:List Int),()));Tr.test ((!eqF r2.2.1 0:Bool)) (Tr.fin (((((([]:List (Int×Int×PUnit)),((0:Int),((0:Int),((0:Int),())))),(([]:List (Int×Int×PUnit)),((0:Int),((0:Int),())))),(((0:Int),((0:Int),())),((0:Int),()))),(r2.2.1,())))) (Tr.test (Option.isSome (f101 (r2.1.2.1,(x2,())))) (let r3:=g101 (r2.1.2.1,(x2,()));Tr.fin (((((r2.1.1.1,(r2.1.1.2.1,(r2.1.1.2.2.1,(r2.1.1.2.2.2.1,())))),(r2.1.2.1,(r2.1.2.2.1,(r2.1.2.2.2.1,())))),((x1,(x1',())),(r3.1,()))),((0:Int),())))) (Tr.stop))) (Tr.stop)) (Tr.stop)) (Tr.stop)
def f126(d:Tys.data as126):Option (Tys.data rs126):=(t126 d.1.1 d.1.2.1 d.1.2.2.1 d.1.2.2.2.1 d.2.1.1 d.2.1.2.1 d.2.2.1).val
def g126(d:Tys.data as126):Tys.data rs126:=(f126 d).getD (Tys.dflt rs126)
def p126:PureC:=pcOf as126 rs126 f126 g126
theorem wk126(x0:(List (Int×(Int×Unit))))(x0':Int)(x0'':Int)(x0''':Int)(x1:Int)(x1':Int)(x2:Int):Walks (runPure (kf99 Proofs.Tryz.prog).orc Proofs.Tryz.prog 400 126 as126 rs126 ((x0,x0',x0'',x0''',()),(x1,x1',()),x2,())) (t126 x0 x0' x0'' x0''' x1 x1' x2) [(bl 4 15,[2,4,6,8]),(bl 5 23,[2,4,6,8,10])]:=
 ⟨by kernel_rfl,by kernel_rfl,trivial⟩
theorem ok126:PureOk Proofs.Tryz.prog 126 p126:=qab kf99_ok.base (T:=fun(d:Tys.data as126)=>t126 d.1.1 d.1.2.1 d.1.2.2.1 d.1.2.2.2.1 d.2.1.1 d.2.1.2.1 d.2.2.1) (by kernel_rfl) (fun(d:Tys.data as126)=>wP (wk126 d.1.1 d.1.2.1 d.1.2.2.1 d.1.2.2.2.1 d.2.1.1 d.2.1.2.1 d.2.2.1) (by kernel_rfl))
def kf126(P:Go.Program):Known:=(kf99 P).func 126 p126
theorem kf126_ok:KnownOk Proofs.Tryz.prog (kf126 Proofs.Tryz.prog):=kf99_ok.func ok126
abbrev as102:List Ty:=[(.pair (.pair (.slice (.pair (.int .i64) (.pair (.int .i64) .unit))) (.pair (.int .i64) (.pair (.int .i64) (.pair (.int .i64) .unit)))) (.pair (.slice (.pair (.int .i64) (.pair (.int .i64) .unit))) (.pair (.int .i64) (.pair (.int .i64) .unit))))]
abbrev rs102:List Ty:=[(.int .i64)]
def t102(x0_:(List (Int×(Int×Unit))))(x0_':Int)(x0_'':Int)(x0_''':Int)(x0':List (Int×(Int×Unit)))(x0'':Int)(x0''':Int):Tr (Tys.data rs102):= Tr.test (Option.isSome (f143 (x0',()))) (let r0:=g143 (x0',());Tr.fin ((r0.1,()))) (Tr.stop)
def f102(d:Tys.data as102):Option (Tys.data rs102):=(t102 d.1.1.1 d.1.1.2.1 d.1.1.2.2.1 d.1.1.2.2.2.1 d.1.2.1 d.1.2.2.1 d.1.2.2.2.1).val
def g102(d:Tys.data as102):Tys.data rs102:=(f102 d).getD (Tys.dflt rs102)
def p102:PureC:=pcOf as102 rs102 f102 g102
theorem wk102(x0_:(List (Int×(Int×Unit))))(x0_':Int)(x0_'':Int)(x0_''':Int)(x0':List (Int×(Int×Unit)))(x0'':Int)(x0''':Int):Walks (runPure (kf126 Proofs.Tryz.prog).orc Proofs.Tryz.prog 400 102 as102 rs102 (((x0_,x0_',x0_'',x0_''',()),x0',x0'',x0''',()),())) (t102 x0_ x0_' x0_'' x0_''' x0' x0'' x0''') [(bl 1 1,[2])]:=
 ⟨by kernel_rfl,trivial⟩
theorem ok102:PureOk Proofs.Tryz.prog 102 p102:=qab kf126_ok.base (T:=fun(d:Tys.data as102)=>t102 d.1.1.1 d.1.1.2.1 d.1.1.2.2.1 d.1.1.2.2.2.1 d.1.2.1 d.1.2.2.1 d.1.2.2.2.1) (by kernel_rfl) (fun(d:Tys.data as102)=>wP (wk102 d.1.1.1 d.1.1.2.1 d.1.1.2.2.1 d.1.1.2.2.2.1 d.1.2.1 d.1.2.2.1 d.1.2.2.2.1) (by kernel_rfl))
def kf102(P:Go.Program):Known:=(kf126 P).func 102 p102
theorem kf102_ok:KnownOk Proofs.Tryz.prog (kf102 Proofs.Tryz.prog):=kf126_ok.func ok102
abbrev as165:List Ty:=[(.pair (.pair (.slice (.pair (.int .i64) (.pair (.int .i64) .unit))) (.pair (.int .i64) (.pair (.int .i64) (.pair (.int .i64) .unit)))) (.pair (.slice (.pair (.int .i64) (.pair (.int .i64) .unit))) (.pair (.int .i64) (.pair (.int .i64) .unit)))),(.pair (.int .i64) (.pair .bool .unit)),(.int .i64)]
abbrev rs165:List Ty:=[(.pair (.int .i64) (.pair .bool .unit))]
def t165(x0_:(List (Int×(Int×Unit))))(x0_':Int)(x0_'':Int)(x0_''':Int)(x0':List (Int×(Int×Unit)))(x0'':Int)(x0''':Int)(x1:Int)(x1':Bool)(x2:Int):Tr (Tys.data rs165):= Tr.test (x1') (Tr.test (Option.isSome (f102 (((x0_,(x0_',(x0_'',(x0_''',())))),(x0',(x0'',(x0''',())))),()))) (let r0:=g102 (((x0_,(x0_',(x0_'',(x0_''',())))),(x0',(x0'',(x0''',())))),());Tr.test ((!leF x0'' (if(-1:Int)<if wrap64 (wrap64 (x1-x2)+x0_')<r0.1 then wrap64 (wrap64 (x1-x2)+x0_')else r0.1 then if wrap64 (wrap64 (x1-x2)+x0_')<r0.1 then wrap64 (wrap64 (x1-x2)+x0_')else r0.1 else(-1:Int)):Bool)) (Tr.fin ((((if(-1:Int)<if wrap64 (wrap64 (x1-x2)+x0_')<r0.1 then wrap64 (wrap64 (x1-x2)+x0_')else r0.1 then if wrap64 (wrap64 (x1-x2)+x0_')<r0.1 then wrap64 (wrap64 (x1-x2)+x0_')else r0.1 else(-1:Int):Int),((true:Bool),())),()))) (Tr.fin ((((if(-1:Int)<if wrap64 (wrap64 (x1-x2)+x0_')<r0.1 then wrap64 (wrap64 (x1-x2)+x0_')else r0.1 then if wrap64 (wrap64 (x1-x2)+x0_')<r0.1 then wrap64 (wrap64 (x1-x2)+x0_')else r0.1 else(-1:Int):Int),((!leF x0''' (if(-1:Int)<if wrap64 (wrap64 (x1-x2)+x0_')<r0.1 then wrap64 (wrap64 (x1-x2)+x0_')else r0.1 then if wrap64 (wrap64 (x1-x2)+x0_')<r0.1 then wrap64 (wrap64 (x1-x2)+x0_')else r0.1 else(-1:Int)):Bool),())),())))) (Tr.stop)) (Tr.test (Option.isSome (f102 (((x0_,(x0_',(x0_'',(x0_''',())))),(x0',(x0'',(x0''',())))),()))) (let r0:=g102 (((x0_,(x0_',(x0_'',(x0_''',())))),(x0',(x0'',(x0''',())))),());Tr.test ((!leF x0'' (if(-1:Int)<if wrap64 (x1-x2)<r0.1 then wrap64 (x1-x2)else r0.1 then if wrap64 (x1-x2)<r0.1 then wrap64 (x1-x2)else r0.1 else(-1:Int)):Bool)) (Tr.fin ((((if(-1:Int)<if wrap64 (x1-x2)<r0.1 then wrap64 (x1-x2)else r0.1 then if wrap64 (x1-x2)<r0.1 then wrap64 (x1-x2)else r0.1 else(-1:Int):Int),((true:Bool),())),()))) (Tr.fin ((((if(-1:Int)<if wrap64 (x1-x2)<r0.1 then wrap64 (x1-x2)else r0.1 then if wrap64 (x1-x2)<r0.1 then wrap64 (x1-x2)else r0.1 else(-1:Int):Int),((false:Bool),())),())))) (Tr.stop))
def f165(d:Tys.data as165):Option (Tys.data rs165):=(t165 d.1.1.1 d.1.1.2.1 d.1.1.2.2.1 d.1.1.2.2.2.1 d.1.2.1 d.1.2.2.1 d.1.2.2.2.1 d.2.1.1 d.2.1.2.1 d.2.2.1).val
def g165(d:Tys.data as165):Tys.data rs165:=(f165 d).getD (Tys.dflt rs165)
def p165:PureC:=pcOf as165 rs165 f165 g165
theorem wk165(x0_:(List (Int×(Int×Unit))))(x0_':Int)(x0_'':Int)(x0_''':Int)(x0':List (Int×(Int×Unit)))(x0'':Int)(x0''':Int)(x1:Int)(x1':Bool)(x2:Int):Walks (runPure (kf102 Proofs.Tryz.prog).orc Proofs.Tryz.prog 400 165 as165 rs165 (((x0_,x0_',x0_'',x0_''',()),x0',x0'',x0''',()),(x1,x1',()),x2,())) (t165 x0_ x0_' x0_'' x0_''' x0' x0'' x0''' x1 x1' x2) [(bl 3 7,[2,2,2,2,2,4,6]),(bl 3 3,pk 12 0 0x99773777b3b9),(bl 3 6,[2,2,2,2,2,4,6]),(bl 3 2,pk 12 0 0x99773777b3b9)]:=by
 repeat refine⟨by kernel_rfl,?_⟩
 exact trivial
theorem ok165:PureOk Proofs.Tryz.prog 165 p165:=qab kf102_ok.base (T:=fun(d:Tys.data as165)=>t165 d.1.1.1 d.1.1.2.1 d.1.1.2.2.1 d.1.1.2.2.2.1 d.1.2.1 d.1.2.2.1 d.1.2.2.2.1 d.2.1.1 d.2.1.2.1 d.2.2.1) (by kernel_rfl) (fun(d:Tys.data as165)=>wP (wk165 d.1.1.1 d.1.1.2.1 d.1.1.2.2.1 d.1.1.2.2.2.1 d.1.2.1 d.1.2.2.1 d.1.2.2.2.1 d.2.1.1 d.2.1.2.1 d.2.2.1) (by kernel_rfl))
def kf165(P:Go.Program):Known:=(kf102 P).func 165 p165
theorem kf165_ok:KnownOk Proofs.Tryz.prog (kf165 Proofs.Tryz.prog):=kf102_ok.func ok165
abbrev sh135_0:Sh:={ n:=26,slots:=[2,3,4,7],pats:=[.map 0,.ptr 1 10 0,.ptr 2 2 0,.ty (.int .i64)],boxes:=[.mapd (.pair (.int .i64) (.pair .bool .unit)) .bool,.row [.ty (.slice (.pair (.int .i64) (.pair (.int .i64) .unit))),.ty (.int .i64),.ty (.int .i64),.ty (.int .i64),.ty (.slice (.pair (.int .i64) (.pair (.int .i64) .unit))),.ty (.int .i64),.ty (.int .i64),.ty (.int .i64),.ty (.int .i64),.ty (.int .i64)],.row [.ty (.int .i64),.ty .bool]] }
abbrev shb135_0:Sh:={ n:=26,slots:=[],pats:=[],boxes:=[.mapd (.pair (.int .i64) (.pair .bool .unit)) .bool,.row [.ty (.slice (.pair (.int .i64) (.pair (.int .i64) .unit))),.ty (.int .i64),.ty (.int .i64),.ty (.int .i64),.ty (.slice (.pair (.int .i64) (.pair (.int .i64) .unit))),.ty (.int .i64),.ty (.int .i64),.ty (.int .i64),.ty (.int .i64),.ty (.int .i64)],.row [.ty (.int .i64),.ty .bool]] }
abbrev shr135_0:Sh:={ n:=26,slots:=[6],pats:=[.ty .bool],boxes:=[.mapd (.pair (.int .i64) (.pair .bool .unit)) .bool,.row [.ty (.slice (.pair (.int .i64) (.pair (.int .i64) .unit))),.ty (.int .i64),.ty (.int .i64),.ty (.int .i64),.ty (.slice (.pair (.int .i64) (.pair (.int .i64) .unit))),.ty (.int .i64),.ty (.int .i64),.ty (.int .i64),.ty (.int .i64),.ty (.int .i64)],.row [.ty (.int .i64),.ty .bool]] }
def t135_0(x3:Int)(b0:(List (Nat×((Int×(Bool×Unit))×Bool))))(b0c:Nat)(b1_0:List (Int×(Int×Unit)))(b1_1:Int)(b1_2:Int)(b1_3:Int)(b1_4:List (Int×(Int×Unit)))(b1_5:Int)(b1_6:Int)(b1_7:Int)(b1_8:Int)(b1_9:Int)(b2_0:Int)(b2_1:Bool):Tr (Out sh135_0.data shb135_0.data shr135_0.data):= Tr.test ((leF x3 b1_8:Bool)) (Tr.test (Option.isSome (f165 (((b1_0,(b1_1,(b1_2,(b1_3,())))),(b1_4,(b1_5,(b1_6,())))),((b2_0,(b2_1,())),(x3,()))))) (let r0:=g165 (((b1_0,(b1_1,(b1_2,(b1_3,())))),(b1_4,(b1_5,(b1_6,())))),((b2_0,(b2_1,())),(x3,())));Tr.test ((!qpm (qjl (k:=MK) (v:=MV) (List.map (fun(self:Nat×Ty.data (Ty.pair (Ty.int Go.IntKind.i64) (Ty.pair Ty.bool Ty.unit))×Ty.data Ty.bool)=>self.2) b0) (r0.1.1,r0.1.2.1,())) false:Bool)) (Tr.fin (.ret (((true:Bool),()),((b0,b0c),((b1_0,(b1_1,(b1_2,(b1_3,(b1_4,(b1_5,(b1_6,(b1_7,(b1_8,(b1_9,())))))))))),((b2_0,(b2_1,())),())))))) (Tr.fin (.again (((wrap64 (x3+(1:Int)):Int),()),((b0,b0c),((b1_0,(b1_1,(b1_2,(b1_3,(b1_4,(b1_5,(b1_6,(b1_7,(b1_8,(b1_9,())))))))))),((b2_0,(b2_1,())),()))))))) (Tr.stop)) (Tr.fin (.brk ((),((b0,b0c),((b1_0,(b1_1,(b1_2,(b1_3,(b1_4,(b1_5,(b1_6,(b1_7,(b1_8,(b1_9,())))))))))),((b2_0,(b2_1,())),()))))))
def s135_0(d:sh135_0.data):Option (Out sh135_0.data shb135_0.data shr135_0.data):=(t135_0 d.1.1 d.2.1.1 d.2.1.2 d.2.2.1.1 d.2.2.1.2.1 d.2.2.1.2.2.1 d.2.2.1.2.2.2.1 d.2.2.1.2.2.2.2.1 d.2.2.1.2.2.2.2.2.1 d.2.2.1.2.2.2.2.2.2.1 d.2.2.1.2.2.2.2.2.2.2.1 d.2.2.1.2.2.2.2.2.2.2.2.1 d.2.2.1.2.2.2.2.2.2.2.2.2.1 d.2.2.2.1.1 d.2.2.2.1.2.1).val
def l135_0(d:sh135_0.data):Option (shb135_0.data ⊕ shr135_0.data):=itr s135_0 rounds d
def b135_0(d:sh135_0.data):shb135_0.data:=outB shb135_0.dflt (l135_0 d)
def r135_0(d:sh135_0.data):shr135_0.data:=outR shr135_0.dflt (l135_0 d)
def lc135_0:LoopC:=lcOf sh135_0 shb135_0 shr135_0 l135_0 b135_0 r135_0
theorem wk135_0(x3:Int)(b0:(List (Nat×((Int×(Bool×Unit))×Bool))))(b0c:Nat)(b1_0:List (Int×(Int×Unit)))(b1_1:Int)(b1_2:Int)(b1_3:Int)(b1_4:List (Int×(Int×Unit)))(b1_5:Int)(b1_6:Int)(b1_7:Int)(b1_8:Int)(b1_9:Int)(b2_0:Int)(b2_1:Bool):Walks (qat (kf165 Proofs.Tryz.prog).orc Proofs.Tryz.prog 400 135 0 sh135_0 shb135_0 shr135_0 ((x3,()),(b0,b0c),(b1_0,b1_1,b1_2,b1_3,b1_4,b1_5,b1_6,b1_7,b1_8,b1_9,()),(b2_0,b2_1,()),())) (t135_0 x3 b0 b0c b1_0 b1_1 b1_2 b1_3 b1_4 b1_5 b1_6 b1_7 b1_8 b1_9 b2_0 b2_1) [(bl 3 7,[2,4,6]),(bl 3 3,[2,4,6]),(bl 1 0,[2])]:=
 ⟨by kernel_rfl,by kernel_rfl,by kernel_rfl,trivial⟩
theorem ok135_0:qaz Proofs.Tryz.prog 135 0 lc135_0:=qbe (sh:=sh135_0) (shB:=shb135_0) (shR:=shr135_0) kf165_ok.base (T:=fun(d:sh135_0.data)=>t135_0 d.1.1 d.2.1.1 d.2.1.2 d.2.2.1.1 d.2.2.1.2.1 d.2.2.1.2.2.1 d.2.2.1.2.2.2.1 d.2.2.1.2.2.2.2.1 d.2.2.1.2.2.2.2.2.1 d.2.2.1.2.2.2.2.2.2.1 d.2.2.1.2.2.2.2.2.2.2.1 d.2.2.1.2.2.2.2.2.2.2.2.1 d.2.2.1.2.2.2.2.2.2.2.2.2.1 d.2.2.2.1.1 d.2.2.2.1.2.1) (by kernel_rfl) rfl (fun(d:sh135_0.data)=>wB (wk135_0 d.1.1 d.2.1.1 d.2.1.2 d.2.2.1.1 d.2.2.1.2.1 d.2.2.1.2.2.1 d.2.2.1.2.2.2.1 d.2.2.1.2.2.2.2.1 d.2.2.1.2.2.2.2.2.1 d.2.2.1.2.2.2.2.2.2.1 d.2.2.1.2.2.2.2.2.2.2.1 d.2.2.1.2.2.2.2.2.2.2.2.1 d.2.2.1.2.2.2.2.2.2.2.2.2.1 d.2.2.2.1.1 d.2.2.2.1.2.1) (by kernel_rfl)) (fun _=>rfl)
def kl135_0(P:Go.Program):Known:=(kf165 P).loop 135 0 lc135_0
theorem kl135_0_ok:KnownOk Proofs.Tryz.prog (kl135_0 Proofs.Tryz.prog):=kf165_ok.loop ok135_0
end Go.Vm.Mo
