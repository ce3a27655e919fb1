import Derived.Test.YtifpmnmpinjcgaaGreatA5
import Derived.KernelRfl
import Derived.Test.YtifpmnmpinjcgaaGreatProg
set_option linter.unusedVariables false
set_option linter.unusedSimpArgs false

namespace Go.Vm.Mo
open Go
set_option linter.unusedVariables false
def kn0(_:Go.Program):Known:=⟨[],[]⟩
abbrev tt:Bool:=true
abbrev ff:Bool:=false
theorem ac{b d:Bool}{r:List (Bool×Bool)}(h:b=d)(t:All r):All ((b,d)::r):=All.cons h t
theorem plainP:Plain Proofs.Tryz.prog:=by
 have h : (Proofs.Tryz.prog.funcs.toList.all fun fn => !(fn.body.isSome && fn.name == "runtime.NumGoroutine")) = true := by kernel_rfl
 intro f fn hf hb
 have hm:fn∈Proofs.Tryz.prog.funcs.toList:=by
  have:=Array.getElem?_eq_some_iff.1 hf
  obtain⟨hlt,rfl⟩:=this
  simp
 have:=List.all_eq_true.1 h fn hm
 rw[hb]at this
 simpa using this
theorem kn0_ok:KnownOk Proofs.Tryz.prog (kn0 Proofs.Tryz.prog):=⟨plainP,by kernel_rfl,(fun _ h=>by cases h),(fun _ h=>by cases h)⟩
abbrev as6:List Ty:=[]
abbrev rs6:List Ty:=[.bool]
def f6(_:Tys.data as6):Option (Tys.data rs6):=some (true,())
def g6(_:Tys.data as6):Tys.data rs6:=(true,())
def p6:PureC:=pcOf as6 rs6 f6 g6
theorem e6:qki (kn0 Proofs.Tryz.prog).orc Proofs.Tryz.prog 400 6 as6 rs6 () none=some ((true,()),[]):=by kernel_rfl
theorem ok6:PureOk Proofs.Tryz.prog 6 p6:=qiR kn0_ok.base (by kernel_rfl) e6 All.nil
def kf6(P:Go.Program):Known:=(kn0 P).func 6 p6
theorem kf6_ok:KnownOk Proofs.Tryz.prog (kf6 Proofs.Tryz.prog):=kn0_ok.func ok6
abbrev as16:List Ty:=[(.int .i64),(.int .i64),(.int .i64)]
abbrev rs16:List Ty:=[.bool]
def t16(x0:Int)(x1:Int)(x2:Int):Tr (Tys.data rs16):= Tr.test ((leF x1 x0:Bool)) (Tr.fin ((leF x0 x2,()))) (Tr.fin ((false,())))
def f16(d:Tys.data as16):Option (Tys.data rs16):=(t16 d.1 d.2.1 d.2.2.1).val
def g16(d:Tys.data as16):Tys.data rs16:=(f16 d).getD (Tys.dflt rs16)
def p16:PureC:=pcOf as16 rs16 f16 g16
def ww0:List Nat:=[2,2,2,2]
theorem wk16(x0:Int)(x1:Int)(x2:Int):Walks (runPure (kf6 Proofs.Tryz.prog).orc Proofs.Tryz.prog 400 16 as16 rs16 (x0,x1,x2,())) (t16 x0 x1 x2) [(bl 1 1,ww0),(bl 1 0,ww0)]:=
 ⟨by kernel_rfl,by kernel_rfl,trivial⟩
theorem ok16:PureOk Proofs.Tryz.prog 16 p16:=qaq kf6_ok.base (T:=fun(d:Tys.data as16)=>t16 d.1 d.2.1 d.2.2.1) (by kernel_rfl) (fun(d:Tys.data as16)=>wP (wk16 d.1 d.2.1 d.2.2.1) (by kernel_rfl))
def kf16(P:Go.Program):Known:=(kf6 P).func 16 p16
theorem kf16_ok:KnownOk Proofs.Tryz.prog (kf16 Proofs.Tryz.prog):=kf6_ok.func ok16
abbrev sh10_0:Sh:={ n:=26,slots:=[0,3],pats:=[.ty (.slice (.int .i64)),.ty (.int .i64)],boxes:=[] }
abbrev shb10_0:Sh:={ n:=26,slots:=[0],pats:=[.ty (.slice (.int .i64))],boxes:=[] }
abbrev shr10_0:Sh:={ n:=26,slots:=[2],pats:=[.ty (.int .i64)],boxes:=[] }
def t10_0(x0:(List Int))(x1:Int):Tr (Out sh10_0.data shb10_0.data shr10_0.data):= Tr.test ((!leF (↑(List.length x0):Int) x1:Bool)) (Tr.test (decide ((0:Int)≤x1)&&decide (x1<(↑(List.length x0):Int))) (Tr.test (Option.isSome (f16 ((List.getD x0 (Int.toNat x1) (0:Int):Int),((-1000:Int),((1000:Int),()))))) (let r0:=g16 ((List.getD x0 (Int.toNat x1) (0:Int):Int),((-1000:Int),((1000:Int),())));Tr.test ((!r0.1:Bool)) (Tr.fin (.ret (((2:Int),()),()))) (Tr.fin (.again ((x0,((wrap64 (x1+(1:Int)):Int),())),())))) (Tr.stop)) (Tr.stop)) (Tr.fin (.brk ((x0,()),())))
def s10_0(d:sh10_0.data):Option (Out sh10_0.data shb10_0.data shr10_0.data):=(t10_0 d.1.1 d.1.2.1).val
def l10_0(d:sh10_0.data):Option (shb10_0.data ⊕ shr10_0.data):=itr s10_0 rounds d
def b10_0(d:sh10_0.data):shb10_0.data:=outB shb10_0.dflt (l10_0 d)
def r10_0(d:sh10_0.data):shr10_0.data:=outR shr10_0.dflt (l10_0 d)
def lc10_0:LoopC:=lcOf sh10_0 shb10_0 shr10_0 l10_0 b10_0 r10_0
def ww1:List Nat:=[2]
def ww2:List Nat:=8::6::4::ww1
theorem wk10_0(x0:(List Int))(x1:Int):Walks (qbm (kf16 Proofs.Tryz.prog).orc Proofs.Tryz.prog 400 10 0 sh10_0 shb10_0 shr10_0 ((x0,x1,()),())) (t10_0 x0 x1) [(bl 4 15,ww2),(bl 4 7,ww2),(bl 1 0,ww1)]:=
 ⟨by kernel_rfl,by kernel_rfl,by kernel_rfl,trivial⟩
theorem ok10_0:qbt Proofs.Tryz.prog 10 0 lc10_0:=qeS (sh:=sh10_0) (shB:=shb10_0) (shR:=shr10_0) kf16_ok.base (T:=fun(d:sh10_0.data)=>t10_0 d.1.1 d.1.2.1) (by kernel_rfl) rfl (fun(d:sh10_0.data)=>wB (wk10_0 d.1.1 d.1.2.1) (by kernel_rfl)) (fun _=>rfl)
def kl10_0(P:Go.Program):Known:=(kf16 P).loop 10 0 lc10_0
theorem kl10_0_ok:KnownOk Proofs.Tryz.prog (kl10_0 Proofs.Tryz.prog):=kf16_ok.loop ok10_0
abbrev as10:List Ty:=[(.slice (.int .i64))]
abbrev rs10:List Ty:=[(.int .i64)]
def t10(x0:(List Int)):Tr (Tys.data rs10):= Tr.test ((eqF (↑(List.length x0):Int) (0:Int):Bool)) (Tr.fin (((10:Int),()))) (Tr.test (!leF (↑(List.length x0):Int) (4:Int)) (Tr.fin (((8:Int),()))) (Tr.test (Option.isSome (l10_0 ((x0,((0:Int),())),()))) (Tr.test (qft (l10_0 ((x0,((0:Int),())),()))) (let r0:=r10_0 ((x0,((0:Int),())),());Tr.fin ((r0.1.1,()))) (let r1:=b10_0 ((x0,((0:Int),())),());Tr.test ((true&&decide ((0:Int)<(↑(List.length r1.1.1):Int)):Bool)) (Tr.test ((eqF (List.getD r1.1.1 (0:Nat) (0:Int)) (0:Int):Bool)) (Tr.fin (((11:Int),()))) (Tr.fin (((0:Int),())))) (Tr.stop))) (Tr.stop)))
def f10(d:Tys.data as10):Option (Tys.data rs10):=(t10 d.1).val
def g10(d:Tys.data as10):Tys.data rs10:=(f10 d).getD (Tys.dflt rs10)
def p10:PureC:=pcOf as10 rs10 f10 g10
def ww3:List Nat:=[2]
def ww4:List Nat:=4::ww3
def ww5:List Nat:=8::6::ww4
def ww6:List Nat:=12::10::ww5
theorem wk10(x0:(List Int)):Walks (runPure (kl10_0 Proofs.Tryz.prog).orc Proofs.Tryz.prog 400 10 as10 rs10 (x0,())) (t10 x0) [(bl 1 1,ww3),(bl 2 2,ww4),(bl 4 12,ww5),(bl 6 52,ww6),(bl 6 20,ww6)]:=by
 repeat refine⟨by kernel_rfl,?_⟩
 exact trivial
theorem ok10:PureOk Proofs.Tryz.prog 10 p10:=qaq kl10_0_ok.base (T:=fun(d:Tys.data as10)=>t10 d.1) (by kernel_rfl) (fun(d:Tys.data as10)=>wP (wk10 d.1) (by kernel_rfl))
def kf10(P:Go.Program):Known:=(kl10_0 P).func 10 p10
theorem kf10_ok:KnownOk Proofs.Tryz.prog (kf10 Proofs.Tryz.prog):=kl10_0_ok.func ok10
abbrev as8:List Ty:=[(.slice (.int .i64))]
abbrev rs8:List Ty:=[(.slice (.int .i64))]
def t8(x0:(List Int)):Tr (Tys.data rs8):= Tr.test ((Nat.ble (((2:Nat)*((0:Nat)+List.length x0)+(192:Nat))*(8:Nat)) (281474976710656:Nat)&&Nat.ble ((0:Nat)+List.length x0) (281474976710656:Nat):Bool)) (Tr.test (Nat.beq ((0:Nat)+List.length x0) (List.length ([]++x0))) (Tr.fin ((([]++x0:List Int),()))) (Tr.stop)) (Tr.test (Nat.ble ((0:Nat)+List.length x0) (0:Nat)) (Tr.stop) (Tr.stop))
def f8(d:Tys.data as8):Option (Tys.data rs8):=(t8 d.1).val
def g8(d:Tys.data as8):Tys.data rs8:=(f8 d).getD (Tys.dflt rs8)
def p8:PureC:=pcOf as8 rs8 f8 g8
theorem wk8(x0:(List Int)):Walks (runPure (kf10 Proofs.Tryz.prog).orc Proofs.Tryz.prog 400 8 as8 rs8 (x0,())) (t8 x0) [(bl 2 3,[4,1,2])]:=
 ⟨by kernel_rfl,trivial⟩
theorem ok8:PureOk Proofs.Tryz.prog 8 p8:=qaq kf10_ok.base (T:=fun(d:Tys.data as8)=>t8 d.1) (by kernel_rfl) (fun(d:Tys.data as8)=>wP (wk8 d.1) (by kernel_rfl))
def kf8(P:Go.Program):Known:=(kf10 P).func 8 p8
theorem kf8_ok:KnownOk Proofs.Tryz.prog (kf8 Proofs.Tryz.prog):=kf10_ok.func ok8
abbrev as38:List Ty:=[.bool,(.int .i64)]
abbrev rs38:List Ty:=[(.int .i64)]
def t38(x0:Bool)(x1:Int):Tr (Tys.data rs38):= Tr.test (x0) (Tr.fin ((x1,()))) (Tr.fin (((0:Int),())))
def f38(d:Tys.data as38):Option (Tys.data rs38):=(t38 d.1 d.2.1).val
def g38(d:Tys.data as38):Tys.data rs38:=(f38 d).getD (Tys.dflt rs38)
def p38:PureC:=pcOf as38 rs38 f38 g38
def ww7:List Nat:=[2]
theorem wk38(x0:Bool)(x1:Int):Walks (runPure (kf8 Proofs.Tryz.prog).orc Proofs.Tryz.prog 400 38 as38 rs38 (x0,x1,())) (t38 x0 x1) [(bl 1 1,ww7),(bl 1 0,ww7)]:=
 ⟨by kernel_rfl,by kernel_rfl,trivial⟩
theorem ok38:PureOk Proofs.Tryz.prog 38 p38:=qaq kf8_ok.base (T:=fun(d:Tys.data as38)=>t38 d.1 d.2.1) (by kernel_rfl) (fun(d:Tys.data as38)=>wP (wk38 d.1 d.2.1) (by kernel_rfl))
def kf38(P:Go.Program):Known:=(kf8 P).func 38 p38
theorem kf38_ok:KnownOk Proofs.Tryz.prog (kf38 Proofs.Tryz.prog):=kf8_ok.func ok38
abbrev sh42_0:Sh:={ n:=15,slots:=[5,6,7],pats:=[.ty (.slice (.int .i64)),.ty (.int .i64),.ty (.int .i64)],boxes:=[] }
abbrev shb42_0:Sh:={ n:=15,slots:=[],pats:=[],boxes:=[] }
abbrev shr42_0:Sh:={ n:=15,slots:=[2],pats:=[.ty (.int .i64)],boxes:=[] }
def t42_0(x0:(List Int))(x1:Int)(x2:Int):Tr (Out sh42_0.data shb42_0.data shr42_0.data):= Tr.test ((!leF x1 x2:Bool)) (Tr.test (decide ((0:Int)≤x2)&&decide (x2<(↑(List.length x0):Int))) (Tr.test ((!eqF (List.getD x0 (Int.toNat x2) (0:Int)) (0:Int):Bool)) (Tr.fin (.ret (((List.getD x0 (Int.toNat x2) (0:Int):Int),()),()))) (Tr.fin (.again ((x0,(x1,((wrap64 (x2+(1:Int)):Int),()))),())))) (Tr.stop)) (Tr.fin (.brk ((),())))
def s42_0(d:sh42_0.data):Option (Out sh42_0.data shb42_0.data shr42_0.data):=(t42_0 d.1.1 d.1.2.1 d.1.2.2.1).val
def l42_0(d:sh42_0.data):Option (shb42_0.data ⊕ shr42_0.data):=itr s42_0 rounds d
def b42_0(d:sh42_0.data):shb42_0.data:=outB shb42_0.dflt (l42_0 d)
def r42_0(d:sh42_0.data):shr42_0.data:=outR shr42_0.dflt (l42_0 d)
def lc42_0:LoopC:=lcOf sh42_0 shb42_0 shr42_0 l42_0 b42_0 r42_0
def ww8:List Nat:=[2]
def ww9:List Nat:=6::4::ww8
theorem wk42_0(x0:(List Int))(x1:Int)(x2:Int):Walks (qbm (kf38 Proofs.Tryz.prog).orc Proofs.Tryz.prog 400 42 0 sh42_0 shb42_0 shr42_0 ((x0,x1,x2,()),())) (t42_0 x0 x1 x2) [(bl 3 7,ww9),(bl 3 3,ww9),(bl 1 0,ww8)]:=
 ⟨by kernel_rfl,by kernel_rfl,by kernel_rfl,trivial⟩
theorem ok42_0:qbt Proofs.Tryz.prog 42 0 lc42_0:=qeS (sh:=sh42_0) (shB:=shb42_0) (shR:=shr42_0) kf38_ok.base (T:=fun(d:sh42_0.data)=>t42_0 d.1.1 d.1.2.1 d.1.2.2.1) (by kernel_rfl) rfl (fun(d:sh42_0.data)=>wB (wk42_0 d.1.1 d.1.2.1 d.1.2.2.1) (by kernel_rfl)) (fun _=>rfl)
def kl42_0(P:Go.Program):Known:=(kf38 P).loop 42 0 lc42_0
theorem kl42_0_ok:KnownOk Proofs.Tryz.prog (kl42_0 Proofs.Tryz.prog):=kf38_ok.loop ok42_0
abbrev as42:List Ty:=[(.slice (.int .i64))]
abbrev rs42:List Ty:=[(.int .i64)]
def t42(x0:(List Int)):Tr (Tys.data rs42):= Tr.test (Option.isSome (l42_0 ((x0,((↑(List.length x0):Int),((0:Int),()))),()))) (Tr.test (qft (l42_0 ((x0,((↑(List.length x0):Int),((0:Int),()))),()))) (let r0:=r42_0 ((x0,((↑(List.length x0):Int),((0:Int),()))),());Tr.fin ((r0.1.1,()))) (Tr.fin (((0:Int),())))) (Tr.stop)
def f42(d:Tys.data as42):Option (Tys.data rs42):=(t42 d.1).val
def g42(d:Tys.data as42):Tys.data rs42:=(f42 d).getD (Tys.dflt rs42)
def p42:PureC:=pcOf as42 rs42 f42 g42
def wwa:List Nat:=[4,2]
theorem wk42(x0:(List Int)):Walks (runPure (kl42_0 Proofs.Tryz.prog).orc Proofs.Tryz.prog 400 42 as42 rs42 (x0,())) (t42 x0) [(bl 2 3,wwa),(bl 2 1,wwa)]:=
 ⟨by kernel_rfl,by kernel_rfl,trivial⟩
theorem ok42:PureOk Proofs.Tryz.prog 42 p42:=qaq kl42_0_ok.base (T:=fun(d:Tys.data as42)=>t42 d.1) (by kernel_rfl) (fun(d:Tys.data as42)=>wP (wk42 d.1) (by kernel_rfl))
def kf42(P:Go.Program):Known:=(kl42_0 P).func 42 p42
theorem kf42_ok:KnownOk Proofs.Tryz.prog (kf42 Proofs.Tryz.prog):=kl42_0_ok.func ok42
abbrev as52:List Ty:=[(.int .i64)]
abbrev rs52:List Ty:=[(.int .i64)]
def t52(x0:Int):Tr (Tys.data rs52):= Tr.test (Option.isSome (f38 ((eqF x0 0:Bool),((10:Int),())))) (Tr.test (Option.isSome (f38 (!leF x0 4,((8:Int),())))) (let r0:=g38 ((eqF x0 0:Bool),((10:Int),()));let r1:=g38 ((!leF x0 4:Bool),((8:Int),()));Tr.test (Option.isSome (f42 (([r0.1,r1.1]:List Int),()))) (let r2:=g42 (([r0.1,r1.1]:List Int),());Tr.fin ((r2.1,()))) (Tr.stop)) (Tr.stop)) (Tr.stop)
def f52(d:Tys.data as52):Option (Tys.data rs52):=(t52 d.1).val
def g52(d:Tys.data as52):Tys.data rs52:=(f52 d).getD (Tys.dflt rs52)
def p52:PureC:=pcOf as52 rs52 f52 g52
theorem wk52(x0:Int):Walks (runPure (kf42 Proofs.Tryz.prog).orc Proofs.Tryz.prog 400 52 as52 rs52 (x0,())) (t52 x0) [(bl 3 7,[6,4,2])]:=
 ⟨by kernel_rfl,trivial⟩
theorem ok52:PureOk Proofs.Tryz.prog 52 p52:=qaq kf42_ok.base (T:=fun(d:Tys.data as52)=>t52 d.1) (by kernel_rfl) (fun(d:Tys.data as52)=>wP (wk52 d.1) (by kernel_rfl))
def kf52(P:Go.Program):Known:=(kf42 P).func 52 p52
theorem kf52_ok:KnownOk Proofs.Tryz.prog (kf52 Proofs.Tryz.prog):=kf42_ok.func ok52
abbrev sh43_0:Sh:={ n:=24,slots:=[0,1,9,10,11],pats:=[.ty (.int .i64),.ty (.int .i64),.ty (.slice (.int .i64)),.ty (.int .i64),.ty (.int .i64)],boxes:=[] }
abbrev shb43_0:Sh:={ n:=24,slots:=[],pats:=[],boxes:=[] }
abbrev shr43_0:Sh:={ n:=24,slots:=[6],pats:=[.ty .bool],boxes:=[] }
def t43_0(x0:Int)(x1:Int)(x2:List Int)(x3:Int)(x4:Int):Tr (Out sh43_0.data shb43_0.data shr43_0.data):= Tr.test ((!leF x3 x4:Bool)) (Tr.test (decide ((0:Int)≤x4)&&decide (x4<(↑(List.length x2):Int))) (Tr.test ((!leF x0 (List.getD x2 (Int.toNat x4) (0:Int)):Bool)) (Tr.fin (.ret (((false:Bool),()),()))) (Tr.test ((!leF (List.getD x2 (Int.toNat x4) (0:Int)) x1:Bool)) (Tr.fin (.ret (((false:Bool),()),()))) (Tr.fin (.again ((x0,(x1,(x2,(x3,((wrap64 (x4+(1:Int)):Int),()))))),()))))) (Tr.stop)) (Tr.fin (.brk ((),())))
def s43_0(d:sh43_0.data):Option (Out sh43_0.data shb43_0.data shr43_0.data):=(t43_0 d.1.1 d.1.2.1 d.1.2.2.1 d.1.2.2.2.1 d.1.2.2.2.2.1).val
def l43_0(d:sh43_0.data):Option (shb43_0.data ⊕ shr43_0.data):=itr s43_0 rounds d
def b43_0(d:sh43_0.data):shb43_0.data:=outB shb43_0.dflt (l43_0 d)
def r43_0(d:sh43_0.data):shr43_0.data:=outR shr43_0.dflt (l43_0 d)
def lc43_0:LoopC:=lcOf sh43_0 shb43_0 shr43_0 l43_0 b43_0 r43_0
def wwb:List Nat:=[2]
def wwc:List Nat:=6::6::6::6::4::wwb
def wwd:List Nat:=8::wwc
theorem wk43_0(x0:Int)(x1:Int)(x2:List Int)(x3:Int)(x4:Int):Walks (qbm (kf52 Proofs.Tryz.prog).orc Proofs.Tryz.prog 400 43 0 sh43_0 shb43_0 shr43_0 ((x0,x1,x2,x3,x4,()),())) (t43_0 x0 x1 x2 x3 x4) [(bl 3 7,1::wwc),(bl 4 11,wwd),(bl 4 3,wwd),(bl 1 0,wwb)]:=by
 repeat refine⟨by kernel_rfl,?_⟩
 exact trivial
theorem ok43_0:qbt Proofs.Tryz.prog 43 0 lc43_0:=qeS (sh:=sh43_0) (shB:=shb43_0) (shR:=shr43_0) kf52_ok.base (T:=fun(d:sh43_0.data)=>t43_0 d.1.1 d.1.2.1 d.1.2.2.1 d.1.2.2.2.1 d.1.2.2.2.2.1) (by kernel_rfl) rfl (fun(d:sh43_0.data)=>wB (wk43_0 d.1.1 d.1.2.1 d.1.2.2.1 d.1.2.2.2.1 d.1.2.2.2.2.1) (by kernel_rfl)) (fun _=>rfl)
def kl43_0(P:Go.Program):Known:=(kf52 P).loop 43 0 lc43_0
theorem kl43_0_ok:KnownOk Proofs.Tryz.prog (kl43_0 Proofs.Tryz.prog):=kf52_ok.loop ok43_0
abbrev as43:List Ty:=[(.int .i64),(.int .i64),(.slice (.int .i64))]
abbrev rs43:List Ty:=[.bool]
def t43(x0:Int)(x1:Int)(x2:List Int):Tr (Tys.data rs43):= Tr.test (Option.isSome (l43_0 ((x0,(x1,(x2,((↑(List.length x2):Int),((0:Int),()))))),()))) (Tr.test (qft (l43_0 ((x0,(x1,(x2,((↑(List.length x2):Int),((0:Int),()))))),()))) (let r0:=r43_0 ((x0,(x1,(x2,((↑(List.length x2):Int),((0:Int),()))))),());Tr.fin ((r0.1.1,()))) (Tr.fin (((true:Bool),())))) (Tr.stop)
def f43(d:Tys.data as43):Option (Tys.data rs43):=(t43 d.1 d.2.1 d.2.2.1).val
def g43(d:Tys.data as43):Tys.data rs43:=(f43 d).getD (Tys.dflt rs43)
def p43:PureC:=pcOf as43 rs43 f43 g43
def wwe:List Nat:=[4,2]
theorem wk43(x0:Int)(x1:Int)(x2:List Int):Walks (runPure (kl43_0 Proofs.Tryz.prog).orc Proofs.Tryz.prog 400 43 as43 rs43 (x0,x1,x2,())) (t43 x0 x1 x2) [(bl 2 3,wwe),(bl 2 1,wwe)]:=
 ⟨by kernel_rfl,by kernel_rfl,trivial⟩
theorem ok43:PureOk Proofs.Tryz.prog 43 p43:=qaq kl43_0_ok.base (T:=fun(d:Tys.data as43)=>t43 d.1 d.2.1 d.2.2.1) (by kernel_rfl) (fun(d:Tys.data as43)=>wP (wk43 d.1 d.2.1 d.2.2.1) (by kernel_rfl))
def kf43(P:Go.Program):Known:=(kl43_0 P).func 43 p43
theorem kf43_ok:KnownOk Proofs.Tryz.prog (kf43 Proofs.Tryz.prog):=kl43_0_ok.func ok43
abbrev as53:List Ty:=[(.int .i64),(.slice (.int .i64))]
abbrev rs53:List Ty:=[.bool]
def t53(x0:Int)(x1:List Int):Tr (Tys.data rs53):= Tr.test (Option.isSome (f43 ((Go.IntKind.wrap Go.IntKind.i64 ((0:Int)-x0):Int),(x0,(x1,()))))) (let r0:=g43 ((Go.IntKind.wrap Go.IntKind.i64 ((0:Int)-x0):Int),(x0,(x1,())));Tr.fin (((!r0.1:Bool),()))) (Tr.stop)
def f53(d:Tys.data as53):Option (Tys.data rs53):=(t53 d.1 d.2.1).val
def g53(d:Tys.data as53):Tys.data rs53:=(f53 d).getD (Tys.dflt rs53)
def p53:PureC:=pcOf as53 rs53 f53 g53
theorem wk53(x0:Int)(x1:List Int):Walks (runPure (kf43 Proofs.Tryz.prog).orc Proofs.Tryz.prog 400 53 as53 rs53 (x0,x1,())) (t53 x0 x1) [(bl 1 1,[2])]:=
 ⟨by kernel_rfl,trivial⟩
theorem ok53:PureOk Proofs.Tryz.prog 53 p53:=qaq kf43_ok.base (T:=fun(d:Tys.data as53)=>t53 d.1 d.2.1) (by kernel_rfl) (fun(d:Tys.data as53)=>wP (wk53 d.1 d.2.1) (by kernel_rfl))
def kf53(P:Go.Program):Known:=(kf43 P).func 53 p53
theorem kf53_ok:KnownOk Proofs.Tryz.prog (kf53 Proofs.Tryz.prog):=kf43_ok.func ok53
abbrev as31:List Ty:=[(.slice (.int .i64))]
abbrev rs31:List Ty:=[(.int .i64)]
def t31(x0:(List Int)):Tr (Tys.data rs31):= Tr.test (Option.isSome (f52 ((↑(List.length x0):Int),()))) (Tr.test (Option.isSome (f53 ((1000:Int),(x0,())))) (let r1:=g53 ((1000:Int),(x0,()));Tr.test (Option.isSome (f38 (r1.1,((2:Int),())))) (Tr.test ((!leF (↑(List.length x0):Int) (0:Int):Bool)) (Tr.test ((true&&decide ((0:Int)<(↑(List.length x0):Int)):Bool)) (Tr.test (Option.isSome (f38 ((eqF (List.getD x0 (0:Nat) (0:Int)) (0:Int):Bool),((11:Int),())))) (let r0:=g52 ((↑(List.length x0):Int),());let r2:=g38 (r1.1,((2:Int),()));let r3:=g38 ((eqF (List.getD x0 (0:Nat) (0:Int)) (0:Int):Bool),((11:Int),()));Tr.test (Option.isSome (f42 (([r0.1,r2.1,r3.1]:List Int),()))) (let r5:=g42 (([r0.1,r2.1,r3.1]:List Int),());Tr.fin ((r5.1,()))) (Tr.stop)) (Tr.stop)) (Tr.stop)) (Tr.test (Option.isSome (f38 ((false:Bool),((11:Int),())))) (let r0:=g52 ((↑(List.length x0):Int),());let r2:=g38 (r1.1,((2:Int),()));let r4:=g38 ((false:Bool),((11:Int),()));Tr.test (Option.isSome (f42 (([r0.1,r2.1,r4.1]:List Int),()))) (let r6:=g42 (([r0.1,r2.1,r4.1]:List Int),());Tr.fin ((r6.1,()))) (Tr.stop)) (Tr.stop))) (Tr.stop)) (Tr.stop)) (Tr.stop)
def f31(d:Tys.data as31):Option (Tys.data rs31):=(t31 d.1).val
def g31(d:Tys.data as31):Tys.data rs31:=(f31 d).getD (Tys.dflt rs31)
def p31:PureC:=pcOf as31 rs31 f31 g31
def wwf:List Nat:=[8,8,6,4,2]
theorem wk31(x0:(List Int)):Walks (runPure (kf53 Proofs.Tryz.prog).orc Proofs.Tryz.prog 400 31 as31 rs31 (x0,())) (t31 x0) [(bl 7 127,pk 6 7 587741680 wwf),(bl 6 55,pk 5 6 17317360 wwf)]:=
 ⟨by kernel_rfl,by kernel_rfl,trivial⟩
theorem ok31:PureOk Proofs.Tryz.prog 31 p31:=qaq kf53_ok.base (T:=fun(d:Tys.data as31)=>t31 d.1) (by kernel_rfl) (fun(d:Tys.data as31)=>wP (wk31 d.1) (by kernel_rfl))
def kf31(P:Go.Program):Known:=(kf53 P).func 31 p31
theorem kf31_ok:KnownOk Proofs.Tryz.prog (kf31 Proofs.Tryz.prog):=kf53_ok.func ok31
abbrev sh63_2:Sh:={ n:=26,slots:=[5,7,9,10,11],pats:=[.ty (.int .i64),.ty (.int .i64),.ty (.slice (.int .i64)),.ty (.int .i64),.ty (.int .i64)],boxes:=[] }
abbrev shb63_2:Sh:={ n:=26,slots:=[5,9,10,11],pats:=[.ty (.int .i64),.ty (.slice (.int .i64)),.ty (.int .i64),.ty (.int .i64)],boxes:=[] }
abbrev shr63_2:Sh:={ n:=26,slots:=[],pats:=[],boxes:=[] }
def t63_2(x0:Int)(x1:Int)(x2:List Int)(x3:Int)(x4:Int):Tr (Out sh63_2.data shb63_2.data shr63_2.data):= Tr.test ((!eqF x1 0:Bool)) (Tr.test (x1==(0:Int)) (Tr.stop) (Tr.fin (.again ((x1,((Int.tmod x0 x1:Int),(x2,(x3,(x4,()))))),())))) (Tr.fin (.brk ((x0,(x2,(x3,(x4,())))),())))
def s63_2(d:sh63_2.data):Option (Out sh63_2.data shb63_2.data shr63_2.data):=(t63_2 d.1.1 d.1.2.1 d.1.2.2.1 d.1.2.2.2.1 d.1.2.2.2.2.1).val
def l63_2(d:sh63_2.data):Option (shb63_2.data ⊕ shr63_2.data):=itr s63_2 rounds d
def b63_2(d:sh63_2.data):shb63_2.data:=outB shb63_2.dflt (l63_2 d)
def lc63_2:LoopC:=lcB sh63_2 shb63_2 shr63_2 l63_2 b63_2
def wwg:List Nat:=[2]
theorem wk63_2(x0:Int)(x1:Int)(x2:List Int)(x3:Int)(x4:Int):Walks (qbm (kf31 Proofs.Tryz.prog).orc Proofs.Tryz.prog 400 63 2 sh63_2 shb63_2 shr63_2 ((x0,x1,x2,x3,x4,()),())) (t63_2 x0 x1 x2 x3 x4) [(bl 2 1,4::wwg),(bl 1 0,wwg)]:=
 ⟨by kernel_rfl,by kernel_rfl,trivial⟩
theorem ok63_2:qbt Proofs.Tryz.prog 63 2 lc63_2:=qcg (sh:=sh63_2) (shB:=shb63_2) (shR:=shr63_2) kf31_ok.base (T:=fun(d:sh63_2.data)=>t63_2 d.1.1 d.1.2.1 d.1.2.2.1 d.1.2.2.2.1 d.1.2.2.2.2.1) (by kernel_rfl) rfl (fun(d:sh63_2.data)=>wB (wk63_2 d.1.1 d.1.2.1 d.1.2.2.1 d.1.2.2.2.1 d.1.2.2.2.2.1) (by kernel_rfl)) (fun _=>rfl)
def kl63_2(P:Go.Program):Known:=(kf31 P).loop 63 2 lc63_2
theorem kl63_2_ok:KnownOk Proofs.Tryz.prog (kl63_2 Proofs.Tryz.prog):=kf31_ok.loop ok63_2
abbrev sh63_0:Sh:={ n:=26,slots:=[5,9,10,11],pats:=[.ty (.int .i64),.ty (.slice (.int .i64)),.ty (.int .i64),.ty (.int .i64)],boxes:=[] }
abbrev shb63_0:Sh:={ n:=26,slots:=[5],pats:=[.ty (.int .i64)],boxes:=[] }
abbrev shr63_0:Sh:={ n:=26,slots:=[],pats:=[],boxes:=[] }
def t63_0(x0:Int)(x1:List Int)(x2:Int)(x3:Int):Tr (Out sh63_0.data shb63_0.data shr63_0.data):= Tr.test ((!leF x2 x3:Bool)) (Tr.test (decide ((0:Int)≤x3)&&decide (x3<(↑(List.length x1):Int))) (Tr.test (qed (l63_2 ((x0,((List.getD x1 (Int.toNat x3) (0:Int):Int),(x1,(x2,(x3,()))))),()))) (let r0:=b63_2 ((x0,((List.getD x1 (Int.toNat x3) (0:Int):Int),(x1,(x2,(x3,()))))),());Tr.fin (.again ((r0.1.1,(r0.1.2.1,(r0.1.2.2.1,((wrap64 (r0.1.2.2.2.1+(1:Int)):Int),())))),()))) (Tr.stop)) (Tr.stop)) (Tr.fin (.brk ((x0,()),())))
def s63_0(d:sh63_0.data):Option (Out sh63_0.data shb63_0.data shr63_0.data):=(t63_0 d.1.1 d.1.2.1 d.1.2.2.1 d.1.2.2.2.1).val
def l63_0(d:sh63_0.data):Option (shb63_0.data ⊕ shr63_0.data):=itr s63_0 rounds d
def b63_0(d:sh63_0.data):shb63_0.data:=outB shb63_0.dflt (l63_0 d)
def lc63_0:LoopC:=lcB sh63_0 shb63_0 shr63_0 l63_0 b63_0
def wwh:List Nat:=[2]
theorem wk63_0(x0:Int)(x1:List Int)(x2:Int)(x3:Int):Walks (qbm (kl63_2 Proofs.Tryz.prog).orc Proofs.Tryz.prog 400 63 0 sh63_0 shb63_0 shr63_0 ((x0,x1,x2,x3,()),())) (t63_0 x0 x1 x2 x3) [(bl 3 7,1::6::4::wwh),(bl 1 0,wwh)]:=
 ⟨by kernel_rfl,by kernel_rfl,trivial⟩
theorem ok63_0:qbt Proofs.Tryz.prog 63 0 lc63_0:=qcg (sh:=sh63_0) (shB:=shb63_0) (shR:=shr63_0) kl63_2_ok.base (T:=fun(d:sh63_0.data)=>t63_0 d.1.1 d.1.2.1 d.1.2.2.1 d.1.2.2.2.1) (by kernel_rfl) rfl (fun(d:sh63_0.data)=>wB (wk63_0 d.1.1 d.1.2.1 d.1.2.2.1 d.1.2.2.2.1) (by kernel_rfl)) (fun _=>rfl)
def kl63_0(P:Go.Program):Known:=(kl63_2 P).loop 63 0 lc63_0
theorem kl63_0_ok:KnownOk Proofs.Tryz.prog (kl63_0 Proofs.Tryz.prog):=kl63_2_ok.loop ok63_0
abbrev as63:List Ty:=[(.int .i64),(.slice (.int .i64))]
abbrev rs63:List Ty:=[(.int .i64)]
def t63(x0:Int)(x1:List Int):Tr (Tys.data rs63):= Tr.test (qed (l63_0 ((x0,(x1,((↑(List.length x1):Int),((0:Int),())))),()))) (let r0:=b63_0 ((x0,(x1,((↑(List.length x1):Int),((0:Int),())))),());Tr.fin (((if r0.1.1<Go.IntKind.wrap Go.IntKind.i64 ((0:Int)-r0.1.1)then Go.IntKind.wrap Go.IntKind.i64 ((0:Int)-r0.1.1)else r0.1.1:Int),()))) (Tr.stop)
def f63(d:Tys.data as63):Option (Tys.data rs63):=(t63 d.1 d.2.1).val
def g63(d:Tys.data as63):Tys.data rs63:=(f63 d).getD (Tys.dflt rs63)
def p63:PureC:=pcOf as63 rs63 f63 g63
theorem wk63(x0:Int)(x1:List Int):Walks (runPure (kl63_0 Proofs.Tryz.prog).orc Proofs.Tryz.prog 400 63 as63 rs63 (x0,x1,())) (t63 x0 x1) [(bl 1 1,[1,2])]:=
 ⟨by kernel_rfl,trivial⟩
theorem ok63:PureOk Proofs.Tryz.prog 63 p63:=qaq kl63_0_ok.base (T:=fun(d:Tys.data as63)=>t63 d.1 d.2.1) (by kernel_rfl) (fun(d:Tys.data as63)=>wP (wk63 d.1 d.2.1) (by kernel_rfl))
def kf63(P:Go.Program):Known:=(kl63_0 P).func 63 p63
theorem kf63_ok:KnownOk Proofs.Tryz.prog (kf63 Proofs.Tryz.prog):=kl63_0_ok.func ok63
abbrev sh54_0:Sh:={ n:=33,slots:=[3,4,19,20,21],pats:=[.ty (.int .i64),.aco (.int .i64),.ty (.slice (.int .i64)),.ty (.int .i64),.ty (.int .i64)],boxes:=[] }
abbrev shb54_0:Sh:={ n:=33,slots:=[4],pats:=[.aco (.int .i64)],boxes:=[] }
abbrev shr54_0:Sh:={ n:=33,slots:=[],pats:=[],boxes:=[] }
def t54_0(x0:Int)(x1:List Int)(x2:List Int)(x3:Int)(x4:Int):Tr (Out sh54_0.data shb54_0.data shr54_0.data):= Tr.test ((!leF x3 x4:Bool)) (Tr.test (decide ((0:Int)≤x4)&&decide (x4<(↑(List.length x2):Int))) (Tr.test ((x0==(0:Int):Bool)) (Tr.stop) (Tr.test ((Nat.ble (((2:Nat)*(List.length x1+(1:Nat))+(192:Nat))*(8:Nat)) (281474976710656:Nat)&&Nat.ble (List.length x1+(1:Nat)) (281474976710656:Nat):Bool)) (Tr.fin (.again ((x0,((x1++[Go.IntKind.wrap Go.IntKind.i64 (Int.tdiv (List.getD x2 (Int.toNat x4) (0:Int)) x0)]:List Int),(x2,(x3,((wrap64 (x4+(1:Int)):Int),()))))),()))) (Tr.stop))) (Tr.stop)) (Tr.fin (.brk ((x1,()),())))
def s54_0(d:sh54_0.data):Option (Out sh54_0.data shb54_0.data shr54_0.data):=(t54_0 d.1.1 d.1.2.1 d.1.2.2.1 d.1.2.2.2.1 d.1.2.2.2.2.1).val
def l54_0(d:sh54_0.data):Option (shb54_0.data ⊕ shr54_0.data):=itr s54_0 rounds d
def b54_0(d:sh54_0.data):shb54_0.data:=outB shb54_0.dflt (l54_0 d)
def lc54_0:LoopC:=lcB sh54_0 shb54_0 shr54_0 l54_0 b54_0
def wwi:List Nat:=[2]
theorem wk54_0(x0:Int)(x1:List Int)(x2:List Int)(x3:Int)(x4:Int):Walks (qbm (kf63 Proofs.Tryz.prog).orc Proofs.Tryz.prog 400 54 0 sh54_0 shb54_0 shr54_0 ((x0,x1,x2,x3,x4,()),())) (t54_0 x0 x1 x2 x3 x4) [(bl 4 11,8::6::4::wwi),(bl 1 0,wwi)]:=
 ⟨by kernel_rfl,by kernel_rfl,trivial⟩
theorem ok54_0:qbt Proofs.Tryz.prog 54 0 lc54_0:=qcg (sh:=sh54_0) (shB:=shb54_0) (shR:=shr54_0) kf63_ok.base (T:=fun(d:sh54_0.data)=>t54_0 d.1.1 d.1.2.1 d.1.2.2.1 d.1.2.2.2.1 d.1.2.2.2.2.1) (by kernel_rfl) rfl (fun(d:sh54_0.data)=>wB (wk54_0 d.1.1 d.1.2.1 d.1.2.2.1 d.1.2.2.2.1 d.1.2.2.2.2.1) (by kernel_rfl)) (fun _=>rfl)
def kl54_0(P:Go.Program):Known:=(kf63 P).loop 54 0 lc54_0
theorem kl54_0_ok:KnownOk Proofs.Tryz.prog (kl54_0 Proofs.Tryz.prog):=kf63_ok.loop ok54_0
abbrev as54:List Ty:=[(.slice (.int .i64))]
abbrev rs54:List Ty:=[(.slice (.int .i64))]
def t54(x0:(List Int)):Tr (Tys.data rs54):= Tr.test ((true&&decide ((0:Int)<(↑(List.length x0):Int)):Bool)) (Tr.test (true&&decide ((1:Int)≤(↑(List.length x0):Int))) (Tr.test (Option.isSome (f63 ((List.getD x0 (0:Nat) (0:Int):Int),((List.drop (1:Nat) x0:List Int),())))) (Tr.test ((!leF (0:Int) (List.getD x0 (0:Nat) (0:Int)):Bool)) (let r0:=g63 ((List.getD x0 (0:Nat) (0:Int):Int),((List.drop (1:Nat) x0:List Int),()));Tr.test (qed (l54_0 (((Go.IntKind.wrap Go.IntKind.i64 ((0:Int)-r0.1):Int),(([]:List Int),(x0,((↑(List.length x0):Int),((0:Int),()))))),()))) (let r1:=b54_0 (((Go.IntKind.wrap Go.IntKind.i64 ((0:Int)-r0.1):Int),(([]:List Int),(x0,((↑(List.length x0):Int),((0:Int),()))))),());Tr.fin ((r1.1.1,()))) (Tr.stop)) (let r0:=g63 ((List.getD x0 (0:Nat) (0:Int):Int),((List.drop (1:Nat) x0:List Int),()));Tr.test (qed (l54_0 ((r0.1,(([]:List Int),(x0,((↑(List.length x0):Int),((0:Int),()))))),()))) (let r2:=b54_0 ((r0.1,(([]:List Int),(x0,((↑(List.length x0):Int),((0:Int),()))))),());Tr.fin ((r2.1.1,()))) (Tr.stop))) (Tr.stop)) (Tr.stop)) (Tr.stop)
def f54(d:Tys.data as54):Option (Tys.data rs54):=(t54 d.1).val
def g54(d:Tys.data as54):Tys.data rs54:=(f54 d).getD (Tys.dflt rs54)
def p54:PureC:=pcOf as54 rs54 f54 g54
def wwj:List Nat:=[1,10,8,2,6,4,2]
theorem wk54(x0:(List Int)):Walks (runPure (kl54_0 Proofs.Tryz.prog).orc Proofs.Tryz.prog 400 54 as54 rs54 (x0,())) (t54 x0) [(bl 5 31,wwj),(bl 5 23,wwj)]:=
 ⟨by kernel_rfl,by kernel_rfl,trivial⟩
theorem ok54:PureOk Proofs.Tryz.prog 54 p54:=qaq kl54_0_ok.base (T:=fun(d:Tys.data as54)=>t54 d.1) (by kernel_rfl) (fun(d:Tys.data as54)=>wP (wk54 d.1) (by kernel_rfl))
def kf54(P:Go.Program):Known:=(kl54_0 P).func 54 p54
theorem kf54_ok:KnownOk Proofs.Tryz.prog (kf54 Proofs.Tryz.prog):=kl54_0_ok.func ok54
abbrev as55:List Ty:=[(.slice (.int .i64))]
abbrev rs55:List Ty:=[.bool]
def t55(x0:(List Int)):Tr (Tys.data rs55):= Tr.test ((decide ((0:Int)≤wrap64 ((↑(List.length x0):Int)-(1:Int)))&&decide (wrap64 ((↑(List.length x0):Int)-(1:Int))<(↑(List.length x0):Int)):Bool)) (Tr.test (true&&decide ((0:Int)<(↑(List.length x0):Int))) (Tr.fin (((leF (List.getD x0 (0:Nat) (0:Int)) (if List.getD x0 (Int.toNat (wrap64 ((↑(List.length x0):Int)-(1:Int)))) (0:Int)<Go.IntKind.wrap Go.IntKind.i64 ((0:Int)-List.getD x0 (Int.toNat (wrap64 ((↑(List.length x0):Int)-(1:Int)))) (0:Int))then Go.IntKind.wrap Go.IntKind.i64 ((0:Int)-List.getD x0 (Int.toNat (wrap64 ((↑(List.length x0):Int)-(1:Int)))) (0:Int))else List.getD x0 (Int.toNat (wrap64 ((↑(List.length x0):Int)-(1:Int)))) (0:Int)):Bool),()))) (Tr.stop)) (Tr.stop)
def f55(d:Tys.data as55):Option (Tys.data rs55):=(t55 d.1).val
def g55(d:Tys.data as55):Tys.data rs55:=(f55 d).getD (Tys.dflt rs55)
def p55:PureC:=pcOf as55 rs55 f55 g55
theorem wk55(x0:(List Int)):Walks (runPure (kf54 Proofs.Tryz.prog).orc Proofs.Tryz.prog 400 55 as55 rs55 (x0,())) (t55 x0) [(bl 2 3,[4,2])]:=
 ⟨by kernel_rfl,trivial⟩
theorem ok55:PureOk Proofs.Tryz.prog 55 p55:=qaq kf54_ok.base (T:=fun(d:Tys.data as55)=>t55 d.1) (by kernel_rfl) (fun(d:Tys.data as55)=>wP (wk55 d.1) (by kernel_rfl))
def kf55(P:Go.Program):Known:=(kf54 P).func 55 p55
theorem kf55_ok:KnownOk Proofs.Tryz.prog (kf55 Proofs.Tryz.prog):=kf54_ok.func ok55
end Go.Vm.Mo
