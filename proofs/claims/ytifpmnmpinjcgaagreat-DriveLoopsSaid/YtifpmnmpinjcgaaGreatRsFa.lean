import Derived.Test.YtifpmnmpinjcgaaGreatA5
import Derived.KernelRfl
import Derived.Test.YtifpmnmpinjcgaaGreatProg
set_option linter.unusedVariables false
set_option linter.unusedSimpArgs false

namespace Go.Vm.Mo
open Go
set_option linter.unusedVariables false
def kn0(_:Go.Program):Known:=⟨[],[]⟩
abbrev tt:Bool:=true
abbrev ff:Bool:=false
theorem ac{b d:Bool}{r:List (Bool×Bool)}(h:b=d)(t:All r):All ((b,d)::r):=All.cons h t
theorem plainP:Plain Proofs.Tryz.prog:=by
 have h : (Proofs.Tryz.prog.funcs.toList.all fun fn => !(fn.body.isSome && fn.name == "runtime.NumGoroutine")) = true := by kernel_rfl
 intro f fn hf hb
 have hm:fn∈Proofs.Tryz.prog.funcs.toList:=by
  have:=Array.getElem?_eq_some_iff.1 hf
  obtain⟨hlt,rfl⟩:=this
  simp
 have:=List.all_eq_true.1 h fn hm
 rw[hb]at this
 simpa using this
theorem kn0_ok:KnownOk Proofs.Tryz.prog (kn0 Proofs.Tryz.prog):=⟨plainP,by kernel_rfl,(fun _ h=>by cases h),(fun _ h=>by cases h)⟩
abbrev as6:List Ty:=[]
abbrev rs6:List Ty:=[.bool]
def f6(_:Tys.data as6):Option (Tys.data rs6):=some (true,())
def g6(_:Tys.data as6):Tys.data rs6:=(true,())
def p6:PureC:=pcOf as6 rs6 f6 g6
theorem e6:qjb (kn0 Proofs.Tryz.prog).orc Proofs.Tryz.prog 400 6 as6 rs6 () none=some ((true,()),[]):=by kernel_rfl
theorem ok6:PureOk Proofs.Tryz.prog 6 p6:=qim kn0_ok.base (by kernel_rfl) e6 All.nil
def kf6(P:Go.Program):Known:=(kn0 P).func 6 p6
theorem kf6_ok:KnownOk Proofs.Tryz.prog (kf6 Proofs.Tryz.prog):=kn0_ok.func ok6
abbrev as8:List Ty:=[(.slice (.int .i64))]
abbrev rs8:List Ty:=[(.slice (.int .i64))]
def t8(x0:(List Int)):Tr (Tys.data rs8):= Tr.test ((Nat.ble (((2:Nat)*((0:Nat)+List.length x0)+(192:Nat))*(8:Nat)) (281474976710656:Nat)&&Nat.ble ((0:Nat)+List.length x0) (281474976710656:Nat):Bool)) (Tr.test (Nat.beq ((0:Nat)+List.length x0) (List.length ([]++x0))) (Tr.fin ((([]++x0:List Int),()))) (Tr.stop)) (Tr.test (Nat.ble ((0:Nat)+List.length x0) (0:Nat)) (Tr.stop) (Tr.stop))
def f8(d:Tys.data as8):Option (Tys.data rs8):=(t8 d.1).val
def g8(d:Tys.data as8):Tys.data rs8:=(f8 d).getD (Tys.dflt rs8)
def p8:PureC:=pcOf as8 rs8 f8 g8
theorem wk8(x0:(List Int)):Walks (runPure (kf6 Proofs.Tryz.prog).orc Proofs.Tryz.prog 400 8 as8 rs8 (x0,())) (t8 x0) [(bl 2 3,[4,1,2])]:=
 ⟨by kernel_rfl,trivial⟩
theorem ok8:PureOk Proofs.Tryz.prog 8 p8:=qaf kf6_ok.base (T:=fun(d:Tys.data as8)=>t8 d.1) (by kernel_rfl) (fun(d:Tys.data as8)=>wP (wk8 d.1) (by kernel_rfl))
def kf8(P:Go.Program):Known:=(kf6 P).func 8 p8
theorem kf8_ok:KnownOk Proofs.Tryz.prog (kf8 Proofs.Tryz.prog):=kf6_ok.func ok8
abbrev as18:List Ty:=[(.pair (.slice (.int .i64)) (.pair (.slice (.int .i64)) (.pair (.pair (.int .i64) (.pair (.int .i64) .unit)) .unit)))]
abbrev rs18:List Ty:=[(.pair (.slice (.int .i64)) (.pair (.slice (.int .i64)) (.pair (.pair (.int .i64) (.pair (.int .i64) .unit)) .unit)))]
def t18(x0:(List Int))(x0':List Int)(x0''_:Int)(x0''_':Int):Tr (Tys.data rs18):= Tr.test (Option.isSome (f8 (x0,()))) (Tr.test (Option.isSome (f8 (x0',()))) (let r0:=g8 (x0,());let r1:=g8 (x0',());Tr.fin (((r0.1,(r1.1,((x0''_,(x0''_',())),()))),()))) (Tr.stop)) (Tr.stop)
def f18(d:Tys.data as18):Option (Tys.data rs18):=(t18 d.1.1 d.1.2.1 d.1.2.2.1.1 d.1.2.2.1.2.1).val
def g18(d:Tys.data as18):Tys.data rs18:=(f18 d).getD (Tys.dflt rs18)
def p18:PureC:=pcOf as18 rs18 f18 g18
theorem wk18(x0:(List Int))(x0':List Int)(x0''_:Int)(x0''_':Int):Walks (runPure (kf8 Proofs.Tryz.prog).orc Proofs.Tryz.prog 400 18 as18 rs18 ((x0,x0',(x0''_,x0''_',()),()),())) (t18 x0 x0' x0''_ x0''_') [(bl 2 3,[4,2])]:=
 ⟨by kernel_rfl,trivial⟩
theorem ok18:PureOk Proofs.Tryz.prog 18 p18:=qaf kf8_ok.base (T:=fun(d:Tys.data as18)=>t18 d.1.1 d.1.2.1 d.1.2.2.1.1 d.1.2.2.1.2.1) (by kernel_rfl) (fun(d:Tys.data as18)=>wP (wk18 d.1.1 d.1.2.1 d.1.2.2.1.1 d.1.2.2.1.2.1) (by kernel_rfl))
def kf18(P:Go.Program):Known:=(kf8 P).func 18 p18
theorem kf18_ok:KnownOk Proofs.Tryz.prog (kf18 Proofs.Tryz.prog):=kf8_ok.func ok18
abbrev sh43_0:Sh:={ n:=24,slots:=[0,1,9,10,11],pats:=[.ty (.int .i64),.ty (.int .i64),.ty (.slice (.int .i64)),.ty (.int .i64),.ty (.int .i64)],boxes:=[] }
abbrev shb43_0:Sh:={ n:=24,slots:=[],pats:=[],boxes:=[] }
abbrev shr43_0:Sh:={ n:=24,slots:=[6],pats:=[.ty .bool],boxes:=[] }
def t43_0(x0:Int)(x1:Int)(x2:List Int)(x3:Int)(x4:Int):Tr (Out sh43_0.data shb43_0.data shr43_0.data):= Tr.test ((!leF x3 x4:Bool)) (Tr.test (decide ((0:Int)≤x4)&&decide (x4<(↑(List.length x2):Int))) (Tr.test ((!leF x0 (List.getD x2 (Int.toNat x4) (0:Int)):Bool)) (Tr.fin (.ret (((false:Bool),()),()))) (Tr.test ((!leF (List.getD x2 (Int.toNat x4) (0:Int)) x1:Bool)) (Tr.fin (.ret (((false:Bool),()),()))) (Tr.fin (.again ((x0,(x1,(x2,(x3,((wrap64 (x4+(1:Int)):Int),()))))),()))))) (Tr.stop)) (Tr.fin (.brk ((),())))
def s43_0(d:sh43_0.data):Option (Out sh43_0.data shb43_0.data shr43_0.data):=(t43_0 d.1.1 d.1.2.1 d.1.2.2.1 d.1.2.2.2.1 d.1.2.2.2.2.1).val
def l43_0(d:sh43_0.data):Option (shb43_0.data ⊕ shr43_0.data):=itr s43_0 rounds d
def b43_0(d:sh43_0.data):shb43_0.data:=outB shb43_0.dflt (l43_0 d)
def r43_0(d:sh43_0.data):shr43_0.data:=outR shr43_0.dflt (l43_0 d)
def lc43_0:LoopC:=lcOf sh43_0 shb43_0 shr43_0 l43_0 b43_0 r43_0
def ww0:List Nat:=[2]
def ww1:List Nat:=6::6::6::6::4::ww0
def ww2:List Nat:=8::ww1
theorem wk43_0(x0:Int)(x1:Int)(x2:List Int)(x3:Int)(x4:Int):Walks (qap (kf18 Proofs.Tryz.prog).orc Proofs.Tryz.prog 400 43 0 sh43_0 shb43_0 shr43_0 ((x0,x1,x2,x3,x4,()),())) (t43_0 x0 x1 x2 x3 x4) [(bl 3 7,1::ww1),(bl 4 11,ww2),(bl 4 3,ww2),(bl 1 0,ww0)]:=by
 repeat refine⟨by kernel_rfl,?_⟩
 exact trivial
theorem ok43_0:qay Proofs.Tryz.prog 43 0 lc43_0:=qbE (sh:=sh43_0) (shB:=shb43_0) (shR:=shr43_0) kf18_ok.base (T:=fun(d:sh43_0.data)=>t43_0 d.1.1 d.1.2.1 d.1.2.2.1 d.1.2.2.2.1 d.1.2.2.2.2.1) (by kernel_rfl) rfl (fun(d:sh43_0.data)=>wB (wk43_0 d.1.1 d.1.2.1 d.1.2.2.1 d.1.2.2.2.1 d.1.2.2.2.2.1) (by kernel_rfl)) (fun _=>rfl)
def kl43_0(P:Go.Program):Known:=(kf18 P).loop 43 0 lc43_0
theorem kl43_0_ok:KnownOk Proofs.Tryz.prog (kl43_0 Proofs.Tryz.prog):=kf18_ok.loop ok43_0
abbrev as43:List Ty:=[(.int .i64),(.int .i64),(.slice (.int .i64))]
abbrev rs43:List Ty:=[.bool]
def t43(x0:Int)(x1:Int)(x2:List Int):Tr (Tys.data rs43):= Tr.test (Option.isSome (l43_0 ((x0,(x1,(x2,((↑(List.length x2):Int),((0:Int),()))))),()))) (Tr.test (qbg (l43_0 ((x0,(x1,(x2,((↑(List.length x2):Int),((0:Int),()))))),()))) (let r0:=r43_0 ((x0,(x1,(x2,((↑(List.length x2):Int),((0:Int),()))))),());Tr.fin ((r0.1.1,()))) (Tr.fin (((true:Bool),())))) (Tr.stop)
def f43(d:Tys.data as43):Option (Tys.data rs43):=(t43 d.1 d.2.1 d.2.2.1).val
def g43(d:Tys.data as43):Tys.data rs43:=(f43 d).getD (Tys.dflt rs43)
def p43:PureC:=pcOf as43 rs43 f43 g43
def ww3:List Nat:=[4,2]
theorem wk43(x0:Int)(x1:Int)(x2:List Int):Walks (runPure (kl43_0 Proofs.Tryz.prog).orc Proofs.Tryz.prog 400 43 as43 rs43 (x0,x1,x2,())) (t43 x0 x1 x2) [(bl 2 3,ww3),(bl 2 1,ww3)]:=
 ⟨by kernel_rfl,by kernel_rfl,trivial⟩
theorem ok43:PureOk Proofs.Tryz.prog 43 p43:=qaf kl43_0_ok.base (T:=fun(d:Tys.data as43)=>t43 d.1 d.2.1 d.2.2.1) (by kernel_rfl) (fun(d:Tys.data as43)=>wP (wk43 d.1 d.2.1 d.2.2.1) (by kernel_rfl))
def kf43(P:Go.Program):Known:=(kl43_0 P).func 43 p43
theorem kf43_ok:KnownOk Proofs.Tryz.prog (kf43 Proofs.Tryz.prog):=kl43_0_ok.func ok43
abbrev as53:List Ty:=[(.int .i64),(.slice (.int .i64))]
abbrev rs53:List Ty:=[.bool]
def t53(x0:Int)(x1:List Int):Tr (Tys.data rs53):= Tr.test (Option.isSome (f43 ((Go.IntKind.wrap Go.IntKind.i64 ((0:Int)-x0):Int),(x0,(x1,()))))) (let r0:=g43 ((Go.IntKind.wrap Go.IntKind.i64 ((0:Int)-x0):Int),(x0,(x1,())));Tr.fin (((!r0.1:Bool),()))) (Tr.stop)
def f53(d:Tys.data as53):Option (Tys.data rs53):=(t53 d.1 d.2.1).val
def g53(d:Tys.data as53):Tys.data rs53:=(f53 d).getD (Tys.dflt rs53)
def p53:PureC:=pcOf as53 rs53 f53 g53
theorem wk53(x0:Int)(x1:List Int):Walks (runPure (kf43 Proofs.Tryz.prog).orc Proofs.Tryz.prog 400 53 as53 rs53 (x0,x1,())) (t53 x0 x1) [(bl 1 1,[2])]:=
 ⟨by kernel_rfl,trivial⟩
theorem ok53:PureOk Proofs.Tryz.prog 53 p53:=qaf kf43_ok.base (T:=fun(d:Tys.data as53)=>t53 d.1 d.2.1) (by kernel_rfl) (fun(d:Tys.data as53)=>wP (wk53 d.1 d.2.1) (by kernel_rfl))
def kf53(P:Go.Program):Known:=(kf43 P).func 53 p53
theorem kf53_ok:KnownOk Proofs.Tryz.prog (kf53 Proofs.Tryz.prog):=kf43_ok.func ok53
abbrev as38:List Ty:=[.bool,(.int .i64)]
abbrev rs38:List Ty:=[(.int .i64)]
def t38(x0:Bool)(x1:Int):Tr (Tys.data rs38):= Tr.test (x0) (Tr.fin ((x1,()))) (Tr.fin (((0:Int),())))
def f38(d:Tys.data as38):Option (Tys.data rs38):=(t38 d.1 d.2.1).val
def g38(d:Tys.data as38):Tys.data rs38:=(f38 d).getD (Tys.dflt rs38)
def p38:PureC:=pcOf as38 rs38 f38 g38
def ww4:List Nat:=[2]
theorem wk38(x0:Bool)(x1:Int):Walks (runPure (kf53 Proofs.Tryz.prog).orc Proofs.Tryz.prog 400 38 as38 rs38 (x0,x1,())) (t38 x0 x1) [(bl 1 1,ww4),(bl 1 0,ww4)]:=
 ⟨by kernel_rfl,by kernel_rfl,trivial⟩
theorem ok38:PureOk Proofs.Tryz.prog 38 p38:=qaf kf53_ok.base (T:=fun(d:Tys.data as38)=>t38 d.1 d.2.1) (by kernel_rfl) (fun(d:Tys.data as38)=>wP (wk38 d.1 d.2.1) (by kernel_rfl))
def kf38(P:Go.Program):Known:=(kf53 P).func 38 p38
theorem kf38_ok:KnownOk Proofs.Tryz.prog (kf38 Proofs.Tryz.prog):=kf53_ok.func ok38
abbrev sh42_0:Sh:={ n:=15,slots:=[5,6,7],pats:=[.ty (.slice (.int .i64)),.ty (.int .i64),.ty (.int .i64)],boxes:=[] }
abbrev shb42_0:Sh:={ n:=15,slots:=[],pats:=[],boxes:=[] }
abbrev shr42_0:Sh:={ n:=15,slots:=[2],pats:=[.ty (.int .i64)],boxes:=[] }
def t42_0(x0:(List Int))(x1:Int)(x2:Int):Tr (Out sh42_0.data shb42_0.data shr42_0.data):= Tr.test ((!leF x1 x2:Bool)) (Tr.test (decide ((0:Int)≤x2)&&decide (x2<(↑(List.length x0):Int))) (Tr.test ((!eqF (List.getD x0 (Int.toNat x2) (0:Int)) (0:Int):Bool)) (Tr.fin (.ret (((List.getD x0 (Int.toNat x2) (0:Int):Int),()),()))) (Tr.fin (.again ((x0,(x1,((wrap64 (x2+(1:Int)):Int),()))),())))) (Tr.stop)) (Tr.fin (.brk ((),())))
def s42_0(d:sh42_0.data):Option (Out sh42_0.data shb42_0.data shr42_0.data):=(t42_0 d.1.1 d.1.2.1 d.1.2.2.1).val
def l42_0(d:sh42_0.data):Option (shb42_0.data ⊕ shr42_0.data):=itr s42_0 rounds d
def b42_0(d:sh42_0.data):shb42_0.data:=outB shb42_0.dflt (l42_0 d)
def r42_0(d:sh42_0.data):shr42_0.data:=outR shr42_0.dflt (l42_0 d)
def lc42_0:LoopC:=lcOf sh42_0 shb42_0 shr42_0 l42_0 b42_0 r42_0
def ww5:List Nat:=[2]
def ww6:List Nat:=6::4::ww5
theorem wk42_0(x0:(List Int))(x1:Int)(x2:Int):Walks (qap (kf38 Proofs.Tryz.prog).orc Proofs.Tryz.prog 400 42 0 sh42_0 shb42_0 shr42_0 ((x0,x1,x2,()),())) (t42_0 x0 x1 x2) [(bl 3 7,ww6),(bl 3 3,ww6),(bl 1 0,ww5)]:=
 ⟨by kernel_rfl,by kernel_rfl,by kernel_rfl,trivial⟩
theorem ok42_0:qay Proofs.Tryz.prog 42 0 lc42_0:=qbE (sh:=sh42_0) (shB:=shb42_0) (shR:=shr42_0) kf38_ok.base (T:=fun(d:sh42_0.data)=>t42_0 d.1.1 d.1.2.1 d.1.2.2.1) (by kernel_rfl) rfl (fun(d:sh42_0.data)=>wB (wk42_0 d.1.1 d.1.2.1 d.1.2.2.1) (by kernel_rfl)) (fun _=>rfl)
def kl42_0(P:Go.Program):Known:=(kf38 P).loop 42 0 lc42_0
theorem kl42_0_ok:KnownOk Proofs.Tryz.prog (kl42_0 Proofs.Tryz.prog):=kf38_ok.loop ok42_0
abbrev as42:List Ty:=[(.slice (.int .i64))]
abbrev rs42:List Ty:=[(.int .i64)]
def t42(x0:(List Int)):Tr (Tys.data rs42):= Tr.test (Option.isSome (l42_0 ((x0,((↑(List.length x0):Int),((0:Int),()))),()))) (Tr.test (qbg (l42_0 ((x0,((↑(List.length x0):Int),((0:Int),()))),()))) (let r0:=r42_0 ((x0,((↑(List.length x0):Int),((0:Int),()))),());Tr.fin ((r0.1.1,()))) (Tr.fin (((0:Int),())))) (Tr.stop)
def f42(d:Tys.data as42):Option (Tys.data rs42):=(t42 d.1).val
def g42(d:Tys.data as42):Tys.data rs42:=(f42 d).getD (Tys.dflt rs42)
def p42:PureC:=pcOf as42 rs42 f42 g42
def ww7:List Nat:=[4,2]
theorem wk42(x0:(List Int)):Walks (runPure (kl42_0 Proofs.Tryz.prog).orc Proofs.Tryz.prog 400 42 as42 rs42 (x0,())) (t42 x0) [(bl 2 3,ww7),(bl 2 1,ww7)]:=
 ⟨by kernel_rfl,by kernel_rfl,trivial⟩
theorem ok42:PureOk Proofs.Tryz.prog 42 p42:=qaf kl42_0_ok.base (T:=fun(d:Tys.data as42)=>t42 d.1) (by kernel_rfl) (fun(d:Tys.data as42)=>wP (wk42 d.1) (by kernel_rfl))
def kf42(P:Go.Program):Known:=(kl42_0 P).func 42 p42
theorem kf42_ok:KnownOk Proofs.Tryz.prog (kf42 Proofs.Tryz.prog):=kl42_0_ok.func ok42
abbrev as52:List Ty:=[(.int .i64)]
abbrev rs52:List Ty:=[(.int .i64)]
def t52(x0:Int):Tr (Tys.data rs52):= Tr.test (Option.isSome (f38 ((eqF x0 0:Bool),((10:Int),())))) (Tr.test (Option.isSome (f38 (!leF x0 4,((8:Int),())))) (let r0:=g38 ((eqF x0 0:Bool),((10:Int),()));let r1:=g38 ((!leF x0 4:Bool),((8:Int),()));Tr.test (Option.isSome (f42 (([r0.1,r1.1]:List Int),()))) (let r2:=g42 (([r0.1,r1.1]:List Int),());Tr.fin ((r2.1,()))) (Tr.stop)) (Tr.stop)) (Tr.stop)
def f52(d:Tys.data as52):Option (Tys.data rs52):=(t52 d.1).val
def g52(d:Tys.data as52):Tys.data rs52:=(f52 d).getD (Tys.dflt rs52)
def p52:PureC:=pcOf as52 rs52 f52 g52
theorem wk52(x0:Int):Walks (runPure (kf42 Proofs.Tryz.prog).orc Proofs.Tryz.prog 400 52 as52 rs52 (x0,())) (t52 x0) [(bl 3 7,[6,4,2])]:=
 ⟨by kernel_rfl,trivial⟩
theorem ok52:PureOk Proofs.Tryz.prog 52 p52:=qaf kf42_ok.base (T:=fun(d:Tys.data as52)=>t52 d.1) (by kernel_rfl) (fun(d:Tys.data as52)=>wP (wk52 d.1) (by kernel_rfl))
def kf52(P:Go.Program):Known:=(kf42 P).func 52 p52
theorem kf52_ok:KnownOk Proofs.Tryz.prog (kf52 Proofs.Tryz.prog):=kf42_ok.func ok52
abbrev as58:List Ty:=[(.pair (.int .i64) (.pair (.int .i64) .unit))]
abbrev rs58:List Ty:=[(.int .i64)]
def t58(x0:Int)(x0':Int):Tr (Tys.data rs58):= Tr.test (Option.isSome (f43 ((0:Int),((40:Int),(([x0,x0']:List Int),()))))) (let r0:=g43 ((0:Int),((40:Int),(([x0,x0']:List Int),())));Tr.test (Option.isSome (f38 ((!r0.1:Bool),((2:Int),())))) (Tr.test (Option.isSome (f38 ((!leF x0 x0':Bool),((9:Int),())))) (let r1:=g38 ((!r0.1:Bool),((2:Int),()));let r2:=g38 ((!leF x0 x0':Bool),((9:Int),()));Tr.test (Option.isSome (f42 (([r1.1,r2.1]:List Int),()))) (let r3:=g42 (([r1.1,r2.1]:List Int),());Tr.fin ((r3.1,()))) (Tr.stop)) (Tr.stop)) (Tr.stop)) (Tr.stop)
def f58(d:Tys.data as58):Option (Tys.data rs58):=(t58 d.1.1 d.1.2.1).val
def g58(d:Tys.data as58):Tys.data rs58:=(f58 d).getD (Tys.dflt rs58)
def p58:PureC:=pcOf as58 rs58 f58 g58
theorem wk58(x0:Int)(x0':Int):Walks (runPure (kf52 Proofs.Tryz.prog).orc Proofs.Tryz.prog 400 58 as58 rs58 ((x0,x0',()),())) (t58 x0 x0') [(bl 4 15,[8,6,4,2])]:=
 ⟨by kernel_rfl,trivial⟩
theorem ok58:PureOk Proofs.Tryz.prog 58 p58:=qaf kf52_ok.base (T:=fun(d:Tys.data as58)=>t58 d.1.1 d.1.2.1) (by kernel_rfl) (fun(d:Tys.data as58)=>wP (wk58 d.1.1 d.1.2.1) (by kernel_rfl))
def kf58(P:Go.Program):Known:=(kf52 P).func 58 p58
theorem kf58_ok:KnownOk Proofs.Tryz.prog (kf58 Proofs.Tryz.prog):=kf52_ok.func ok58
abbrev as31:List Ty:=[(.slice (.int .i64))]
abbrev rs31:List Ty:=[(.int .i64)]
def t31(x0:(List Int)):Tr (Tys.data rs31):= Tr.test (Option.isSome (f52 ((↑(List.length x0):Int),()))) (Tr.test (Option.isSome (f53 ((1000:Int),(x0,())))) (let r1:=g53 ((1000:Int),(x0,()));Tr.test (Option.isSome (f38 (r1.1,((2:Int),())))) (Tr.test ((!leF (↑(List.length x0):Int) (0:Int):Bool)) (Tr.test ((true&&decide ((0:Int)<(↑(List.length x0):Int)):Bool)) (Tr.test (Option.isSome (f38 ((eqF (List.getD x0 (0:Nat) (0:Int)) (0:Int):Bool),((11:Int),())))) (let r0:=g52 ((↑(List.length x0):Int),());let r2:=g38 (r1.1,((2:Int),()));let r3:=g38 ((eqF (List.getD x0 (0:Nat) (0:Int)) (0:Int):Bool),((11:Int),()));Tr.test (Option.isSome (f42 (([r0.1,r2.1,r3.1]:List Int),()))) (let r5:=g42 (([r0.1,r2.1,r3.1]:List Int),());Tr.fin ((r5.1,()))) (Tr.stop)) (Tr.stop)) (Tr.stop)) (Tr.test (Option.isSome (f38 ((false:Bool),((11:Int),())))) (let r0:=g52 ((↑(List.length x0):Int),());let r2:=g38 (r1.1,((2:Int),()));let r4:=g38 ((false:Bool),((11:Int),()));Tr.test (Option.isSome (f42 (([r0.1,r2.1,r4.1]:List Int),()))) (let r6:=g42 (([r0.1,r2.1,r4.1]:List Int),());Tr.fin ((r6.1,()))) (Tr.stop)) (Tr.stop))) (Tr.stop)) (Tr.stop)) (Tr.stop)
def f31(d:Tys.data as31):Option (Tys.data rs31):=(t31 d.1).val
def g31(d:Tys.data as31):Tys.data rs31:=(f31 d).getD (Tys.dflt rs31)
def p31:PureC:=pcOf as31 rs31 f31 g31
def ww8:List Nat:=[8,8,6,4,2]
theorem wk31(x0:(List Int)):Walks (runPure (kf58 Proofs.Tryz.prog).orc Proofs.Tryz.prog 400 31 as31 rs31 (x0,())) (t31 x0) [(bl 7 127,pk 6 7 587741680 ww8),(bl 6 55,pk 5 6 17317360 ww8)]:=
 ⟨by kernel_rfl,by kernel_rfl,trivial⟩
theorem ok31:PureOk Proofs.Tryz.prog 31 p31:=qaf kf58_ok.base (T:=fun(d:Tys.data as31)=>t31 d.1) (by kernel_rfl) (fun(d:Tys.data as31)=>wP (wk31 d.1) (by kernel_rfl))
def kf31(P:Go.Program):Known:=(kf58 P).func 31 p31
theorem kf31_ok:KnownOk Proofs.Tryz.prog (kf31 Proofs.Tryz.prog):=kf58_ok.func ok31
theorem sc86_0:qaW Proofs.Tryz.prog 86 0=true:=qfe (by kernel_rfl)
abbrev sh105_0(P:Go.Program):Sh:={ n:=25,slots:=[0,1,2,9,10],pats:=[.yld 0,.ptr 1 1 0,.ptr 2 1 0,.ty (.int .i64),.ty (.int .i64)],boxes:=[.lp (lpOf P 86 0 .ready none 42 [3,4] 3) [.ptr 4 1 0,.ptr 5 1 0],.row [.ty (.slice (.int .i64))],.row [.ty (.slice (.int .i64))],.dfr,.row [.ty (.int .i64)],.row [.aco (.int .i64)]] }
abbrev shb105_0(P:Go.Program):Sh:={ n:=25,slots:=[],pats:=[],boxes:=[.lp (lpOf P 86 0 .ready none 42 [3,4] 3) [.ptr 4 1 0,.ptr 5 1 0],.row [.ty (.slice (.int .i64))],.row [.ty (.slice (.int .i64))],.dfr,.row [.ty (.int .i64)],.row [.aco (.int .i64)]] }
abbrev shr105_0(P:Go.Program):Sh:={ n:=25,slots:=[],pats:=[],boxes:=[.lp (lpOf P 86 0 .ready none 42 [3,4] 3) [.ptr 4 1 0,.ptr 5 1 0],.row [.ty (.slice (.int .i64))],.row [.ty (.slice (.int .i64))],.dfr,.row [.ty (.int .i64)],.row [.aco (.int .i64)]] }
abbrev dt105_0:Type:=(Int×Int×PUnit)×PUnit×(List Int×PUnit)×(List Int×PUnit)×(Int×PUnit)×(List Int×PUnit)×PUnit
abbrev db105_0:Type:=PUnit×PUnit×(List Int×PUnit)×(List Int×PUnit)×(Int×PUnit)×(List Int×PUnit)×PUnit
abbrev dr105_0:Type:=PUnit×PUnit×(List Int×PUnit)×(List Int×PUnit)×(Int×PUnit)×(List Int×PUnit)×PUnit
def t105_0(x3:Int)(x4:Int)(b1_0:List Int)(b2_0:List Int)(b4_0:Int)(b5_0:List Int):Tr (Out dt105_0 db105_0 dr105_0):= Tr.test ((!leF x3 x4:Bool)) (Tr.test (decide ((0:Int)≤x4)&&decide (x4<(↑(List.length b1_0):Int))) (Tr.test ((decide ((0:Int)≤x4)&&decide (x4<(↑(List.length b2_0):Int)):Bool)) (Tr.test ((Nat.ble (((2:Nat)*(List.length b5_0+(1:Nat))+(192:Nat))*(8:Nat)) (281474976710656:Nat)&&Nat.ble (List.length b5_0+(1:Nat)) (281474976710656:Nat):Bool)) (Tr.fin (.again ((x3,((wrap64 (x4+(1:Int)):Int),())),((),((b1_0,()),((b2_0,()),((b4_0,()),(((b5_0++[wrap64 (List.getD b1_0 (Int.toNat x4) (0:Int)+wrap64 (b4_0*List.getD b2_0 (Int.toNat x4) (0:Int)))]:List Int),()),())))))))) (Tr.stop)) (Tr.stop)) (Tr.stop)) (Tr.fin (.brk ((),((),((b1_0,()),((b2_0,()),((b4_0,()),((b5_0,()),()))))))))
def s105_0(d:dt105_0):Option (Out dt105_0 db105_0 dr105_0):=(t105_0 d.1.1 d.1.2.1 d.2.2.1.1 d.2.2.2.1.1 d.2.2.2.2.1.1 d.2.2.2.2.2.1.1).val
def l105_0(d:dt105_0):Option (db105_0 ⊕ dr105_0):=itr s105_0 rounds d
def b105_0(d:dt105_0):db105_0:=outB (((),((),((([]:List Int),()),((([]:List Int),()),(((0:Int),()),((([]:List Int),()),()))))))) (l105_0 d)
def lc105_0(P:Go.Program):LoopC:=lcB (sh105_0 P) (shb105_0 P) (shr105_0 P) l105_0 b105_0
theorem e105_0_0(x3:Int)(x4:Int)(b1_0:List Int)(b2_0:List Int)(b4_0:Int)(b5_0:List Int):qap (kf31 Proofs.Tryz.prog).orc Proofs.Tryz.prog 400 105 0 (sh105_0 Proofs.Tryz.prog) (shb105_0 Proofs.Tryz.prog) (shr105_0 Proofs.Tryz.prog) ((x3,x4,()),(),(b1_0,()),(b2_0,()),(b4_0,()),(b5_0,()),()) [tt,tt,tt,tt,ff] =
 (some (.again ((x3,((wrap64 (x4+(1:Int)):Int),())),((),((b1_0,()),((b2_0,()),((b4_0,()),(((b5_0++[wrap64 (List.getD b1_0 (Int.toNat x4) (0:Int)+wrap64 (b4_0*List.getD b2_0 (Int.toNat x4) (0:Int)))]:List Int),()),())))))),[(qaW Proofs.Tryz.prog (nat_lit 86) (nat_lit 0),true),(false,false),(Nat.ble (((2:Nat)*(List.length b5_0+(1:Nat))+(192:Nat))*(8:Nat)) (281474976710656:Nat)&&Nat.ble (List.length b5_0+(1:Nat)) (281474976710656:Nat),true),(decide ((0:Int)≤x4)&&decide (x4<(↑(List.length b2_0):Int)),true),(decide ((0:Int)≤x4)&&decide (x4<(↑(List.length b1_0):Int)),true),(!leF x3 x4,true)])):=by kernel_rfl
theorem e105_0_4(x3:Int)(x4:Int)(b1_0:List Int)(b2_0:List Int)(b4_0:Int)(b5_0:List Int):qap (kf31 Proofs.Tryz.prog).orc Proofs.Tryz.prog 400 105 0 (sh105_0 Proofs.Tryz.prog) (shb105_0 Proofs.Tryz.prog) (shr105_0 Proofs.Tryz.prog) ((x3,x4,()),(),(b1_0,()),(b2_0,()),(b4_0,()),(b5_0,()),()) [ff] =
 (some (.brk ((),((),((b1_0,()),((b2_0,()),((b4_0,()),((b5_0,()),())))))),[(qaW Proofs.Tryz.prog (nat_lit 86) (nat_lit 0),true),(!leF x3 x4,false)])):=by kernel_rfl
theorem ok105_0_t(x3:Int)(x4:Int)(b1_0:List Int)(b2_0:List Int)(b4_0:Int)(b5_0:List Int):TrOk (BodyRuns Proofs.Tryz.prog (kf31 Proofs.Tryz.prog).orc 105 0 (sh105_0 Proofs.Tryz.prog) (shb105_0 Proofs.Tryz.prog) (shr105_0 Proofs.Tryz.prog) ((x3,x4,()),(),(b1_0,()),(b2_0,()),(b4_0,()),(b5_0,()),())) (t105_0 x3 x4 b1_0 b2_0 b4_0 b5_0):=
 TrOk.ofTest (fun h0=>TrOk.ofTest (fun h1=>TrOk.ofTest (fun h2=>TrOk.ofTest (fun h3=>TrOk.ofFin (BodyRuns.of (e105_0_0 x3 x4 b1_0 b2_0 b4_0 b5_0) (ac (sc86_0) (ac rfl (ac h3 (ac h2 (ac h1 (ac h0 All.nil)))))))) (fun h3=>TrOk.ofStop)) (fun h2=>TrOk.ofStop)) (fun h1=>TrOk.ofStop)) (fun h0=>TrOk.ofFin (BodyRuns.of (e105_0_4 x3 x4 b1_0 b2_0 b4_0 b5_0) (ac (sc86_0) (ac h0 All.nil))))
theorem ok105_0:qay Proofs.Tryz.prog 105 0 (lc105_0 Proofs.Tryz.prog):=qaB (sh:=(sh105_0 Proofs.Tryz.prog)) (shB:=(shb105_0 Proofs.Tryz.prog)) (shR:=(shr105_0 Proofs.Tryz.prog)) kf31_ok.base (T:=fun(d:dt105_0)=>t105_0 d.1.1 d.1.2.1 d.2.2.1.1 d.2.2.2.1.1 d.2.2.2.2.1.1 d.2.2.2.2.2.1.1) (by kernel_rfl) rfl (fun(d:dt105_0)=>ok105_0_t d.1.1 d.1.2.1 d.2.2.1.1 d.2.2.2.1.1 d.2.2.2.2.1.1 d.2.2.2.2.2.1.1) (fun _=>rfl)
def kl105_0(P:Go.Program):Known:=(kf31 P).loop 105 0 (lc105_0 P)
theorem kl105_0_ok:KnownOk Proofs.Tryz.prog (kl105_0 Proofs.Tryz.prog):=kf31_ok.loop ok105_0
theorem sc36_0:qaW Proofs.Tryz.prog 36 0=true:=qfe (by kernel_rfl)
abbrev sh86_0(P:Go.Program):Sh:={ n:=42,slots:=[0,1,3],pats:=[.yld 0,.ptr 1 4 0,.ptr 5 1 0],boxes:=[.lp (lpOf P 36 0 .ready none 53 [2,3] 2) [.ptr 3 4 0,.ptr 4 1 0],.row [.ty (.slice (.int .i64)),.ty (.slice (.int .i64)),.ty (.int .i64),.ty (.int .i64)],.dfr,.row [.nil,.nil,.ty (.int .i64),.ty (.int .i64)],.row [.ty (.int .i64)],.row [.ty (.int .i64)]],mv:=1 }
abbrev shb86_0(P:Go.Program):Sh:={ n:=42,slots:=[3],pats:=[.ptr 5 1 0],boxes:=[.lp (lpOf P 36 0 .ready none 53 [2,3] 2) [.ptr 3 4 0,.ptr 4 1 0],.row [.ty (.slice (.int .i64)),.ty (.slice (.int .i64)),.ty (.int .i64),.ty (.int .i64)],.dfr,.row [.nil,.nil,.ty (.int .i64),.ty (.int .i64)],.row [.ty (.int .i64)],.row [.ty (.int .i64)]],mv:=1 }
abbrev shr86_0(P:Go.Program):Sh:={ n:=42,slots:=[3],pats:=[.ptr 5 1 0],boxes:=[.lp (lpOf P 36 0 .done (some none) 53 [2,3] 2) [.ptr 3 4 0,.ptr 4 1 0],.row [.ty (.slice (.int .i64)),.ty (.slice (.int .i64)),.ty (.int .i64),.ty (.int .i64)],.dfr,.row [.nil,.nil,.ty (.int .i64),.ty (.int .i64)],.row [.ty (.int .i64)],.row [.ty (.int .i64)]],mv:=1 }
abbrev dt86_0:Type:=PUnit×PUnit×(List Int×List Int×Int×Int×PUnit)×(Int×Int×PUnit)×(Int×PUnit)×(Int×PUnit)×PUnit
abbrev db86_0:Type:=PUnit×PUnit×(List Int×List Int×Int×Int×PUnit)×(Int×Int×PUnit)×(Int×PUnit)×(Int×PUnit)×PUnit
abbrev dr86_0:Type:=PUnit×PUnit×(List Int×List Int×Int×Int×PUnit)×(Int×Int×PUnit)×(Int×PUnit)×(Int×PUnit)×PUnit
def t86_0(b1_0:(List Int))(b1_1:List Int)(b1_2:Int)(b1_3:Int)(b3_2:Int)(b3_3:Int)(b4_0:Int)(b5_0:Int):Tr (Out dt86_0 db86_0 dr86_0):= Tr.test ((leF b5_0 b1_3:Bool)) (Tr.test (qa5 (l105_0 (((if(↑(List.length b1_1):Int)<(↑(List.length b1_0):Int)then(↑(List.length b1_1):Int)else(↑(List.length b1_0):Int):Int),((0:Int),())),((),((b1_0,()),((b1_1,()),((b5_0,()),((([]:List Int),()),())))))))) (let r0:=b105_0 (((if(↑(List.length b1_1):Int)<(↑(List.length b1_0):Int)then(↑(List.length b1_1):Int)else(↑(List.length b1_0):Int):Int),((0:Int),())),((),((b1_0,()),((b1_1,()),((b5_0,()),((([]:List Int),()),()))))));Tr.test (Option.isSome (f31 (r0.2.2.2.2.2.1.1,()))) (let r1:=g31 (r0.2.2.2.2.2.1.1,());Tr.test ((!eqF r1.1 0:Bool)) (Tr.fin (.ret ((),((),((b1_0,(b1_1,(b1_2,(b1_3,())))),(((0:Int),((0:Int),())),((r1.1,()),((r0.2.2.2.2.1.1,()),())))))))) (Tr.fin (.again ((),((),((b1_0,(b1_1,(b1_2,(b1_3,())))),((b3_2,(b3_3,())),((b4_0,()),(((wrap64 (r0.2.2.2.2.1.1+(1:Int)):Int),()),()))))))))) (Tr.stop)) (Tr.stop)) (Tr.fin (.brk ((),((),((b1_0,(b1_1,(b1_2,(b1_3,())))),((b3_2,(b3_3,())),((b4_0,()),((b5_0,()),()))))))))
def s86_0(d:dt86_0):Option (Out dt86_0 db86_0 dr86_0):=(t86_0 d.2.2.1.1 d.2.2.1.2.1 d.2.2.1.2.2.1 d.2.2.1.2.2.2.1 d.2.2.2.1.1 d.2.2.2.1.2.1 d.2.2.2.2.1.1 d.2.2.2.2.2.1.1).val
def l86_0(d:dt86_0):Option (db86_0 ⊕ dr86_0):=itr s86_0 rounds d
def b86_0(d:dt86_0):db86_0:=outB (((),((),((([]:List Int),(([]:List Int),((0:Int),((0:Int),())))),(((0:Int),((0:Int),())),(((0:Int),()),(((0:Int),()),()))))))) (l86_0 d)
def r86_0(d:dt86_0):dr86_0:=outR (((),((),((([]:List Int),(([]:List Int),((0:Int),((0:Int),())))),(((0:Int),((0:Int),())),(((0:Int),()),(((0:Int),()),()))))))) (l86_0 d)
def lc86_0(P:Go.Program):LoopC:=lcOf (sh86_0 P) (shb86_0 P) (shr86_0 P) l86_0 b86_0 r86_0
theorem e86_0_0(b1_0:(List Int))(b1_1:List Int)(b1_2:Int)(b1_3:Int)(b3_2:Int)(b3_3:Int)(b4_0:Int)(b5_0:Int):qap (kl105_0 Proofs.Tryz.prog).orc Proofs.Tryz.prog 400 86 0 (sh86_0 Proofs.Tryz.prog) (shb86_0 Proofs.Tryz.prog) (shr86_0 Proofs.Tryz.prog) ((),(),(b1_0,b1_1,b1_2,b1_3,()),(b3_2,b3_3,()),(b4_0,()),(b5_0,()),()) [tt,tt,tt,tt,tt,tt,tt] =
 (let r0:=b105_0 (((if(↑(List.length b1_1):Int)<(↑(List.length b1_0):Int)then(↑(List.length b1_1):Int)else(↑(List.length b1_0):Int):Int),((0:Int),())),((),((b1_0,()),((b1_1,()),((b5_0,()),((([]:List Int),()),()))))));let r1:=g31 (r0.2.2.2.2.2.1.1,());some (.ret ((),((),((b1_0,(b1_1,(b1_2,(b1_3,())))),(((0:Int),((0:Int),())),((r1.1,()),((r0.2.2.2.2.1.1,()),())))))),[(qaW Proofs.Tryz.prog (nat_lit 36) (nat_lit 0),true),(true,true),(!eqF r1.1 0,true),(Option.isSome (f31 (r0.2.2.2.2.2.1.1,())),true),(true,true),(qa5 (l105_0 (((if(↑(List.length b1_1):Int)<(↑(List.length b1_0):Int)then(↑(List.length b1_1):Int)else(↑(List.length b1_0):Int):Int),((0:Int),())),((),((b1_0,()),((b1_1,()),((b5_0,()),((([]:List Int),()),()))))))),true),(qaW Proofs.Tryz.prog (nat_lit 86) (nat_lit 0),true),(leF b5_0 b1_3,true)])):=by kernel_rfl
theorem e86_0_1(b1_0:(List Int))(b1_1:List Int)(b1_2:Int)(b1_3:Int)(b3_2:Int)(b3_3:Int)(b4_0:Int)(b5_0:Int):qap (kl105_0 Proofs.Tryz.prog).orc Proofs.Tryz.prog 400 86 0 (sh86_0 Proofs.Tryz.prog) (shb86_0 Proofs.Tryz.prog) (shr86_0 Proofs.Tryz.prog) ((),(),(b1_0,b1_1,b1_2,b1_3,()),(b3_2,b3_3,()),(b4_0,()),(b5_0,()),()) [tt,tt,tt,tt,tt,ff,ff] =
 (let r0:=b105_0 (((if(↑(List.length b1_1):Int)<(↑(List.length b1_0):Int)then(↑(List.length b1_1):Int)else(↑(List.length b1_0):Int):Int),((0:Int),())),((),((b1_0,()),((b1_1,()),((b5_0,()),((([]:List Int),()),()))))));let r1:=g31 (r0.2.2.2.2.2.1.1,());some (.again ((),((),((b1_0,(b1_1,(b1_2,(b1_3,())))),((b3_2,(b3_3,())),((b4_0,()),(((wrap64 (r0.2.2.2.2.1.1+(1:Int)):Int),()),())))))),[(qaW Proofs.Tryz.prog (nat_lit 36) (nat_lit 0),true),(false,false),(!eqF r1.1 0,false),(Option.isSome (f31 (r0.2.2.2.2.2.1.1,())),true),(true,true),(qa5 (l105_0 (((if(↑(List.length b1_1):Int)<(↑(List.length b1_0):Int)then(↑(List.length b1_1):Int)else(↑(List.length b1_0):Int):Int),((0:Int),())),((),((b1_0,()),((b1_1,()),((b5_0,()),((([]:List Int),()),()))))))),true),(qaW Proofs.Tryz.prog (nat_lit 86) (nat_lit 0),true),(leF b5_0 b1_3,true)])):=by kernel_rfl
theorem e86_0_2(b1_0:(List Int))(b1_1:List Int)(b1_2:Int)(b1_3:Int)(b3_2:Int)(b3_3:Int)(b4_0:Int)(b5_0:Int):qap (kl105_0 Proofs.Tryz.prog).orc Proofs.Tryz.prog 400 86 0 (sh86_0 Proofs.Tryz.prog) (shb86_0 Proofs.Tryz.prog) (shr86_0 Proofs.Tryz.prog) ((),(),(b1_0,b1_1,b1_2,b1_3,()),(b3_2,b3_3,()),(b4_0,()),(b5_0,()),()) [ff] =
 (some (.brk ((),((),((b1_0,(b1_1,(b1_2,(b1_3,())))),((b3_2,(b3_3,())),((b4_0,()),((b5_0,()),())))))),[(qaW Proofs.Tryz.prog (nat_lit 36) (nat_lit 0),true),(leF b5_0 b1_3,false)])):=by kernel_rfl
theorem ok86_0_t(b1_0:(List Int))(b1_1:List Int)(b1_2:Int)(b1_3:Int)(b3_2:Int)(b3_3:Int)(b4_0:Int)(b5_0:Int):TrOk (BodyRuns Proofs.Tryz.prog (kl105_0 Proofs.Tryz.prog).orc 86 0 (sh86_0 Proofs.Tryz.prog) (shb86_0 Proofs.Tryz.prog) (shr86_0 Proofs.Tryz.prog) ((),(),(b1_0,b1_1,b1_2,b1_3,()),(b3_2,b3_3,()),(b4_0,()),(b5_0,()),())) (t86_0 b1_0 b1_1 b1_2 b1_3 b3_2 b3_3 b4_0 b5_0):=
 TrOk.ofTest (fun h0=>TrOk.ofTest (fun h2=>TrOk.ofTest (fun h4=>TrOk.ofTest (fun h5=>TrOk.ofFin (BodyRuns.of (e86_0_0 b1_0 b1_1 b1_2 b1_3 b3_2 b3_3 b4_0 b5_0) (ac (sc36_0) (ac rfl (ac h5 (ac h4 (ac rfl (ac h2 (ac (sc86_0) (ac h0 All.nil)))))))))) (fun h5=>TrOk.ofFin (BodyRuns.of (e86_0_1 b1_0 b1_1 b1_2 b1_3 b3_2 b3_3 b4_0 b5_0) (ac (sc36_0) (ac rfl (ac h5 (ac h4 (ac rfl (ac h2 (ac (sc86_0) (ac h0 All.nil))))))))))) (fun h4=>TrOk.ofStop)) (fun h2=>TrOk.ofStop)) (fun h0=>TrOk.ofFin (BodyRuns.of (e86_0_2 b1_0 b1_1 b1_2 b1_3 b3_2 b3_3 b4_0 b5_0) (ac (sc36_0) (ac h0 All.nil))))
theorem ok86_0:qay Proofs.Tryz.prog 86 0 (lc86_0 Proofs.Tryz.prog):=qbE (sh:=(sh86_0 Proofs.Tryz.prog)) (shB:=(shb86_0 Proofs.Tryz.prog)) (shR:=(shr86_0 Proofs.Tryz.prog)) kl105_0_ok.base (T:=fun(d:dt86_0)=>t86_0 d.2.2.1.1 d.2.2.1.2.1 d.2.2.1.2.2.1 d.2.2.1.2.2.2.1 d.2.2.2.1.1 d.2.2.2.1.2.1 d.2.2.2.2.1.1 d.2.2.2.2.2.1.1) (by kernel_rfl) rfl (fun(d:dt86_0)=>ok86_0_t d.2.2.1.1 d.2.2.1.2.1 d.2.2.1.2.2.1 d.2.2.1.2.2.2.1 d.2.2.2.1.1 d.2.2.2.1.2.1 d.2.2.2.2.1.1 d.2.2.2.2.2.1.1) (fun _=>rfl)
def kl86_0(P:Go.Program):Known:=(kl105_0 P).loop 86 0 (lc86_0 P)
theorem kl86_0_ok:KnownOk Proofs.Tryz.prog (kl86_0 Proofs.Tryz.prog):=kl105_0_ok.loop ok86_0
abbrev as36:List Ty:=[(.pair (.slice (.int .i64)) (.pair (.slice (.int .i64)) (.pair (.pair (.int .i64) (.pair (.int .i64) .unit)) .unit)))]
abbrev rs36:List Ty:=[(.pair (.pair (.slice (.int .i64)) (.pair (.slice (.int .i64)) (.pair (.pair (.int .i64) (.pair (.int .i64) .unit)) .unit))) .unit),(.int .i64)]
def t36(x0:(List Int))(x0':List Int)(x0''_:Int)(x0''_':Int):Tr (Tys.data rs36):= Tr.test (Option.isSome (f53 ((1000:Int),(x0,())))) (let r0:=g53 ((1000:Int),(x0,()));Tr.test (r0.1) (Tr.test (Option.isSome (f38 ((!eqF (↑(List.length x0'):Int) (↑(List.length x0):Int):Bool),((10:Int),())))) (Tr.test (Option.isSome (f52 ((↑(List.length x0):Int),()))) (Tr.test (Option.isSome (f58 ((x0''_,(x0''_',())),()))) (Tr.test (Option.isSome (f38 ((true:Bool),((2:Int),())))) (let r2:=g38 ((!eqF (↑(List.length x0'):Int) (↑(List.length x0):Int):Bool),((10:Int),()));let r3:=g52 ((↑(List.length x0):Int),());let r4:=g58 ((x0''_,(x0''_',())),());let r5:=g38 ((true:Bool),((2:Int),()));Tr.test (Option.isSome (f42 (([r2.1,r3.1,r4.1,r5.1]:List Int),()))) (let r6:=g42 (([r2.1,r3.1,r4.1,r5.1]:List Int),());Tr.test ((!eqF r6.1 0:Bool)) (Tr.fin ((((([]:List Int),(([]:List Int),(((0:Int),((0:Int),())),()))),()),(r6.1,())))) (Tr.test (Option.isSome (l86_0 ((),((),((x0,(x0',(x0''_,(x0''_',())))),(((0:Int),((0:Int),())),(((0:Int),()),((x0''_,()),())))))))) (Tr.test (qbg (l86_0 ((),((),((x0,(x0',(x0''_,(x0''_',())))),(((0:Int),((0:Int),())),(((0:Int),()),((x0''_,()),())))))))) (let r7:=r86_0 ((),((),((x0,(x0',(x0''_,(x0''_',())))),(((0:Int),((0:Int),())),(((0:Int),()),((x0''_,()),()))))));Tr.fin ((((([]:List Int),(([]:List Int),((r7.2.2.2.1.1,(r7.2.2.2.1.2.1,())),()))),()),(r7.2.2.2.2.1.1,())))) (Tr.fin ((((x0,(x0',((x0''_,(x0''_',())),()))),()),((0:Int),()))))) (Tr.stop))) (Tr.stop)) (Tr.stop)) (Tr.stop)) (Tr.stop)) (Tr.stop)) (Tr.test (Option.isSome (f53 ((1000:Int),(x0',())))) (Tr.test (Option.isSome (f38 ((!eqF (↑(List.length x0'):Int) (↑(List.length x0):Int):Bool),((10:Int),())))) (Tr.test (Option.isSome (f52 ((↑(List.length x0):Int),()))) (Tr.test (Option.isSome (f58 ((x0''_,(x0''_',())),()))) (let r1:=g53 ((1000:Int),(x0',()));Tr.test (Option.isSome (f38 (r1.1,((2:Int),())))) (let r2:=g38 ((!eqF (↑(List.length x0'):Int) (↑(List.length x0):Int):Bool),((10:Int),()));let r3:=g52 ((↑(List.length x0):Int),());let r4:=g58 ((x0''_,(x0''_',())),());let r9:=g38 (r1.1,((2:Int),()));Tr.test (Option.isSome (f42 (([r2.1,r3.1,r4.1,r9.1]:List Int),()))) (let r10:=g42 (([r2.1,r3.1,r4.1,r9.1]:List Int),());Tr.test ((!eqF r10.1 0:Bool)) (Tr.fin ((((([]:List Int),(([]:List Int),(((0:Int),((0:Int),())),()))),()),(r10.1,())))) (Tr.test (Option.isSome (l86_0 ((),((),((x0,(x0',(x0''_,(x0''_',())))),(((0:Int),((0:Int),())),(((0:Int),()),((x0''_,()),())))))))) (Tr.test (qbg (l86_0 ((),((),((x0,(x0',(x0''_,(x0''_',())))),(((0:Int),((0:Int),())),(((0:Int),()),((x0''_,()),())))))))) (let r7:=r86_0 ((),((),((x0,(x0',(x0''_,(x0''_',())))),(((0:Int),((0:Int),())),(((0:Int),()),((x0''_,()),()))))));Tr.fin ((((([]:List Int),(([]:List Int),((r7.2.2.2.1.1,(r7.2.2.2.1.2.1,())),()))),()),(r7.2.2.2.2.1.1,())))) (Tr.fin ((((x0,(x0',((x0''_,(x0''_',())),()))),()),((0:Int),()))))) (Tr.stop))) (Tr.stop)) (Tr.stop)) (Tr.stop)) (Tr.stop)) (Tr.stop)) (Tr.stop))) (Tr.stop)
def f36(d:Tys.data as36):Option (Tys.data rs36):=(t36 d.1.1 d.1.2.1 d.1.2.2.1.1 d.1.2.2.1.2.1).val
def g36(d:Tys.data as36):Tys.data rs36:=(f36 d).getD (Tys.dflt rs36)
def p36:PureC:=pcOf as36 rs36 f36 g36
theorem e36_0(x0:(List Int))(x0':List Int)(x0''_:Int)(x0''_':Int):runPure (kl86_0 Proofs.Tryz.prog).orc Proofs.Tryz.prog 400 36 as36 rs36 ((x0,x0',(x0''_,x0''_',()),()),()) [tt,tt,tt,tt,tt,tt,tt,tt,tt,tt,tt] =
 (let r0:=g53 ((1000:Int),(x0,()));let r2:=g38 (!eqF (↑(List.length x0'):Int) (↑(List.length x0):Int),((10:Int),()));let r3:=g52 ((↑(List.length x0):Int),());let r4:=g58 ((x0''_,(x0''_',())),());let r5:=g38 (true,((2:Int),()));let r6:=g42 (([r2.1,r3.1,r4.1,r5.1]:List Int),());some ((((([]:List Int),(([]:List Int),(((0:Int),((0:Int),())),()))),()),(r6.1,())),[(!eqF r6.1 0,true),(Option.isSome (f42 (([r2.1,r3.1,r4.1,r5.1]:List Int),())),true),(Option.isSome (f38 (true,((2:Int),()))),true),(Option.isSome (f58 ((x0''_,(x0''_',())),())),true),(Option.isSome (f52 ((↑(List.length x0):Int),())),true),(Option.isSome (f38 (!eqF (↑(List.length x0'):Int) (↑(List.length x0):Int),((10:Int),()))),true),(r0.1,true),(r0.1,true),(r0.1,true),(r0.1,true),(Option.isSome (f53 ((1000:Int),(x0,()))),true)])):=by kernel_rfl
theorem e36_1(x0:(List Int))(x0':List Int)(x0''_:Int)(x0''_':Int):runPure (kl86_0 Proofs.Tryz.prog).orc Proofs.Tryz.prog 400 36 as36 rs36 ((x0,x0',(x0''_,x0''_',()),()),()) [tt,tt,tt,tt,tt,tt,tt,tt,tt,tt,ff,tt,tt,tt] =
 (let r0:=g53 ((1000:Int),(x0,()));let r2:=g38 (!eqF (↑(List.length x0'):Int) (↑(List.length x0):Int),((10:Int),()));let r3:=g52 ((↑(List.length x0):Int),());let r4:=g58 ((x0''_,(x0''_',())),());let r5:=g38 (true,((2:Int),()));let r6:=g42 (([r2.1,r3.1,r4.1,r5.1]:List Int),());let r7:=r86_0 ((),((),((x0,(x0',(x0''_,(x0''_',())))),(((0:Int),((0:Int),())),(((0:Int),()),((x0''_,()),()))))));some ((((([]:List Int),(([]:List Int),((r7.2.2.2.1.1,(r7.2.2.2.1.2.1,())),()))),()),(r7.2.2.2.2.1.1,())),[(qbg (l86_0 ((),((),((x0,(x0',(x0''_,(x0''_',())))),(((0:Int),((0:Int),())),(((0:Int),()),((x0''_,()),()))))))),true),(Option.isSome (l86_0 ((),((),((x0,(x0',(x0''_,(x0''_',())))),(((0:Int),((0:Int),())),(((0:Int),()),((x0''_,()),()))))))),true),(qaW Proofs.Tryz.prog (nat_lit 36) (nat_lit 0),true),(!eqF r6.1 0,false),(Option.isSome (f42 (([r2.1,r3.1,r4.1,r5.1]:List Int),())),true),(Option.isSome (f38 (true,((2:Int),()))),true),(Option.isSome (f58 ((x0''_,(x0''_',())),())),true),(Option.isSome (f52 ((↑(List.length x0):Int),())),true),(Option.isSome (f38 (!eqF (↑(List.length x0'):Int) (↑(List.length x0):Int),((10:Int),()))),true),(r0.1,true),(r0.1,true),(r0.1,true),(r0.1,true),(Option.isSome (f53 ((1000:Int),(x0,()))),true)])):=by kernel_rfl
theorem e36_2(x0:(List Int))(x0':List Int)(x0''_:Int)(x0''_':Int):runPure (kl86_0 Proofs.Tryz.prog).orc Proofs.Tryz.prog 400 36 as36 rs36 ((x0,x0',(x0''_,x0''_',()),()),()) [tt,tt,tt,tt,tt,tt,tt,tt,tt,tt,ff,tt,tt,ff] =
 (let r0:=g53 ((1000:Int),(x0,()));let r2:=g38 (!eqF (↑(List.length x0'):Int) (↑(List.length x0):Int),((10:Int),()));let r3:=g52 ((↑(List.length x0):Int),());let r4:=g58 ((x0''_,(x0''_',())),());let r5:=g38 (true,((2:Int),()));let r6:=g42 (([r2.1,r3.1,r4.1,r5.1]:List Int),());some ((((x0,(x0',((x0''_,(x0''_',())),()))),()),((0:Int),())),[(qbg (l86_0 ((),((),((x0,(x0',(x0''_,(x0''_',())))),(((0:Int),((0:Int),())),(((0:Int),()),((x0''_,()),()))))))),false),(Option.isSome (l86_0 ((),((),((x0,(x0',(x0''_,(x0''_',())))),(((0:Int),((0:Int),())),(((0:Int),()),((x0''_,()),()))))))),true),(qaW Proofs.Tryz.prog (nat_lit 36) (nat_lit 0),true),(!eqF r6.1 0,false),(Option.isSome (f42 (([r2.1,r3.1,r4.1,r5.1]:List Int),())),true),(Option.isSome (f38 (true,((2:Int),()))),true),(Option.isSome (f58 ((x0''_,(x0''_',())),())),true),(Option.isSome (f52 ((↑(List.length x0):Int),())),true),(Option.isSome (f38 (!eqF (↑(List.length x0'):Int) (↑(List.length x0):Int),((10:Int),()))),true),(r0.1,true),(r0.1,true),(r0.1,true),(r0.1,true),(Option.isSome (f53 ((1000:Int),(x0,()))),true)])):=by kernel_rfl
theorem e36_3(x0:(List Int))(x0':List Int)(x0''_:Int)(x0''_':Int):runPure (kl86_0 Proofs.Tryz.prog).orc Proofs.Tryz.prog 400 36 as36 rs36 ((x0,x0',(x0''_,x0''_',()),()),()) [tt,ff,ff,ff,tt,ff,tt,tt,tt,tt,tt,tt] =
 (let r0:=g53 ((1000:Int),(x0,()));let r1:=g53 ((1000:Int),(x0',()));let r2:=g38 (!eqF (↑(List.length x0'):Int) (↑(List.length x0):Int),((10:Int),()));let r3:=g52 ((↑(List.length x0):Int),());let r4:=g58 ((x0''_,(x0''_',())),());let r9:=g38 (r1.1,((2:Int),()));let r10:=g42 (([r2.1,r3.1,r4.1,r9.1]:List Int),());some ((((([]:List Int),(([]:List Int),(((0:Int),((0:Int),())),()))),()),(r10.1,())),[(!eqF r10.1 0,true),(Option.isSome (f42 (([r2.1,r3.1,r4.1,r9.1]:List Int),())),true),(Option.isSome (f38 (r1.1,((2:Int),()))),true),(Option.isSome (f58 ((x0''_,(x0''_',())),())),true),(Option.isSome (f52 ((↑(List.length x0):Int),())),true),(Option.isSome (f38 (!eqF (↑(List.length x0'):Int) (↑(List.length x0):Int),((10:Int),()))),true),(r0.1,false),(Option.isSome (f53 ((1000:Int),(x0',()))),true),(r0.1,false),(r0.1,false),(r0.1,false),(Option.isSome (f53 ((1000:Int),(x0,()))),true)])):=by kernel_rfl
theorem e36_4(x0:(List Int))(x0':List Int)(x0''_:Int)(x0''_':Int):runPure (kl86_0 Proofs.Tryz.prog).orc Proofs.Tryz.prog 400 36 as36 rs36 ((x0,x0',(x0''_,x0''_',()),()),()) [tt,ff,ff,ff,tt,ff,tt,tt,tt,tt,tt,ff,tt,tt,tt] =
 (let r0:=g53 ((1000:Int),(x0,()));let r1:=g53 ((1000:Int),(x0',()));let r2:=g38 (!eqF (↑(List.length x0'):Int) (↑(List.length x0):Int),((10:Int),()));let r3:=g52 ((↑(List.length x0):Int),());let r4:=g58 ((x0''_,(x0''_',())),());let r9:=g38 (r1.1,((2:Int),()));let r10:=g42 (([r2.1,r3.1,r4.1,r9.1]:List Int),());let r7:=r86_0 ((),((),((x0,(x0',(x0''_,(x0''_',())))),(((0:Int),((0:Int),())),(((0:Int),()),((x0''_,()),()))))));some ((((([]:List Int),(([]:List Int),((r7.2.2.2.1.1,(r7.2.2.2.1.2.1,())),()))),()),(r7.2.2.2.2.1.1,())),[(qbg (l86_0 ((),((),((x0,(x0',(x0''_,(x0''_',())))),(((0:Int),((0:Int),())),(((0:Int),()),((x0''_,()),()))))))),true),(Option.isSome (l86_0 ((),((),((x0,(x0',(x0''_,(x0''_',())))),(((0:Int),((0:Int),())),(((0:Int),()),((x0''_,()),()))))))),true),(qaW Proofs.Tryz.prog (nat_lit 36) (nat_lit 0),true),(!eqF r10.1 0,false),(Option.isSome (f42 (([r2.1,r3.1,r4.1,r9.1]:List Int),())),true),(Option.isSome (f38 (r1.1,((2:Int),()))),true),(Option.isSome (f58 ((x0''_,(x0''_',())),())),true),(Option.isSome (f52 ((↑(List.length x0):Int),())),true),(Option.isSome (f38 (!eqF (↑(List.length x0'):Int) (↑(List.length x0):Int),((10:Int),()))),true),(r0.1,false),(Option.isSome (f53 ((1000:Int),(x0',()))),true),(r0.1,false),(r0.1,false),(r0.1,false),(Option.isSome (f53 ((1000:Int),(x0,()))),true)])):=by kernel_rfl
theorem e36_5(x0:(List Int))(x0':List Int)(x0''_:Int)(x0''_':Int):runPure (kl86_0 Proofs.Tryz.prog).orc Proofs.Tryz.prog 400 36 as36 rs36 ((x0,x0',(x0''_,x0''_',()),()),()) [tt,ff,ff,ff,tt,ff,tt,tt,tt,tt,tt,ff,tt,tt,ff] =
 (let r0:=g53 ((1000:Int),(x0,()));let r1:=g53 ((1000:Int),(x0',()));let r2:=g38 (!eqF (↑(List.length x0'):Int) (↑(List.length x0):Int),((10:Int),()));let r3:=g52 ((↑(List.length x0):Int),());let r4:=g58 ((x0''_,(x0''_',())),());let r9:=g38 (r1.1,((2:Int),()));let r10:=g42 (([r2.1,r3.1,r4.1,r9.1]:List Int),());some ((((x0,(x0',((x0''_,(x0''_',())),()))),()),((0:Int),())),[(qbg (l86_0 ((),((),((x0,(x0',(x0''_,(x0''_',())))),(((0:Int),((0:Int),())),(((0:Int),()),((x0''_,()),()))))))),false),(Option.isSome (l86_0 ((),((),((x0,(x0',(x0''_,(x0''_',())))),(((0:Int),((0:Int),())),(((0:Int),()),((x0''_,()),()))))))),true),(qaW Proofs.Tryz.prog (nat_lit 36) (nat_lit 0),true),(!eqF r10.1 0,false),(Option.isSome (f42 (([r2.1,r3.1,r4.1,r9.1]:List Int),())),true),(Option.isSome (f38 (r1.1,((2:Int),()))),true),(Option.isSome (f58 ((x0''_,(x0''_',())),())),true),(Option.isSome (f52 ((↑(List.length x0):Int),())),true),(Option.isSome (f38 (!eqF (↑(List.length x0'):Int) (↑(List.length x0):Int),((10:Int),()))),true),(r0.1,false),(Option.isSome (f53 ((1000:Int),(x0',()))),true),(r0.1,false),(r0.1,false),(r0.1,false),(Option.isSome (f53 ((1000:Int),(x0,()))),true)])):=by kernel_rfl
theorem ok36_t(x0:(List Int))(x0':List Int)(x0''_:Int)(x0''_':Int):TrOk (PureRuns Proofs.Tryz.prog (kl86_0 Proofs.Tryz.prog).orc 36 as36 rs36 ((x0,x0',(x0''_,x0''_',()),()),())) (t36 x0 x0' x0''_ x0''_'):=
 TrOk.ofTest (fun h0=>TrOk.ofTest (fun h1=>TrOk.ofTest (fun h5=>TrOk.ofTest (fun h6=>TrOk.ofTest (fun h7=>TrOk.ofTest (fun h8=>TrOk.ofTest (fun h9=>TrOk.ofTest (fun h10=>TrOk.ofFin (PureRuns.of (e36_0 x0 x0' x0''_ x0''_') (ac h10 (ac h9 (ac h8 (ac h7 (ac h6 (ac h5 (ac h1 (ac h1 (ac h1 (ac h1 (ac h0 All.nil))))))))))))) (fun h10=>TrOk.ofTest (fun h12=>TrOk.ofTest (fun h13=>TrOk.ofFin (PureRuns.of (e36_1 x0 x0' x0''_ x0''_') (ac h13 (ac h12 (ac (sc36_0) (ac h10 (ac h9 (ac h8 (ac h7 (ac h6 (ac h5 (ac h1 (ac h1 (ac h1 (ac h1 (ac h0 All.nil)))))))))))))))) (fun h13=>TrOk.ofFin (PureRuns.of (e36_2 x0 x0' x0''_ x0''_') (ac h13 (ac h12 (ac (sc36_0) (ac h10 (ac h9 (ac h8 (ac h7 (ac h6 (ac h5 (ac h1 (ac h1 (ac h1 (ac h1 (ac h0 All.nil))))))))))))))))) (fun h12=>TrOk.ofStop))) (fun h9=>TrOk.ofStop)) (fun h8=>TrOk.ofStop)) (fun h7=>TrOk.ofStop)) (fun h6=>TrOk.ofStop)) (fun h5=>TrOk.ofStop)) (fun h1=>TrOk.ofTest (fun h4=>TrOk.ofTest (fun h6=>TrOk.ofTest (fun h7=>TrOk.ofTest (fun h8=>TrOk.ofTest (fun h9=>TrOk.ofTest (fun h10=>TrOk.ofTest (fun h11=>TrOk.ofFin (PureRuns.of (e36_3 x0 x0' x0''_ x0''_') (ac h11 (ac h10 (ac h9 (ac h8 (ac h7 (ac h6 (ac h1 (ac h4 (ac h1 (ac h1 (ac h1 (ac h0 All.nil)))))))))))))) (fun h11=>TrOk.ofTest (fun h13=>TrOk.ofTest (fun h14=>TrOk.ofFin (PureRuns.of (e36_4 x0 x0' x0''_ x0''_') (ac h14 (ac h13 (ac (sc36_0) (ac h11 (ac h10 (ac h9 (ac h8 (ac h7 (ac h6 (ac h1 (ac h4 (ac h1 (ac h1 (ac h1 (ac h0 All.nil))))))))))))))))) (fun h14=>TrOk.ofFin (PureRuns.of (e36_5 x0 x0' x0''_ x0''_') (ac h14 (ac h13 (ac (sc36_0) (ac h11 (ac h10 (ac h9 (ac h8 (ac h7 (ac h6 (ac h1 (ac h4 (ac h1 (ac h1 (ac h1 (ac h0 All.nil)))))))))))))))))) (fun h13=>TrOk.ofStop))) (fun h10=>TrOk.ofStop)) (fun h9=>TrOk.ofStop)) (fun h8=>TrOk.ofStop)) (fun h7=>TrOk.ofStop)) (fun h6=>TrOk.ofStop)) (fun h4=>TrOk.ofStop))) (fun h0=>TrOk.ofStop)
theorem ok36:PureOk Proofs.Tryz.prog 36 p36:=qaf kl86_0_ok.base (T:=fun(d:Tys.data as36)=>t36 d.1.1 d.1.2.1 d.1.2.2.1.1 d.1.2.2.1.2.1) (by kernel_rfl) (fun(d:Tys.data as36)=>ok36_t d.1.1 d.1.2.1 d.1.2.2.1.1 d.1.2.2.1.2.1)
def kf36(P:Go.Program):Known:=(kl86_0 P).func 36 p36
theorem kf36_ok:KnownOk Proofs.Tryz.prog (kf36 Proofs.Tryz.prog):=kl86_0_ok.func ok36
abbrev sh63_2:Sh:={ n:=26,slots:=[5,7,9,10,11],pats:=[.ty (.int .i64),.ty (.int .i64),.ty (.slice (.int .i64)),.ty (.int .i64),.ty (.int .i64)],boxes:=[] }
abbrev shb63_2:Sh:={ n:=26,slots:=[5,9,10,11],pats:=[.ty (.int .i64),.ty (.slice (.int .i64)),.ty (.int .i64),.ty (.int .i64)],boxes:=[] }
abbrev shr63_2:Sh:={ n:=26,slots:=[],pats:=[],boxes:=[] }
def t63_2(x0:Int)(x1:Int)(x2:List Int)(x3:Int)(x4:Int):Tr (Out sh63_2.data shb63_2.data shr63_2.data):= Tr.test ((!eqF x1 0:Bool)) (Tr.test (x1==(0:Int)) (Tr.stop) (Tr.fin (.again ((x1,((Int.tmod x0 x1:Int),(x2,(x3,(x4,()))))),())))) (Tr.fin (.brk ((x0,(x2,(x3,(x4,())))),())))
def s63_2(d:sh63_2.data):Option (Out sh63_2.data shb63_2.data shr63_2.data):=(t63_2 d.1.1 d.1.2.1 d.1.2.2.1 d.1.2.2.2.1 d.1.2.2.2.2.1).val
def l63_2(d:sh63_2.data):Option (shb63_2.data ⊕ shr63_2.data):=itr s63_2 rounds d
def b63_2(d:sh63_2.data):shb63_2.data:=outB shb63_2.dflt (l63_2 d)
def lc63_2:LoopC:=lcB sh63_2 shb63_2 shr63_2 l63_2 b63_2
def ww9:List Nat:=[2]
theorem wk63_2(x0:Int)(x1:Int)(x2:List Int)(x3:Int)(x4:Int):Walks (qap (kf36 Proofs.Tryz.prog).orc Proofs.Tryz.prog 400 63 2 sh63_2 shb63_2 shr63_2 ((x0,x1,x2,x3,x4,()),())) (t63_2 x0 x1 x2 x3 x4) [(bl 2 1,4::ww9),(bl 1 0,ww9)]:=
 ⟨by kernel_rfl,by kernel_rfl,trivial⟩
theorem ok63_2:qay Proofs.Tryz.prog 63 2 lc63_2:=qaB (sh:=sh63_2) (shB:=shb63_2) (shR:=shr63_2) kf36_ok.base (T:=fun(d:sh63_2.data)=>t63_2 d.1.1 d.1.2.1 d.1.2.2.1 d.1.2.2.2.1 d.1.2.2.2.2.1) (by kernel_rfl) rfl (fun(d:sh63_2.data)=>wB (wk63_2 d.1.1 d.1.2.1 d.1.2.2.1 d.1.2.2.2.1 d.1.2.2.2.2.1) (by kernel_rfl)) (fun _=>rfl)
def kl63_2(P:Go.Program):Known:=(kf36 P).loop 63 2 lc63_2
theorem kl63_2_ok:KnownOk Proofs.Tryz.prog (kl63_2 Proofs.Tryz.prog):=kf36_ok.loop ok63_2
abbrev sh63_0:Sh:={ n:=26,slots:=[5,9,10,11],pats:=[.ty (.int .i64),.ty (.slice (.int .i64)),.ty (.int .i64),.ty (.int .i64)],boxes:=[] }
abbrev shb63_0:Sh:={ n:=26,slots:=[5],pats:=[.ty (.int .i64)],boxes:=[] }
abbrev shr63_0:Sh:={ n:=26,slots:=[],pats:=[],boxes:=[] }
def t63_0(x0:Int)(x1:List Int)(x2:Int)(x3:Int):Tr (Out sh63_0.data shb63_0.data shr63_0.data):= Tr.test ((!leF x2 x3:Bool)) (Tr.test (decide ((0:Int)≤x3)&&decide (x3<(↑(List.length x1):Int))) (Tr.test (qa5 (l63_2 ((x0,((List.getD x1 (Int.toNat x3) (0:Int):Int),(x1,(x2,(x3,()))))),()))) (let r0:=b63_2 ((x0,((List.getD x1 (Int.toNat x3) (0:Int):Int),(x1,(x2,(x3,()))))),());Tr.fin (.again ((r0.1.1,(r0.1.2.1,(r0.1.2.2.1,((wrap64 (r0.1.2.2.2.1+(1:Int)):Int),())))),()))) (Tr.stop)) (Tr.stop)) (Tr.fin (.brk ((x0,()),())))
def s63_0(d:sh63_0.data):Option (Out sh63_0.data shb63_0.data shr63_0.data):=(t63_0 d.1.1 d.1.2.1 d.1.2.2.1 d.1.2.2.2.1).val
def l63_0(d:sh63_0.data):Option (shb63_0.data ⊕ shr63_0.data):=itr s63_0 rounds d
def b63_0(d:sh63_0.data):shb63_0.data:=outB shb63_0.dflt (l63_0 d)
def lc63_0:LoopC:=lcB sh63_0 shb63_0 shr63_0 l63_0 b63_0
def wwa:List Nat:=[2]
theorem wk63_0(x0:Int)(x1:List Int)(x2:Int)(x3:Int):Walks (qap (kl63_2 Proofs.Tryz.prog).orc Proofs.Tryz.prog 400 63 0 sh63_0 shb63_0 shr63_0 ((x0,x1,x2,x3,()),())) (t63_0 x0 x1 x2 x3) [(bl 3 7,1::6::4::wwa),(bl 1 0,wwa)]:=
 ⟨by kernel_rfl,by kernel_rfl,trivial⟩
theorem ok63_0:qay Proofs.Tryz.prog 63 0 lc63_0:=qaB (sh:=sh63_0) (shB:=shb63_0) (shR:=shr63_0) kl63_2_ok.base (T:=fun(d:sh63_0.data)=>t63_0 d.1.1 d.1.2.1 d.1.2.2.1 d.1.2.2.2.1) (by kernel_rfl) rfl (fun(d:sh63_0.data)=>wB (wk63_0 d.1.1 d.1.2.1 d.1.2.2.1 d.1.2.2.2.1) (by kernel_rfl)) (fun _=>rfl)
def kl63_0(P:Go.Program):Known:=(kl63_2 P).loop 63 0 lc63_0
theorem kl63_0_ok:KnownOk Proofs.Tryz.prog (kl63_0 Proofs.Tryz.prog):=kl63_2_ok.loop ok63_0
abbrev as63:List Ty:=[(.int .i64),(.slice (.int .i64))]
abbrev rs63:List Ty:=[(.int .i64)]
def t63(x0:Int)(x1:List Int):Tr (Tys.data rs63):= Tr.test (qa5 (l63_0 ((x0,(x1,((↑(List.length x1):Int),((0:Int),())))),()))) (let r0:=b63_0 ((x0,(x1,((↑(List.length x1):Int),((0:Int),())))),());Tr.fin (((if r0.1.1<Go.IntKind.wrap Go.IntKind.i64 ((0:Int)-r0.1.1)then Go.IntKind.wrap Go.IntKind.i64 ((0:Int)-r0.1.1)else r0.1.1:Int),()))) (Tr.stop)
def f63(d:Tys.data as63):Option (Tys.data rs63):=(t63 d.1 d.2.1).val
def g63(d:Tys.data as63):Tys.data rs63:=(f63 d).getD (Tys.dflt rs63)
def p63:PureC:=pcOf as63 rs63 f63 g63
theorem wk63(x0:Int)(x1:List Int):Walks (runPure (kl63_0 Proofs.Tryz.prog).orc Proofs.Tryz.prog 400 63 as63 rs63 (x0,x1,())) (t63 x0 x1) [(bl 1 1,[1,2])]:=
 ⟨by kernel_rfl,trivial⟩
theorem ok63:PureOk Proofs.Tryz.prog 63 p63:=qaf kl63_0_ok.base (T:=fun(d:Tys.data as63)=>t63 d.1 d.2.1) (by kernel_rfl) (fun(d:Tys.data as63)=>wP (wk63 d.1 d.2.1) (by kernel_rfl))
def kf63(P:Go.Program):Known:=(kl63_0 P).func 63 p63
theorem kf63_ok:KnownOk Proofs.Tryz.prog (kf63 Proofs.Tryz.prog):=kl63_0_ok.func ok63
abbrev sh54_0:Sh:={ n:=33,slots:=[3,4,19,20,21],pats:=[.ty (.int .i64),.aco (.int .i64),.ty (.slice (.int .i64)),.ty (.int .i64),.ty (.int .i64)],boxes:=[] }
abbrev shb54_0:Sh:={ n:=33,slots:=[4],pats:=[.aco (.int .i64)],boxes:=[] }
abbrev shr54_0:Sh:={ n:=33,slots:=[],pats:=[],boxes:=[] }
def t54_0(x0:Int)(x1:List Int)(x2:List Int)(x3:Int)(x4:Int):Tr (Out sh54_0.data shb54_0.data shr54_0.data):= Tr.test ((!leF x3 x4:Bool)) (Tr.test (decide ((0:Int)≤x4)&&decide (x4<(↑(List.length x2):Int))) (Tr.test ((x0==(0:Int):Bool)) (Tr.stop) (Tr.test ((Nat.ble (((2:Nat)*(List.length x1+(1:Nat))+(192:Nat))*(8:Nat)) (281474976710656:Nat)&&Nat.ble (List.length x1+(1:Nat)) (281474976710656:Nat):Bool)) (Tr.fin (.again ((x0,((x1++[Go.IntKind.wrap Go.IntKind.i64 (Int.tdiv (List.getD x2 (Int.toNat x4) (0:Int)) x0)]:List Int),(x2,(x3,((wrap64 (x4+(1:Int)):Int),()))))),()))) (Tr.stop))) (Tr.stop)) (Tr.fin (.brk ((x1,()),())))
def s54_0(d:sh54_0.data):Option (Out sh54_0.data shb54_0.data shr54_0.data):=(t54_0 d.1.1 d.1.2.1 d.1.2.2.1 d.1.2.2.2.1 d.1.2.2.2.2.1).val
def l54_0(d:sh54_0.data):Option (shb54_0.data ⊕ shr54_0.data):=itr s54_0 rounds d
def b54_0(d:sh54_0.data):shb54_0.data:=outB shb54_0.dflt (l54_0 d)
def lc54_0:LoopC:=lcB sh54_0 shb54_0 shr54_0 l54_0 b54_0
def wwb:List Nat:=[2]
theorem wk54_0(x0:Int)(x1:List Int)(x2:List Int)(x3:Int)(x4:Int):Walks (qap (kf63 Proofs.Tryz.prog).orc Proofs.Tryz.prog 400 54 0 sh54_0 shb54_0 shr54_0 ((x0,x1,x2,x3,x4,()),())) (t54_0 x0 x1 x2 x3 x4) [(bl 4 11,8::6::4::wwb),(bl 1 0,wwb)]:=
 ⟨by kernel_rfl,by kernel_rfl,trivial⟩
theorem ok54_0:qay Proofs.Tryz.prog 54 0 lc54_0:=qaB (sh:=sh54_0) (shB:=shb54_0) (shR:=shr54_0) kf63_ok.base (T:=fun(d:sh54_0.data)=>t54_0 d.1.1 d.1.2.1 d.1.2.2.1 d.1.2.2.2.1 d.1.2.2.2.2.1) (by kernel_rfl) rfl (fun(d:sh54_0.data)=>wB (wk54_0 d.1.1 d.1.2.1 d.1.2.2.1 d.1.2.2.2.1 d.1.2.2.2.2.1) (by kernel_rfl)) (fun _=>rfl)
def kl54_0(P:Go.Program):Known:=(kf63 P).loop 54 0 lc54_0
theorem kl54_0_ok:KnownOk Proofs.Tryz.prog (kl54_0 Proofs.Tryz.prog):=kf63_ok.loop ok54_0
abbrev as54:List Ty:=[(.slice (.int .i64))]
abbrev rs54:List Ty:=[(.slice (.int .i64))]
def t54(x0:(List Int)):Tr (Tys.data rs54):= Tr.test ((true&&decide ((0:Int)<(↑(List.length x0):Int)):Bool)) (Tr.test (true&&decide ((1:Int)≤(↑(List.length x0):Int))) (Tr.test (Option.isSome (f63 ((List.getD x0 (0:Nat) (0:Int):Int),((List.drop (1:Nat) x0:List Int),())))) (Tr.test ((!leF (0:Int) (List.getD x0 (0:Nat) (0:Int)):Bool)) (let r0:=g63 ((List.getD x0 (0:Nat) (0:Int):Int),((List.drop (1:Nat) x0:List Int),()));Tr.test (qa5 (l54_0 (((Go.IntKind.wrap Go.IntKind.i64 ((0:Int)-r0.1):Int),(([]:List Int),(x0,((↑(List.length x0):Int),((0:Int),()))))),()))) (let r1:=b54_0 (((Go.IntKind.wrap Go.IntKind.i64 ((0:Int)-r0.1):Int),(([]:List Int),(x0,((↑(List.length x0):Int),((0:Int),()))))),());Tr.fin ((r1.1.1,()))) (Tr.stop)) (let r0:=g63 ((List.getD x0 (0:Nat) (0:Int):Int),((List.drop (1:Nat) x0:List Int),()));Tr.test (qa5 (l54_0 ((r0.1,(([]:List Int),(x0,((↑(List.length x0):Int),((0:Int),()))))),()))) (let r2:=b54_0 ((r0.1,(([]:List Int),(x0,((↑(List.length x0):Int),((0:Int),()))))),());Tr.fin ((r2.1.1,()))) (Tr.stop))) (Tr.stop)) (Tr.stop)) (Tr.stop)
def f54(d:Tys.data as54):Option (Tys.data rs54):=(t54 d.1).val
def g54(d:Tys.data as54):Tys.data rs54:=(f54 d).getD (Tys.dflt rs54)
def p54:PureC:=pcOf as54 rs54 f54 g54
def wwc:List Nat:=[1,10,8,2,6,4,2]
theorem wk54(x0:(List Int)):Walks (runPure (kl54_0 Proofs.Tryz.prog).orc Proofs.Tryz.prog 400 54 as54 rs54 (x0,())) (t54 x0) [(bl 5 31,wwc),(bl 5 23,wwc)]:=
 ⟨by kernel_rfl,by kernel_rfl,trivial⟩
theorem ok54:PureOk Proofs.Tryz.prog 54 p54:=qaf kl54_0_ok.base (T:=fun(d:Tys.data as54)=>t54 d.1) (by kernel_rfl) (fun(d:Tys.data as54)=>wP (wk54 d.1) (by kernel_rfl))
def kf54(P:Go.Program):Known:=(kl54_0 P).func 54 p54
theorem kf54_ok:KnownOk Proofs.Tryz.prog (kf54 Proofs.Tryz.prog):=kl54_0_ok.func ok54
abbrev as55:List Ty:=[(.slice (.int .i64))]
abbrev rs55:List Ty:=[.bool]
def t55(x0:(List Int)):Tr (Tys.data rs55):= Tr.test ((decide ((0:Int)≤wrap64 ((↑(List.length x0):Int)-(1:Int)))&&decide (wrap64 ((↑(List.length x0):Int)-(1:Int))<(↑(List.length x0):Int)):Bool)) (Tr.test (true&&decide ((0:Int)<(↑(List.length x0):Int))) (Tr.fin (((leF (List.getD x0 (0:Nat) (0:Int)) (if List.getD x0 (Int.toNat (wrap64 ((↑(List.length x0):Int)-(1:Int)))) (0:Int)<Go.IntKind.wrap Go.IntKind.i64 ((0:Int)-List.getD x0 (Int.toNat (wrap64 ((↑(List.length x0):Int)-(1:Int)))) (0:Int))then Go.IntKind.wrap Go.IntKind.i64 ((0:Int)-List.getD x0 (Int.toNat (wrap64 ((↑(List.length x0):Int)-(1:Int)))) (0:Int))else List.getD x0 (Int.toNat (wrap64 ((↑(List.length x0):Int)-(1:Int)))) (0:Int)):Bool),()))) (Tr.stop)) (Tr.stop)
def f55(d:Tys.data as55):Option (Tys.data rs55):=(t55 d.1).val
def g55(d:Tys.data as55):Tys.data rs55:=(f55 d).getD (Tys.dflt rs55)
def p55:PureC:=pcOf as55 rs55 f55 g55
theorem wk55(x0:(List Int)):Walks (runPure (kf54 Proofs.Tryz.prog).orc Proofs.Tryz.prog 400 55 as55 rs55 (x0,())) (t55 x0) [(bl 2 3,[4,2])]:=
 ⟨by kernel_rfl,trivial⟩
theorem ok55:PureOk Proofs.Tryz.prog 55 p55:=qaf kf54_ok.base (T:=fun(d:Tys.data as55)=>t55 d.1) (by kernel_rfl) (fun(d:Tys.data as55)=>wP (wk55 d.1) (by kernel_rfl))
def kf55(P:Go.Program):Known:=(kf54 P).func 55 p55
theorem kf55_ok:KnownOk Proofs.Tryz.prog (kf55 Proofs.Tryz.prog):=kf54_ok.func ok55
abbrev sh84_0:Sh:={ n:=28,slots:=[0,2,3],pats:=[.slu 0 1,.ty (.int .i64),.ty (.int .i64)],boxes:=[.arr (.int .i64)] }
abbrev shb84_0:Sh:={ n:=28,slots:=[],pats:=[],boxes:=[.arr (.int .i64)] }
abbrev shr84_0:Sh:={ n:=28,slots:=[],pats:=[],boxes:=[.arr (.int .i64)] }
def t84_0(x0n:Nat)(x1:Int)(x2:Int)(b0:List Int):Tr (Out sh84_0.data shb84_0.data shr84_0.data):= Tr.test ((!leF x2 x1:Bool)) (Tr.test (decide ((0:Int)≤x2)&&decide (x2<(↑x0n:Int))) (Tr.test ((Nat.ble ((0:Nat)+Int.toNat x2+(1:Nat)) (List.length b0):Bool)) (Tr.test ((decide ((0:Int)≤x1)&&decide (x1<(↑x0n:Int)):Bool)) (Tr.test ((Nat.ble ((0:Nat)+Int.toNat x1+(1:Nat)) (List.length b0):Bool)) (Tr.test ((Nat.ble ((0:Nat)+Int.toNat x2+(1:Nat)) (List.length (List.set b0 ((0:Nat)+Int.toNat x1) (List.getD b0 ((0:Nat)+Int.toNat x2) (0:Int)))):Bool)) (Tr.fin (.again ((x0n,((wrap64 (x1+(1:Int)):Int),((wrap64 (x2-(1:Int)):Int),()))),((List.set (List.set b0 ((0:Nat)+Int.toNat x1) (List.getD b0 ((0:Nat)+Int.toNat x2) (0:Int))) ((0:Nat)+Int.toNat x2) (List.getD b0 ((0:Nat)+Int.toNat x1) (0:Int)):List Int),())))) (Tr.stop)) (Tr.stop)) (Tr.stop)) (Tr.stop)) (Tr.stop)) (Tr.fin (.brk ((),(b0,()))))
def s84_0(d:sh84_0.data):Option (Out sh84_0.data shb84_0.data shr84_0.data):=(t84_0 d.1.1 d.1.2.1 d.1.2.2.1 d.2.1).val
def l84_0(d:sh84_0.data):Option (shb84_0.data ⊕ shr84_0.data):=itr s84_0 rounds d
def b84_0(d:sh84_0.data):shb84_0.data:=outB shb84_0.dflt (l84_0 d)
def lc84_0:LoopC:=lcB sh84_0 shb84_0 shr84_0 l84_0 b84_0
def wwd:List Nat:=[2]
theorem wk84_0(x0n:Nat)(x1:Int)(x2:Int)(b0:List Int):Walks (qap (kf55 Proofs.Tryz.prog).orc Proofs.Tryz.prog 400 84 0 sh84_0 shb84_0 shr84_0 ((x0n,x1,x2,()),b0,())) (t84_0 x0n x1 x2 b0) [(bl 6 63,pk 8 6 532023856528 wwd),(bl 1 0,wwd)]:=
 ⟨by kernel_rfl,by kernel_rfl,trivial⟩
theorem ok84_0:qay Proofs.Tryz.prog 84 0 lc84_0:=qaB (sh:=sh84_0) (shB:=shb84_0) (shR:=shr84_0) kf55_ok.base (T:=fun(d:sh84_0.data)=>t84_0 d.1.1 d.1.2.1 d.1.2.2.1 d.2.1) (by kernel_rfl) rfl (fun(d:sh84_0.data)=>wB (wk84_0 d.1.1 d.1.2.1 d.1.2.2.1 d.2.1) (by kernel_rfl)) (fun _=>rfl)
def kl84_0(P:Go.Program):Known:=(kf55 P).loop 84 0 lc84_0
theorem kl84_0_ok:KnownOk Proofs.Tryz.prog (kl84_0 Proofs.Tryz.prog):=kf55_ok.loop ok84_0
theorem sc56_0:qaW Proofs.Tryz.prog 56 0=true:=qfe (by kernel_rfl)
abbrev sh105_0_1(P:Go.Program):Sh:={ n:=25,slots:=[0,1,2,9,10],pats:=[.yld 0,.ptr 1 1 0,.ptr 2 1 0,.ty (.int .i64),.ty (.int .i64)],boxes:=[.lp (lpOf P 56 0 .ready none 39 [1,3,5] 3) [.ptr 4 1 0,.ptr 5 1 0,.ptr 6 1 0],.row [.ty (.slice (.int .i64))],.row [.slu 7 1],.dfr,.row [.ty (.slice (.int .i64))],.row [.ty (.int .i64)],.row [.aco (.int .i64)],.arr (.int .i64)] }
abbrev shb105_0_1(P:Go.Program):Sh:={ n:=25,slots:=[],pats:=[],boxes:=[.lp (lpOf P 56 0 .ready none 39 [1,3,5] 3) [.ptr 4 1 0,.ptr 5 1 0,.ptr 6 1 0],.row [.ty (.slice (.int .i64))],.row [.slu 7 1],.dfr,.row [.ty (.slice (.int .i64))],.row [.ty (.int .i64)],.row [.aco (.int .i64)],.arr (.int .i64)] }
abbrev shr105_0_1(P:Go.Program):Sh:={ n:=25,slots:=[],pats:=[],boxes:=[.lp (lpOf P 56 0 .ready none 39 [1,3,5] 3) [.ptr 4 1 0,.ptr 5 1 0,.ptr 6 1 0],.row [.ty (.slice (.int .i64))],.row [.slu 7 1],.dfr,.row [.ty (.slice (.int .i64))],.row [.ty (.int .i64)],.row [.aco (.int .i64)],.arr (.int .i64)] }
abbrev dt105_0_1:Type:=(Int×Int×PUnit)×PUnit×(List Int×PUnit)×(Nat×PUnit)×(List Int×PUnit)×(Int×PUnit)×(List Int×PUnit)×List Int×PUnit
abbrev db105_0_1:Type:=PUnit×PUnit×(List Int×PUnit)×(Nat×PUnit)×(List Int×PUnit)×(Int×PUnit)×(List Int×PUnit)×List Int×PUnit
abbrev dr105_0_1:Type:=PUnit×PUnit×(List Int×PUnit)×(Nat×PUnit)×(List Int×PUnit)×(Int×PUnit)×(List Int×PUnit)×List Int×PUnit
def t105_0_1(x3:Int)(x4:Int)(b1_0:List Int)(b2_0n:Nat)(b4_0:List Int)(b5_0:Int)(b6_0:List Int)(b7:List Int):Tr (Out dt105_0_1 db105_0_1 dr105_0_1):= Tr.test ((!leF x3 x4:Bool)) (Tr.test (decide ((0:Int)≤x4)&&decide (x4<(↑(List.length b1_0):Int))) (Tr.test ((decide ((0:Int)≤x4)&&decide (x4<(↑b2_0n:Int)):Bool)) (Tr.test ((Nat.ble ((0:Nat)+Int.toNat x4+(1:Nat)) (List.length b7):Bool)) (Tr.test ((true&&decide ((0:Int)<(↑(List.length b4_0):Int)):Bool)) (Tr.test ((decide ((0:Int)≤b5_0)&&decide (b5_0<(↑(List.length b4_0):Int)):Bool)) (Tr.test ((Nat.ble (((2:Nat)*(List.length b6_0+(1:Nat))+(192:Nat))*(8:Nat)) (281474976710656:Nat)&&Nat.ble (List.length b6_0+(1:Nat)) (281474976710656:Nat):Bool)) (Tr.fin (.again ((x3,((wrap64 (x4+(1:Int)):Int),())),((),((b1_0,()),((b2_0n,()),((b4_0,()),((b5_0,()),(((b6_0++[wrap64 (wrap64 (List.getD b4_0 (0:Nat) (0:Int)*List.getD b1_0 (Int.toNat x4) (0:Int))-wrap64 (List.getD b4_0 (Int.toNat b5_0) (0:Int)*List.getD b7 ((0:Nat)+Int.toNat x4) (0:Int)))]:List Int),()),(b7,())))))))))) (Tr.stop)) (Tr.stop)) (Tr.stop)) (Tr.stop)) (Tr.stop)) (Tr.stop)) (Tr.fin (.brk ((),((),((b1_0,()),((b2_0n,()),((b4_0,()),((b5_0,()),((b6_0,()),(b7,()))))))))))
def s105_0_1(d:dt105_0_1):Option (Out dt105_0_1 db105_0_1 dr105_0_1):=(t105_0_1 d.1.1 d.1.2.1 d.2.2.1.1 d.2.2.2.1.1 d.2.2.2.2.1.1 d.2.2.2.2.2.1.1 d.2.2.2.2.2.2.1.1 d.2.2.2.2.2.2.2.1).val
def l105_0_1(d:dt105_0_1):Option (db105_0_1 ⊕ dr105_0_1):=itr s105_0_1 rounds d
def b105_0_1(d:dt105_0_1):db105_0_1:=outB (((),((),((([]:List Int),()),(((0:Nat),()),((([]:List Int),()),(((0:Int),()),((([]:List Int),()),(([]:List Int),()))))))))) (l105_0_1 d)
def lc105_0_1(P:Go.Program):LoopC:=lcB (sh105_0_1 P) (shb105_0_1 P) (shr105_0_1 P) l105_0_1 b105_0_1
theorem e105_0_1_0(x3:Int)(x4:Int)(b1_0:List Int)(b2_0n:Nat)(b4_0:List Int)(b5_0:Int)(b6_0:List Int)(b7:List Int):qap (kl84_0 Proofs.Tryz.prog).orc Proofs.Tryz.prog 400 105 0 (sh105_0_1 Proofs.Tryz.prog) (shb105_0_1 Proofs.Tryz.prog) (shr105_0_1 Proofs.Tryz.prog) ((x3,x4,()),(),(b1_0,()),(b2_0n,()),(b4_0,()),(b5_0,()),(b6_0,()),b7,()) [tt,tt,tt,tt,tt,tt,tt,ff] =
 (some (.again ((x3,((wrap64 (x4+(1:Int)):Int),())),((),((b1_0,()),((b2_0n,()),((b4_0,()),((b5_0,()),(((b6_0++[wrap64 (wrap64 (List.getD b4_0 (0:Nat) (0:Int)*List.getD b1_0 (Int.toNat x4) (0:Int))-wrap64 (List.getD b4_0 (Int.toNat b5_0) (0:Int)*List.getD b7 ((0:Nat)+Int.toNat x4) (0:Int)))]:List Int),()),(b7,())))))))),[(qaW Proofs.Tryz.prog (nat_lit 56) (nat_lit 0),true),(false,false),(Nat.ble (((2:Nat)*(List.length b6_0+(1:Nat))+(192:Nat))*(8:Nat)) (281474976710656:Nat)&&Nat.ble (List.length b6_0+(1:Nat)) (281474976710656:Nat),true),(decide ((0:Int)≤b5_0)&&decide (b5_0<(↑(List.length b4_0):Int)),true),(true&&decide ((0:Int)<(↑(List.length b4_0):Int)),true),(Nat.ble ((0:Nat)+Int.toNat x4+(1:Nat)) (List.length b7),true),(decide ((0:Int)≤x4)&&decide (x4<(↑b2_0n:Int)),true),(decide ((0:Int)≤x4)&&decide (x4<(↑(List.length b1_0):Int)),true),(!leF x3 x4,true)])):=by kernel_rfl
theorem e105_0_1_7(x3:Int)(x4:Int)(b1_0:List Int)(b2_0n:Nat)(b4_0:List Int)(b5_0:Int)(b6_0:List Int)(b7:List Int):qap (kl84_0 Proofs.Tryz.prog).orc Proofs.Tryz.prog 400 105 0 (sh105_0_1 Proofs.Tryz.prog) (shb105_0_1 Proofs.Tryz.prog) (shr105_0_1 Proofs.Tryz.prog) ((x3,x4,()),(),(b1_0,()),(b2_0n,()),(b4_0,()),(b5_0,()),(b6_0,()),b7,()) [ff] =
 (some (.brk ((),((),((b1_0,()),((b2_0n,()),((b4_0,()),((b5_0,()),((b6_0,()),(b7,())))))))),[(qaW Proofs.Tryz.prog (nat_lit 56) (nat_lit 0),true),(!leF x3 x4,false)])):=by kernel_rfl
theorem ok105_0_1_t(x3:Int)(x4:Int)(b1_0:List Int)(b2_0n:Nat)(b4_0:List Int)(b5_0:Int)(b6_0:List Int)(b7:List Int):TrOk (BodyRuns Proofs.Tryz.prog (kl84_0 Proofs.Tryz.prog).orc 105 0 (sh105_0_1 Proofs.Tryz.prog) (shb105_0_1 Proofs.Tryz.prog) (shr105_0_1 Proofs.Tryz.prog) ((x3,x4,()),(),(b1_0,()),(b2_0n,()),(b4_0,()),(b5_0,()),(b6_0,()),b7,())) (t105_0_1 x3 x4 b1_0 b2_0n b4_0 b5_0 b6_0 b7):=
 TrOk.ofTest (fun h0=>TrOk.ofTest (fun h1=>TrOk.ofTest (fun h2=>TrOk.ofTest (fun h3=>TrOk.ofTest (fun h4=>TrOk.ofTest (fun h5=>TrOk.ofTest (fun h6=>TrOk.ofFin (BodyRuns.of (e105_0_1_0 x3 x4 b1_0 b2_0n b4_0 b5_0 b6_0 b7) (ac (sc56_0) (ac rfl (ac h6 (ac h5 (ac h4 (ac h3 (ac h2 (ac h1 (ac h0 All.nil))))))))))) (fun h6=>TrOk.ofStop)) (fun h5=>TrOk.ofStop)) (fun h4=>TrOk.ofStop)) (fun h3=>TrOk.ofStop)) (fun h2=>TrOk.ofStop)) (fun h1=>TrOk.ofStop)) (fun h0=>TrOk.ofFin (BodyRuns.of (e105_0_1_7 x3 x4 b1_0 b2_0n b4_0 b5_0 b6_0 b7) (ac (sc56_0) (ac h0 All.nil))))
theorem ok105_0_1:qay Proofs.Tryz.prog 105 0 (lc105_0_1 Proofs.Tryz.prog):=qaB (sh:=(sh105_0_1 Proofs.Tryz.prog)) (shB:=(shb105_0_1 Proofs.Tryz.prog)) (shR:=(shr105_0_1 Proofs.Tryz.prog)) kl84_0_ok.base (T:=fun(d:dt105_0_1)=>t105_0_1 d.1.1 d.1.2.1 d.2.2.1.1 d.2.2.2.1.1 d.2.2.2.2.1.1 d.2.2.2.2.2.1.1 d.2.2.2.2.2.2.1.1 d.2.2.2.2.2.2.2.1) (by kernel_rfl) rfl (fun(d:dt105_0_1)=>ok105_0_1_t d.1.1 d.1.2.1 d.2.2.1.1 d.2.2.2.1.1 d.2.2.2.2.1.1 d.2.2.2.2.2.1.1 d.2.2.2.2.2.2.1.1 d.2.2.2.2.2.2.2.1) (fun _=>rfl)
def kl105_0_1(P:Go.Program):Known:=(kl84_0 P).loop 105 0 (lc105_0_1 P)
theorem kl105_0_1_ok:KnownOk Proofs.Tryz.prog (kl105_0_1 Proofs.Tryz.prog):=kl84_0_ok.loop ok105_0_1
end Go.Vm.Mo
