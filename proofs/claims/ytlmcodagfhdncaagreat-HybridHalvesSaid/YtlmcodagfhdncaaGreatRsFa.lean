import Derived.Test.YtlmcodagfhdncaaGreatA5
import Derived.KernelRfl
import Derived.Test.YtlmcodagfhdncaaGreatProg
set_option linter.unusedVariables false
set_option linter.unusedSimpArgs false

namespace Go.Vm.Mo
open Go
set_option linter.unusedVariables false
def kn0(_:Go.Program):Known:=⟨[],[]⟩
abbrev tt:Bool:=true
theorem nn{b v:Bool}(h:(!b)=v):(!b)=!(!v):=qu2 (qu6 h)
theorem plainP:Plain Proofs.Tryz.prog:=by
 have h : (Proofs.Tryz.prog.funcs.toList.all fun fn => !(fn.body.isSome && fn.name == "runtime.NumGoroutine")) = true := by kernel_rfl
 intro f fn hf hb
 have hm:fn∈Proofs.Tryz.prog.funcs.toList:=by
  have:=Array.getElem?_eq_some_iff.1 hf
  obtain⟨hlt,rfl⟩:=this
  simp
 have:=List.all_eq_true.1 h fn hm
 rw[hb]at this
 simpa using this
theorem kn0_ok:KnownOk Proofs.Tryz.prog (kn0 Proofs.Tryz.prog):=⟨plainP,by kernel_rfl,(fun _ h=>by cases h),(fun _ h=>by cases h)⟩
abbrev as48:List Ty:=[]
abbrev rs48:List Ty:=[(.pair (.int .i64) (.pair (.int .i64) (.pair (.int .i64) (.pair (.int .i64) (.pair (.int .i64) (.pair .bool (.pair (.int .i64) (.pair (.pair (.int .i64) (.pair (.int .i64) .unit)) .unit))))))))]
def t48 :Tr (Tys.data rs48):= Tr.fin ((((4:Int),((1:Int),((2:Int),((2:Int),((1:Int),((false:Bool),((3:Int),(((0:Int),((8:Int),())),())))))))),()))
def f48(d:Tys.data as48):Option (Tys.data rs48):=(t48).val
def g48(d:Tys.data as48):Tys.data rs48:=(f48 d).getD (Tys.dflt rs48)
def p48:PureC:=pcOf as48 rs48 f48 g48
theorem wk48 :Walks (runPure (kn0 Proofs.Tryz.prog).orc Proofs.Tryz.prog 400 48 as48 rs48 ()) (t48) [(bl 0 0,[])]:=
 ⟨by kernel_rfl,trivial⟩
theorem ok48:PureOk Proofs.Tryz.prog 48 p48:=qac kn0_ok.base (T:=fun(d:Tys.data as48)=>t48) (by kernel_rfl) (fun(d:Tys.data as48)=>wP (wk48) (by kernel_rfl))
def kf48(P:Go.Program):Known:=(kn0 P).func 48 p48
theorem kf48_ok:KnownOk Proofs.Tryz.prog (kf48 Proofs.Tryz.prog):=kn0_ok.func ok48
abbrev as51:List Ty:=[]
abbrev rs51:List Ty:=[(.slice (.pair (.int .i64) (.pair (.int .i64) (.pair (.int .i64) .unit))))]
def t51 :Tr (Tys.data rs51):= Tr.fin ((([((0:Int),(0:Int),(10:Int),()),((1:Int),(0:Int),(14:Int),()),((0:Int),(1:Int),(20:Int),()),((1:Int),(1:Int),(29:Int),()),((0:Int),(2:Int),(30:Int),())]:List (Int×Int×Int×PUnit)),()))
def f51(d:Tys.data as51):Option (Tys.data rs51):=(t51).val
def g51(d:Tys.data as51):Tys.data rs51:=(f51 d).getD (Tys.dflt rs51)
def p51:PureC:=pcOf as51 rs51 f51 g51
theorem wk51 :Walks (runPure (kf48 Proofs.Tryz.prog).orc Proofs.Tryz.prog 400 51 as51 rs51 ()) (t51) [(bl 0 0,[])]:=
 ⟨by kernel_rfl,trivial⟩
theorem ok51:PureOk Proofs.Tryz.prog 51 p51:=qac kf48_ok.base (T:=fun(d:Tys.data as51)=>t51) (by kernel_rfl) (fun(d:Tys.data as51)=>wP (wk51) (by kernel_rfl))
def kf51(P:Go.Program):Known:=(kf48 P).func 51 p51
theorem kf51_ok:KnownOk Proofs.Tryz.prog (kf51 Proofs.Tryz.prog):=kf48_ok.func ok51
abbrev as52:List Ty:=[]
abbrev rs52:List Ty:=[(.pair (.slice (.int .i64)) (.pair (.slice (.int .i64)) .unit))]
def t52 :Tr (Tys.data rs52):= Tr.fin (((([(2:Int),(4:Int)]:List Int),(([(6:Int),(4:Int)]:List Int),())),()))
def f52(d:Tys.data as52):Option (Tys.data rs52):=(t52).val
def g52(d:Tys.data as52):Tys.data rs52:=(f52 d).getD (Tys.dflt rs52)
def p52:PureC:=pcOf as52 rs52 f52 g52
theorem wk52 :Walks (runPure (kf51 Proofs.Tryz.prog).orc Proofs.Tryz.prog 400 52 as52 rs52 ()) (t52) [(bl 0 0,[])]:=
 ⟨by kernel_rfl,trivial⟩
theorem ok52:PureOk Proofs.Tryz.prog 52 p52:=qac kf51_ok.base (T:=fun(d:Tys.data as52)=>t52) (by kernel_rfl) (fun(d:Tys.data as52)=>wP (wk52) (by kernel_rfl))
def kf52(P:Go.Program):Known:=(kf51 P).func 52 p52
theorem kf52_ok:KnownOk Proofs.Tryz.prog (kf52 Proofs.Tryz.prog):=kf51_ok.func ok52
abbrev sh17_0:Sh:={ n:=26,slots:=[0,1,5],pats:=[.ty (.slice (.int .i64)),.ty (.slice (.int .i64)),.ty (.int .i64)],boxes:=[] }
abbrev shb17_0:Sh:={ n:=26,slots:=[],pats:=[],boxes:=[] }
abbrev shr17_0:Sh:={ n:=26,slots:=[4],pats:=[.ty .bool],boxes:=[] }
def t17_0(x0:(List Int))(x1:List Int)(x2:Int):Tr (Out sh17_0.data shb17_0.data shr17_0.data):= Tr.test ((!leF (↑(List.length x0):Int) x2:Bool)) (Tr.test (decide ((0:Int)≤x2)&&decide (x2<(↑(List.length x0):Int))) (Tr.test ((decide ((0:Int)≤x2)&&decide (x2<(↑(List.length x1):Int)):Bool)) (Tr.test ((!eqF (List.getD x0 (Int.toNat x2) (0:Int)) (List.getD x1 (Int.toNat x2) (0:Int)):Bool)) (Tr.fin (.ret (((false:Bool),()),()))) (Tr.fin (.again ((x0,(x1,((wrap64 (x2+(1:Int)):Int),()))),())))) (Tr.stop)) (Tr.stop)) (Tr.fin (.brk ((),())))
def s17_0(d:sh17_0.data):Option (Out sh17_0.data shb17_0.data shr17_0.data):=(t17_0 d.1.1 d.1.2.1 d.1.2.2.1).val
def l17_0(d:sh17_0.data):Option (shb17_0.data ⊕ shr17_0.data):=itr s17_0 rounds d
def b17_0(d:sh17_0.data):shb17_0.data:=outB shb17_0.dflt (l17_0 d)
def r17_0(d:sh17_0.data):shr17_0.data:=outR shr17_0.dflt (l17_0 d)
def lc17_0:LoopC:=lcOf sh17_0 shb17_0 shr17_0 l17_0 b17_0 r17_0
def ww0:List Nat:=[2]
def ww1:List Nat:=8::6::4::ww0
theorem wk17_0(x0:(List Int))(x1:List Int)(x2:Int):Walks (qar (kf52 Proofs.Tryz.prog).orc Proofs.Tryz.prog 400 17 0 sh17_0 shb17_0 shr17_0 ((x0,x1,x2,()),())) (t17_0 x0 x1 x2) [(bl 4 15,ww1),(bl 4 7,ww1),(bl 1 0,ww0)]:=
 ⟨by kernel_rfl,by kernel_rfl,by kernel_rfl,trivial⟩
theorem ok17_0:qau Proofs.Tryz.prog 17 0 lc17_0:=qaF (sh:=sh17_0) (shB:=shb17_0) (shR:=shr17_0) kf52_ok.base (T:=fun(d:sh17_0.data)=>t17_0 d.1.1 d.1.2.1 d.1.2.2.1) (by kernel_rfl) rfl (fun(d:sh17_0.data)=>wB (wk17_0 d.1.1 d.1.2.1 d.1.2.2.1) (by kernel_rfl)) (fun _=>rfl)
def kl17_0(P:Go.Program):Known:=(kf52 P).loop 17 0 lc17_0
theorem kl17_0_ok:KnownOk Proofs.Tryz.prog (kl17_0 Proofs.Tryz.prog):=kf52_ok.loop ok17_0
abbrev as17:List Ty:=[(.slice (.int .i64)),(.slice (.int .i64))]
abbrev rs17:List Ty:=[.bool]
def t17(x0:(List Int))(x1:List Int):Tr (Tys.data rs17):= Tr.test ((!eqF (↑(List.length x0):Int) (↑(List.length x1):Int):Bool)) (Tr.fin ((false,()))) (Tr.test (Option.isSome (l17_0 ((x0,(x1,((0:Int),()))),()))) (Tr.test (qas (l17_0 ((x0,(x1,((0:Int),()))),()))) (let r0:=r17_0 ((x0,(x1,((0:Int),()))),());Tr.fin ((r0.1.1,()))) (Tr.fin (((true:Bool),())))) (Tr.stop))
def f17(d:Tys.data as17):Option (Tys.data rs17):=(t17 d.1 d.2.1).val
def g17(d:Tys.data as17):Tys.data rs17:=(f17 d).getD (Tys.dflt rs17)
def p17:PureC:=pcOf as17 rs17 f17 g17
def ww2:List Nat:=[2]
def ww3:List Nat:=6::4::ww2
theorem wk17(x0:(List Int))(x1:List Int):Walks (runPure (kl17_0 Proofs.Tryz.prog).orc Proofs.Tryz.prog 400 17 as17 rs17 (x0,x1,())) (t17 x0 x1) [(bl 1 1,ww2),(bl 3 6,ww3),(bl 3 2,ww3)]:=
 ⟨by kernel_rfl,by kernel_rfl,by kernel_rfl,trivial⟩
theorem ok17:PureOk Proofs.Tryz.prog 17 p17:=qac kl17_0_ok.base (T:=fun(d:Tys.data as17)=>t17 d.1 d.2.1) (by kernel_rfl) (fun(d:Tys.data as17)=>wP (wk17 d.1 d.2.1) (by kernel_rfl))
def kf17(P:Go.Program):Known:=(kl17_0 P).func 17 p17
theorem kf17_ok:KnownOk Proofs.Tryz.prog (kf17 Proofs.Tryz.prog):=kl17_0_ok.func ok17
abbrev sh31_0:Sh:={ n:=26,slots:=[0,1,5],pats:=[.ty (.slice (.pair (.int .i64) (.pair (.int .i64) .unit))),.ty (.slice (.pair (.int .i64) (.pair (.int .i64) .unit))),.ty (.int .i64)],boxes:=[] }
abbrev shb31_0:Sh:={ n:=26,slots:=[],pats:=[],boxes:=[] }
abbrev shr31_0:Sh:={ n:=26,slots:=[4],pats:=[.ty .bool],boxes:=[] }
def t31_0(x0:(List (Int×(Int×Unit))))(x1:List (Int×(Int×Unit)))(x2:Int):Tr (Out sh31_0.data shb31_0.data shr31_0.data):= Tr.test ((!leF (↑(List.length x0):Int) x2:Bool)) (Tr.test (decide ((0:Int)≤x2)&&decide (x2<(↑(List.length x0):Int))) (Tr.test ((decide ((0:Int)≤x2)&&decide (x2<(↑(List.length x1):Int)):Bool)) (Tr.test ((!((List.getD x0 (Int.toNat x2) ((0:Int),(0:Int),())).1==(List.getD x1 (Int.toNat x2) ((0:Int),(0:Int),())).1&&((List.getD x0 (Int.toNat x2) ((0:Int),(0:Int),())).2.1==(List.getD x1 (Int.toNat x2) ((0:Int),(0:Int),())).2.1&&true)):Bool)) (Tr.fin (.ret (((false:Bool),()),()))) (Tr.fin (.again ((x0,(x1,((wrap64 (x2+(1:Int)):Int),()))),())))) (Tr.stop)) (Tr.stop)) (Tr.fin (.brk ((),())))
def s31_0(d:sh31_0.data):Option (Out sh31_0.data shb31_0.data shr31_0.data):=(t31_0 d.1.1 d.1.2.1 d.1.2.2.1).val
def l31_0(d:sh31_0.data):Option (shb31_0.data ⊕ shr31_0.data):=itr s31_0 rounds d
def b31_0(d:sh31_0.data):shb31_0.data:=outB shb31_0.dflt (l31_0 d)
def r31_0(d:sh31_0.data):shr31_0.data:=outR shr31_0.dflt (l31_0 d)
def lc31_0:LoopC:=lcOf sh31_0 shb31_0 shr31_0 l31_0 b31_0 r31_0
def ww4:List Nat:=[2]
def ww5:List Nat:=8::6::4::ww4
theorem wk31_0(x0:(List (Int×(Int×Unit))))(x1:List (Int×(Int×Unit)))(x2:Int):Walks (qar (kf17 Proofs.Tryz.prog).orc Proofs.Tryz.prog 400 31 0 sh31_0 shb31_0 shr31_0 ((x0,x1,x2,()),())) (t31_0 x0 x1 x2) [(bl 4 15,ww5),(bl 4 7,ww5),(bl 1 0,ww4)]:=
 ⟨by kernel_rfl,by kernel_rfl,by kernel_rfl,trivial⟩
theorem ok31_0:qau Proofs.Tryz.prog 31 0 lc31_0:=qaF (sh:=sh31_0) (shB:=shb31_0) (shR:=shr31_0) kf17_ok.base (T:=fun(d:sh31_0.data)=>t31_0 d.1.1 d.1.2.1 d.1.2.2.1) (by kernel_rfl) rfl (fun(d:sh31_0.data)=>wB (wk31_0 d.1.1 d.1.2.1 d.1.2.2.1) (by kernel_rfl)) (fun _=>rfl)
def kl31_0(P:Go.Program):Known:=(kf17 P).loop 31 0 lc31_0
theorem kl31_0_ok:KnownOk Proofs.Tryz.prog (kl31_0 Proofs.Tryz.prog):=kf17_ok.loop ok31_0
abbrev as31:List Ty:=[(.slice (.pair (.int .i64) (.pair (.int .i64) .unit))),(.slice (.pair (.int .i64) (.pair (.int .i64) .unit)))]
abbrev rs31:List Ty:=[.bool]
def t31(x0:(List (Int×(Int×Unit))))(x1:List (Int×(Int×Unit))):Tr (Tys.data rs31):= Tr.test ((!eqF (↑(List.length x0):Int) (↑(List.length x1):Int):Bool)) (Tr.fin ((false,()))) (Tr.test (Option.isSome (l31_0 ((x0,(x1,((0:Int),()))),()))) (Tr.test (qas (l31_0 ((x0,(x1,((0:Int),()))),()))) (let r0:=r31_0 ((x0,(x1,((0:Int),()))),());Tr.fin ((r0.1.1,()))) (Tr.fin (((true:Bool),())))) (Tr.stop))
def f31(d:Tys.data as31):Option (Tys.data rs31):=(t31 d.1 d.2.1).val
def g31(d:Tys.data as31):Tys.data rs31:=(f31 d).getD (Tys.dflt rs31)
def p31:PureC:=pcOf as31 rs31 f31 g31
def ww6:List Nat:=[2]
def ww7:List Nat:=6::4::ww6
theorem wk31(x0:(List (Int×(Int×Unit))))(x1:List (Int×(Int×Unit))):Walks (runPure (kl31_0 Proofs.Tryz.prog).orc Proofs.Tryz.prog 400 31 as31 rs31 (x0,x1,())) (t31 x0 x1) [(bl 1 1,ww6),(bl 3 6,ww7),(bl 3 2,ww7)]:=
 ⟨by kernel_rfl,by kernel_rfl,by kernel_rfl,trivial⟩
theorem ok31:PureOk Proofs.Tryz.prog 31 p31:=qac kl31_0_ok.base (T:=fun(d:Tys.data as31)=>t31 d.1 d.2.1) (by kernel_rfl) (fun(d:Tys.data as31)=>wP (wk31 d.1 d.2.1) (by kernel_rfl))
def kf31(P:Go.Program):Known:=(kl31_0 P).func 31 p31
theorem kf31_ok:KnownOk Proofs.Tryz.prog (kf31 Proofs.Tryz.prog):=kl31_0_ok.func ok31
abbrev as6:List Ty:=[]
abbrev rs6:List Ty:=[.bool]
def f6(_:Tys.data as6):Option (Tys.data rs6):=some (true,())
def g6(_:Tys.data as6):Tys.data rs6:=(true,())
def p6:PureC:=pcOf as6 rs6 f6 g6
theorem e6:qkb (kf31 Proofs.Tryz.prog).orc Proofs.Tryz.prog 400 6 as6 rs6 () none=some ((true,()),[]):=by kernel_rfl
theorem ok6:PureOk Proofs.Tryz.prog 6 p6:=qjn kf31_ok.base (by kernel_rfl) e6 All.nil
def kf6(P:Go.Program):Known:=(kf31 P).func 6 p6
theorem kf6_ok:KnownOk Proofs.Tryz.prog (kf6 Proofs.Tryz.prog):=kf31_ok.func ok6
abbrev as32:List Ty:=[(.int .i64),(.int .i64),(.int .i64)]
abbrev rs32:List Ty:=[.bool]
def t32(x0:Int)(x1:Int)(x2:Int):Tr (Tys.data rs32):= Tr.test ((leF x1 x0:Bool)) (Tr.fin ((leF x0 x2,()))) (Tr.fin ((false,())))
def f32(d:Tys.data as32):Option (Tys.data rs32):=(t32 d.1 d.2.1 d.2.2.1).val
def g32(d:Tys.data as32):Tys.data rs32:=(f32 d).getD (Tys.dflt rs32)
def p32:PureC:=pcOf as32 rs32 f32 g32
def ww8:List Nat:=[2,2,2,2]
theorem wk32(x0:Int)(x1:Int)(x2:Int):Walks (runPure (kf6 Proofs.Tryz.prog).orc Proofs.Tryz.prog 400 32 as32 rs32 (x0,x1,x2,())) (t32 x0 x1 x2) [(bl 1 1,ww8),(bl 1 0,ww8)]:=
 ⟨by kernel_rfl,by kernel_rfl,trivial⟩
theorem ok32:PureOk Proofs.Tryz.prog 32 p32:=qac kf6_ok.base (T:=fun(d:Tys.data as32)=>t32 d.1 d.2.1 d.2.2.1) (by kernel_rfl) (fun(d:Tys.data as32)=>wP (wk32 d.1 d.2.1 d.2.2.1) (by kernel_rfl))
def kf32(P:Go.Program):Known:=(kf6 P).func 32 p32
theorem kf32_ok:KnownOk Proofs.Tryz.prog (kf32 Proofs.Tryz.prog):=kf6_ok.func ok32
abbrev sh27_0:Sh:={ n:=46,slots:=[1,4],pats:=[.ptr 0 2 0,.ty (.int .i64)],boxes:=[.row [.ty (.slice (.int .i64)),.ty (.slice (.int .i64))]] }
abbrev shb27_0:Sh:={ n:=46,slots:=[],pats:=[],boxes:=[.row [.ty (.slice (.int .i64)),.ty (.slice (.int .i64))]] }
abbrev shr27_0:Sh:={ n:=46,slots:=[2,3],pats:=[.ty (.int .i64),.ty (.int .i64)],boxes:=[.row [.ty (.slice (.int .i64)),.ty (.slice (.int .i64))]] }
def t27_0(x1:Int)(b0_0:List Int)(b0_1:List Int):Tr (Out sh27_0.data shb27_0.data shr27_0.data):= Tr.test ((!leF (↑(List.length b0_0):Int) x1:Bool)) (Tr.test (decide ((0:Int)≤x1)&&decide (x1<(↑(List.length b0_0):Int))) (Tr.test (Option.isSome (f32 ((List.getD b0_0 (Int.toNat x1) (0:Int):Int),((1:Int),((20:Int),()))))) (let r0:=g32 ((List.getD b0_0 (Int.toNat x1) (0:Int):Int),((1:Int),((20:Int),())));Tr.test ((!r0.1:Bool)) (Tr.fin (.ret ((x1,((2:Int),())),((b0_0,(b0_1,())),())))) (Tr.test ((decide ((0:Int)≤x1)&&decide (x1<(↑(List.length b0_1):Int)):Bool)) (Tr.test (Option.isSome (f32 ((List.getD b0_1 (Int.toNat x1) (0:Int):Int),((-1000:Int),((1000:Int),()))))) (let r1:=g32 ((List.getD b0_1 (Int.toNat x1) (0:Int):Int),((-1000:Int),((1000:Int),())));Tr.test ((!r1.1:Bool)) (Tr.fin (.ret ((x1,((2:Int),())),((b0_0,(b0_1,())),())))) (Tr.fin (.again (((wrap64 (x1+(1:Int)):Int),()),((b0_0,(b0_1,())),()))))) (Tr.stop)) (Tr.stop))) (Tr.stop)) (Tr.stop)) (Tr.fin (.brk ((),((b0_0,(b0_1,())),()))))
def s27_0(d:sh27_0.data):Option (Out sh27_0.data shb27_0.data shr27_0.data):=(t27_0 d.1.1 d.2.1.1 d.2.1.2.1).val
def l27_0(d:sh27_0.data):Option (shb27_0.data ⊕ shr27_0.data):=itr s27_0 rounds d
def b27_0(d:sh27_0.data):shb27_0.data:=outB shb27_0.dflt (l27_0 d)
def r27_0(d:sh27_0.data):shr27_0.data:=outR shr27_0.dflt (l27_0 d)
def lc27_0:LoopC:=lcOf sh27_0 shb27_0 shr27_0 l27_0 b27_0 r27_0
def ww9:List Nat:=[2]
def wwa:List Nat:=pk 6 4 519586320 ww9
def wwb:List Nat:=pk 7 7 18805768624 wwa
theorem wk27_0(x1:Int)(b0_0:List Int)(b0_1:List Int):Walks (qar (kf32 Proofs.Tryz.prog).orc Proofs.Tryz.prog 400 27 0 sh27_0 shb27_0 shr27_0 ((x1,()),(b0_0,b0_1,()),())) (t27_0 x1 b0_0 b0_1) [(bl 4 15,1::8::8::8::8::wwa),(bl 7 119,wwb),(bl 7 55,wwb),(bl 1 0,ww9)]:=by
 repeat refine⟨by kernel_rfl,?_⟩
 exact trivial
theorem ok27_0:qau Proofs.Tryz.prog 27 0 lc27_0:=qaF (sh:=sh27_0) (shB:=shb27_0) (shR:=shr27_0) kf32_ok.base (T:=fun(d:sh27_0.data)=>t27_0 d.1.1 d.2.1.1 d.2.1.2.1) (by kernel_rfl) rfl (fun(d:sh27_0.data)=>wB (wk27_0 d.1.1 d.2.1.1 d.2.1.2.1) (by kernel_rfl)) (fun _=>rfl)
def kl27_0(P:Go.Program):Known:=(kf32 P).loop 27 0 lc27_0
theorem kl27_0_ok:KnownOk Proofs.Tryz.prog (kl27_0 Proofs.Tryz.prog):=kf32_ok.loop ok27_0
abbrev as27:List Ty:=[(.pair (.slice (.int .i64)) (.pair (.slice (.int .i64)) .unit))]
abbrev rs27:List Ty:=[(.int .i64),(.int .i64)]
def t27(x0:(List Int))(x0':List Int):Tr (Tys.data rs27):= Tr.test ((eqF (↑(List.length x0):Int) (0:Int):Bool)) (Tr.fin (((0:Int),((10:Int),())))) (Tr.test (!eqF (↑(List.length x0'):Int) (↑(List.length x0):Int)) (Tr.fin (((0:Int),((10:Int),())))) (Tr.test ((!leF (↑(List.length x0):Int) (6:Int):Bool)) (Tr.fin (((0:Int),((8:Int),())))) (Tr.test (Option.isSome (l27_0 (((0:Int),()),((x0,(x0',())),())))) (Tr.test (qas (l27_0 (((0:Int),()),((x0,(x0',())),())))) (let r0:=r27_0 (((0:Int),()),((x0,(x0',())),()));Tr.fin ((r0.1.1,(r0.1.2.1,())))) (Tr.fin (((0:Int),((0:Int),()))))) (Tr.stop))))
def f27(d:Tys.data as27):Option (Tys.data rs27):=(t27 d.1.1 d.1.2.1).val
def g27(d:Tys.data as27):Tys.data rs27:=(f27 d).getD (Tys.dflt rs27)
def p27:PureC:=pcOf as27 rs27 f27 g27
def wwc:List Nat:=[2,2,2,2,2,2,2,2]
def wwd:List Nat:=4::wwc
def wwe:List Nat:=6::wwd
def wwf:List Nat:=10::8::wwe
theorem wk27(x0:(List Int))(x0':List Int):Walks (runPure (kl27_0 Proofs.Tryz.prog).orc Proofs.Tryz.prog 400 27 as27 rs27 ((x0,x0',()),())) (t27 x0 x0') [(bl 1 1,1::wwc),(bl 2 2,wwd),(bl 3 4,wwe),(bl 5 24,wwf),(bl 5 8,wwf)]:=by
 repeat refine⟨by kernel_rfl,?_⟩
 exact trivial
theorem ok27:PureOk Proofs.Tryz.prog 27 p27:=qac kl27_0_ok.base (T:=fun(d:Tys.data as27)=>t27 d.1.1 d.1.2.1) (by kernel_rfl) (fun(d:Tys.data as27)=>wP (wk27 d.1.1 d.1.2.1) (by kernel_rfl))
def kf27(P:Go.Program):Known:=(kl27_0 P).func 27 p27
theorem kf27_ok:KnownOk Proofs.Tryz.prog (kf27 Proofs.Tryz.prog):=kl27_0_ok.func ok27
abbrev as35:List Ty:=[(.pair (.slice (.int .i64)) (.pair (.slice (.int .i64)) .unit))]
abbrev rs35:List Ty:=[(.int .i64)]
def t35(x0:(List Int))(x0':List Int):Tr (Tys.data rs35):= Tr.test (Option.isSome (f27 ((x0,(x0',())),()))) (let r0:=g27 ((x0,(x0',())),());Tr.fin ((r0.2.1,()))) (Tr.stop)
def f35(d:Tys.data as35):Option (Tys.data rs35):=(t35 d.1.1 d.1.2.1).val
def g35(d:Tys.data as35):Tys.data rs35:=(f35 d).getD (Tys.dflt rs35)
def p35:PureC:=pcOf as35 rs35 f35 g35
theorem wk35(x0:(List Int))(x0':List Int):Walks (runPure (kf27 Proofs.Tryz.prog).orc Proofs.Tryz.prog 400 35 as35 rs35 ((x0,x0',()),())) (t35 x0 x0') [(bl 1 1,[2])]:=
 ⟨by kernel_rfl,trivial⟩
theorem ok35:PureOk Proofs.Tryz.prog 35 p35:=qac kf27_ok.base (T:=fun(d:Tys.data as35)=>t35 d.1.1 d.1.2.1) (by kernel_rfl) (fun(d:Tys.data as35)=>wP (wk35 d.1.1 d.1.2.1) (by kernel_rfl))
def kf35(P:Go.Program):Known:=(kf27 P).func 35 p35
theorem kf35_ok:KnownOk Proofs.Tryz.prog (kf35 Proofs.Tryz.prog):=kf27_ok.func ok35
abbrev as60:List Ty:=[.bool,(.int .i64)]
abbrev rs60:List Ty:=[(.int .i64)]
def t60(x0:Bool)(x1:Int):Tr (Tys.data rs60):= Tr.test (x0) (Tr.fin ((x1,()))) (Tr.fin (((0:Int),())))
def f60(d:Tys.data as60):Option (Tys.data rs60):=(t60 d.1 d.2.1).val
def g60(d:Tys.data as60):Tys.data rs60:=(f60 d).getD (Tys.dflt rs60)
def p60:PureC:=pcOf as60 rs60 f60 g60
def wwg:List Nat:=[2]
theorem wk60(x0:Bool)(x1:Int):Walks (runPure (kf35 Proofs.Tryz.prog).orc Proofs.Tryz.prog 400 60 as60 rs60 (x0,x1,())) (t60 x0 x1) [(bl 1 1,wwg),(bl 1 0,wwg)]:=
 ⟨by kernel_rfl,by kernel_rfl,trivial⟩
theorem ok60:PureOk Proofs.Tryz.prog 60 p60:=qac kf35_ok.base (T:=fun(d:Tys.data as60)=>t60 d.1 d.2.1) (by kernel_rfl) (fun(d:Tys.data as60)=>wP (wk60 d.1 d.2.1) (by kernel_rfl))
def kf60(P:Go.Program):Known:=(kf35 P).func 60 p60
theorem kf60_ok:KnownOk Proofs.Tryz.prog (kf60 Proofs.Tryz.prog):=kf35_ok.func ok60
abbrev sh64_0:Sh:={ n:=15,slots:=[5,6,7],pats:=[.ty (.slice (.int .i64)),.ty (.int .i64),.ty (.int .i64)],boxes:=[] }
abbrev shb64_0:Sh:={ n:=15,slots:=[],pats:=[],boxes:=[] }
abbrev shr64_0:Sh:={ n:=15,slots:=[2],pats:=[.ty (.int .i64)],boxes:=[] }
def t64_0(x0:(List Int))(x1:Int)(x2:Int):Tr (Out sh64_0.data shb64_0.data shr64_0.data):= Tr.test ((!leF x1 x2:Bool)) (Tr.test (decide ((0:Int)≤x2)&&decide (x2<(↑(List.length x0):Int))) (Tr.test ((!eqF (List.getD x0 (Int.toNat x2) (0:Int)) (0:Int):Bool)) (Tr.fin (.ret (((List.getD x0 (Int.toNat x2) (0:Int):Int),()),()))) (Tr.fin (.again ((x0,(x1,((wrap64 (x2+(1:Int)):Int),()))),())))) (Tr.stop)) (Tr.fin (.brk ((),())))
def s64_0(d:sh64_0.data):Option (Out sh64_0.data shb64_0.data shr64_0.data):=(t64_0 d.1.1 d.1.2.1 d.1.2.2.1).val
def l64_0(d:sh64_0.data):Option (shb64_0.data ⊕ shr64_0.data):=itr s64_0 rounds d
def b64_0(d:sh64_0.data):shb64_0.data:=outB shb64_0.dflt (l64_0 d)
def r64_0(d:sh64_0.data):shr64_0.data:=outR shr64_0.dflt (l64_0 d)
def lc64_0:LoopC:=lcOf sh64_0 shb64_0 shr64_0 l64_0 b64_0 r64_0
def wwh:List Nat:=[2]
def wwi:List Nat:=6::4::wwh
theorem wk64_0(x0:(List Int))(x1:Int)(x2:Int):Walks (qar (kf60 Proofs.Tryz.prog).orc Proofs.Tryz.prog 400 64 0 sh64_0 shb64_0 shr64_0 ((x0,x1,x2,()),())) (t64_0 x0 x1 x2) [(bl 3 7,wwi),(bl 3 3,wwi),(bl 1 0,wwh)]:=
 ⟨by kernel_rfl,by kernel_rfl,by kernel_rfl,trivial⟩
theorem ok64_0:qau Proofs.Tryz.prog 64 0 lc64_0:=qaF (sh:=sh64_0) (shB:=shb64_0) (shR:=shr64_0) kf60_ok.base (T:=fun(d:sh64_0.data)=>t64_0 d.1.1 d.1.2.1 d.1.2.2.1) (by kernel_rfl) rfl (fun(d:sh64_0.data)=>wB (wk64_0 d.1.1 d.1.2.1 d.1.2.2.1) (by kernel_rfl)) (fun _=>rfl)
def kl64_0(P:Go.Program):Known:=(kf60 P).loop 64 0 lc64_0
theorem kl64_0_ok:KnownOk Proofs.Tryz.prog (kl64_0 Proofs.Tryz.prog):=kf60_ok.loop ok64_0
abbrev as64:List Ty:=[(.slice (.int .i64))]
abbrev rs64:List Ty:=[(.int .i64)]
def t64(x0:(List Int)):Tr (Tys.data rs64):= Tr.test (Option.isSome (l64_0 ((x0,((↑(List.length x0):Int),((0:Int),()))),()))) (Tr.test (qas (l64_0 ((x0,((↑(List.length x0):Int),((0:Int),()))),()))) (let r0:=r64_0 ((x0,((↑(List.length x0):Int),((0:Int),()))),());Tr.fin ((r0.1.1,()))) (Tr.fin (((0:Int),())))) (Tr.stop)
def f64(d:Tys.data as64):Option (Tys.data rs64):=(t64 d.1).val
def g64(d:Tys.data as64):Tys.data rs64:=(f64 d).getD (Tys.dflt rs64)
def p64:PureC:=pcOf as64 rs64 f64 g64
def wwj:List Nat:=[4,2]
theorem wk64(x0:(List Int)):Walks (runPure (kl64_0 Proofs.Tryz.prog).orc Proofs.Tryz.prog 400 64 as64 rs64 (x0,())) (t64 x0) [(bl 2 3,wwj),(bl 2 1,wwj)]:=
 ⟨by kernel_rfl,by kernel_rfl,trivial⟩
theorem ok64:PureOk Proofs.Tryz.prog 64 p64:=qac kl64_0_ok.base (T:=fun(d:Tys.data as64)=>t64 d.1) (by kernel_rfl) (fun(d:Tys.data as64)=>wP (wk64 d.1) (by kernel_rfl))
def kf64(P:Go.Program):Known:=(kl64_0 P).func 64 p64
theorem kf64_ok:KnownOk Proofs.Tryz.prog (kf64 Proofs.Tryz.prog):=kl64_0_ok.func ok64
abbrev sh77_0:Sh:={ n:=24,slots:=[0,1,9,10,11],pats:=[.ty (.int .i64),.ty (.int .i64),.ty (.slice (.int .i64)),.ty (.int .i64),.ty (.int .i64)],boxes:=[] }
abbrev shb77_0:Sh:={ n:=24,slots:=[],pats:=[],boxes:=[] }
abbrev shr77_0:Sh:={ n:=24,slots:=[6],pats:=[.ty .bool],boxes:=[] }
def t77_0(x0:Int)(x1:Int)(x2:List Int)(x3:Int)(x4:Int):Tr (Out sh77_0.data shb77_0.data shr77_0.data):= Tr.test ((!leF x3 x4:Bool)) (Tr.test (decide ((0:Int)≤x4)&&decide (x4<(↑(List.length x2):Int))) (Tr.test ((!leF x0 (List.getD x2 (Int.toNat x4) (0:Int)):Bool)) (Tr.fin (.ret (((false:Bool),()),()))) (Tr.test ((!leF (List.getD x2 (Int.toNat x4) (0:Int)) x1:Bool)) (Tr.fin (.ret (((false:Bool),()),()))) (Tr.fin (.again ((x0,(x1,(x2,(x3,((wrap64 (x4+(1:Int)):Int),()))))),()))))) (Tr.stop)) (Tr.fin (.brk ((),())))
def s77_0(d:sh77_0.data):Option (Out sh77_0.data shb77_0.data shr77_0.data):=(t77_0 d.1.1 d.1.2.1 d.1.2.2.1 d.1.2.2.2.1 d.1.2.2.2.2.1).val
def l77_0(d:sh77_0.data):Option (shb77_0.data ⊕ shr77_0.data):=itr s77_0 rounds d
def b77_0(d:sh77_0.data):shb77_0.data:=outB shb77_0.dflt (l77_0 d)
def r77_0(d:sh77_0.data):shr77_0.data:=outR shr77_0.dflt (l77_0 d)
def lc77_0:LoopC:=lcOf sh77_0 shb77_0 shr77_0 l77_0 b77_0 r77_0
def wwk:List Nat:=[2]
def wwl:List Nat:=6::6::6::6::4::wwk
def wwm:List Nat:=8::wwl
theorem wk77_0(x0:Int)(x1:Int)(x2:List Int)(x3:Int)(x4:Int):Walks (qar (kf64 Proofs.Tryz.prog).orc Proofs.Tryz.prog 400 77 0 sh77_0 shb77_0 shr77_0 ((x0,x1,x2,x3,x4,()),())) (t77_0 x0 x1 x2 x3 x4) [(bl 3 7,1::wwl),(bl 4 11,wwm),(bl 4 3,wwm),(bl 1 0,wwk)]:=by
 repeat refine⟨by kernel_rfl,?_⟩
 exact trivial
theorem ok77_0:qau Proofs.Tryz.prog 77 0 lc77_0:=qaF (sh:=sh77_0) (shB:=shb77_0) (shR:=shr77_0) kf64_ok.base (T:=fun(d:sh77_0.data)=>t77_0 d.1.1 d.1.2.1 d.1.2.2.1 d.1.2.2.2.1 d.1.2.2.2.2.1) (by kernel_rfl) rfl (fun(d:sh77_0.data)=>wB (wk77_0 d.1.1 d.1.2.1 d.1.2.2.1 d.1.2.2.2.1 d.1.2.2.2.2.1) (by kernel_rfl)) (fun _=>rfl)
def kl77_0(P:Go.Program):Known:=(kf64 P).loop 77 0 lc77_0
theorem kl77_0_ok:KnownOk Proofs.Tryz.prog (kl77_0 Proofs.Tryz.prog):=kf64_ok.loop ok77_0
abbrev as77:List Ty:=[(.int .i64),(.int .i64),(.slice (.int .i64))]
abbrev rs77:List Ty:=[.bool]
def t77(x0:Int)(x1:Int)(x2:List Int):Tr (Tys.data rs77):= Tr.test (Option.isSome (l77_0 ((x0,(x1,(x2,((↑(List.length x2):Int),((0:Int),()))))),()))) (Tr.test (qas (l77_0 ((x0,(x1,(x2,((↑(List.length x2):Int),((0:Int),()))))),()))) (let r0:=r77_0 ((x0,(x1,(x2,((↑(List.length x2):Int),((0:Int),()))))),());Tr.fin ((r0.1.1,()))) (Tr.fin (((true:Bool),())))) (Tr.stop)
def f77(d:Tys.data as77):Option (Tys.data rs77):=(t77 d.1 d.2.1 d.2.2.1).val
def g77(d:Tys.data as77):Tys.data rs77:=(f77 d).getD (Tys.dflt rs77)
def p77:PureC:=pcOf as77 rs77 f77 g77
def wwn:List Nat:=[4,2]
theorem wk77(x0:Int)(x1:Int)(x2:List Int):Walks (runPure (kl77_0 Proofs.Tryz.prog).orc Proofs.Tryz.prog 400 77 as77 rs77 (x0,x1,x2,())) (t77 x0 x1 x2) [(bl 2 3,wwn),(bl 2 1,wwn)]:=
 ⟨by kernel_rfl,by kernel_rfl,trivial⟩
theorem ok77:PureOk Proofs.Tryz.prog 77 p77:=qac kl77_0_ok.base (T:=fun(d:Tys.data as77)=>t77 d.1 d.2.1 d.2.2.1) (by kernel_rfl) (fun(d:Tys.data as77)=>wP (wk77 d.1 d.2.1 d.2.2.1) (by kernel_rfl))
def kf77(P:Go.Program):Known:=(kl77_0 P).func 77 p77
theorem kf77_ok:KnownOk Proofs.Tryz.prog (kf77 Proofs.Tryz.prog):=kl77_0_ok.func ok77
abbrev as78:List Ty:=[(.int .i64),(.slice (.int .i64))]
abbrev rs78:List Ty:=[.bool]
def t78(x0:Int)(x1:List Int):Tr (Tys.data rs78):= Tr.test (Option.isSome (f77 ((Go.IntKind.wrap Go.IntKind.i64 ((0:Int)-x0):Int),(x0,(x1,()))))) (let r0:=g77 ((Go.IntKind.wrap Go.IntKind.i64 ((0:Int)-x0):Int),(x0,(x1,())));Tr.fin (((!r0.1:Bool),()))) (Tr.stop)
def f78(d:Tys.data as78):Option (Tys.data rs78):=(t78 d.1 d.2.1).val
def g78(d:Tys.data as78):Tys.data rs78:=(f78 d).getD (Tys.dflt rs78)
def p78:PureC:=pcOf as78 rs78 f78 g78
theorem wk78(x0:Int)(x1:List Int):Walks (runPure (kf77 Proofs.Tryz.prog).orc Proofs.Tryz.prog 400 78 as78 rs78 (x0,x1,())) (t78 x0 x1) [(bl 1 1,[2])]:=
 ⟨by kernel_rfl,trivial⟩
theorem ok78:PureOk Proofs.Tryz.prog 78 p78:=qac kf77_ok.base (T:=fun(d:Tys.data as78)=>t78 d.1 d.2.1) (by kernel_rfl) (fun(d:Tys.data as78)=>wP (wk78 d.1 d.2.1) (by kernel_rfl))
def kf78(P:Go.Program):Known:=(kf77 P).func 78 p78
theorem kf78_ok:KnownOk Proofs.Tryz.prog (kf78 Proofs.Tryz.prog):=kf77_ok.func ok78
abbrev sh75_0:Sh:={ n:=25,slots:=[1,9,10,11],pats:=[.fn 76 [(0,2)],.ty (.slice (.int .i64)),.ty (.int .i64),.ty (.int .i64)],boxes:=[.row [.ty (.slice (.int .i64)),.ty (.slice (.int .i64))]] }
abbrev shb75_0:Sh:={ n:=25,slots:=[],pats:=[],boxes:=[.row [.ty (.slice (.int .i64)),.ty (.slice (.int .i64))]] }
abbrev shr75_0:Sh:={ n:=25,slots:=[4,5],pats:=[.ty (.int .i64),.ty (.int .i64)],boxes:=[.row [.ty (.slice (.int .i64)),.ty (.slice (.int .i64))]] }
def t75_0(x1:(List Int))(x2:Int)(x3:Int)(b0_0:List Int)(b0_1:List Int):Tr (Out sh75_0.data shb75_0.data shr75_0.data):= Tr.test ((!leF x2 x3:Bool)) (Tr.test (decide ((0:Int)≤x3)&&decide (x3<(↑(List.length x1):Int))) (Tr.test (Option.isSome (f77 ((1:Int),((20:Int),(([List.getD x1 (Int.toNat x3) (0:Int)]:List Int),()))))) (let r0:=g77 ((1:Int),((20:Int),(([List.getD x1 (Int.toNat x3) (0:Int)]:List Int),())));Tr.test (r0.1) (Tr.test ((decide ((0:Int)≤x3)&&decide (x3<(↑(List.length b0_1):Int)):Bool)) (Tr.test (Option.isSome (f78 ((1000:Int),(([List.getD b0_1 (Int.toNat x3) (0:Int)]:List Int),())))) (let r1:=g78 ((1000:Int),(([List.getD b0_1 (Int.toNat x3) (0:Int)]:List Int),()));Tr.test (Option.isSome (f60 ((!!r1.1:Bool),((2:Int),())))) (let r2:=g60 ((!!r1.1:Bool),((2:Int),()));Tr.test ((!eqF r2.1 0:Bool)) (Tr.fin (.ret ((x3,(r2.1,())),((b0_0,(b0_1,())),())))) (Tr.fin (.again ((x1,(x2,((wrap64 (x3+(1:Int)):Int),()))),((b0_0,(b0_1,())),()))))) (Tr.stop)) (Tr.stop)) (Tr.stop)) (Tr.test (Option.isSome (f60 ((true:Bool),((2:Int),())))) (let r3:=g60 ((true:Bool),((2:Int),()));Tr.test ((!eqF r3.1 0:Bool)) (Tr.fin (.ret ((x3,(r3.1,())),((b0_0,(b0_1,())),())))) (Tr.fin (.again ((x1,(x2,((wrap64 (x3+(1:Int)):Int),()))),((b0_0,(b0_1,())),()))))) (Tr.stop))) (Tr.stop)) (Tr.stop)) (Tr.fin (.brk ((),((b0_0,(b0_1,())),()))))
def s75_0(d:sh75_0.data):Option (Out sh75_0.data shb75_0.data shr75_0.data):=(t75_0 d.1.1 d.1.2.1 d.1.2.2.1 d.2.1.1 d.2.1.2.1).val
def l75_0(d:sh75_0.data):Option (shb75_0.data ⊕ shr75_0.data):=itr s75_0 rounds d
def b75_0(d:sh75_0.data):shb75_0.data:=outB shb75_0.dflt (l75_0 d)
def r75_0(d:sh75_0.data):shr75_0.data:=outR shr75_0.dflt (l75_0 d)
def lc75_0:LoopC:=lcOf sh75_0 shb75_0 shr75_0 l75_0 b75_0 r75_0
def wwo:List Nat:=[2]
def wwp:List Nat:=pk 6 4 519586320 wwo
def wwq:List Nat:=pk 9 8 19259122529776 wwp
def wwr:List Nat:=pk 7 6 17734057456 wwp
theorem wk75_0(x1:(List Int))(x2:Int)(x3:Int)(b0_0:List Int)(b0_1:List Int):Walks (qar (kf78 Proofs.Tryz.prog).orc Proofs.Tryz.prog 400 75 0 sh75_0 shb75_0 shr75_0 ((x1,x2,x3,()),(b0_0,b0_1,()),())) (t75_0 x1 x2 x3 b0_0 b0_1) [(bl 8 255,wwq),(bl 8 127,wwq),(bl 6 55,wwr),(bl 6 23,wwr),(bl 1 0,wwo)]:=by
 repeat refine⟨by kernel_rfl,?_⟩
 exact trivial
theorem ok75_0:qau Proofs.Tryz.prog 75 0 lc75_0:=qaF (sh:=sh75_0) (shB:=shb75_0) (shR:=shr75_0) kf78_ok.base (T:=fun(d:sh75_0.data)=>t75_0 d.1.1 d.1.2.1 d.1.2.2.1 d.2.1.1 d.2.1.2.1) (by kernel_rfl) rfl (fun(d:sh75_0.data)=>wB (wk75_0 d.1.1 d.1.2.1 d.1.2.2.1 d.2.1.1 d.2.1.2.1) (by kernel_rfl)) (fun _=>rfl)
def kl75_0(P:Go.Program):Known:=(kf78 P).loop 75 0 lc75_0
theorem kl75_0_ok:KnownOk Proofs.Tryz.prog (kl75_0 Proofs.Tryz.prog):=kf78_ok.loop ok75_0
abbrev as20:List Ty:=[(.pair (.slice (.int .i64)) (.pair (.slice (.int .i64)) .unit))]
abbrev rs20:List Ty:=[(.int .i64),(.int .i64)]
def t20(x0:(List Int))(x0':List Int):Tr (Tys.data rs20):= Tr.test ((eqF (↑(List.length x0):Int) (0:Int):Bool)) (Tr.test (Option.isSome (f60 (true,((10:Int),())))) (Tr.test (Option.isSome (f60 ((!leF (↑(List.length x0):Int) (6:Int):Bool),((8:Int),())))) (let r0:=g60 ((true:Bool),((10:Int),()));let r1:=g60 ((!leF (↑(List.length x0):Int) (6:Int):Bool),((8:Int),()));Tr.test (Option.isSome (f64 (([r0.1,r1.1]:List Int),()))) (let r2:=g64 (([r0.1,r1.1]:List Int),());Tr.test ((!eqF r2.1 0:Bool)) (Tr.fin (((0:Int),(r2.1,())))) (Tr.test (Option.isSome (l75_0 ((x0,((↑(List.length x0):Int),((0:Int),()))),((x0,(x0',())),())))) (Tr.test (qas (l75_0 ((x0,((↑(List.length x0):Int),((0:Int),()))),((x0,(x0',())),())))) (let r3:=r75_0 ((x0,((↑(List.length x0):Int),((0:Int),()))),((x0,(x0',())),()));Tr.fin ((r3.1.1,(r3.1.2.1,())))) (Tr.fin (((0:Int),((0:Int),()))))) (Tr.stop))) (Tr.stop)) (Tr.stop)) (Tr.stop)) (Tr.test (Option.isSome (f60 (!eqF (↑(List.length x0'):Int) (↑(List.length x0):Int),((10:Int),())))) (Tr.test (Option.isSome (f60 ((!leF (↑(List.length x0):Int) (6:Int):Bool),((8:Int),())))) (let r1:=g60 ((!leF (↑(List.length x0):Int) (6:Int):Bool),((8:Int),()));let r5:=g60 ((!eqF (↑(List.length x0'):Int) (↑(List.length x0):Int):Bool),((10:Int),()));Tr.test (Option.isSome (f64 (([r5.1,r1.1]:List Int),()))) (let r6:=g64 (([r5.1,r1.1]:List Int),());Tr.test ((!eqF r6.1 0:Bool)) (Tr.fin (((0:Int),(r6.1,())))) (Tr.test (Option.isSome (l75_0 ((x0,((↑(List.length x0):Int),((0:Int),()))),((x0,(x0',())),())))) (Tr.test (qas (l75_0 ((x0,((↑(List.length x0):Int),((0:Int),()))),((x0,(x0',())),())))) (let r3:=r75_0 ((x0,((↑(List.length x0):Int),((0:Int),()))),((x0,(x0',())),()));Tr.fin ((r3.1.1,(r3.1.2.1,())))) (Tr.fin (((0:Int),((0:Int),()))))) (Tr.stop))) (Tr.stop)) (Tr.stop)) (Tr.stop))
def f20(d:Tys.data as20):Option (Tys.data rs20):=(t20 d.1.1 d.1.2.1).val
def g20(d:Tys.data as20):Tys.data rs20:=(f20 d).getD (Tys.dflt rs20)
def p20:PureC:=pcOf as20 rs20 f20 g20
def wws:List Nat:=[10,8,6,4,2,2,2,2,2,2]
def wwt:List Nat:=14::12::wws
theorem wk20(x0:(List Int))(x0':List Int):Walks (runPure (kl75_0 Proofs.Tryz.prog).orc Proofs.Tryz.prog 400 20 as20 rs20 ((x0,x0',()),())) (t20 x0 x0') [(bl 5 31,wws),(bl 7 111,wwt),(bl 7 47,wwt),(bl 5 30,wws),(bl 7 110,wwt),(bl 7 46,wwt)]:=by
 repeat refine⟨by kernel_rfl,?_⟩
 exact trivial
theorem ok20:PureOk Proofs.Tryz.prog 20 p20:=qac kl75_0_ok.base (T:=fun(d:Tys.data as20)=>t20 d.1.1 d.1.2.1) (by kernel_rfl) (fun(d:Tys.data as20)=>wP (wk20 d.1.1 d.1.2.1) (by kernel_rfl))
def kf20(P:Go.Program):Known:=(kl75_0 P).func 20 p20
theorem kf20_ok:KnownOk Proofs.Tryz.prog (kf20 Proofs.Tryz.prog):=kl75_0_ok.func ok20
abbrev as118:List Ty:=[]
abbrev rs118:List Ty:=[(.pair (.int .i64) (.pair (.int .i64) .unit))]
def t118 :Tr (Tys.data rs118):= Tr.fin ((((0:Int),((1:Int),())),()))
def f118(d:Tys.data as118):Option (Tys.data rs118):=(t118).val
def g118(d:Tys.data as118):Tys.data rs118:=(f118 d).getD (Tys.dflt rs118)
def p118:PureC:=pcOf as118 rs118 f118 g118
theorem wk118 :Walks (runPure (kf20 Proofs.Tryz.prog).orc Proofs.Tryz.prog 400 118 as118 rs118 ()) (t118) [(bl 0 0,[])]:=
 ⟨by kernel_rfl,trivial⟩
theorem ok118:PureOk Proofs.Tryz.prog 118 p118:=qac kf20_ok.base (T:=fun(d:Tys.data as118)=>t118) (by kernel_rfl) (fun(d:Tys.data as118)=>wP (wk118) (by kernel_rfl))
def kf118(P:Go.Program):Known:=(kf20 P).func 118 p118
theorem kf118_ok:KnownOk Proofs.Tryz.prog (kf118 Proofs.Tryz.prog):=kf20_ok.func ok118
abbrev as79:List Ty:=[(.pair (.slice (.int .i64)) (.pair (.slice (.int .i64)) .unit))]
abbrev rs79:List Ty:=[(.pair (.pair (.slice (.int .i64)) (.pair (.slice (.int .i64)) .unit)) (.pair (.pair (.int .i64) (.pair (.int .i64) .unit)) .unit)),(.int .i64)]
def t79(x0:(List Int))(x0':List Int):Tr (Tys.data rs79):= Tr.test (Option.isSome (f20 ((x0,(x0',())),()))) (let r0:=g20 ((x0,(x0',())),());Tr.test ((!eqF r0.2.1 0:Bool)) (Tr.fin ((((([]:List Int),(([]:List Int),())),(((0:Int),((0:Int),())),())),(r0.2.1,())))) (Tr.test (Option.isSome (f118 ())) (let r1:=g118 ();Tr.fin ((((x0,(x0',())),((r1.1.1,(r1.1.2.1,())),())),((0:Int),())))) (Tr.stop))) (Tr.stop)
def f79(d:Tys.data as79):Option (Tys.data rs79):=(t79 d.1.1 d.1.2.1).val
def g79(d:Tys.data as79):Tys.data rs79:=(f79 d).getD (Tys.dflt rs79)
def p79:PureC:=pcOf as79 rs79 f79 g79
def wwu:List Nat:=[4,2]
theorem wk79(x0:(List Int))(x0':List Int):Walks (runPure (kf118 Proofs.Tryz.prog).orc Proofs.Tryz.prog 400 79 as79 rs79 ((x0,x0',()),())) (t79 x0 x0') [(bl 2 3,wwu),(bl 3 5,6::wwu)]:=
 ⟨by kernel_rfl,by kernel_rfl,trivial⟩
theorem ok79:PureOk Proofs.Tryz.prog 79 p79:=qac kf118_ok.base (T:=fun(d:Tys.data as79)=>t79 d.1.1 d.1.2.1) (by kernel_rfl) (fun(d:Tys.data as79)=>wP (wk79 d.1.1 d.1.2.1) (by kernel_rfl))
def kf79(P:Go.Program):Known:=(kf118 P).func 79 p79
theorem kf79_ok:KnownOk Proofs.Tryz.prog (kf79 Proofs.Tryz.prog):=kf118_ok.func ok79
abbrev sh85_0:Sh:={ n:=23,slots:=[5,12,13,14],pats:=[.ty (.int .i64),.ty (.slice (.int .i64)),.ty (.int .i64),.ty (.int .i64)],boxes:=[] }
abbrev shb85_0:Sh:={ n:=23,slots:=[5],pats:=[.ty (.int .i64)],boxes:=[] }
abbrev shr85_0:Sh:={ n:=23,slots:=[],pats:=[],boxes:=[] }
def t85_0(x0:Int)(x1:List Int)(x2:Int)(x3:Int):Tr (Out sh85_0.data shb85_0.data shr85_0.data):= Tr.test ((!leF x2 x3:Bool)) (Tr.test (decide ((0:Int)≤x3)&&decide (x3<(↑(List.length x1):Int))) (Tr.fin (.again (((wrap64 (x0+List.getD x1 (Int.toNat x3) (0:Int)):Int),(x1,(x2,((wrap64 (x3+(1:Int)):Int),())))),()))) (Tr.stop)) (Tr.fin (.brk ((x0,()),())))
def s85_0(d:sh85_0.data):Option (Out sh85_0.data shb85_0.data shr85_0.data):=(t85_0 d.1.1 d.1.2.1 d.1.2.2.1 d.1.2.2.2.1).val
def l85_0(d:sh85_0.data):Option (shb85_0.data ⊕ shr85_0.data):=itr s85_0 rounds d
def b85_0(d:sh85_0.data):shb85_0.data:=outB shb85_0.dflt (l85_0 d)
def lc85_0:LoopC:=lcB sh85_0 shb85_0 shr85_0 l85_0 b85_0
def wwv:List Nat:=[2]
theorem wk85_0(x0:Int)(x1:List Int)(x2:Int)(x3:Int):Walks (qar (kf79 Proofs.Tryz.prog).orc Proofs.Tryz.prog 400 85 0 sh85_0 shb85_0 shr85_0 ((x0,x1,x2,x3,()),())) (t85_0 x0 x1 x2 x3) [(bl 2 3,4::wwv),(bl 1 0,wwv)]:=
 ⟨by kernel_rfl,by kernel_rfl,trivial⟩
theorem ok85_0:qau Proofs.Tryz.prog 85 0 lc85_0:=qaC (sh:=sh85_0) (shB:=shb85_0) (shR:=shr85_0) kf79_ok.base (T:=fun(d:sh85_0.data)=>t85_0 d.1.1 d.1.2.1 d.1.2.2.1 d.1.2.2.2.1) (by kernel_rfl) rfl (fun(d:sh85_0.data)=>wB (wk85_0 d.1.1 d.1.2.1 d.1.2.2.1 d.1.2.2.2.1) (by kernel_rfl)) (fun _=>rfl)
def kl85_0(P:Go.Program):Known:=(kf79 P).loop 85 0 lc85_0
theorem kl85_0_ok:KnownOk Proofs.Tryz.prog (kl85_0 Proofs.Tryz.prog):=kf79_ok.loop ok85_0
abbrev as85:List Ty:=[(.pair (.pair (.slice (.int .i64)) (.pair (.slice (.int .i64)) .unit)) (.pair (.pair (.int .i64) (.pair (.int .i64) .unit)) .unit)),(.int .i64)]
abbrev rs85:List Ty:=[(.int .i64)]
def t85(x0_:(List Int))(x0_':List Int)(x0'_:Int)(x0'_':Int)(x1:Int):Tr (Tys.data rs85):= Tr.test ((decide ((0:Int)≤x1)&&decide (x1≤(↑(List.length x0_'):Int)):Bool)) (Tr.test (qax (l85_0 (((0:Int),((List.drop (Int.toNat x1) x0_':List Int),((↑(List.length (List.drop (Int.toNat x1) x0_')):Int),((0:Int),())))),()))) (let r0:=b85_0 (((0:Int),((List.drop (Int.toNat x1) x0_':List Int),((↑(List.length (List.drop (Int.toNat x1) x0_')):Int),((0:Int),())))),());Tr.fin ((r0.1.1,()))) (Tr.stop)) (Tr.stop)
def f85(d:Tys.data as85):Option (Tys.data rs85):=(t85 d.1.1.1 d.1.1.2.1 d.1.2.1.1 d.1.2.1.2.1 d.2.1).val
def g85(d:Tys.data as85):Tys.data rs85:=(f85 d).getD (Tys.dflt rs85)
def p85:PureC:=pcOf as85 rs85 f85 g85
theorem wk85(x0_:(List Int))(x0_':List Int)(x0'_:Int)(x0'_':Int)(x1:Int):Walks (runPure (kl85_0 Proofs.Tryz.prog).orc Proofs.Tryz.prog 400 85 as85 rs85 (((x0_,x0_',()),(x0'_,x0'_',()),()),x1,())) (t85 x0_ x0_' x0'_ x0'_' x1) [(bl 2 3,[1,4,2])]:=
 ⟨by kernel_rfl,trivial⟩
theorem ok85:PureOk Proofs.Tryz.prog 85 p85:=qac kl85_0_ok.base (T:=fun(d:Tys.data as85)=>t85 d.1.1.1 d.1.1.2.1 d.1.2.1.1 d.1.2.1.2.1 d.2.1) (by kernel_rfl) (fun(d:Tys.data as85)=>wP (wk85 d.1.1.1 d.1.1.2.1 d.1.2.1.1 d.1.2.1.2.1 d.2.1) (by kernel_rfl))
def kf85(P:Go.Program):Known:=(kl85_0 P).func 85 p85
theorem kf85_ok:KnownOk Proofs.Tryz.prog (kf85 Proofs.Tryz.prog):=kl85_0_ok.func ok85
abbrev sh123_0:Sh:={ n:=15,slots:=[0,1],pats:=[.ty (.int .i64),.ty (.int .i64)],boxes:=[] }
abbrev shb123_0:Sh:={ n:=15,slots:=[0],pats:=[.ty (.int .i64)],boxes:=[] }
abbrev shr123_0:Sh:={ n:=15,slots:=[],pats:=[],boxes:=[] }
def t123_0(x0:Int)(x1:Int):Tr (Out sh123_0.data shb123_0.data shr123_0.data):= Tr.test ((!eqF x1 0:Bool)) (Tr.test (x1==(0:Int)) (Tr.stop) (Tr.fin (.again ((x1,((Int.tmod x0 x1:Int),())),())))) (Tr.fin (.brk ((x0,()),())))
def s123_0(d:sh123_0.data):Option (Out sh123_0.data shb123_0.data shr123_0.data):=(t123_0 d.1.1 d.1.2.1).val
def l123_0(d:sh123_0.data):Option (shb123_0.data ⊕ shr123_0.data):=itr s123_0 rounds d
def b123_0(d:sh123_0.data):shb123_0.data:=outB shb123_0.dflt (l123_0 d)
def lc123_0:LoopC:=lcB sh123_0 shb123_0 shr123_0 l123_0 b123_0
def www:List Nat:=[2]
theorem wk123_0(x0:Int)(x1:Int):Walks (qar (kf85 Proofs.Tryz.prog).orc Proofs.Tryz.prog 400 123 0 sh123_0 shb123_0 shr123_0 ((x0,x1,()),())) (t123_0 x0 x1) [(bl 2 1,4::www),(bl 1 0,www)]:=
 ⟨by kernel_rfl,by kernel_rfl,trivial⟩
theorem ok123_0:qau Proofs.Tryz.prog 123 0 lc123_0:=qaC (sh:=sh123_0) (shB:=shb123_0) (shR:=shr123_0) kf85_ok.base (T:=fun(d:sh123_0.data)=>t123_0 d.1.1 d.1.2.1) (by kernel_rfl) rfl (fun(d:sh123_0.data)=>wB (wk123_0 d.1.1 d.1.2.1) (by kernel_rfl)) (fun _=>rfl)
def kl123_0(P:Go.Program):Known:=(kf85 P).loop 123 0 lc123_0
theorem kl123_0_ok:KnownOk Proofs.Tryz.prog (kl123_0 Proofs.Tryz.prog):=kf85_ok.loop ok123_0
abbrev as123:List Ty:=[(.int .i64),(.int .i64)]
abbrev rs123:List Ty:=[(.int .i64)]
def t123(x0:Int)(x1:Int):Tr (Tys.data rs123):= Tr.test (qax (l123_0 ((x0,(x1,())),()))) (let r0:=b123_0 ((x0,(x1,())),());Tr.fin (((if r0.1.1<Go.IntKind.wrap Go.IntKind.i64 ((0:Int)-r0.1.1)then Go.IntKind.wrap Go.IntKind.i64 ((0:Int)-r0.1.1)else r0.1.1:Int),()))) (Tr.stop)
def f123(d:Tys.data as123):Option (Tys.data rs123):=(t123 d.1 d.2.1).val
def g123(d:Tys.data as123):Tys.data rs123:=(f123 d).getD (Tys.dflt rs123)
def p123:PureC:=pcOf as123 rs123 f123 g123
theorem wk123(x0:Int)(x1:Int):Walks (runPure (kl123_0 Proofs.Tryz.prog).orc Proofs.Tryz.prog 400 123 as123 rs123 (x0,x1,())) (t123 x0 x1) [(bl 1 1,[1,2])]:=
 ⟨by kernel_rfl,trivial⟩
theorem ok123:PureOk Proofs.Tryz.prog 123 p123:=qac kl123_0_ok.base (T:=fun(d:Tys.data as123)=>t123 d.1 d.2.1) (by kernel_rfl) (fun(d:Tys.data as123)=>wP (wk123 d.1 d.2.1) (by kernel_rfl))
def kf123(P:Go.Program):Known:=(kl123_0 P).func 123 p123
theorem kf123_ok:KnownOk Proofs.Tryz.prog (kf123 Proofs.Tryz.prog):=kl123_0_ok.func ok123
abbrev as120:List Ty:=[(.int .i64),(.int .i64)]
abbrev rs120:List Ty:=[(.pair (.int .i64) (.pair (.int .i64) .unit))]
def t120(x0:Int)(x1:Int):Tr (Tys.data rs120):= Tr.test (Option.isSome (f123 (x1,(x0,())))) (let r0:=g123 (x1,(x0,()));Tr.test ((r0.1==(0:Int):Bool)) (Tr.stop) (Tr.fin ((((Go.IntKind.wrap Go.IntKind.i64 (Int.tdiv x0 r0.1):Int),((Go.IntKind.wrap Go.IntKind.i64 (Int.tdiv x1 r0.1):Int),())),())))) (Tr.stop)
def f120(d:Tys.data as120):Option (Tys.data rs120):=(t120 d.1 d.2.1).val
def g120(d:Tys.data as120):Tys.data rs120:=(f120 d).getD (Tys.dflt rs120)
def p120:PureC:=pcOf as120 rs120 f120 g120
theorem wk120(x0:Int)(x1:Int):Walks (runPure (kf123 Proofs.Tryz.prog).orc Proofs.Tryz.prog 400 120 as120 rs120 (x0,x1,())) (t120 x0 x1) [(bl 2 1,[4,4,2])]:=
 ⟨by kernel_rfl,trivial⟩
theorem ok120:PureOk Proofs.Tryz.prog 120 p120:=qac kf123_ok.base (T:=fun(d:Tys.data as120)=>t120 d.1 d.2.1) (by kernel_rfl) (fun(d:Tys.data as120)=>wP (wk120 d.1 d.2.1) (by kernel_rfl))
def kf120(P:Go.Program):Known:=(kf123 P).func 120 p120
theorem kf120_ok:KnownOk Proofs.Tryz.prog (kf120 Proofs.Tryz.prog):=kf123_ok.func ok120
abbrev as119:List Ty:=[(.pair (.int .i64) (.pair (.int .i64) .unit)),(.pair (.int .i64) (.pair (.int .i64) .unit))]
abbrev rs119:List Ty:=[(.pair (.int .i64) (.pair (.int .i64) .unit))]
def t119(x0:Int)(x0':Int)(x1:Int)(x1':Int):Tr (Tys.data rs119):= Tr.test (Option.isSome (f120 ((wrap64 (wrap64 (x0*x1')+wrap64 (x1*x0')):Int),((wrap64 (x0'*x1'):Int),())))) (let r0:=g120 ((wrap64 (wrap64 (x0*x1')+wrap64 (x1*x0')):Int),((wrap64 (x0'*x1'):Int),()));Tr.fin (((r0.1.1,(r0.1.2.1,())),()))) (Tr.stop)
def f119(d:Tys.data as119):Option (Tys.data rs119):=(t119 d.1.1 d.1.2.1 d.2.1.1 d.2.1.2.1).val
def g119(d:Tys.data as119):Tys.data rs119:=(f119 d).getD (Tys.dflt rs119)
def p119:PureC:=pcOf as119 rs119 f119 g119
theorem wk119(x0:Int)(x0':Int)(x1:Int)(x1':Int):Walks (runPure (kf120 Proofs.Tryz.prog).orc Proofs.Tryz.prog 400 119 as119 rs119 ((x0,x0',()),(x1,x1',()),())) (t119 x0 x0' x1 x1') [(bl 1 1,[2])]:=
 ⟨by kernel_rfl,trivial⟩
theorem ok119:PureOk Proofs.Tryz.prog 119 p119:=qac kf120_ok.base (T:=fun(d:Tys.data as119)=>t119 d.1.1 d.1.2.1 d.2.1.1 d.2.1.2.1) (by kernel_rfl) (fun(d:Tys.data as119)=>wP (wk119 d.1.1 d.1.2.1 d.2.1.1 d.2.1.2.1) (by kernel_rfl))
def kf119(P:Go.Program):Known:=(kf120 P).func 119 p119
theorem kf119_ok:KnownOk Proofs.Tryz.prog (kf119 Proofs.Tryz.prog):=kf120_ok.func ok119
abbrev sh80_0:Sh:={ n:=36,slots:=[1,3,4,16,17,18],pats:=[.ptr 0 4 0,.sli 1 2,.ptr 2 2 0,.ty (.slice (.int .i64)),.ty (.int .i64),.ty (.int .i64)],boxes:=[.row [.ty (.slice (.int .i64)),.ty (.slice (.int .i64)),.ty (.int .i64),.ty (.int .i64)],.arr (.pair (.int .i64) (.pair (.int .i64) .unit)),.row [.ty (.int .i64),.ty (.int .i64)]] }
abbrev shb80_0:Sh:={ n:=36,slots:=[3],pats:=[.sli 1 2],boxes:=[.row [.ty (.slice (.int .i64)),.ty (.slice (.int .i64)),.ty (.int .i64),.ty (.int .i64)],.arr (.pair (.int .i64) (.pair (.int .i64) .unit)),.row [.ty (.int .i64),.ty (.int .i64)]] }
abbrev shr80_0:Sh:={ n:=36,slots:=[],pats:=[],boxes:=[.row [.ty (.slice (.int .i64)),.ty (.slice (.int .i64)),.ty (.int .i64),.ty (.int .i64)],.arr (.pair (.int .i64) (.pair (.int .i64) .unit)),.row [.ty (.int .i64),.ty (.int .i64)]] }
def t80_0(x1n:Nat)(x1c:Nat)(x3:List Int)(x4:Int)(x5:Int)(b0_0:List Int)(b0_1:List Int)(b0_2:Int)(b0_3:Int)(b1:List (Int×(Int×Unit)))(b2_0:Int)(b2_1:Int):Tr (Out sh80_0.data shb80_0.data shr80_0.data):= Tr.test ((!leF x4 x5:Bool)) (Tr.test (decide ((0:Int)≤x5)&&decide (x5<(↑(List.length x3):Int))) (Tr.test (Option.isSome (f85 (((b0_0,(b0_1,())),((b0_2,(b0_3,())),())),(x5,())))) (let r0:=g85 (((b0_0,(b0_1,())),((b0_2,(b0_3,())),())),(x5,()));Tr.test (Option.isSome (f120 (r0.1,((List.getD x3 (Int.toNat x5) (0:Int):Int),())))) (let r1:=g120 (r0.1,((List.getD x3 (Int.toNat x5) (0:Int):Int),()));Tr.test (Option.isSome (f119 ((b2_0,(b2_1,())),((r1.1.1,(r1.1.2.1,())),())))) (Tr.test ((decide ((0:Int)≤x5)&&decide (x5<(↑x1n:Int)):Bool)) (Tr.test ((Nat.ble ((0:Nat)+Int.toNat x5+(1:Nat)) (List.length b1):Bool)) (let r2:=g119 ((b2_0,(b2_1,())),((r1.1.1,(r1.1.2.1,())),()));Tr.fin (.again (((x1n,x1c),(x3,(x4,((wrap64 (x5+(1:Int)):Int),())))),((b0_0,(b0_1,(b0_2,(b0_3,())))),((List.set b1 ((0:Nat)+Int.toNat x5) (r2.1.1,r2.1.2.1,()):List (Int×Int×PUnit)),((r2.1.1,(r2.1.2.1,())),())))))) (Tr.stop)) (Tr.stop)) (Tr.stop)) (Tr.stop)) (Tr.stop)) (Tr.stop)) (Tr.fin (.brk (((x1n,x1c),()),((b0_0,(b0_1,(b0_2,(b0_3,())))),(b1,((b2_0,(b2_1,())),()))))))
def s80_0(d:sh80_0.data):Option (Out sh80_0.data shb80_0.data shr80_0.data):=(t80_0 d.1.1.1 d.1.1.2 d.1.2.1 d.1.2.2.1 d.1.2.2.2.1 d.2.1.1 d.2.1.2.1 d.2.1.2.2.1 d.2.1.2.2.2.1 d.2.2.1 d.2.2.2.1.1 d.2.2.2.1.2.1).val
def l80_0(d:sh80_0.data):Option (shb80_0.data ⊕ shr80_0.data):=itr s80_0 rounds d
def b80_0(d:sh80_0.data):shb80_0.data:=outB shb80_0.dflt (l80_0 d)
def lc80_0:LoopC:=lcB sh80_0 shb80_0 shr80_0 l80_0 b80_0
def wwx:List Nat:=[2]
theorem wk80_0(x1n:Nat)(x1c:Nat)(x3:List Int)(x4:Int)(x5:Int)(b0_0:List Int)(b0_1:List Int)(b0_2:Int)(b0_3:Int)(b1:List (Int×(Int×Unit)))(b2_0:Int)(b2_1:Int):Walks (qar (kf119 Proofs.Tryz.prog).orc Proofs.Tryz.prog 400 80 0 sh80_0 shb80_0 shr80_0 (((x1n,x1c),x3,x4,x5,()),(b0_0,b0_1,b0_2,b0_3,()),b1,(b2_0,b2_1,()),())) (t80_0 x1n x1c x3 x4 x5 b0_0 b0_1 b0_2 b0_3 b1 b2_0 b2_1) [(bl 7 127,pk 6 7 519552496 wwx),(bl 1 0,wwx)]:=
 ⟨by kernel_rfl,by kernel_rfl,trivial⟩
theorem ok80_0:qau Proofs.Tryz.prog 80 0 lc80_0:=qaC (sh:=sh80_0) (shB:=shb80_0) (shR:=shr80_0) kf119_ok.base (T:=fun(d:sh80_0.data)=>t80_0 d.1.1.1 d.1.1.2 d.1.2.1 d.1.2.2.1 d.1.2.2.2.1 d.2.1.1 d.2.1.2.1 d.2.1.2.2.1 d.2.1.2.2.2.1 d.2.2.1 d.2.2.2.1.1 d.2.2.2.1.2.1) (by kernel_rfl) rfl (fun(d:sh80_0.data)=>wB (wk80_0 d.1.1.1 d.1.1.2 d.1.2.1 d.1.2.2.1 d.1.2.2.2.1 d.2.1.1 d.2.1.2.1 d.2.1.2.2.1 d.2.1.2.2.2.1 d.2.2.1 d.2.2.2.1.1 d.2.2.2.1.2.1) (by kernel_rfl)) (fun _=>rfl)
def kl80_0(P:Go.Program):Known:=(kf119 P).loop 80 0 lc80_0
theorem kl80_0_ok:KnownOk Proofs.Tryz.prog (kl80_0 Proofs.Tryz.prog):=kf119_ok.loop ok80_0
abbrev as80:List Ty:=[(.pair (.pair (.slice (.int .i64)) (.pair (.slice (.int .i64)) .unit)) (.pair (.pair (.int .i64) (.pair (.int .i64) .unit)) .unit))]
abbrev rs80:List Ty:=[(.slice (.pair (.int .i64) (.pair (.int .i64) .unit)))]
def t80(x0_:(List Int))(x0_':List Int)(x0'_:Int)(x0'_':Int):Tr (Tys.data rs80):= Tr.test ((decide ((0:Int)≤(↑(List.length x0_):Int))&&decide ((↑(List.length x0_):Int)≤(↑(List.length x0_):Int))&&decide ((16:Int)*(↑(List.length x0_):Int)≤(281474976710656:Int))&&decide ((↑(List.length x0_):Int)≤(281474976710656:Int)):Bool)) (Tr.test (qax (l80_0 ((((Int.toNat (↑(List.length x0_):Int):Nat),(Int.toNat (↑(List.length x0_):Int):Nat)),(x0_,((↑(List.length x0_):Int),((0:Int),())))),((x0_,(x0_',(x0'_,(x0'_',())))),((List.replicate (Int.toNat (↑(List.length x0_):Int)) ((0:Int),(0:Int),()):List (Int×Int×PUnit)),((x0'_,(x0'_',())),())))))) (let r0:=b80_0 ((((Int.toNat (↑(List.length x0_):Int):Nat),(Int.toNat (↑(List.length x0_):Int):Nat)),(x0_,((↑(List.length x0_):Int),((0:Int),())))),((x0_,(x0_',(x0'_,(x0'_',())))),((List.replicate (Int.toNat (↑(List.length x0_):Int)) ((0:Int),(0:Int),()):List (Int×Int×PUnit)),((x0'_,(x0'_',())),()))));Tr.test ((Nat.beq r0.1.1.1 (List.length r0.2.2.1):Bool)) (Tr.fin ((r0.2.2.1,()))) (Tr.test ((Nat.ble r0.1.1.1 (List.length r0.2.2.1):Bool)) (Tr.fin (((List.take r0.1.1.1 r0.2.2.1:List (Int×Int×PUnit)),()))) (Tr.stop))) (Tr.stop)) (Tr.stop)
def f80(d:Tys.data as80):Option (Tys.data rs80):=(t80 d.1.1.1 d.1.1.2.1 d.1.2.1.1 d.1.2.1.2.1).val
def g80(d:Tys.data as80):Tys.data rs80:=(f80 d).getD (Tys.dflt rs80)
def p80:PureC:=pcOf as80 rs80 f80 g80
def wwy:List Nat:=[6,1,4,2]
theorem wk80(x0_:(List Int))(x0_':List Int)(x0'_:Int)(x0'_':Int):Walks (runPure (kl80_0 Proofs.Tryz.prog).orc Proofs.Tryz.prog 400 80 as80 rs80 (((x0_,x0_',()),(x0'_,x0'_',()),()),())) (t80 x0_ x0_' x0'_ x0'_') [(bl 3 7,wwy),(bl 4 11,8::wwy)]:=
 ⟨by kernel_rfl,by kernel_rfl,trivial⟩
theorem ok80:PureOk Proofs.Tryz.prog 80 p80:=qac kl80_0_ok.base (T:=fun(d:Tys.data as80)=>t80 d.1.1.1 d.1.1.2.1 d.1.2.1.1 d.1.2.1.2.1) (by kernel_rfl) (fun(d:Tys.data as80)=>wP (wk80 d.1.1.1 d.1.1.2.1 d.1.2.1.1 d.1.2.1.2.1) (by kernel_rfl))
def kf80(P:Go.Program):Known:=(kl80_0 P).func 80 p80
theorem kf80_ok:KnownOk Proofs.Tryz.prog (kf80 Proofs.Tryz.prog):=kl80_0_ok.func ok80
abbrev as26:List Ty:=[(.pair (.slice (.int .i64)) (.pair (.slice (.int .i64)) .unit))]
abbrev rs26:List Ty:=[(.pair (.int .i64) (.pair (.int .i64) .unit)),(.int .i64)]
def t26(x0:(List Int))(x0':List Int):Tr (Tys.data rs26):= Tr.test (Option.isSome (f79 ((x0,(x0',())),()))) (let r0:=g79 ((x0,(x0',())),());Tr.test ((!eqF r0.2.1 0:Bool)) (Tr.fin ((((0:Int),((0:Int),())),(r0.2.1,())))) (Tr.test ((decide ((0:Int)≤wrap64 (wrap64 ((↑(List.length x0):Int)-(1:Int))+(1:Int)))&&decide (wrap64 (wrap64 ((↑(List.length x0):Int)-(1:Int))+(1:Int))≤wrap64 (wrap64 ((↑(List.length x0):Int)-(1:Int))+(1:Int)))&&decide ((8:Int)*wrap64 (wrap64 ((↑(List.length x0):Int)-(1:Int))+(1:Int))≤(281474976710656:Int))&&decide (wrap64 (wrap64 ((↑(List.length x0):Int)-(1:Int))+(1:Int))≤(281474976710656:Int)):Bool)) (Tr.test ((decide ((0:Int)≤wrap64 ((↑(List.length x0):Int)-(1:Int)))&&decide (wrap64 ((↑(List.length x0):Int)-(1:Int))<(↑(Int.toNat (wrap64 (wrap64 ((↑(List.length x0):Int)-(1:Int))+(1:Int)))):Int)):Bool)) (Tr.test ((Nat.ble ((0:Nat)+Int.toNat (wrap64 ((↑(List.length x0):Int)-(1:Int)))+(1:Nat)) (List.length (List.replicate (Int.toNat (wrap64 (wrap64 ((↑(List.length x0):Int)-(1:Int))+(1:Int)))) (0:Int))):Bool)) (Tr.test ((Nat.beq (Int.toNat (wrap64 (wrap64 ((↑(List.length x0):Int)-(1:Int))+(1:Int)))) (List.length (List.set (List.replicate (Int.toNat (wrap64 (wrap64 ((↑(List.length x0):Int)-(1:Int))+(1:Int)))) (0:Int)) ((0:Nat)+Int.toNat (wrap64 ((↑(List.length x0):Int)-(1:Int)))) (1:Int))):Bool)) (Tr.test (Option.isSome (f80 (((r0.1.1.1,((List.set (List.replicate (Int.toNat (wrap64 (wrap64 ((↑(List.length x0):Int)-(1:Int))+(1:Int)))) (0:Int)) ((0:Nat)+Int.toNat (wrap64 ((↑(List.length x0):Int)-(1:Int)))) (1:Int):List Int),())),((r0.1.2.1.1,(r0.1.2.1.2.1,())),())),()))) (let r1:=g80 (((r0.1.1.1,((List.set (List.replicate (Int.toNat (wrap64 (wrap64 ((↑(List.length x0):Int)-(1:Int))+(1:Int)))) (0:Int)) ((0:Nat)+Int.toNat (wrap64 ((↑(List.length x0):Int)-(1:Int)))) (1:Int):List Int),())),((r0.1.2.1.1,(r0.1.2.1.2.1,())),())),());Tr.test ((decide ((0:Int)≤wrap64 ((↑(List.length x0):Int)-(1:Int)))&&decide (wrap64 ((↑(List.length x0):Int)-(1:Int))<(↑(List.length r1.1):Int)):Bool)) (Tr.fin (((((List.getD r1.1 (Int.toNat (wrap64 ((↑(List.length x0):Int)-(1:Int)))) ((0:Int),(0:Int),())).2.1:Int),(((List.getD r1.1 (Int.toNat (wrap64 ((↑(List.length x0):Int)-(1:Int)))) ((0:Int),(0:Int),())).1:Int),())),((0:Int),())))) (Tr.stop)) (Tr.stop)) (Tr.stop)) (Tr.stop)) (Tr.stop)) (Tr.stop))) (Tr.stop)
def f26(d:Tys.data as26):Option (Tys.data rs26):=(t26 d.1.1 d.1.2.1).val
def g26(d:Tys.data as26):Tys.data rs26:=(f26 d).getD (Tys.dflt rs26)
def p26:PureC:=pcOf as26 rs26 f26 g26
def wwz:List Nat:=[4,2]
theorem wk26(x0:(List Int))(x0':List Int):Walks (runPure (kf80 Proofs.Tryz.prog).orc Proofs.Tryz.prog 400 26 as26 rs26 ((x0,x0',()),())) (t26 x0 x0') [(bl 2 3,wwz),(bl 8 253,pk 6 8 519552496 wwz)]:=
 ⟨by kernel_rfl,by kernel_rfl,trivial⟩
theorem ok26:PureOk Proofs.Tryz.prog 26 p26:=qac kf80_ok.base (T:=fun(d:Tys.data as26)=>t26 d.1.1 d.1.2.1) (by kernel_rfl) (fun(d:Tys.data as26)=>wP (wk26 d.1.1 d.1.2.1) (by kernel_rfl))
def kf26(P:Go.Program):Known:=(kf80 P).func 26 p26
theorem kf26_ok:KnownOk Proofs.Tryz.prog (kf26 Proofs.Tryz.prog):=kf80_ok.func ok26
abbrev as46:List Ty:=[(.int .i64)]
abbrev rs46:List Ty:=[(.int .i64)]
def t46(x0:Int):Tr (Tys.data rs46):= Tr.fin (((if x0<Go.IntKind.wrap Go.IntKind.i64 ((0:Int)-x0)then Go.IntKind.wrap Go.IntKind.i64 ((0:Int)-x0)else x0:Int),()))
def f46(d:Tys.data as46):Option (Tys.data rs46):=(t46 d.1).val
def g46(d:Tys.data as46):Tys.data rs46:=(f46 d).getD (Tys.dflt rs46)
def p46:PureC:=pcOf as46 rs46 f46 g46
theorem wk46(x0:Int):Walks (runPure (kf26 Proofs.Tryz.prog).orc Proofs.Tryz.prog 400 46 as46 rs46 (x0,())) (t46 x0) [(bl 0 0,[])]:=
 ⟨by kernel_rfl,trivial⟩
theorem ok46:PureOk Proofs.Tryz.prog 46 p46:=qac kf26_ok.base (T:=fun(d:Tys.data as46)=>t46 d.1) (by kernel_rfl) (fun(d:Tys.data as46)=>wP (wk46 d.1) (by kernel_rfl))
def kf46(P:Go.Program):Known:=(kf26 P).func 46 p46
theorem kf46_ok:KnownOk Proofs.Tryz.prog (kf46 Proofs.Tryz.prog):=kf26_ok.func ok46
abbrev sh91_0:Sh:={ n:=13,slots:=[0,1],pats:=[.ty (.int .i64),.ty (.int .i64)],boxes:=[] }
abbrev shb91_0:Sh:={ n:=13,slots:=[0],pats:=[.ty (.int .i64)],boxes:=[] }
abbrev shr91_0:Sh:={ n:=13,slots:=[],pats:=[],boxes:=[] }
def t91_0(x0:Int)(x1:Int):Tr (Out sh91_0.data shb91_0.data shr91_0.data):= Tr.test ((!eqF x1 0:Bool)) (Tr.test (x1==(0:Int)) (Tr.stop) (Tr.fin (.again ((x1,((Int.tmod x0 x1:Int),())),())))) (Tr.fin (.brk ((x0,()),())))
def s91_0(d:sh91_0.data):Option (Out sh91_0.data shb91_0.data shr91_0.data):=(t91_0 d.1.1 d.1.2.1).val
def l91_0(d:sh91_0.data):Option (shb91_0.data ⊕ shr91_0.data):=itr s91_0 rounds d
def b91_0(d:sh91_0.data):shb91_0.data:=outB shb91_0.dflt (l91_0 d)
def lc91_0:LoopC:=lcB sh91_0 shb91_0 shr91_0 l91_0 b91_0
def ww10:List Nat:=[2]
theorem wk91_0(x0:Int)(x1:Int):Walks (qar (kf46 Proofs.Tryz.prog).orc Proofs.Tryz.prog 400 91 0 sh91_0 shb91_0 shr91_0 ((x0,x1,()),())) (t91_0 x0 x1) [(bl 2 1,4::ww10),(bl 1 0,ww10)]:=
 ⟨by kernel_rfl,by kernel_rfl,trivial⟩
theorem ok91_0:qau Proofs.Tryz.prog 91 0 lc91_0:=qaC (sh:=sh91_0) (shB:=shb91_0) (shR:=shr91_0) kf46_ok.base (T:=fun(d:sh91_0.data)=>t91_0 d.1.1 d.1.2.1) (by kernel_rfl) rfl (fun(d:sh91_0.data)=>wB (wk91_0 d.1.1 d.1.2.1) (by kernel_rfl)) (fun _=>rfl)
def kl91_0(P:Go.Program):Known:=(kf46 P).loop 91 0 lc91_0
theorem kl91_0_ok:KnownOk Proofs.Tryz.prog (kl91_0 Proofs.Tryz.prog):=kf46_ok.loop ok91_0
abbrev as91:List Ty:=[(.int .i64),(.int .i64)]
abbrev rs91:List Ty:=[(.int .i64)]
def t91(x0:Int)(x1:Int):Tr (Tys.data rs91):= Tr.test (qax (l91_0 ((x0,(x1,())),()))) (let r0:=b91_0 ((x0,(x1,())),());Tr.test (Option.isSome (f46 (r0.1.1,()))) (let r1:=g46 (r0.1.1,());Tr.fin ((r1.1,()))) (Tr.stop)) (Tr.stop)
def f91(d:Tys.data as91):Option (Tys.data rs91):=(t91 d.1 d.2.1).val
def g91(d:Tys.data as91):Tys.data rs91:=(f91 d).getD (Tys.dflt rs91)
def p91:PureC:=pcOf as91 rs91 f91 g91
theorem wk91(x0:Int)(x1:Int):Walks (runPure (kl91_0 Proofs.Tryz.prog).orc Proofs.Tryz.prog 400 91 as91 rs91 (x0,x1,())) (t91 x0 x1) [(bl 2 3,[4,1,2])]:=
 ⟨by kernel_rfl,trivial⟩
theorem ok91:PureOk Proofs.Tryz.prog 91 p91:=qac kl91_0_ok.base (T:=fun(d:Tys.data as91)=>t91 d.1 d.2.1) (by kernel_rfl) (fun(d:Tys.data as91)=>wP (wk91 d.1 d.2.1) (by kernel_rfl))
def kf91(P:Go.Program):Known:=(kl91_0 P).func 91 p91
theorem kf91_ok:KnownOk Proofs.Tryz.prog (kf91 Proofs.Tryz.prog):=kl91_0_ok.func ok91
abbrev as36:List Ty:=[(.pair (.int .i64) (.pair (.int .i64) .unit))]
abbrev rs36:List Ty:=[.bool]
def t36(x0:Int)(x0':Int):Tr (Tys.data rs36):= Tr.test ((!leF x0' 0:Bool)) (Tr.test (Option.isSome (f91 (x0,(x0',())))) (let r0:=g91 (x0,(x0',()));Tr.fin (((eqF r0.1 1:Bool),()))) (Tr.stop)) (Tr.fin ((false,())))
def f36(d:Tys.data as36):Option (Tys.data rs36):=(t36 d.1.1 d.1.2.1).val
def g36(d:Tys.data as36):Tys.data rs36:=(f36 d).getD (Tys.dflt rs36)
def p36:PureC:=pcOf as36 rs36 f36 g36
def ww11:List Nat:=[2,2,2,2,2]
theorem wk36(x0:Int)(x0':Int):Walks (runPure (kf91 Proofs.Tryz.prog).orc Proofs.Tryz.prog 400 36 as36 rs36 ((x0,x0',()),())) (t36 x0 x0') [(bl 2 3,2::2::4::ww11),(bl 1 0,2::2::ww11)]:=
 ⟨by kernel_rfl,by kernel_rfl,trivial⟩
theorem ok36:PureOk Proofs.Tryz.prog 36 p36:=qac kf91_ok.base (T:=fun(d:Tys.data as36)=>t36 d.1.1 d.1.2.1) (by kernel_rfl) (fun(d:Tys.data as36)=>wP (wk36 d.1.1 d.1.2.1) (by kernel_rfl))
def kf36(P:Go.Program):Known:=(kf91 P).func 36 p36
theorem kf36_ok:KnownOk Proofs.Tryz.prog (kf36 Proofs.Tryz.prog):=kf91_ok.func ok36
abbrev as95:List Ty:=[(.int .i64),(.int .i64)]
abbrev rs95:List Ty:=[(.int .i64)]
def t95(x0:Int)(x1:Int):Tr (Tys.data rs95):= Tr.test ((x1==(0:Int):Bool)) (Tr.stop) (Tr.test (!leF (0:Int) (Int.tmod x0 x1)) (Tr.fin (((wrap64 (Go.IntKind.wrap Go.IntKind.i64 (Int.tdiv x0 x1)-(1:Int)):Int),()))) (Tr.fin (((Go.IntKind.wrap Go.IntKind.i64 (Int.tdiv x0 x1):Int),()))))
def f95(d:Tys.data as95):Option (Tys.data rs95):=(t95 d.1 d.2.1).val
def g95(d:Tys.data as95):Tys.data rs95:=(f95 d).getD (Tys.dflt rs95)
def p95:PureC:=pcOf as95 rs95 f95 g95
def ww12:List Nat:=[4,2,2]
theorem wk95(x0:Int)(x1:Int):Walks (runPure (kf36 Proofs.Tryz.prog).orc Proofs.Tryz.prog 400 95 as95 rs95 (x0,x1,())) (t95 x0 x1) [(bl 2 2,ww12),(bl 2 0,ww12)]:=
 ⟨by kernel_rfl,by kernel_rfl,trivial⟩
theorem ok95:PureOk Proofs.Tryz.prog 95 p95:=qac kf36_ok.base (T:=fun(d:Tys.data as95)=>t95 d.1 d.2.1) (by kernel_rfl) (fun(d:Tys.data as95)=>wP (wk95 d.1 d.2.1) (by kernel_rfl))
def kf95(P:Go.Program):Known:=(kf36 P).func 95 p95
theorem kf95_ok:KnownOk Proofs.Tryz.prog (kf95 Proofs.Tryz.prog):=kf36_ok.func ok95
abbrev sh37_0:Sh:={ n:=47,slots:=[0,1,2,3],pats:=[.ty (.int .i64),.ty (.int .i64),.ty (.int .i64),.ty (.int .i64)],boxes:=[] }
abbrev shb37_0:Sh:={ n:=47,slots:=[],pats:=[],boxes:=[] }
abbrev shr37_0:Sh:={ n:=47,slots:=[8],pats:=[.ty (.int .i64)],boxes:=[] }
def t37_0(x0:Int)(x1:Int)(x2:Int)(x3:Int):Tr (Out sh37_0.data shb37_0.data shr37_0.data):= Tr.test (Option.isSome (f95 (x0,(x1,())))) (Tr.test (Option.isSome (f95 (x2,(x3,())))) (let r0:=g95 (x0,(x1,()));let r1:=g95 (x2,(x3,()));Tr.test ((!leF r1.1 r0.1:Bool)) (Tr.fin (.ret (((-1:Int),()),()))) (Tr.test ((!leF r0.1 r1.1:Bool)) (Tr.fin (.ret (((1:Int),()),()))) (Tr.test ((eqF (wrap64 (x0-wrap64 (r0.1*x1))) (0:Int):Bool)) (Tr.test ((eqF (wrap64 (x2-wrap64 (r1.1*x3))) (0:Int):Bool)) (Tr.fin (.ret (((0:Int),()),()))) (Tr.fin (.ret (((-1:Int),()),())))) (Tr.test ((eqF (wrap64 (x2-wrap64 (r1.1*x3))) (0:Int):Bool)) (Tr.fin (.ret (((1:Int),()),()))) (Tr.fin (.again ((x3,((wrap64 (x2-wrap64 (r1.1*x3)):Int),(x1,((wrap64 (x0-wrap64 (r0.1*x1)):Int),())))),()))))))) (Tr.stop)) (Tr.stop)
def s37_0(d:sh37_0.data):Option (Out sh37_0.data shb37_0.data shr37_0.data):=(t37_0 d.1.1 d.1.2.1 d.1.2.2.1 d.1.2.2.2.1).val
def l37_0(d:sh37_0.data):Option (shb37_0.data ⊕ shr37_0.data):=itr s37_0 rounds d
def r37_0(d:sh37_0.data):shr37_0.data:=outR shr37_0.dflt (l37_0 d)
def lc37_0:LoopC:=lcR sh37_0 shb37_0 shr37_0 l37_0 r37_0
def ww13:List Nat:=[6,4,2]
def ww14:List Nat:=8::ww13
def ww15:List Nat:=10::10::10::ww14
def ww16:List Nat:=12::ww15
def ww17:List Nat:=12::10::0::ww15
theorem wk37_0(x0:Int)(x1:Int)(x2:Int)(x3:Int):Walks (qar (kf95 Proofs.Tryz.prog).orc Proofs.Tryz.prog 400 37 0 sh37_0 shb37_0 shr37_0 ((x0,x1,x2,x3,()),())) (t37_0 x0 x1 x2 x3) [(bl 3 7,ww13),(bl 4 11,ww14),(bl 6 51,ww16),(bl 6 19,10::ww16),(bl 6 35,ww17),(bl 6 3,ww17)]:=by
 repeat refine⟨by kernel_rfl,?_⟩
 exact trivial
theorem ok37_0:qau Proofs.Tryz.prog 37 0 lc37_0:=qnx (sh:=sh37_0) (shB:=shb37_0) (shR:=shr37_0) kf95_ok.base (T:=fun(d:sh37_0.data)=>t37_0 d.1.1 d.1.2.1 d.1.2.2.1 d.1.2.2.2.1) (by kernel_rfl) rfl (fun(d:sh37_0.data)=>wB (wk37_0 d.1.1 d.1.2.1 d.1.2.2.1 d.1.2.2.2.1) (by kernel_rfl)) (fun _=>rfl)
def kl37_0(P:Go.Program):Known:=(kf95 P).loop 37 0 lc37_0
theorem kl37_0_ok:KnownOk Proofs.Tryz.prog (kl37_0 Proofs.Tryz.prog):=kf95_ok.loop ok37_0
abbrev as37:List Ty:=[(.int .i64),(.int .i64),(.int .i64),(.int .i64)]
abbrev rs37:List Ty:=[(.int .i64)]
def t37(x0:Int)(x1:Int)(x2:Int)(x3:Int):Tr (Tys.data rs37):= Tr.test (qhX (l37_0 ((x0,(x1,(x2,(x3,())))),()))) (let r0:=r37_0 ((x0,(x1,(x2,(x3,())))),());Tr.fin ((r0.1.1,()))) (Tr.stop)
def f37(d:Tys.data as37):Option (Tys.data rs37):=(t37 d.1 d.2.1 d.2.2.1 d.2.2.2.1).val
def g37(d:Tys.data as37):Tys.data rs37:=(f37 d).getD (Tys.dflt rs37)
def p37:PureC:=pcOf as37 rs37 f37 g37
theorem wk37(x0:Int)(x1:Int)(x2:Int)(x3:Int):Walks (runPure (kl37_0 Proofs.Tryz.prog).orc Proofs.Tryz.prog 400 37 as37 rs37 (x0,x1,x2,x3,())) (t37 x0 x1 x2 x3) [(bl 1 1,[1,2])]:=
 ⟨by kernel_rfl,trivial⟩
theorem ok37:PureOk Proofs.Tryz.prog 37 p37:=qac kl37_0_ok.base (T:=fun(d:Tys.data as37)=>t37 d.1 d.2.1 d.2.2.1 d.2.2.2.1) (by kernel_rfl) (fun(d:Tys.data as37)=>wP (wk37 d.1 d.2.1 d.2.2.1 d.2.2.2.1) (by kernel_rfl))
def kf37(P:Go.Program):Known:=(kl37_0 P).func 37 p37
theorem kf37_ok:KnownOk Proofs.Tryz.prog (kf37 Proofs.Tryz.prog):=kl37_0_ok.func ok37
abbrev sh86_0:Sh:={ n:=25,slots:=[1,9,10,11],pats:=[.fn 121 [],.ty (.slice (.pair (.int .i64) (.pair (.int .i64) .unit))),.ty (.int .i64),.ty (.int .i64)],boxes:=[] }
abbrev shb86_0:Sh:={ n:=25,slots:=[],pats:=[],boxes:=[] }
abbrev shr86_0:Sh:={ n:=25,slots:=[4,5],pats:=[.ty (.int .i64),.ty (.int .i64)],boxes:=[] }
def t86_0(x1:(List (Int×(Int×Unit))))(x2:Int)(x3:Int):Tr (Out sh86_0.data shb86_0.data shr86_0.data):= Tr.test ((!leF x2 x3:Bool)) (Tr.test (decide ((0:Int)≤x3)&&decide (x3<(↑(List.length x1):Int))) (Tr.test (Option.isSome (f78 ((1000000000:Int),(([(List.getD x1 (Int.toNat x3) ((0:Int),(0:Int),())).1,(List.getD x1 (Int.toNat x3) ((0:Int),(0:Int),())).2.1]:List Int),())))) (let r0:=g78 ((1000000000:Int),(([(List.getD x1 (Int.toNat x3) ((0:Int),(0:Int),())).1,(List.getD x1 (Int.toNat x3) ((0:Int),(0:Int),())).2.1]:List Int),()));Tr.test (Option.isSome (f60 (r0.1,((8:Int),())))) (let r1:=g60 (r0.1,((8:Int),()));Tr.test ((!eqF r1.1 0:Bool)) (Tr.fin (.ret ((x3,(r1.1,())),()))) (Tr.fin (.again ((x1,(x2,((wrap64 (x3+(1:Int)):Int),()))),())))) (Tr.stop)) (Tr.stop)) (Tr.stop)) (Tr.fin (.brk ((),())))
def s86_0(d:sh86_0.data):Option (Out sh86_0.data shb86_0.data shr86_0.data):=(t86_0 d.1.1 d.1.2.1 d.1.2.2.1).val
def l86_0(d:sh86_0.data):Option (shb86_0.data ⊕ shr86_0.data):=itr s86_0 rounds d
def b86_0(d:sh86_0.data):shb86_0.data:=outB shb86_0.dflt (l86_0 d)
def r86_0(d:sh86_0.data):shr86_0.data:=outR shr86_0.dflt (l86_0 d)
def lc86_0:LoopC:=lcOf sh86_0 shb86_0 shr86_0 l86_0 b86_0 r86_0
def ww18:List Nat:=[2]
def ww19:List Nat:=10::8::6::4::ww18
theorem wk86_0(x1:(List (Int×(Int×Unit))))(x2:Int)(x3:Int):Walks (qar (kf37 Proofs.Tryz.prog).orc Proofs.Tryz.prog 400 86 0 sh86_0 shb86_0 shr86_0 ((x1,x2,x3,()),())) (t86_0 x1 x2 x3) [(bl 5 31,ww19),(bl 5 15,ww19),(bl 1 0,ww18)]:=
 ⟨by kernel_rfl,by kernel_rfl,by kernel_rfl,trivial⟩
theorem ok86_0:qau Proofs.Tryz.prog 86 0 lc86_0:=qaF (sh:=sh86_0) (shB:=shb86_0) (shR:=shr86_0) kf37_ok.base (T:=fun(d:sh86_0.data)=>t86_0 d.1.1 d.1.2.1 d.1.2.2.1) (by kernel_rfl) rfl (fun(d:sh86_0.data)=>wB (wk86_0 d.1.1 d.1.2.1 d.1.2.2.1) (by kernel_rfl)) (fun _=>rfl)
def kl86_0(P:Go.Program):Known:=(kf37 P).loop 86 0 lc86_0
theorem kl86_0_ok:KnownOk Proofs.Tryz.prog (kl86_0 Proofs.Tryz.prog):=kf37_ok.loop ok86_0
abbrev as81:List Ty:=[(.slice (.pair (.int .i64) (.pair (.int .i64) .unit)))]
abbrev rs81:List Ty:=[(.int .i64)]
def t81(x0:(List (Int×(Int×Unit)))):Tr (Tys.data rs81):= Tr.test (Option.isSome (l86_0 ((x0,((↑(List.length x0):Int),((0:Int),()))),()))) (Tr.test (qas (l86_0 ((x0,((↑(List.length x0):Int),((0:Int),()))),()))) (let r0:=r86_0 ((x0,((↑(List.length x0):Int),((0:Int),()))),());Tr.fin ((r0.1.2.1,()))) (Tr.fin (((0:Int),())))) (Tr.stop)
def f81(d:Tys.data as81):Option (Tys.data rs81):=(t81 d.1).val
def g81(d:Tys.data as81):Tys.data rs81:=(f81 d).getD (Tys.dflt rs81)
def p81:PureC:=pcOf as81 rs81 f81 g81
def ww1a:List Nat:=[4,2]
theorem wk81(x0:(List (Int×(Int×Unit)))):Walks (runPure (kl86_0 Proofs.Tryz.prog).orc Proofs.Tryz.prog 400 81 as81 rs81 (x0,())) (t81 x0) [(bl 2 3,ww1a),(bl 2 1,ww1a)]:=
 ⟨by kernel_rfl,by kernel_rfl,trivial⟩
theorem ok81:PureOk Proofs.Tryz.prog 81 p81:=qac kl86_0_ok.base (T:=fun(d:Tys.data as81)=>t81 d.1) (by kernel_rfl) (fun(d:Tys.data as81)=>wP (wk81 d.1) (by kernel_rfl))
def kf81(P:Go.Program):Known:=(kl86_0 P).func 81 p81
theorem kf81_ok:KnownOk Proofs.Tryz.prog (kf81 Proofs.Tryz.prog):=kl86_0_ok.func ok81
abbrev as22:List Ty:=[(.pair (.slice (.int .i64)) (.pair (.slice (.int .i64)) .unit))]
abbrev rs22:List Ty:=[(.slice (.pair (.int .i64) (.pair (.int .i64) .unit))),(.int .i64)]
def t22(x0:(List Int))(x0':List Int):Tr (Tys.data rs22):= Tr.test (Option.isSome (f79 ((x0,(x0',())),()))) (let r0:=g79 ((x0,(x0',())),());Tr.test ((!eqF r0.2.1 0:Bool)) (Tr.fin ((([]:List (Int×Int×PUnit)),(r0.2.1,())))) (Tr.test (Option.isSome (f80 (((r0.1.1.1,(r0.1.1.2.1,())),((r0.1.2.1.1,(r0.1.2.1.2.1,())),())),()))) (let r1:=g80 (((r0.1.1.1,(r0.1.1.2.1,())),((r0.1.2.1.1,(r0.1.2.1.2.1,())),())),());Tr.test (Option.isSome (f81 (r1.1,()))) (let r2:=g81 (r1.1,());Tr.test ((!eqF r2.1 0:Bool)) (Tr.fin ((([]:List (Int×Int×PUnit)),(r2.1,())))) (Tr.fin ((r1.1,((0:Int),()))))) (Tr.stop)) (Tr.stop))) (Tr.stop)
def f22(d:Tys.data as22):Option (Tys.data rs22):=(t22 d.1.1 d.1.2.1).val
def g22(d:Tys.data as22):Tys.data rs22:=(f22 d).getD (Tys.dflt rs22)
def p22:PureC:=pcOf as22 rs22 f22 g22
def ww1b:List Nat:=[4,2]
def ww1c:List Nat:=10::8::6::ww1b
theorem wk22(x0:(List Int))(x0':List Int):Walks (runPure (kf81 Proofs.Tryz.prog).orc Proofs.Tryz.prog 400 22 as22 rs22 ((x0,x0',()),())) (t22 x0 x0') [(bl 2 3,ww1b),(bl 5 29,ww1c),(bl 5 13,ww1c)]:=
 ⟨by kernel_rfl,by kernel_rfl,by kernel_rfl,trivial⟩
theorem ok22:PureOk Proofs.Tryz.prog 22 p22:=qac kf81_ok.base (T:=fun(d:Tys.data as22)=>t22 d.1.1 d.1.2.1) (by kernel_rfl) (fun(d:Tys.data as22)=>wP (wk22 d.1.1 d.1.2.1) (by kernel_rfl))
def kf22(P:Go.Program):Known:=(kf81 P).func 22 p22
theorem kf22_ok:KnownOk Proofs.Tryz.prog (kf22 Proofs.Tryz.prog):=kf81_ok.func ok22
abbrev as38:List Ty:=[(.int .i64),(.int .i64)]
abbrev rs38:List Ty:=[(.int .i64)]
def t38(x0:Int)(x1:Int):Tr (Tys.data rs38):= Tr.test ((x1==(0:Int):Bool)) (Tr.stop) (Tr.test (!leF (0:Int) (Int.tmod x0 x1)) (Tr.fin (((wrap64 (Int.tmod x0 x1+x1):Int),()))) (Tr.fin (((Int.tmod x0 x1:Int),()))))
def f38(d:Tys.data as38):Option (Tys.data rs38):=(t38 d.1 d.2.1).val
def g38(d:Tys.data as38):Tys.data rs38:=(f38 d).getD (Tys.dflt rs38)
def p38:PureC:=pcOf as38 rs38 f38 g38
def ww1d:List Nat:=[4,2]
theorem wk38(x0:Int)(x1:Int):Walks (runPure (kf22 Proofs.Tryz.prog).orc Proofs.Tryz.prog 400 38 as38 rs38 (x0,x1,())) (t38 x0 x1) [(bl 2 2,ww1d),(bl 2 0,ww1d)]:=
 ⟨by kernel_rfl,by kernel_rfl,trivial⟩
theorem ok38:PureOk Proofs.Tryz.prog 38 p38:=qac kf22_ok.base (T:=fun(d:Tys.data as38)=>t38 d.1 d.2.1) (by kernel_rfl) (fun(d:Tys.data as38)=>wP (wk38 d.1 d.2.1) (by kernel_rfl))
def kf38(P:Go.Program):Known:=(kf22 P).func 38 p38
theorem kf38_ok:KnownOk Proofs.Tryz.prog (kf38 Proofs.Tryz.prog):=kf22_ok.func ok38
abbrev as82:List Ty:=[(.pair (.pair (.slice (.int .i64)) (.pair (.slice (.int .i64)) .unit)) (.pair (.pair (.int .i64) (.pair (.int .i64) .unit)) .unit)),(.int .i64)]
abbrev rs82:List Ty:=[(.int .i64)]
def t82(x0_:(List Int))(x0_':List Int)(x0'_:Int)(x0'_':Int)(x1:Int):Tr (Tys.data rs82):= Tr.test (Option.isSome (f77 ((0:Int),((wrap64 ((↑(List.length x0_):Int)-(1:Int)):Int),(([x1]:List Int),()))))) (let r0:=g77 ((0:Int),((wrap64 ((↑(List.length x0_):Int)-(1:Int)):Int),(([x1]:List Int),())));Tr.test (Option.isSome (f60 ((!r0.1:Bool),((6:Int),())))) (let r1:=g60 ((!r0.1:Bool),((6:Int),()));Tr.fin ((r1.1,()))) (Tr.stop)) (Tr.stop)
def f82(d:Tys.data as82):Option (Tys.data rs82):=(t82 d.1.1.1 d.1.1.2.1 d.1.2.1.1 d.1.2.1.2.1 d.2.1).val
def g82(d:Tys.data as82):Tys.data rs82:=(f82 d).getD (Tys.dflt rs82)
def p82:PureC:=pcOf as82 rs82 f82 g82
theorem wk82(x0_:(List Int))(x0_':List Int)(x0'_:Int)(x0'_':Int)(x1:Int):Walks (runPure (kf38 Proofs.Tryz.prog).orc Proofs.Tryz.prog 400 82 as82 rs82 (((x0_,x0_',()),(x0'_,x0'_',()),()),x1,())) (t82 x0_ x0_' x0'_ x0'_' x1) [(bl 2 3,[4,2])]:=
 ⟨by kernel_rfl,trivial⟩
theorem ok82:PureOk Proofs.Tryz.prog 82 p82:=qac kf38_ok.base (T:=fun(d:Tys.data as82)=>t82 d.1.1.1 d.1.1.2.1 d.1.2.1.1 d.1.2.1.2.1 d.2.1) (by kernel_rfl) (fun(d:Tys.data as82)=>wP (wk82 d.1.1.1 d.1.1.2.1 d.1.2.1.1 d.1.2.1.2.1 d.2.1) (by kernel_rfl))
def kf82(P:Go.Program):Known:=(kf38 P).func 82 p82
theorem kf82_ok:KnownOk Proofs.Tryz.prog (kf82 Proofs.Tryz.prog):=kf38_ok.func ok82
abbrev as83:List Ty:=[(.pair (.pair (.slice (.int .i64)) (.pair (.slice (.int .i64)) .unit)) (.pair (.pair (.int .i64) (.pair (.int .i64) .unit)) .unit)),(.int .i64)]
abbrev rs83:List Ty:=[(.pair (.pair (.slice (.int .i64)) (.pair (.slice (.int .i64)) .unit)) (.pair (.pair (.int .i64) (.pair (.int .i64) .unit)) .unit))]
def t83(x0_:(List Int))(x0_':List Int)(x0'_:Int)(x0'_':Int)(x1:Int):Tr (Tys.data rs83):= Tr.test ((decide ((0:Int)≤wrap64 (x1+(1:Int)))&&decide (wrap64 (x1+(1:Int))≤wrap64 (x1+(1:Int)))&&decide ((8:Int)*wrap64 (x1+(1:Int))≤(281474976710656:Int))&&decide (wrap64 (x1+(1:Int))≤(281474976710656:Int)):Bool)) (Tr.test (Nat.ble (List.length x0_') (Int.toNat (wrap64 (x1+(1:Int))))) (Tr.test ((Nat.ble ((0:Nat)+List.length x0_') (List.length (List.replicate (Int.toNat (wrap64 (x1+(1:Int)))) (0:Int))):Bool)) (Tr.test (Option.isSome (f85 (((x0_,(x0_',())),((x0'_,(x0'_',())),())),(x1,())))) (Tr.test ((decide ((0:Int)≤x1)&&decide (x1<(↑(Int.toNat (wrap64 (x1+(1:Int)))):Int)):Bool)) (Tr.test ((Nat.ble ((0:Nat)+Int.toNat x1+(1:Nat)) (List.length (List.take (0:Nat) (List.replicate (Int.toNat (wrap64 (x1+(1:Int)))) (0:Int))++(List.take (List.length x0_') x0_'++List.drop ((0:Nat)+List.length x0_') (List.replicate (Int.toNat (wrap64 (x1+(1:Int)))) (0:Int))))):Bool)) (Tr.test ((decide ((0:Int)≤wrap64 (x1+(1:Int)))&&decide (wrap64 (x1+(1:Int))≤(↑(List.length x0_):Int)):Bool)) (let r0:=g85 (((x0_,(x0_',())),((x0'_,(x0'_',())),())),(x1,()));Tr.test ((Nat.beq (Int.toNat (wrap64 (x1+(1:Int)))) (List.length (List.set (List.take (0:Nat) (List.replicate (Int.toNat (wrap64 (x1+(1:Int)))) (0:Int))++(List.take (List.length x0_') x0_'++List.drop ((0:Nat)+List.length x0_') (List.replicate (Int.toNat (wrap64 (x1+(1:Int)))) (0:Int)))) ((0:Nat)+Int.toNat x1) r0.1)):Bool)) (Tr.fin (((((List.take (Int.toNat (wrap64 (x1+(1:Int)))) x0_:List Int),((List.set (List.take (0:Nat) (List.replicate (Int.toNat (wrap64 (x1+(1:Int)))) (0:Int))++(List.take (List.length x0_') x0_'++List.drop ((0:Nat)+List.length x0_') (List.replicate (Int.toNat (wrap64 (x1+(1:Int)))) (0:Int)))) ((0:Nat)+Int.toNat x1) r0.1:List Int),())),((x0'_,(x0'_',())),())),()))) (Tr.test ((Nat.ble (Int.toNat (wrap64 (x1+(1:Int)))) (List.length (List.set (List.take (0:Nat) (List.replicate (Int.toNat (wrap64 (x1+(1:Int)))) (0:Int))++(List.take (List.length x0_') x0_'++List.drop ((0:Nat)+List.length x0_') (List.replicate (Int.toNat (wrap64 (x1+(1:Int)))) (0:Int)))) ((0:Nat)+Int.toNat x1) r0.1)):Bool)) (Tr.fin (((((List.take (Int.toNat (wrap64 (x1+(1:Int)))) x0_:List Int),((List.take (Int.toNat (wrap64 (x1+(1:Int)))) (List.set (List.take (0:Nat) (List.replicate (Int.toNat (wrap64 (x1+(1:Int)))) (0:Int))++(List.take (List.length x0_') x0_'++List.drop ((0:Nat)+List.length x0_') (List.replicate (Int.toNat (wrap64 (x1+(1:Int)))) (0:Int)))) ((0:Nat)+Int.toNat x1) r0.1):List Int),())),((x0'_,(x0'_',())),())),()))) (Tr.stop))) (Tr.stop)) (Tr.stop)) (Tr.stop)) (Tr.stop)) (Tr.stop)) (Tr.test ((Nat.ble ((0:Nat)+Int.toNat (wrap64 (x1+(1:Int)))) (List.length (List.replicate (Int.toNat (wrap64 (x1+(1:Int)))) (0:Int))):Bool)) (Tr.test (Option.isSome (f85 (((x0_,(x0_',())),((x0'_,(x0'_',())),())),(x1,())))) (Tr.test ((decide ((0:Int)≤x1)&&decide (x1<(↑(Int.toNat (wrap64 (x1+(1:Int)))):Int)):Bool)) (Tr.test ((Nat.ble ((0:Nat)+Int.toNat x1+(1:Nat)) (List.length (List.take (0:Nat) (List.replicate (Int.toNat (wrap64 (x1+(1:Int)))) (0:Int))++(List.take (Int.toNat (wrap64 (x1+(1:Int)))) x0_'++List.drop ((0:Nat)+Int.toNat (wrap64 (x1+(1:Int)))) (List.replicate (Int.toNat (wrap64 (x1+(1:Int)))) (0:Int))))):Bool)) (Tr.test ((decide ((0:Int)≤wrap64 (x1+(1:Int)))&&decide (wrap64 (x1+(1:Int))≤(↑(List.length x0_):Int)):Bool)) (let r0:=g85 (((x0_,(x0_',())),((x0'_,(x0'_',())),())),(x1,()));Tr.test ((Nat.beq (Int.toNat (wrap64 (x1+(1:Int)))) (List.length (List.set (List.take (0:Nat) (List.replicate (Int.toNat (wrap64 (x1+(1:Int)))) (0:Int))++(List.take (Int.toNat (wrap64 (x1+(1:Int)))) x0_'++List.drop ((0:Nat)+Int.toNat (wrap64 (x1+(1:Int)))) (List.replicate (Int.toNat (wrap64 (x1+(1:Int)))) (0:Int)))) ((0:Nat)+Int.toNat x1) r0.1)):Bool)) (Tr.fin (((((List.take (Int.toNat (wrap64 (x1+(1:Int)))) x0_:List Int),((List.set (List.take (0:Nat) (List.replicate (Int.toNat (wrap64 (x1+(1:Int)))) (0:Int))++(List.take (Int.toNat (wrap64 (x1+(1:Int)))) x0_'++List.drop ((0:Nat)+Int.toNat (wrap64 (x1+(1:Int)))) (List.replicate (Int.toNat (wrap64 (x1+(1:Int)))) (0:Int)))) ((0:Nat)+Int.toNat x1) r0.1:List Int),())),((x0'_,(x0'_',())),())),()))) (Tr.test ((Nat.ble (Int.toNat (wrap64 (x1+(1:Int)))) (List.length (List.set (List.take (0:Nat) (List.replicate (Int.toNat (wrap64 (x1+(1:Int)))) (0:Int))++(List.take (Int.toNat (wrap64 (x1+(1:Int)))) x0_'++List.drop ((0:Nat)+Int.toNat (wrap64 (x1+(1:Int)))) (List.replicate (Int.toNat (wrap64 (x1+(1:Int)))) (0:Int)))) ((0:Nat)+Int.toNat x1) r0.1)):Bool)) (Tr.fin (((((List.take (Int.toNat (wrap64 (x1+(1:Int)))) x0_:List Int),((List.take (Int.toNat (wrap64 (x1+(1:Int)))) (List.set (List.take (0:Nat) (List.replicate (Int.toNat (wrap64 (x1+(1:Int)))) (0:Int))++(List.take (Int.toNat (wrap64 (x1+(1:Int)))) x0_'++List.drop ((0:Nat)+Int.toNat (wrap64 (x1+(1:Int)))) (List.replicate (Int.toNat (wrap64 (x1+(1:Int)))) (0:Int)))) ((0:Nat)+Int.toNat x1) r0.1):List Int),())),((x0'_,(x0'_',())),())),()))) (Tr.stop))) (Tr.stop)) (Tr.stop)) (Tr.stop)) (Tr.stop)) (Tr.stop))) (Tr.stop)
def f83(d:Tys.data as83):Option (Tys.data rs83):=(t83 d.1.1.1 d.1.1.2.1 d.1.2.1.1 d.1.2.1.2.1 d.2.1).val
def g83(d:Tys.data as83):Tys.data rs83:=(f83 d).getD (Tys.dflt rs83)
def p83:PureC:=pcOf as83 rs83 f83 g83
def ww1e:List Nat:=[16,14,12,10,8,6,4,2]
def ww1f:List Nat:=18::ww1e
theorem wk83(x0_:(List Int))(x0_':List Int)(x0'_:Int)(x0'_':Int)(x1:Int):Walks (runPure (kf82 Proofs.Tryz.prog).orc Proofs.Tryz.prog 400 83 as83 rs83 (((x0_,x0_',()),(x0'_,x0'_',()),()),x1,())) (t83 x0_ x0_' x0'_ x0'_' x1) [(bl 8 255,ww1e),(bl 9 383,ww1f),(bl 8 253,ww1e),(bl 9 381,ww1f)]:=by
 repeat refine⟨by kernel_rfl,?_⟩
 exact trivial
theorem ok83:PureOk Proofs.Tryz.prog 83 p83:=qac kf82_ok.base (T:=fun(d:Tys.data as83)=>t83 d.1.1.1 d.1.1.2.1 d.1.2.1.1 d.1.2.1.2.1 d.2.1) (by kernel_rfl) (fun(d:Tys.data as83)=>wP (wk83 d.1.1.1 d.1.1.2.1 d.1.2.1.1 d.1.2.1.2.1 d.2.1) (by kernel_rfl))
def kf83(P:Go.Program):Known:=(kf82 P).func 83 p83
theorem kf83_ok:KnownOk Proofs.Tryz.prog (kf83 Proofs.Tryz.prog):=kf82_ok.func ok83
abbrev as84:List Ty:=[(.pair (.pair (.slice (.int .i64)) (.pair (.slice (.int .i64)) .unit)) (.pair (.pair (.int .i64) (.pair (.int .i64) .unit)) .unit)),(.int .i64),(.pair (.int .i64) (.pair (.int .i64) .unit))]
abbrev rs84:List Ty:=[(.pair (.pair (.slice (.int .i64)) (.pair (.slice (.int .i64)) .unit)) (.pair (.pair (.int .i64) (.pair (.int .i64) .unit)) .unit))]
def t84(x0_:(List Int))(x0_':List Int)(x0'_:Int)(x0'_':Int)(x1:Int)(x2:Int)(x2':Int):Tr (Tys.data rs84):= Tr.test ((decide ((0:Int)≤wrap64 (x1+(1:Int)))&&decide (wrap64 (x1+(1:Int))≤(↑(List.length x0_):Int)):Bool)) (Tr.test (decide ((0:Int)≤wrap64 (x1+(1:Int)))&&decide (wrap64 (x1+(1:Int))≤(↑(List.length x0_'):Int))) (Tr.fin (((((List.drop (Int.toNat (wrap64 (x1+(1:Int)))) x0_:List Int),((List.drop (Int.toNat (wrap64 (x1+(1:Int)))) x0_':List Int),())),((x2,(x2',())),())),()))) (Tr.stop)) (Tr.stop)
def f84(d:Tys.data as84):Option (Tys.data rs84):=(t84 d.1.1.1 d.1.1.2.1 d.1.2.1.1 d.1.2.1.2.1 d.2.1 d.2.2.1.1 d.2.2.1.2.1).val
def g84(d:Tys.data as84):Tys.data rs84:=(f84 d).getD (Tys.dflt rs84)
def p84:PureC:=pcOf as84 rs84 f84 g84
theorem wk84(x0_:(List Int))(x0_':List Int)(x0'_:Int)(x0'_':Int)(x1:Int)(x2:Int)(x2':Int):Walks (runPure (kf83 Proofs.Tryz.prog).orc Proofs.Tryz.prog 400 84 as84 rs84 (((x0_,x0_',()),(x0'_,x0'_',()),()),x1,(x2,x2',()),())) (t84 x0_ x0_' x0'_ x0'_' x1 x2 x2') [(bl 2 3,[4,2])]:=
 ⟨by kernel_rfl,trivial⟩
theorem ok84:PureOk Proofs.Tryz.prog 84 p84:=qac kf83_ok.base (T:=fun(d:Tys.data as84)=>t84 d.1.1.1 d.1.1.2.1 d.1.2.1.1 d.1.2.1.2.1 d.2.1 d.2.2.1.1 d.2.2.1.2.1) (by kernel_rfl) (fun(d:Tys.data as84)=>wP (wk84 d.1.1.1 d.1.1.2.1 d.1.2.1.1 d.1.2.1.2.1 d.2.1 d.2.2.1.1 d.2.2.1.2.1) (by kernel_rfl))
def kf84(P:Go.Program):Known:=(kf83 P).func 84 p84
theorem kf84_ok:KnownOk Proofs.Tryz.prog (kf84 Proofs.Tryz.prog):=kf83_ok.func ok84
abbrev as23:List Ty:=[(.pair (.slice (.int .i64)) (.pair (.slice (.int .i64)) .unit)),(.int .i64)]
abbrev rs23:List Ty:=[(.pair (.slice (.pair (.int .i64) (.pair (.int .i64) .unit))) (.pair (.slice (.pair (.int .i64) (.pair (.int .i64) .unit))) (.pair (.int .i64) .unit))),(.int .i64)]
def t23(x0:(List Int))(x0':List Int)(x1:Int):Tr (Tys.data rs23):= Tr.test (Option.isSome (f79 ((x0,(x0',())),()))) (let r0:=g79 ((x0,(x0',())),());Tr.test (Option.isSome (f82 (((r0.1.1.1,(r0.1.1.2.1,())),((r0.1.2.1.1,(r0.1.2.1.2.1,())),())),(x1,())))) (let r1:=g82 (((r0.1.1.1,(r0.1.1.2.1,())),((r0.1.2.1.1,(r0.1.2.1.2.1,())),())),(x1,()));Tr.test (Option.isSome (f64 (([r0.2.1,r1.1]:List Int),()))) (let r2:=g64 (([r0.2.1,r1.1]:List Int),());Tr.test ((!eqF r2.1 0:Bool)) (Tr.fin (((([]:List (Int×Int×PUnit)),(([]:List (Int×Int×PUnit)),((0:Int),()))),(r2.1,())))) (Tr.test (Option.isSome (f83 (((r0.1.1.1,(r0.1.1.2.1,())),((r0.1.2.1.1,(r0.1.2.1.2.1,())),())),(x1,())))) (let r3:=g83 (((r0.1.1.1,(r0.1.1.2.1,())),((r0.1.2.1.1,(r0.1.2.1.2.1,())),())),(x1,()));Tr.test (Option.isSome (f80 (((r3.1.1.1,(r3.1.1.2.1,())),((r3.1.2.1.1,(r3.1.2.1.2.1,())),())),()))) (let r4:=g80 (((r3.1.1.1,(r3.1.1.2.1,())),((r3.1.2.1.1,(r3.1.2.1.2.1,())),())),());Tr.test ((decide ((0:Int)≤x1)&&decide (x1<(↑(List.length r4.1):Int)):Bool)) (Tr.test (Option.isSome (f84 (((r0.1.1.1,(r0.1.1.2.1,())),((r0.1.2.1.1,(r0.1.2.1.2.1,())),())),(x1,((((List.getD r4.1 (Int.toNat x1) ((0:Int),(0:Int),())).1:Int),(((List.getD r4.1 (Int.toNat x1) ((0:Int),(0:Int),())).2.1:Int),())),()))))) (let r5:=g84 (((r0.1.1.1,(r0.1.1.2.1,())),((r0.1.2.1.1,(r0.1.2.1.2.1,())),())),(x1,((((List.getD r4.1 (Int.toNat x1) ((0:Int),(0:Int),())).1:Int),(((List.getD r4.1 (Int.toNat x1) ((0:Int),(0:Int),())).2.1:Int),())),())));Tr.test (Option.isSome (f80 (((r5.1.1.1,(r5.1.1.2.1,())),((r5.1.2.1.1,(r5.1.2.1.2.1,())),())),()))) (Tr.test (Option.isSome (f81 (r4.1,()))) (let r6:=g80 (((r5.1.1.1,(r5.1.1.2.1,())),((r5.1.2.1.1,(r5.1.2.1.2.1,())),())),());Tr.test (Option.isSome (f81 (r6.1,()))) (let r7:=g81 (r4.1,());let r8:=g81 (r6.1,());Tr.test (Option.isSome (f64 (([r7.1,r8.1]:List Int),()))) (let r9:=g64 (([r7.1,r8.1]:List Int),());Tr.test ((!eqF r9.1 0:Bool)) (Tr.fin (((([]:List (Int×Int×PUnit)),(([]:List (Int×Int×PUnit)),((0:Int),()))),(r9.1,())))) (Tr.test (Option.isSome (f85 (((r0.1.1.1,(r0.1.1.2.1,())),((r0.1.2.1.1,(r0.1.2.1.2.1,())),())),((wrap64 (x1+(1:Int)):Int),())))) (let r10:=g85 (((r0.1.1.1,(r0.1.1.2.1,())),((r0.1.2.1.1,(r0.1.2.1.2.1,())),())),((wrap64 (x1+(1:Int)):Int),()));Tr.fin (((r4.1,(r6.1,(r10.1,()))),((0:Int),())))) (Tr.stop))) (Tr.stop)) (Tr.stop)) (Tr.stop)) (Tr.stop)) (Tr.stop)) (Tr.stop)) (Tr.stop)) (Tr.stop))) (Tr.stop)) (Tr.stop)) (Tr.stop)
def f23(d:Tys.data as23):Option (Tys.data rs23):=(t23 d.1.1 d.1.2.1 d.2.1).val
def g23(d:Tys.data as23):Tys.data rs23:=(f23 d).getD (Tys.dflt rs23)
def p23:PureC:=pcOf as23 rs23 f23 g23
def ww1g:List Nat:=[8,6,4,2]
def ww1h:List Nat:=pk 9 13 0xf7bdef7bdf0 ww1g
theorem wk23(x0:(List Int))(x0':List Int)(x1:Int):Walks (runPure (kf84 Proofs.Tryz.prog).orc Proofs.Tryz.prog 400 23 as23 rs23 ((x0,x0',()),x1,())) (t23 x0 x0' x1) [(bl 4 15,ww1g),(bl 13 8183,ww1h),(bl 14 12279,28::ww1h)]:=
 ⟨by kernel_rfl,by kernel_rfl,by kernel_rfl,trivial⟩
theorem ok23:PureOk Proofs.Tryz.prog 23 p23:=qac kf84_ok.base (T:=fun(d:Tys.data as23)=>t23 d.1.1 d.1.2.1 d.2.1) (by kernel_rfl) (fun(d:Tys.data as23)=>wP (wk23 d.1.1 d.1.2.1 d.2.1) (by kernel_rfl))
def kf23(P:Go.Program):Known:=(kf84 P).func 23 p23
theorem kf23_ok:KnownOk Proofs.Tryz.prog (kf23 Proofs.Tryz.prog):=kf84_ok.func ok23
abbrev as96:List Ty:=[(.pair (.int .i64) (.pair (.int .i64) .unit))]
abbrev rs96:List Ty:=[.bool]
def t96(x0:Int)(x0':Int):Tr (Tys.data rs96):= Tr.test (Option.isSome (f32 (x0,((-1000000000:Int),((1000000000:Int),()))))) (let r0:=g32 (x0,((-1000000000:Int),((1000000000:Int),())));Tr.test (r0.1) (Tr.test (Option.isSome (f32 (x0',((1:Int),((1000000000:Int),()))))) (let r1:=g32 (x0',((1:Int),((1000000000:Int),())));Tr.fin ((r1.1,()))) (Tr.stop)) (Tr.fin (((false:Bool),())))) (Tr.stop)
def f96(d:Tys.data as96):Option (Tys.data rs96):=(t96 d.1.1 d.1.2.1).val
def g96(d:Tys.data as96):Tys.data rs96:=(f96 d).getD (Tys.dflt rs96)
def p96:PureC:=pcOf as96 rs96 f96 g96
def ww1i:List Nat:=[4,4,4,2]
theorem wk96(x0:Int)(x0':Int):Walks (runPure (kf23 Proofs.Tryz.prog).orc Proofs.Tryz.prog 400 96 as96 rs96 ((x0,x0',()),())) (t96 x0 x0') [(bl 3 7,4::6::ww1i),(bl 2 1,4::ww1i)]:=
 ⟨by kernel_rfl,by kernel_rfl,trivial⟩
theorem ok96:PureOk Proofs.Tryz.prog 96 p96:=qac kf23_ok.base (T:=fun(d:Tys.data as96)=>t96 d.1.1 d.1.2.1) (by kernel_rfl) (fun(d:Tys.data as96)=>wP (wk96 d.1.1 d.1.2.1) (by kernel_rfl))
def kf96(P:Go.Program):Known:=(kf23 P).func 96 p96
theorem kf96_ok:KnownOk Proofs.Tryz.prog (kf96 Proofs.Tryz.prog):=kf23_ok.func ok96
abbrev sh39_0:Sh:={ n:=24,slots:=[0,3],pats:=[.ty (.slice (.pair (.int .i64) (.pair (.int .i64) .unit))),.ty (.int .i64)],boxes:=[] }
abbrev shb39_0:Sh:={ n:=24,slots:=[],pats:=[],boxes:=[] }
abbrev shr39_0:Sh:={ n:=24,slots:=[2],pats:=[.ty .bool],boxes:=[] }
def t39_0(x0:(List (Int×(Int×Unit))))(x1:Int):Tr (Out sh39_0.data shb39_0.data shr39_0.data):= Tr.test ((!leF (↑(List.length x0):Int) x1:Bool)) (Tr.test (decide ((0:Int)≤x1)&&decide (x1<(↑(List.length x0):Int))) (Tr.test (Option.isSome (f36 ((((List.getD x0 (Int.toNat x1) ((0:Int),(0:Int),())).1:Int),(((List.getD x0 (Int.toNat x1) ((0:Int),(0:Int),())).2.1:Int),())),()))) (let r0:=g36 ((((List.getD x0 (Int.toNat x1) ((0:Int),(0:Int),())).1:Int),(((List.getD x0 (Int.toNat x1) ((0:Int),(0:Int),())).2.1:Int),())),());Tr.test ((!r0.1:Bool)) (Tr.fin (.ret (((false:Bool),()),()))) (Tr.test (Option.isSome (f96 ((((List.getD x0 (Int.toNat x1) ((0:Int),(0:Int),())).1:Int),(((List.getD x0 (Int.toNat x1) ((0:Int),(0:Int),())).2.1:Int),())),()))) (let r1:=g96 ((((List.getD x0 (Int.toNat x1) ((0:Int),(0:Int),())).1:Int),(((List.getD x0 (Int.toNat x1) ((0:Int),(0:Int),())).2.1:Int),())),());Tr.test ((!r1.1:Bool)) (Tr.fin (.ret (((false:Bool),()),()))) (Tr.fin (.again ((x0,((wrap64 (x1+(1:Int)):Int),())),())))) (Tr.stop))) (Tr.stop)) (Tr.stop)) (Tr.fin (.brk ((),())))
def s39_0(d:sh39_0.data):Option (Out sh39_0.data shb39_0.data shr39_0.data):=(t39_0 d.1.1 d.1.2.1).val
def l39_0(d:sh39_0.data):Option (shb39_0.data ⊕ shr39_0.data):=itr s39_0 rounds d
def b39_0(d:sh39_0.data):shb39_0.data:=outB shb39_0.dflt (l39_0 d)
def r39_0(d:sh39_0.data):shr39_0.data:=outR shr39_0.dflt (l39_0 d)
def lc39_0:LoopC:=lcOf sh39_0 shb39_0 shr39_0 l39_0 b39_0 r39_0
def ww1j:List Nat:=[2]
def ww1k:List Nat:=8::8::8::6::4::ww1j
def ww1l:List Nat:=pk 7 6 15585558992 ww1k
theorem wk39_0(x0:(List (Int×(Int×Unit))))(x1:Int):Walks (qar (kf96 Proofs.Tryz.prog).orc Proofs.Tryz.prog 400 39 0 sh39_0 shb39_0 shr39_0 ((x0,x1,()),())) (t39_0 x0 x1) [(bl 4 15,1::8::8::8::8::ww1k),(bl 6 55,ww1l),(bl 6 23,ww1l),(bl 1 0,ww1j)]:=by
 repeat refine⟨by kernel_rfl,?_⟩
 exact trivial
theorem ok39_0:qau Proofs.Tryz.prog 39 0 lc39_0:=qaF (sh:=sh39_0) (shB:=shb39_0) (shR:=shr39_0) kf96_ok.base (T:=fun(d:sh39_0.data)=>t39_0 d.1.1 d.1.2.1) (by kernel_rfl) rfl (fun(d:sh39_0.data)=>wB (wk39_0 d.1.1 d.1.2.1) (by kernel_rfl)) (fun _=>rfl)
def kl39_0(P:Go.Program):Known:=(kf96 P).loop 39 0 lc39_0
theorem kl39_0_ok:KnownOk Proofs.Tryz.prog (kl39_0 Proofs.Tryz.prog):=kf96_ok.loop ok39_0
end Go.Vm.Mo
