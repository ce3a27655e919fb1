import Derived.Test.YtifpmnmpinjcgaaGreatA5
import Derived.KernelRfl
import Derived.Test.YtifpmnmpinjcgaaGreatProg
import Derived.Test.YtifpmnmpinjcgaaGreatRsFa
set_option linter.unusedVariables false
set_option linter.unusedSimpArgs false

namespace Go.Vm.Mo
open Go
set_option linter.unusedVariables false
abbrev as56:List Ty:=[(.slice (.int .i64))]
abbrev rs56:List Ty:=[(.slice (.int .i64))]
def t56(x0:(List Int)):Tr (Tys.data rs56):= Tr.test ((Nat.beq (List.length x0) (0:Nat):Bool)) (Tr.stop) (Tr.test (Nat.ble (((2:Nat)*((0:Nat)+List.length x0)+(192:Nat))*(8:Nat)) (281474976710656:Nat)&&Nat.ble ((0:Nat)+List.length x0) (281474976710656:Nat)) (Tr.test (qa5 (l84_0 ((((0:Nat)+List.length x0:Nat),((0:Int),((wrap64 ((↑((0:Nat)+List.length x0):Int)-(1:Int)):Int),()))),(([]++x0:List Int),())))) (Tr.test ((decide ((0:Int)≤wrap64 ((↑(List.length x0):Int)-(1:Int)))&&decide (wrap64 ((↑(List.length x0):Int)-(1:Int))≤(↑(List.length x0):Int)):Bool)) (let r0:=b84_0 ((((0:Nat)+List.length x0:Nat),((0:Int),((wrap64 ((↑((0:Nat)+List.length x0):Int)-(1:Int)):Int),()))),(([]++x0:List Int),()));Tr.test (qa5 (l105_0_1 (((if(↑((0:Nat)+List.length x0):Int)<(↑(List.length (List.take (Int.toNat (wrap64 ((↑(List.length x0):Int)-(1:Int)))) x0)):Int)then(↑((0:Nat)+List.length x0):Int)else(↑(List.length (List.take (Int.toNat (wrap64 ((↑(List.length x0):Int)-(1:Int)))) x0)):Int):Int),((0:Int),())),((),(((List.take (Int.toNat (wrap64 ((↑(List.length x0):Int)-(1:Int)))) x0:List Int),()),((((0:Nat)+List.length x0:Nat),()),((x0,()),(((wrap64 ((↑(List.length x0):Int)-(1:Int)):Int),()),((([]:List Int),()),(r0.2.1,())))))))))) (let r1:=b105_0_1 (((if(↑((0:Nat)+List.length x0):Int)<(↑(List.length (List.take (Int.toNat (wrap64 ((↑(List.length x0):Int)-(1:Int)))) x0)):Int)then(↑((0:Nat)+List.length x0):Int)else(↑(List.length (List.take (Int.toNat (wrap64 ((↑(List.length x0):Int)-(1:Int)))) x0)):Int):Int),((0:Int),())),((),(((List.take (Int.toNat (wrap64 ((↑(List.length x0):Int)-(1:Int)))) x0:List Int),()),((((0:Nat)+List.length x0:Nat),()),((x0,()),(((wrap64 ((↑(List.length x0):Int)-(1:Int)):Int),()),((([]:List Int),()),(r0.2.1,()))))))));Tr.test (Option.isSome (f54 (r1.2.2.2.2.2.2.1.1,()))) (let r2:=g54 (r1.2.2.2.2.2.2.1.1,());Tr.fin ((r2.1,()))) (Tr.stop)) (Tr.stop)) (Tr.stop)) (Tr.stop)) (Tr.test ((Nat.ble ((0:Nat)+List.length x0) (0:Nat):Bool)) (Tr.stop) (Tr.stop)))
def f56(d:Tys.data as56):Option (Tys.data rs56):=(t56 d.1).val
def g56(d:Tys.data as56):Tys.data rs56:=(f56 d).getD (Tys.dflt rs56)
def p56:PureC:=pcOf as56 rs56 f56 g56
theorem e56_1(x0:(List Int)):runPure (kl105_0_1 Proofs.Tryz.prog).orc Proofs.Tryz.prog 400 56 as56 rs56 (x0,()) [ff,ff,tt,tt,tt,tt,tt,tt,tt,tt,tt] =
 (let r0:=b84_0 ((((0:Nat)+List.length x0:Nat),((0:Int),((wrap64 ((↑((0:Nat)+List.length x0):Int)-(1:Int)):Int),()))),(([]++x0:List Int),()));let r1:=b105_0_1 (((if(↑((0:Nat)+List.length x0):Int)<(↑(List.length (List.take (Int.toNat (wrap64 ((↑(List.length x0):Int)-(1:Int)))) x0)):Int)then(↑((0:Nat)+List.length x0):Int)else(↑(List.length (List.take (Int.toNat (wrap64 ((↑(List.length x0):Int)-(1:Int)))) x0)):Int):Int),((0:Int),())),((),(((List.take (Int.toNat (wrap64 ((↑(List.length x0):Int)-(1:Int)))) x0:List Int),()),((((0:Nat)+List.length x0:Nat),()),((x0,()),(((wrap64 ((↑(List.length x0):Int)-(1:Int)):Int),()),((([]:List Int),()),(r0.2.1,()))))))));let r2:=g54 (r1.2.2.2.2.2.2.1.1,());some ((r2.1,()),[(Option.isSome (f54 (r1.2.2.2.2.2.2.1.1,())),true),(true,true),(qa5 (l105_0_1 (((if(↑((0:Nat)+List.length x0):Int)<(↑(List.length (List.take (Int.toNat (wrap64 ((↑(List.length x0):Int)-(1:Int)))) x0)):Int)then(↑((0:Nat)+List.length x0):Int)else(↑(List.length (List.take (Int.toNat (wrap64 ((↑(List.length x0):Int)-(1:Int)))) x0)):Int):Int),((0:Int),())),((),(((List.take (Int.toNat (wrap64 ((↑(List.length x0):Int)-(1:Int)))) x0:List Int),()),((((0:Nat)+List.length x0:Nat),()),((x0,()),(((wrap64 ((↑(List.length x0):Int)-(1:Int)):Int),()),((([]:List Int),()),(r0.2.1,()))))))))),true),(qaW Proofs.Tryz.prog (nat_lit 56) (nat_lit 0),true),(decide ((0:Int)≤wrap64 ((↑(List.length x0):Int)-(1:Int)))&&decide (wrap64 ((↑(List.length x0):Int)-(1:Int))≤(↑(List.length x0):Int)),true),(true,true),(qa5 (l84_0 ((((0:Nat)+List.length x0:Nat),((0:Int),((wrap64 ((↑((0:Nat)+List.length x0):Int)-(1:Int)):Int),()))),(([]++x0:List Int),()))),true),(true,true),(Nat.ble (((2:Nat)*((0:Nat)+List.length x0)+(192:Nat))*(8:Nat)) (281474976710656:Nat)&&Nat.ble ((0:Nat)+List.length x0) (281474976710656:Nat),true),(false,false),(Nat.beq (List.length x0) (0:Nat),false)])):=by kernel_rfl
theorem ok56_t(x0:(List Int)):TrOk (PureRuns Proofs.Tryz.prog (kl105_0_1 Proofs.Tryz.prog).orc 56 as56 rs56 (x0,())) (t56 x0):=
 TrOk.ofTest (fun h0=>TrOk.ofStop) (fun h0=>TrOk.ofTest (fun h2=>TrOk.ofTest (fun h4=>TrOk.ofTest (fun h6=>TrOk.ofTest (fun h8=>TrOk.ofTest (fun h10=>TrOk.ofFin (PureRuns.of (e56_1 x0) (ac h10 (ac rfl (ac h8 (ac (sc56_0) (ac h6 (ac rfl (ac h4 (ac rfl (ac h2 (ac rfl (ac h0 All.nil))))))))))))) (fun h10=>TrOk.ofStop)) (fun h8=>TrOk.ofStop)) (fun h6=>TrOk.ofStop)) (fun h4=>TrOk.ofStop)) (fun h2=>TrOk.ofTest (fun h3=>TrOk.ofStop) (fun h3=>TrOk.ofStop)))
theorem ok56:PureOk Proofs.Tryz.prog 56 p56:=qaf kl105_0_1_ok.base (T:=fun(d:Tys.data as56)=>t56 d.1) (by kernel_rfl) (fun(d:Tys.data as56)=>ok56_t d.1)
def kf56(P:Go.Program):Known:=(kl105_0_1 P).func 56 p56
theorem kf56_ok:KnownOk Proofs.Tryz.prog (kf56 Proofs.Tryz.prog):=kl105_0_1_ok.func ok56
abbrev sh32_0:Sh:={ n:=19,slots:=[3,4],pats:=[.ty (.slice (.int .i64)),.acc (.slice (.int .i64))],boxes:=[] }
abbrev shb32_0:Sh:={ n:=19,slots:=[4],pats:=[.acc (.slice (.int .i64))],boxes:=[] }
abbrev shr32_0:Sh:={ n:=19,slots:=[],pats:=[],boxes:=[] }
def t32_0(x0:(List Int))(x1:List (List Int)):Tr (Out sh32_0.data shb32_0.data shr32_0.data):= Tr.test (Option.isSome (f55 (x0,()))) (let r0:=g55 (x0,());Tr.test ((!r0.1:Bool)) (Tr.test (Option.isSome (f56 (x0,()))) (Tr.test ((Nat.ble (((2:Nat)*(List.length x1+(1:Nat))+(192:Nat))*(24:Nat)) (281474976710656:Nat)&&Nat.ble (List.length x1+(1:Nat)) (281474976710656:Nat):Bool)) (let r1:=g56 (x0,());Tr.fin (.again ((r1.1,((x1++[r1.1]:List (List Int)),())),()))) (Tr.stop)) (Tr.stop)) (Tr.fin (.brk ((x1,()),())))) (Tr.stop)
def s32_0(d:sh32_0.data):Option (Out sh32_0.data shb32_0.data shr32_0.data):=(t32_0 d.1.1 d.1.2.1).val
def l32_0(d:sh32_0.data):Option (shb32_0.data ⊕ shr32_0.data):=itr s32_0 rounds d
def b32_0(d:sh32_0.data):shb32_0.data:=outB shb32_0.dflt (l32_0 d)
def lc32_0:LoopC:=lcB sh32_0 shb32_0 shr32_0 l32_0 b32_0
def wwe:List Nat:=[4,2]
theorem wk32_0(x0:(List Int))(x1:List (List Int)):Walks (qap (kf56 Proofs.Tryz.prog).orc Proofs.Tryz.prog 400 32 0 sh32_0 shb32_0 shr32_0 ((x0,x1,()),())) (t32_0 x0 x1) [(bl 4 15,8::6::wwe),(bl 2 1,wwe)]:=
 ⟨by kernel_rfl,by kernel_rfl,trivial⟩
theorem ok32_0:qay Proofs.Tryz.prog 32 0 lc32_0:=qaB (sh:=sh32_0) (shB:=shb32_0) (shR:=shr32_0) kf56_ok.base (T:=fun(d:sh32_0.data)=>t32_0 d.1.1 d.1.2.1) (by kernel_rfl) rfl (fun(d:sh32_0.data)=>wB (wk32_0 d.1.1 d.1.2.1) (by kernel_rfl)) (fun _=>rfl)
def kl32_0(P:Go.Program):Known:=(kf56 P).loop 32 0 lc32_0
theorem kl32_0_ok:KnownOk Proofs.Tryz.prog (kl32_0 Proofs.Tryz.prog):=kf56_ok.loop ok32_0
abbrev as32:List Ty:=[(.slice (.int .i64))]
abbrev rs32:List Ty:=[(.slice (.slice (.int .i64)))]
def t32(x0:(List Int)):Tr (Tys.data rs32):= Tr.test (Option.isSome (f54 (x0,()))) (let r0:=g54 (x0,());Tr.test (qa5 (l32_0 ((r0.1,(([r0.1]:List (List Int)),())),()))) (let r1:=b32_0 ((r0.1,(([r0.1]:List (List Int)),())),());Tr.fin ((r1.1.1,()))) (Tr.stop)) (Tr.stop)
def f32(d:Tys.data as32):Option (Tys.data rs32):=(t32 d.1).val
def g32(d:Tys.data as32):Tys.data rs32:=(f32 d).getD (Tys.dflt rs32)
def p32:PureC:=pcOf as32 rs32 f32 g32
theorem wk32(x0:(List Int)):Walks (runPure (kl32_0 Proofs.Tryz.prog).orc Proofs.Tryz.prog 400 32 as32 rs32 (x0,())) (t32 x0) [(bl 2 3,[1,4,2])]:=
 ⟨by kernel_rfl,trivial⟩
theorem ok32:PureOk Proofs.Tryz.prog 32 p32:=qaf kl32_0_ok.base (T:=fun(d:Tys.data as32)=>t32 d.1) (by kernel_rfl) (fun(d:Tys.data as32)=>wP (wk32 d.1) (by kernel_rfl))
def kf32(P:Go.Program):Known:=(kl32_0 P).func 32 p32
theorem kf32_ok:KnownOk Proofs.Tryz.prog (kf32 Proofs.Tryz.prog):=kl32_0_ok.func ok32
abbrev as33:List Ty:=[(.slice (.int .i64))]
abbrev rs33:List Ty:=[.bool]
def t33(x0:(List Int)):Tr (Tys.data rs33):= Tr.test (Option.isSome (f32 (x0,()))) (let r0:=g32 (x0,());Tr.test ((decide ((0:Int)≤wrap64 ((↑(List.length r0.1):Int)-(1:Int)))&&decide (wrap64 ((↑(List.length r0.1):Int)-(1:Int))<(↑(List.length r0.1):Int)):Bool)) (Tr.fin (((eqF (↑(List.length (List.getD r0.1 (Int.toNat (wrap64 ((↑(List.length r0.1):Int)-(1:Int)))) [])):Int) (1:Int):Bool),()))) (Tr.stop)) (Tr.stop)
def f33(d:Tys.data as33):Option (Tys.data rs33):=(t33 d.1).val
def g33(d:Tys.data as33):Tys.data rs33:=(f33 d).getD (Tys.dflt rs33)
def p33:PureC:=pcOf as33 rs33 f33 g33
theorem wk33(x0:(List Int)):Walks (runPure (kf32 Proofs.Tryz.prog).orc Proofs.Tryz.prog 400 33 as33 rs33 (x0,())) (t33 x0) [(bl 2 3,[4,2])]:=
 ⟨by kernel_rfl,trivial⟩
theorem ok33:PureOk Proofs.Tryz.prog 33 p33:=qaf kf32_ok.base (T:=fun(d:Tys.data as33)=>t33 d.1) (by kernel_rfl) (fun(d:Tys.data as33)=>wP (wk33 d.1) (by kernel_rfl))
def kf33(P:Go.Program):Known:=(kf32 P).func 33 p33
theorem kf33_ok:KnownOk Proofs.Tryz.prog (kf33 Proofs.Tryz.prog):=kf32_ok.func ok33
theorem sc37_0:qaW Proofs.Tryz.prog 37 0=true:=qfe (by kernel_rfl)
abbrev sh86_0_1(P:Go.Program):Sh:={ n:=42,slots:=[0,1,3],pats:=[.yld 0,.ptr 1 4 0,.ptr 5 1 0],boxes:=[.lp (lpOf P 37 0 .ready none 14 [2,3] 2) [.ptr 3 1 0,.ptr 4 1 0],.row [.ty (.slice (.int .i64)),.ty (.slice (.int .i64)),.ty (.int .i64),.ty (.int .i64)],.dfr,.row [.ty (.int .i64)],.row [.ty .bool],.row [.ty (.int .i64)]],mv:=1 }
abbrev shb86_0_1(P:Go.Program):Sh:={ n:=42,slots:=[3],pats:=[.ptr 5 1 0],boxes:=[.lp (lpOf P 37 0 .ready none 14 [2,3] 2) [.ptr 3 1 0,.ptr 4 1 0],.row [.ty (.slice (.int .i64)),.ty (.slice (.int .i64)),.ty (.int .i64),.ty (.int .i64)],.dfr,.row [.ty (.int .i64)],.row [.ty .bool],.row [.ty (.int .i64)]],mv:=1 }
abbrev shr86_0_1(P:Go.Program):Sh:={ n:=42,slots:=[3],pats:=[.ptr 5 1 0],boxes:=[.lp (lpOf P 37 0 .done (some none) 14 [2,3] 2) [.ptr 3 1 0,.ptr 4 1 0],.row [.ty (.slice (.int .i64)),.ty (.slice (.int .i64)),.ty (.int .i64),.ty (.int .i64)],.dfr,.row [.ty (.int .i64)],.row [.ty .bool],.row [.ty (.int .i64)]],mv:=1 }
abbrev dt86_0_1:Type:=PUnit×PUnit×(List Int×List Int×Int×Int×PUnit)×(Int×PUnit)×(Bool×PUnit)×(Int×PUnit)×PUnit
abbrev db86_0_1:Type:=PUnit×PUnit×(List Int×List Int×Int×Int×PUnit)×(Int×PUnit)×(Bool×PUnit)×(Int×PUnit)×PUnit
abbrev dr86_0_1:Type:=PUnit×PUnit×(List Int×List Int×Int×Int×PUnit)×(Int×PUnit)×(Bool×PUnit)×(Int×PUnit)×PUnit
def t86_0_1(b1_0:(List Int))(b1_1:List Int)(b1_2:Int)(b1_3:Int)(b3_0:Int)(b4_0:Bool)(b5_0:Int):Tr (Out dt86_0_1 db86_0_1 dr86_0_1):= Tr.test ((leF b5_0 b1_3:Bool)) (Tr.test (qa5 (l105_0 (((if(↑(List.length b1_1):Int)<(↑(List.length b1_0):Int)then(↑(List.length b1_1):Int)else(↑(List.length b1_0):Int):Int),((0:Int),())),((),((b1_0,()),((b1_1,()),((b5_0,()),((([]:List Int),()),())))))))) (let r0:=b105_0 (((if(↑(List.length b1_1):Int)<(↑(List.length b1_0):Int)then(↑(List.length b1_1):Int)else(↑(List.length b1_0):Int):Int),((0:Int),())),((),((b1_0,()),((b1_1,()),((b5_0,()),((([]:List Int),()),()))))));Tr.test (Option.isSome (f33 (r0.2.2.2.2.2.1.1,()))) (let r1:=g33 (r0.2.2.2.2.2.1.1,());Tr.test ((!r1.1:Bool)) (Tr.fin (.ret ((),((),((b1_0,(b1_1,(b1_2,(b1_3,())))),((r0.2.2.2.2.1.1,()),(((true:Bool),()),((r0.2.2.2.2.1.1,()),())))))))) (Tr.fin (.again ((),((),((b1_0,(b1_1,(b1_2,(b1_3,())))),((b3_0,()),((b4_0,()),(((wrap64 (r0.2.2.2.2.1.1+(1:Int)):Int),()),()))))))))) (Tr.stop)) (Tr.stop)) (Tr.fin (.brk ((),((),((b1_0,(b1_1,(b1_2,(b1_3,())))),((b3_0,()),((b4_0,()),((b5_0,()),()))))))))
def s86_0_1(d:dt86_0_1):Option (Out dt86_0_1 db86_0_1 dr86_0_1):=(t86_0_1 d.2.2.1.1 d.2.2.1.2.1 d.2.2.1.2.2.1 d.2.2.1.2.2.2.1 d.2.2.2.1.1 d.2.2.2.2.1.1 d.2.2.2.2.2.1.1).val
def l86_0_1(d:dt86_0_1):Option (db86_0_1 ⊕ dr86_0_1):=itr s86_0_1 rounds d
def b86_0_1(d:dt86_0_1):db86_0_1:=outB (((),((),((([]:List Int),(([]:List Int),((0:Int),((0:Int),())))),(((0:Int),()),(((false:Bool),()),(((0:Int),()),()))))))) (l86_0_1 d)
def r86_0_1(d:dt86_0_1):dr86_0_1:=outR (((),((),((([]:List Int),(([]:List Int),((0:Int),((0:Int),())))),(((0:Int),()),(((false:Bool),()),(((0:Int),()),()))))))) (l86_0_1 d)
def lc86_0_1(P:Go.Program):LoopC:=lcOf (sh86_0_1 P) (shb86_0_1 P) (shr86_0_1 P) l86_0_1 b86_0_1 r86_0_1
theorem e86_0_1_0(b1_0:(List Int))(b1_1:List Int)(b1_2:Int)(b1_3:Int)(b3_0:Int)(b4_0:Bool)(b5_0:Int):qap (kf33 Proofs.Tryz.prog).orc Proofs.Tryz.prog 400 86 0 (sh86_0_1 Proofs.Tryz.prog) (shb86_0_1 Proofs.Tryz.prog) (shr86_0_1 Proofs.Tryz.prog) ((),(),(b1_0,b1_1,b1_2,b1_3,()),(b3_0,()),(b4_0,()),(b5_0,()),()) [tt,tt,tt,tt,tt,tt,tt] =
 (let r0:=b105_0 (((if(↑(List.length b1_1):Int)<(↑(List.length b1_0):Int)then(↑(List.length b1_1):Int)else(↑(List.length b1_0):Int):Int),((0:Int),())),((),((b1_0,()),((b1_1,()),((b5_0,()),((([]:List Int),()),()))))));let r1:=g33 (r0.2.2.2.2.2.1.1,());some (.ret ((),((),((b1_0,(b1_1,(b1_2,(b1_3,())))),((r0.2.2.2.2.1.1,()),((true,()),((r0.2.2.2.2.1.1,()),())))))),[(qaW Proofs.Tryz.prog (nat_lit 37) (nat_lit 0),true),(true,true),(!r1.1,true),(Option.isSome (f33 (r0.2.2.2.2.2.1.1,())),true),(true,true),(qa5 (l105_0 (((if(↑(List.length b1_1):Int)<(↑(List.length b1_0):Int)then(↑(List.length b1_1):Int)else(↑(List.length b1_0):Int):Int),((0:Int),())),((),((b1_0,()),((b1_1,()),((b5_0,()),((([]:List Int),()),()))))))),true),(qaW Proofs.Tryz.prog (nat_lit 86) (nat_lit 0),true),(leF b5_0 b1_3,true)])):=by kernel_rfl
theorem e86_0_1_1(b1_0:(List Int))(b1_1:List Int)(b1_2:Int)(b1_3:Int)(b3_0:Int)(b4_0:Bool)(b5_0:Int):qap (kf33 Proofs.Tryz.prog).orc Proofs.Tryz.prog 400 86 0 (sh86_0_1 Proofs.Tryz.prog) (shb86_0_1 Proofs.Tryz.prog) (shr86_0_1 Proofs.Tryz.prog) ((),(),(b1_0,b1_1,b1_2,b1_3,()),(b3_0,()),(b4_0,()),(b5_0,()),()) [tt,tt,tt,tt,tt,ff,ff] =
 (let r0:=b105_0 (((if(↑(List.length b1_1):Int)<(↑(List.length b1_0):Int)then(↑(List.length b1_1):Int)else(↑(List.length b1_0):Int):Int),((0:Int),())),((),((b1_0,()),((b1_1,()),((b5_0,()),((([]:List Int),()),()))))));let r1:=g33 (r0.2.2.2.2.2.1.1,());some (.again ((),((),((b1_0,(b1_1,(b1_2,(b1_3,())))),((b3_0,()),((b4_0,()),(((wrap64 (r0.2.2.2.2.1.1+(1:Int)):Int),()),())))))),[(qaW Proofs.Tryz.prog (nat_lit 37) (nat_lit 0),true),(false,false),(!r1.1,false),(Option.isSome (f33 (r0.2.2.2.2.2.1.1,())),true),(true,true),(qa5 (l105_0 (((if(↑(List.length b1_1):Int)<(↑(List.length b1_0):Int)then(↑(List.length b1_1):Int)else(↑(List.length b1_0):Int):Int),((0:Int),())),((),((b1_0,()),((b1_1,()),((b5_0,()),((([]:List Int),()),()))))))),true),(qaW Proofs.Tryz.prog (nat_lit 86) (nat_lit 0),true),(leF b5_0 b1_3,true)])):=by kernel_rfl
theorem e86_0_1_2(b1_0:(List Int))(b1_1:List Int)(b1_2:Int)(b1_3:Int)(b3_0:Int)(b4_0:Bool)(b5_0:Int):qap (kf33 Proofs.Tryz.prog).orc Proofs.Tryz.prog 400 86 0 (sh86_0_1 Proofs.Tryz.prog) (shb86_0_1 Proofs.Tryz.prog) (shr86_0_1 Proofs.Tryz.prog) ((),(),(b1_0,b1_1,b1_2,b1_3,()),(b3_0,()),(b4_0,()),(b5_0,()),()) [ff] =
 (some (.brk ((),((),((b1_0,(b1_1,(b1_2,(b1_3,())))),((b3_0,()),((b4_0,()),((b5_0,()),())))))),[(qaW Proofs.Tryz.prog (nat_lit 37) (nat_lit 0),true),(leF b5_0 b1_3,false)])):=by kernel_rfl
theorem ok86_0_1_t(b1_0:(List Int))(b1_1:List Int)(b1_2:Int)(b1_3:Int)(b3_0:Int)(b4_0:Bool)(b5_0:Int):TrOk (BodyRuns Proofs.Tryz.prog (kf33 Proofs.Tryz.prog).orc 86 0 (sh86_0_1 Proofs.Tryz.prog) (shb86_0_1 Proofs.Tryz.prog) (shr86_0_1 Proofs.Tryz.prog) ((),(),(b1_0,b1_1,b1_2,b1_3,()),(b3_0,()),(b4_0,()),(b5_0,()),())) (t86_0_1 b1_0 b1_1 b1_2 b1_3 b3_0 b4_0 b5_0):=
 TrOk.ofTest (fun h0=>TrOk.ofTest (fun h2=>TrOk.ofTest (fun h4=>TrOk.ofTest (fun h5=>TrOk.ofFin (BodyRuns.of (e86_0_1_0 b1_0 b1_1 b1_2 b1_3 b3_0 b4_0 b5_0) (ac (sc37_0) (ac rfl (ac h5 (ac h4 (ac rfl (ac h2 (ac (sc86_0) (ac h0 All.nil)))))))))) (fun h5=>TrOk.ofFin (BodyRuns.of (e86_0_1_1 b1_0 b1_1 b1_2 b1_3 b3_0 b4_0 b5_0) (ac (sc37_0) (ac rfl (ac h5 (ac h4 (ac rfl (ac h2 (ac (sc86_0) (ac h0 All.nil))))))))))) (fun h4=>TrOk.ofStop)) (fun h2=>TrOk.ofStop)) (fun h0=>TrOk.ofFin (BodyRuns.of (e86_0_1_2 b1_0 b1_1 b1_2 b1_3 b3_0 b4_0 b5_0) (ac (sc37_0) (ac h0 All.nil))))
theorem ok86_0_1:qay Proofs.Tryz.prog 86 0 (lc86_0_1 Proofs.Tryz.prog):=qbE (sh:=(sh86_0_1 Proofs.Tryz.prog)) (shB:=(shb86_0_1 Proofs.Tryz.prog)) (shR:=(shr86_0_1 Proofs.Tryz.prog)) kf33_ok.base (T:=fun(d:dt86_0_1)=>t86_0_1 d.2.2.1.1 d.2.2.1.2.1 d.2.2.1.2.2.1 d.2.2.1.2.2.2.1 d.2.2.2.1.1 d.2.2.2.2.1.1 d.2.2.2.2.2.1.1) (by kernel_rfl) rfl (fun(d:dt86_0_1)=>ok86_0_1_t d.2.2.1.1 d.2.2.1.2.1 d.2.2.1.2.2.1 d.2.2.1.2.2.2.1 d.2.2.2.1.1 d.2.2.2.2.1.1 d.2.2.2.2.2.1.1) (fun _=>rfl)
def kl86_0_1(P:Go.Program):Known:=(kf33 P).loop 86 0 (lc86_0_1 P)
theorem kl86_0_1_ok:KnownOk Proofs.Tryz.prog (kl86_0_1 Proofs.Tryz.prog):=kf33_ok.loop ok86_0_1
abbrev as37:List Ty:=[(.pair (.pair (.slice (.int .i64)) (.pair (.slice (.int .i64)) (.pair (.pair (.int .i64) (.pair (.int .i64) .unit)) .unit))) .unit)]
abbrev rs37:List Ty:=[(.int .i64),.bool]
def t37(x0_:(List Int))(x0_':List Int)(x0_''_:Int)(x0_''_':Int):Tr (Tys.data rs37):= Tr.test (Option.isSome (l86_0_1 ((),((),((x0_,(x0_',(x0_''_,(x0_''_',())))),(((0:Int),()),(((false:Bool),()),((x0_''_,()),())))))))) (Tr.test (qbg (l86_0_1 ((),((),((x0_,(x0_',(x0_''_,(x0_''_',())))),(((0:Int),()),((false,()),((x0_''_,()),())))))))) (let r0:=r86_0_1 ((),((),((x0_,(x0_',(x0_''_,(x0_''_',())))),(((0:Int),()),(((false:Bool),()),((x0_''_,()),()))))));Tr.fin ((r0.2.2.2.1.1,(r0.2.2.2.2.1.1,())))) (Tr.fin (((0:Int),((false:Bool),()))))) (Tr.stop)
def f37(d:Tys.data as37):Option (Tys.data rs37):=(t37 d.1.1.1 d.1.1.2.1 d.1.1.2.2.1.1 d.1.1.2.2.1.2.1).val
def g37(d:Tys.data as37):Tys.data rs37:=(f37 d).getD (Tys.dflt rs37)
def p37:PureC:=pcOf as37 rs37 f37 g37
theorem e37_0(x0_:(List Int))(x0_':List Int)(x0_''_:Int)(x0_''_':Int):runPure (kl86_0_1 Proofs.Tryz.prog).orc Proofs.Tryz.prog 400 37 as37 rs37 (((x0_,x0_',(x0_''_,x0_''_',()),()),()),()) [tt,tt,tt] =
 (let r0:=r86_0_1 ((),((),((x0_,(x0_',(x0_''_,(x0_''_',())))),(((0:Int),()),((false,()),((x0_''_,()),()))))));some ((r0.2.2.2.1.1,(r0.2.2.2.2.1.1,())),[(qbg (l86_0_1 ((),((),((x0_,(x0_',(x0_''_,(x0_''_',())))),(((0:Int),()),((false,()),((x0_''_,()),()))))))),true),(Option.isSome (l86_0_1 ((),((),((x0_,(x0_',(x0_''_,(x0_''_',())))),(((0:Int),()),((false,()),((x0_''_,()),()))))))),true),(qaW Proofs.Tryz.prog (nat_lit 37) (nat_lit 0),true)])):=by kernel_rfl
theorem e37_1(x0_:(List Int))(x0_':List Int)(x0_''_:Int)(x0_''_':Int):runPure (kl86_0_1 Proofs.Tryz.prog).orc Proofs.Tryz.prog 400 37 as37 rs37 (((x0_,x0_',(x0_''_,x0_''_',()),()),()),()) [tt,tt,ff] =
 (some (((0:Int),(false,())),[(qbg (l86_0_1 ((),((),((x0_,(x0_',(x0_''_,(x0_''_',())))),(((0:Int),()),((false,()),((x0_''_,()),()))))))),false),(Option.isSome (l86_0_1 ((),((),((x0_,(x0_',(x0_''_,(x0_''_',())))),(((0:Int),()),((false,()),((x0_''_,()),()))))))),true),(qaW Proofs.Tryz.prog (nat_lit 37) (nat_lit 0),true)])):=by kernel_rfl
theorem ok37_t(x0_:(List Int))(x0_':List Int)(x0_''_:Int)(x0_''_':Int):TrOk (PureRuns Proofs.Tryz.prog (kl86_0_1 Proofs.Tryz.prog).orc 37 as37 rs37 (((x0_,x0_',(x0_''_,x0_''_',()),()),()),())) (t37 x0_ x0_' x0_''_ x0_''_'):=
 TrOk.ofTest (fun h1=>TrOk.ofTest (fun h2=>TrOk.ofFin (PureRuns.of (e37_0 x0_ x0_' x0_''_ x0_''_') (ac h2 (ac h1 (ac (sc37_0) All.nil))))) (fun h2=>TrOk.ofFin (PureRuns.of (e37_1 x0_ x0_' x0_''_ x0_''_') (ac h2 (ac h1 (ac (sc37_0) All.nil)))))) (fun h1=>TrOk.ofStop)
theorem ok37:PureOk Proofs.Tryz.prog 37 p37:=qaf kl86_0_1_ok.base (T:=fun(d:Tys.data as37)=>t37 d.1.1.1 d.1.1.2.1 d.1.1.2.2.1.1 d.1.1.2.2.1.2.1) (by kernel_rfl) (fun(d:Tys.data as37)=>ok37_t d.1.1.1 d.1.1.2.1 d.1.1.2.2.1.1 d.1.1.2.2.1.2.1)
def kf37(P:Go.Program):Known:=(kl86_0_1 P).func 37 p37
theorem kf37_ok:KnownOk Proofs.Tryz.prog (kf37 Proofs.Tryz.prog):=kl86_0_1_ok.func ok37
abbrev as17:List Ty:=[(.pair (.slice (.int .i64)) (.pair (.slice (.int .i64)) (.pair (.pair (.int .i64) (.pair (.int .i64) .unit)) .unit)))]
abbrev rs17:List Ty:=[(.int .i64),(.int .i64)]
def t17(x0:(List Int))(x0':List Int)(x0''_:Int)(x0''_':Int):Tr (Tys.data rs17):= Tr.test (Option.isSome (f36 ((x0,(x0',((x0''_,(x0''_',())),()))),()))) (let r0:=g36 ((x0,(x0',((x0''_,(x0''_',())),()))),());Tr.test ((!eqF r0.2.1 0:Bool)) (Tr.fin (((0:Int),(r0.2.1,())))) (Tr.test (Option.isSome (f37 (((r0.1.1.1,(r0.1.1.2.1,((r0.1.1.2.2.1.1,(r0.1.1.2.2.1.2.1,())),()))),()),()))) (let r1:=g37 (((r0.1.1.1,(r0.1.1.2.1,((r0.1.1.2.2.1.1,(r0.1.1.2.2.1.2.1,())),()))),()),());Tr.test (Option.isSome (f38 ((!r1.2.1:Bool),((12:Int),())))) (let r2:=g38 ((!r1.2.1:Bool),((12:Int),()));Tr.fin ((r1.1,(r2.1,())))) (Tr.stop)) (Tr.stop))) (Tr.stop)
def f17(d:Tys.data as17):Option (Tys.data rs17):=(t17 d.1.1 d.1.2.1 d.1.2.2.1.1 d.1.2.2.1.2.1).val
def g17(d:Tys.data as17):Tys.data rs17:=(f17 d).getD (Tys.dflt rs17)
def p17:PureC:=pcOf as17 rs17 f17 g17
def wwf:List Nat:=[4,2]
theorem wk17(x0:(List Int))(x0':List Int)(x0''_:Int)(x0''_':Int):Walks (runPure (kf37 Proofs.Tryz.prog).orc Proofs.Tryz.prog 400 17 as17 rs17 ((x0,x0',(x0''_,x0''_',()),()),())) (t17 x0 x0' x0''_ x0''_') [(bl 2 3,wwf),(bl 4 13,8::6::wwf)]:=
 ⟨by kernel_rfl,by kernel_rfl,trivial⟩
theorem ok17:PureOk Proofs.Tryz.prog 17 p17:=qaf kf37_ok.base (T:=fun(d:Tys.data as17)=>t17 d.1.1 d.1.2.1 d.1.2.2.1.1 d.1.2.2.1.2.1) (by kernel_rfl) (fun(d:Tys.data as17)=>wP (wk17 d.1.1 d.1.2.1 d.1.2.2.1.1 d.1.2.2.1.2.1) (by kernel_rfl))
def kf17(P:Go.Program):Known:=(kf37 P).func 17 p17
theorem kf17_ok:KnownOk Proofs.Tryz.prog (kf17 Proofs.Tryz.prog):=kf37_ok.func ok17
abbrev as19:List Ty:=[(.pair (.slice (.int .i64)) (.pair (.slice (.int .i64)) (.pair (.pair (.int .i64) (.pair (.int .i64) .unit)) .unit)))]
abbrev rs19:List Ty:=[(.int .i64),(.int .i64)]
def t19(x0:(List Int))(x0':List Int)(x0''_:Int)(x0''_':Int):Tr (Tys.data rs19):= Tr.test (Option.isSome (f36 ((x0,(x0',((x0''_,(x0''_',())),()))),()))) (let r0:=g36 ((x0,(x0',((x0''_,(x0''_',())),()))),());Tr.test ((!eqF r0.2.1 0:Bool)) (Tr.fin (((0:Int),(r0.2.1,())))) (Tr.test (Option.isSome (f37 (((r0.1.1.1,(r0.1.1.2.1,((r0.1.1.2.2.1.1,(r0.1.1.2.2.1.2.1,())),()))),()),()))) (let r1:=g37 (((r0.1.1.1,(r0.1.1.2.1,((r0.1.1.2.2.1.1,(r0.1.1.2.2.1.2.1,())),()))),()),());Tr.test ((!r1.2.1:Bool)) (Tr.fin ((r0.1.1.2.2.1.2.1,((0:Int),())))) (Tr.test ((eqF r1.1 r0.1.1.2.2.1.1:Bool)) (Tr.fin (((0:Int),((12:Int),())))) (Tr.fin (((wrap64 (r1.1-(1:Int)):Int),((0:Int),())))))) (Tr.stop))) (Tr.stop)
def f19(d:Tys.data as19):Option (Tys.data rs19):=(t19 d.1.1 d.1.2.1 d.1.2.2.1.1 d.1.2.2.1.2.1).val
def g19(d:Tys.data as19):Tys.data rs19:=(f19 d).getD (Tys.dflt rs19)
def p19:PureC:=pcOf as19 rs19 f19 g19
def wwg:List Nat:=[4,2]
def wwh:List Nat:=8::6::wwg
def wwi:List Nat:=10::wwh
theorem wk19(x0:(List Int))(x0':List Int)(x0''_:Int)(x0''_':Int):Walks (runPure (kf17 Proofs.Tryz.prog).orc Proofs.Tryz.prog 400 19 as19 rs19 ((x0,x0',(x0''_,x0''_',()),()),())) (t19 x0 x0' x0''_ x0''_') [(bl 2 3,wwg),(bl 4 13,wwh),(bl 5 21,wwi),(bl 5 5,wwi)]:=by
 repeat refine⟨by kernel_rfl,?_⟩
 exact trivial
theorem ok19:PureOk Proofs.Tryz.prog 19 p19:=qaf kf17_ok.base (T:=fun(d:Tys.data as19)=>t19 d.1.1 d.1.2.1 d.1.2.2.1.1 d.1.2.2.1.2.1) (by kernel_rfl) (fun(d:Tys.data as19)=>wP (wk19 d.1.1 d.1.2.1 d.1.2.2.1.1 d.1.2.2.1.2.1) (by kernel_rfl))
def kf19(P:Go.Program):Known:=(kf17 P).func 19 p19
theorem kf19_ok:KnownOk Proofs.Tryz.prog (kf19 Proofs.Tryz.prog):=kf17_ok.func ok19
abbrev as16:List Ty:=[(.int .i64),(.int .i64),(.int .i64)]
abbrev rs16:List Ty:=[.bool]
def t16(x0:Int)(x1:Int)(x2:Int):Tr (Tys.data rs16):= Tr.test ((leF x1 x0:Bool)) (Tr.fin ((leF x0 x2,()))) (Tr.fin ((false,())))
def f16(d:Tys.data as16):Option (Tys.data rs16):=(t16 d.1 d.2.1 d.2.2.1).val
def g16(d:Tys.data as16):Tys.data rs16:=(f16 d).getD (Tys.dflt rs16)
def p16:PureC:=pcOf as16 rs16 f16 g16
def wwj:List Nat:=[2,2,2,2]
theorem wk16(x0:Int)(x1:Int)(x2:Int):Walks (runPure (kf19 Proofs.Tryz.prog).orc Proofs.Tryz.prog 400 16 as16 rs16 (x0,x1,x2,())) (t16 x0 x1 x2) [(bl 1 1,wwj),(bl 1 0,wwj)]:=
 ⟨by kernel_rfl,by kernel_rfl,trivial⟩
theorem ok16:PureOk Proofs.Tryz.prog 16 p16:=qaf kf19_ok.base (T:=fun(d:Tys.data as16)=>t16 d.1 d.2.1 d.2.2.1) (by kernel_rfl) (fun(d:Tys.data as16)=>wP (wk16 d.1 d.2.1 d.2.2.1) (by kernel_rfl))
def kf16(P:Go.Program):Known:=(kf19 P).func 16 p16
theorem kf16_ok:KnownOk Proofs.Tryz.prog (kf16 Proofs.Tryz.prog):=kf19_ok.func ok16
abbrev sh22_0:Sh:={ n:=31,slots:=[1,2,5,6],pats:=[.ty (.int .i64),.ptr 0 4 0,.aco (.int .i64),.ty (.int .i64)],boxes:=[.row [.ty (.slice (.int .i64)),.ty (.slice (.int .i64)),.ty (.int .i64),.ty (.int .i64)]] }
abbrev shb22_0:Sh:={ n:=31,slots:=[5],pats:=[.aco (.int .i64)],boxes:=[.row [.ty (.slice (.int .i64)),.ty (.slice (.int .i64)),.ty (.int .i64),.ty (.int .i64)]] }
abbrev shr22_0:Sh:={ n:=31,slots:=[],pats:=[],boxes:=[.row [.ty (.slice (.int .i64)),.ty (.slice (.int .i64)),.ty (.int .i64),.ty (.int .i64)]] }
def t22_0(x0:Int)(x2:List Int)(x3:Int)(b0_0:List Int)(b0_1:List Int)(b0_2:Int)(b0_3:Int):Tr (Out sh22_0.data shb22_0.data shr22_0.data):= Tr.test ((!leF (↑(List.length b0_0):Int) x3:Bool)) (Tr.test (decide ((0:Int)≤x3)&&decide (x3<(↑(List.length b0_0):Int))) (Tr.test ((decide ((0:Int)≤x3)&&decide (x3<(↑(List.length b0_1):Int)):Bool)) (Tr.test ((Nat.ble (((2:Nat)*(List.length x2+(1:Nat))+(192:Nat))*(8:Nat)) (281474976710656:Nat)&&Nat.ble (List.length x2+(1:Nat)) (281474976710656:Nat):Bool)) (Tr.fin (.again ((x0,((x2++[wrap64 (List.getD b0_0 (Int.toNat x3) (0:Int)+wrap64 (x0*List.getD b0_1 (Int.toNat x3) (0:Int)))]:List Int),((wrap64 (x3+(1:Int)):Int),()))),((b0_0,(b0_1,(b0_2,(b0_3,())))),())))) (Tr.stop)) (Tr.stop)) (Tr.stop)) (Tr.fin (.brk ((x2,()),((b0_0,(b0_1,(b0_2,(b0_3,())))),()))))
def s22_0(d:sh22_0.data):Option (Out sh22_0.data shb22_0.data shr22_0.data):=(t22_0 d.1.1 d.1.2.1 d.1.2.2.1 d.2.1.1 d.2.1.2.1 d.2.1.2.2.1 d.2.1.2.2.2.1).val
def l22_0(d:sh22_0.data):Option (shb22_0.data ⊕ shr22_0.data):=itr s22_0 rounds d
def b22_0(d:sh22_0.data):shb22_0.data:=outB shb22_0.dflt (l22_0 d)
def lc22_0:LoopC:=lcB sh22_0 shb22_0 shr22_0 l22_0 b22_0
def wwk:List Nat:=[2]
theorem wk22_0(x0:Int)(x2:List Int)(x3:Int)(b0_0:List Int)(b0_1:List Int)(b0_2:Int)(b0_3:Int):Walks (qap (kf16 Proofs.Tryz.prog).orc Proofs.Tryz.prog 400 22 0 sh22_0 shb22_0 shr22_0 ((x0,x2,x3,()),(b0_0,b0_1,b0_2,b0_3,()),())) (t22_0 x0 x2 x3 b0_0 b0_1 b0_2 b0_3) [(bl 4 15,8::6::4::wwk),(bl 1 0,wwk)]:=
 ⟨by kernel_rfl,by kernel_rfl,trivial⟩
theorem ok22_0:qay Proofs.Tryz.prog 22 0 lc22_0:=qaB (sh:=sh22_0) (shB:=shb22_0) (shR:=shr22_0) kf16_ok.base (T:=fun(d:sh22_0.data)=>t22_0 d.1.1 d.1.2.1 d.1.2.2.1 d.2.1.1 d.2.1.2.1 d.2.1.2.2.1 d.2.1.2.2.2.1) (by kernel_rfl) rfl (fun(d:sh22_0.data)=>wB (wk22_0 d.1.1 d.1.2.1 d.1.2.2.1 d.2.1.1 d.2.1.2.1 d.2.1.2.2.1 d.2.1.2.2.2.1) (by kernel_rfl)) (fun _=>rfl)
def kl22_0(P:Go.Program):Known:=(kf16 P).loop 22 0 lc22_0
theorem kl22_0_ok:KnownOk Proofs.Tryz.prog (kl22_0 Proofs.Tryz.prog):=kf16_ok.loop ok22_0
abbrev as22:List Ty:=[(.pair (.slice (.int .i64)) (.pair (.slice (.int .i64)) (.pair (.pair (.int .i64) (.pair (.int .i64) .unit)) .unit))),(.int .i64)]
abbrev rs22:List Ty:=[(.slice (.int .i64))]
def t22(x0:(List Int))(x0':List Int)(x0''_:Int)(x0''_':Int)(x1:Int):Tr (Tys.data rs22):= Tr.test (qa5 (l22_0 ((x1,(([]:List Int),((0:Int),()))),((x0,(x0',(x0''_,(x0''_',())))),())))) (let r0:=b22_0 ((x1,(([]:List Int),((0:Int),()))),((x0,(x0',(x0''_,(x0''_',())))),()));Tr.fin ((r0.1.1,()))) (Tr.stop)
def f22(d:Tys.data as22):Option (Tys.data rs22):=(t22 d.1.1 d.1.2.1 d.1.2.2.1.1 d.1.2.2.1.2.1 d.2.1).val
def g22(d:Tys.data as22):Tys.data rs22:=(f22 d).getD (Tys.dflt rs22)
def p22:PureC:=pcOf as22 rs22 f22 g22
theorem wk22(x0:(List Int))(x0':List Int)(x0''_:Int)(x0''_':Int)(x1:Int):Walks (runPure (kl22_0 Proofs.Tryz.prog).orc Proofs.Tryz.prog 400 22 as22 rs22 ((x0,x0',(x0''_,x0''_',()),()),x1,())) (t22 x0 x0' x0''_ x0''_' x1) [(bl 1 1,[1,2])]:=
 ⟨by kernel_rfl,trivial⟩
theorem ok22:PureOk Proofs.Tryz.prog 22 p22:=qaf kl22_0_ok.base (T:=fun(d:Tys.data as22)=>t22 d.1.1 d.1.2.1 d.1.2.2.1.1 d.1.2.2.1.2.1 d.2.1) (by kernel_rfl) (fun(d:Tys.data as22)=>wP (wk22 d.1.1 d.1.2.1 d.1.2.2.1.1 d.1.2.2.1.2.1 d.2.1) (by kernel_rfl))
def kf22(P:Go.Program):Known:=(kl22_0 P).func 22 p22
theorem kf22_ok:KnownOk Proofs.Tryz.prog (kf22 Proofs.Tryz.prog):=kl22_0_ok.func ok22
abbrev sh10_0:Sh:={ n:=26,slots:=[0,3],pats:=[.ty (.slice (.int .i64)),.ty (.int .i64)],boxes:=[] }
abbrev shb10_0:Sh:={ n:=26,slots:=[0],pats:=[.ty (.slice (.int .i64))],boxes:=[] }
abbrev shr10_0:Sh:={ n:=26,slots:=[2],pats:=[.ty (.int .i64)],boxes:=[] }
def t10_0(x0:(List Int))(x1:Int):Tr (Out sh10_0.data shb10_0.data shr10_0.data):= Tr.test ((!leF (↑(List.length x0):Int) x1:Bool)) (Tr.test (decide ((0:Int)≤x1)&&decide (x1<(↑(List.length x0):Int))) (Tr.test (Option.isSome (f16 ((List.getD x0 (Int.toNat x1) (0:Int):Int),((-1000:Int),((1000:Int),()))))) (let r0:=g16 ((List.getD x0 (Int.toNat x1) (0:Int):Int),((-1000:Int),((1000:Int),())));Tr.test ((!r0.1:Bool)) (Tr.fin (.ret (((2:Int),()),()))) (Tr.fin (.again ((x0,((wrap64 (x1+(1:Int)):Int),())),())))) (Tr.stop)) (Tr.stop)) (Tr.fin (.brk ((x0,()),())))
def s10_0(d:sh10_0.data):Option (Out sh10_0.data shb10_0.data shr10_0.data):=(t10_0 d.1.1 d.1.2.1).val
def l10_0(d:sh10_0.data):Option (shb10_0.data ⊕ shr10_0.data):=itr s10_0 rounds d
def b10_0(d:sh10_0.data):shb10_0.data:=outB shb10_0.dflt (l10_0 d)
def r10_0(d:sh10_0.data):shr10_0.data:=outR shr10_0.dflt (l10_0 d)
def lc10_0:LoopC:=lcOf sh10_0 shb10_0 shr10_0 l10_0 b10_0 r10_0
def wwl:List Nat:=[2]
def wwm:List Nat:=8::6::4::wwl
theorem wk10_0(x0:(List Int))(x1:Int):Walks (qap (kf22 Proofs.Tryz.prog).orc Proofs.Tryz.prog 400 10 0 sh10_0 shb10_0 shr10_0 ((x0,x1,()),())) (t10_0 x0 x1) [(bl 4 15,wwm),(bl 4 7,wwm),(bl 1 0,wwl)]:=
 ⟨by kernel_rfl,by kernel_rfl,by kernel_rfl,trivial⟩
theorem ok10_0:qay Proofs.Tryz.prog 10 0 lc10_0:=qbE (sh:=sh10_0) (shB:=shb10_0) (shR:=shr10_0) kf22_ok.base (T:=fun(d:sh10_0.data)=>t10_0 d.1.1 d.1.2.1) (by kernel_rfl) rfl (fun(d:sh10_0.data)=>wB (wk10_0 d.1.1 d.1.2.1) (by kernel_rfl)) (fun _=>rfl)
def kl10_0(P:Go.Program):Known:=(kf22 P).loop 10 0 lc10_0
theorem kl10_0_ok:KnownOk Proofs.Tryz.prog (kl10_0 Proofs.Tryz.prog):=kf22_ok.loop ok10_0
abbrev as10:List Ty:=[(.slice (.int .i64))]
abbrev rs10:List Ty:=[(.int .i64)]
def t10(x0:(List Int)):Tr (Tys.data rs10):= Tr.test ((eqF (↑(List.length x0):Int) (0:Int):Bool)) (Tr.fin (((10:Int),()))) (Tr.test (!leF (↑(List.length x0):Int) (4:Int)) (Tr.fin (((8:Int),()))) (Tr.test (Option.isSome (l10_0 ((x0,((0:Int),())),()))) (Tr.test (qbg (l10_0 ((x0,((0:Int),())),()))) (let r0:=r10_0 ((x0,((0:Int),())),());Tr.fin ((r0.1.1,()))) (let r1:=b10_0 ((x0,((0:Int),())),());Tr.test ((true&&decide ((0:Int)<(↑(List.length r1.1.1):Int)):Bool)) (Tr.test ((eqF (List.getD r1.1.1 (0:Nat) (0:Int)) (0:Int):Bool)) (Tr.fin (((11:Int),()))) (Tr.fin (((0:Int),())))) (Tr.stop))) (Tr.stop)))
def f10(d:Tys.data as10):Option (Tys.data rs10):=(t10 d.1).val
def g10(d:Tys.data as10):Tys.data rs10:=(f10 d).getD (Tys.dflt rs10)
def p10:PureC:=pcOf as10 rs10 f10 g10
def wwn:List Nat:=[2]
def wwo:List Nat:=4::wwn
def wwp:List Nat:=8::6::wwo
def wwq:List Nat:=12::10::wwp
theorem wk10(x0:(List Int)):Walks (runPure (kl10_0 Proofs.Tryz.prog).orc Proofs.Tryz.prog 400 10 as10 rs10 (x0,())) (t10 x0) [(bl 1 1,wwn),(bl 2 2,wwo),(bl 4 12,wwp),(bl 6 52,wwq),(bl 6 20,wwq)]:=by
 repeat refine⟨by kernel_rfl,?_⟩
 exact trivial
theorem ok10:PureOk Proofs.Tryz.prog 10 p10:=qaf kl10_0_ok.base (T:=fun(d:Tys.data as10)=>t10 d.1) (by kernel_rfl) (fun(d:Tys.data as10)=>wP (wk10 d.1) (by kernel_rfl))
def kf10(P:Go.Program):Known:=(kl10_0 P).func 10 p10
theorem kf10_ok:KnownOk Proofs.Tryz.prog (kf10 Proofs.Tryz.prog):=kl10_0_ok.func ok10
abbrev sh20_0:Sh:={ n:=82,slots:=[1,3],pats:=[.ptr 0 4 0,.ty (.int .i64)],boxes:=[.row [.ty (.slice (.int .i64)),.ty (.slice (.int .i64)),.ty (.int .i64),.ty (.int .i64)]] }
abbrev shb20_0:Sh:={ n:=82,slots:=[1],pats:=[.ptr 0 4 0],boxes:=[.row [.ty (.slice (.int .i64)),.ty (.slice (.int .i64)),.ty (.int .i64),.ty (.int .i64)]] }
abbrev shr20_0:Sh:={ n:=82,slots:=[2],pats:=[.ty (.int .i64)],boxes:=[.row [.ty (.slice (.int .i64)),.ty (.slice (.int .i64)),.ty (.int .i64),.ty (.int .i64)]] }
def t20_0(x1:Int)(b0_0:List Int)(b0_1:List Int)(b0_2:Int)(b0_3:Int):Tr (Out sh20_0.data shb20_0.data shr20_0.data):= Tr.test ((!leF (↑(List.length b0_0):Int) x1:Bool)) (Tr.test (decide ((0:Int)≤x1)&&decide (x1<(↑(List.length b0_0):Int))) (Tr.test (Option.isSome (f16 ((List.getD b0_0 (Int.toNat x1) (0:Int):Int),((-1000:Int),((1000:Int),()))))) (let r0:=g16 ((List.getD b0_0 (Int.toNat x1) (0:Int):Int),((-1000:Int),((1000:Int),())));Tr.test ((!r0.1:Bool)) (Tr.fin (.ret (((2:Int),()),((b0_0,(b0_1,(b0_2,(b0_3,())))),())))) (Tr.test ((decide ((0:Int)≤x1)&&decide (x1<(↑(List.length b0_1):Int)):Bool)) (Tr.test (Option.isSome (f16 ((List.getD b0_1 (Int.toNat x1) (0:Int):Int),((-1000:Int),((1000:Int),()))))) (let r1:=g16 ((List.getD b0_1 (Int.toNat x1) (0:Int):Int),((-1000:Int),((1000:Int),())));Tr.test ((!r1.1:Bool)) (Tr.fin (.ret (((2:Int),()),((b0_0,(b0_1,(b0_2,(b0_3,())))),())))) (Tr.fin (.again (((wrap64 (x1+(1:Int)):Int),()),((b0_0,(b0_1,(b0_2,(b0_3,())))),()))))) (Tr.stop)) (Tr.stop))) (Tr.stop)) (Tr.stop)) (Tr.fin (.brk ((),((b0_0,(b0_1,(b0_2,(b0_3,())))),()))))
def s20_0(d:sh20_0.data):Option (Out sh20_0.data shb20_0.data shr20_0.data):=(t20_0 d.1.1 d.2.1.1 d.2.1.2.1 d.2.1.2.2.1 d.2.1.2.2.2.1).val
def l20_0(d:sh20_0.data):Option (shb20_0.data ⊕ shr20_0.data):=itr s20_0 rounds d
def b20_0(d:sh20_0.data):shb20_0.data:=outB shb20_0.dflt (l20_0 d)
def r20_0(d:sh20_0.data):shr20_0.data:=outR shr20_0.dflt (l20_0 d)
def lc20_0:LoopC:=lcOf sh20_0 shb20_0 shr20_0 l20_0 b20_0 r20_0
def wwr:List Nat:=[2]
def wws:List Nat:=pk 6 4 519586320 wwr
def wwt:List Nat:=pk 7 7 18805768624 wws
theorem wk20_0(x1:Int)(b0_0:List Int)(b0_1:List Int)(b0_2:Int)(b0_3:Int):Walks (qap (kf10 Proofs.Tryz.prog).orc Proofs.Tryz.prog 400 20 0 sh20_0 shb20_0 shr20_0 ((x1,()),(b0_0,b0_1,b0_2,b0_3,()),())) (t20_0 x1 b0_0 b0_1 b0_2 b0_3) [(bl 4 15,1::8::8::8::8::wws),(bl 7 119,wwt),(bl 7 55,wwt),(bl 1 0,wwr)]:=by
 repeat refine⟨by kernel_rfl,?_⟩
 exact trivial
theorem ok20_0:qay Proofs.Tryz.prog 20 0 lc20_0:=qbE (sh:=sh20_0) (shB:=shb20_0) (shR:=shr20_0) kf10_ok.base (T:=fun(d:sh20_0.data)=>t20_0 d.1.1 d.2.1.1 d.2.1.2.1 d.2.1.2.2.1 d.2.1.2.2.2.1) (by kernel_rfl) rfl (fun(d:sh20_0.data)=>wB (wk20_0 d.1.1 d.2.1.1 d.2.1.2.1 d.2.1.2.2.1 d.2.1.2.2.2.1) (by kernel_rfl)) (fun _=>rfl)
def kl20_0(P:Go.Program):Known:=(kf10 P).loop 20 0 lc20_0
theorem kl20_0_ok:KnownOk Proofs.Tryz.prog (kl20_0 Proofs.Tryz.prog):=kf10_ok.loop ok20_0
abbrev sh20_2:Sh:={ n:=82,slots:=[1,4],pats:=[.ptr 0 4 0,.ty (.int .i64)],boxes:=[.row [.ty (.slice (.int .i64)),.ty (.slice (.int .i64)),.ty (.int .i64),.ty (.int .i64)]] }
abbrev shb20_2:Sh:={ n:=82,slots:=[],pats:=[],boxes:=[.row [.ty (.slice (.int .i64)),.ty (.slice (.int .i64)),.ty (.int .i64),.ty (.int .i64)]] }
abbrev shr20_2:Sh:={ n:=82,slots:=[2],pats:=[.ty (.int .i64)],boxes:=[.row [.ty (.slice (.int .i64)),.ty (.slice (.int .i64)),.ty (.int .i64),.ty (.int .i64)]] }
def t20_2(x1:Int)(b0_0:List Int)(b0_1:List Int)(b0_2:Int)(b0_3:Int):Tr (Out sh20_2.data shb20_2.data shr20_2.data):= Tr.test ((leF x1 b0_3:Bool)) (Tr.test (Option.isSome (f22 ((b0_0,(b0_1,((b0_2,(b0_3,())),()))),(x1,())))) (let r0:=g22 ((b0_0,(b0_1,((b0_2,(b0_3,())),()))),(x1,()));Tr.test (Option.isSome (f10 (r0.1,()))) (let r1:=g10 (r0.1,());Tr.test ((!eqF r1.1 0:Bool)) (Tr.fin (.ret ((r1.1,()),((b0_0,(b0_1,(b0_2,(b0_3,())))),())))) (Tr.fin (.again (((wrap64 (x1+(1:Int)):Int),()),((b0_0,(b0_1,(b0_2,(b0_3,())))),()))))) (Tr.stop)) (Tr.stop)) (Tr.fin (.brk ((),((b0_0,(b0_1,(b0_2,(b0_3,())))),()))))
def s20_2(d:sh20_2.data):Option (Out sh20_2.data shb20_2.data shr20_2.data):=(t20_2 d.1.1 d.2.1.1 d.2.1.2.1 d.2.1.2.2.1 d.2.1.2.2.2.1).val
def l20_2(d:sh20_2.data):Option (shb20_2.data ⊕ shr20_2.data):=itr s20_2 rounds d
def b20_2(d:sh20_2.data):shb20_2.data:=outB shb20_2.dflt (l20_2 d)
def r20_2(d:sh20_2.data):shr20_2.data:=outR shr20_2.dflt (l20_2 d)
def lc20_2:LoopC:=lcOf sh20_2 shb20_2 shr20_2 l20_2 b20_2 r20_2
def wwu:List Nat:=[2]
def wwv:List Nat:=8::6::4::wwu
theorem wk20_2(x1:Int)(b0_0:List Int)(b0_1:List Int)(b0_2:Int)(b0_3:Int):Walks (qap (kl20_0 Proofs.Tryz.prog).orc Proofs.Tryz.prog 400 20 2 sh20_2 shb20_2 shr20_2 ((x1,()),(b0_0,b0_1,b0_2,b0_3,()),())) (t20_2 x1 b0_0 b0_1 b0_2 b0_3) [(bl 4 15,wwv),(bl 4 7,wwv),(bl 1 0,wwu)]:=
 ⟨by kernel_rfl,by kernel_rfl,by kernel_rfl,trivial⟩
theorem ok20_2:qay Proofs.Tryz.prog 20 2 lc20_2:=qbE (sh:=sh20_2) (shB:=shb20_2) (shR:=shr20_2) kl20_0_ok.base (T:=fun(d:sh20_2.data)=>t20_2 d.1.1 d.2.1.1 d.2.1.2.1 d.2.1.2.2.1 d.2.1.2.2.2.1) (by kernel_rfl) rfl (fun(d:sh20_2.data)=>wB (wk20_2 d.1.1 d.2.1.1 d.2.1.2.1 d.2.1.2.2.1 d.2.1.2.2.2.1) (by kernel_rfl)) (fun _=>rfl)
def kl20_2(P:Go.Program):Known:=(kl20_0 P).loop 20 2 lc20_2
theorem kl20_2_ok:KnownOk Proofs.Tryz.prog (kl20_2 Proofs.Tryz.prog):=kl20_0_ok.loop ok20_2
abbrev as20:List Ty:=[(.pair (.slice (.int .i64)) (.pair (.slice (.int .i64)) (.pair (.pair (.int .i64) (.pair (.int .i64) .unit)) .unit)))]
abbrev rs20:List Ty:=[(.int .i64)]
def t20(x0:(List Int))(x0':List Int)(x0''_:Int)(x0''_':Int):Tr (Tys.data rs20):= Tr.test ((eqF (↑(List.length x0):Int) (0:Int):Bool)) (Tr.fin (((10:Int),()))) (Tr.test (!eqF (↑(List.length x0'):Int) (↑(List.length x0):Int)) (Tr.fin (((10:Int),()))) (Tr.test ((!leF (↑(List.length x0):Int) (4:Int):Bool)) (Tr.fin (((8:Int),()))) (Tr.test (Option.isSome (f16 (x0''_,((0:Int),((40:Int),()))))) (let r0:=g16 (x0''_,((0:Int),((40:Int),())));Tr.test ((!r0.1:Bool)) (Tr.fin (((2:Int),()))) (Tr.test (Option.isSome (f16 (x0''_',((0:Int),((40:Int),()))))) (let r1:=g16 (x0''_',((0:Int),((40:Int),())));Tr.test ((!r1.1:Bool)) (Tr.fin (((2:Int),()))) (Tr.test ((!leF x0''_ x0''_':Bool)) (Tr.fin (((9:Int),()))) (Tr.test (Option.isSome (l20_0 (((0:Int),()),((x0,(x0',(x0''_,(x0''_',())))),())))) (Tr.test (qbg (l20_0 (((0:Int),()),((x0,(x0',(x0''_,(x0''_',())))),())))) (let r2:=r20_0 (((0:Int),()),((x0,(x0',(x0''_,(x0''_',())))),()));Tr.fin ((r2.1.1,()))) (let r3:=b20_0 (((0:Int),()),((x0,(x0',(x0''_,(x0''_',())))),()));Tr.test (Option.isSome (l20_2 ((r3.2.1.2.2.1,()),((r3.2.1.1,(r3.2.1.2.1,(r3.2.1.2.2.1,(r3.2.1.2.2.2.1,())))),())))) (Tr.test (qbg (l20_2 ((r3.2.1.2.2.1,()),((r3.2.1.1,(r3.2.1.2.1,(r3.2.1.2.2.1,(r3.2.1.2.2.2.1,())))),())))) (let r4:=r20_2 ((r3.2.1.2.2.1,()),((r3.2.1.1,(r3.2.1.2.1,(r3.2.1.2.2.1,(r3.2.1.2.2.2.1,())))),()));Tr.fin ((r4.1.1,()))) (Tr.fin (((0:Int),())))) (Tr.stop))) (Tr.stop)))) (Tr.stop))) (Tr.stop))))
def f20(d:Tys.data as20):Option (Tys.data rs20):=(t20 d.1.1 d.1.2.1 d.1.2.2.1.1 d.1.2.2.1.2.1).val
def g20(d:Tys.data as20):Tys.data rs20:=(f20 d).getD (Tys.dflt rs20)
def p20:PureC:=pcOf as20 rs20 f20 g20
def www:List Nat:=[2,2,2,2,2,2,2,2]
def wwx:List Nat:=4::www
def wwy:List Nat:=6::wwx
def wwz:List Nat:=pk 5 5 16269840 wwy
def ww10:List Nat:=pk 4 7 573904 wwz
def ww11:List Nat:=16::ww10
def ww12:List Nat:=20::18::ww11
def ww13:List Nat:=24::22::ww12
theorem wk20(x0:(List Int))(x0':List Int)(x0''_:Int)(x0''_':Int):Walks (runPure (kl20_2 Proofs.Tryz.prog).orc Proofs.Tryz.prog 400 20 as20 rs20 ((x0,x0',(x0''_,x0''_',()),()),())) (t20 x0 x0' x0''_ x0''_') [(bl 1 1,1::www),(bl 2 2,wwx),(bl 3 4,wwy),(bl 5 24,1::10::10::wwz),(bl 7 104,ww10),(bl 8 168,ww11),(bl 10 808,ww12),(bl 12 3368,ww13),(bl 12 1320,ww13)]:=by
 repeat refine⟨by kernel_rfl,?_⟩
 exact trivial
theorem ok20:PureOk Proofs.Tryz.prog 20 p20:=qaf kl20_2_ok.base (T:=fun(d:Tys.data as20)=>t20 d.1.1 d.1.2.1 d.1.2.2.1.1 d.1.2.2.1.2.1) (by kernel_rfl) (fun(d:Tys.data as20)=>wP (wk20 d.1.1 d.1.2.1 d.1.2.2.1.1 d.1.2.2.1.2.1) (by kernel_rfl))
def kf20(P:Go.Program):Known:=(kl20_2 P).func 20 p20
theorem kf20_ok:KnownOk Proofs.Tryz.prog (kf20 Proofs.Tryz.prog):=kl20_2_ok.func ok20
abbrev as15:List Ty:=[(.int .i64)]
abbrev rs15:List Ty:=[(.int .i64)]
def t15(x0:Int):Tr (Tys.data rs15):= Tr.fin (((if x0<Go.IntKind.wrap Go.IntKind.i64 ((0:Int)-x0)then Go.IntKind.wrap Go.IntKind.i64 ((0:Int)-x0)else x0:Int),()))
def f15(d:Tys.data as15):Option (Tys.data rs15):=(t15 d.1).val
def g15(d:Tys.data as15):Tys.data rs15:=(f15 d).getD (Tys.dflt rs15)
def p15:PureC:=pcOf as15 rs15 f15 g15
theorem wk15(x0:Int):Walks (runPure (kf20 Proofs.Tryz.prog).orc Proofs.Tryz.prog 400 15 as15 rs15 (x0,())) (t15 x0) [(bl 0 0,[])]:=
 ⟨by kernel_rfl,trivial⟩
theorem ok15:PureOk Proofs.Tryz.prog 15 p15:=qaf kf20_ok.base (T:=fun(d:Tys.data as15)=>t15 d.1) (by kernel_rfl) (fun(d:Tys.data as15)=>wP (wk15 d.1) (by kernel_rfl))
def kf15(P:Go.Program):Known:=(kf20 P).func 15 p15
theorem kf15_ok:KnownOk Proofs.Tryz.prog (kf15 Proofs.Tryz.prog):=kf20_ok.func ok15
abbrev sh57_0:Sh:={ n:=13,slots:=[0,1],pats:=[.ty (.int .i64),.ty (.int .i64)],boxes:=[] }
abbrev shb57_0:Sh:={ n:=13,slots:=[0],pats:=[.ty (.int .i64)],boxes:=[] }
abbrev shr57_0:Sh:={ n:=13,slots:=[],pats:=[],boxes:=[] }
def t57_0(x0:Int)(x1:Int):Tr (Out sh57_0.data shb57_0.data shr57_0.data):= Tr.test ((!eqF x1 0:Bool)) (Tr.test (x1==(0:Int)) (Tr.stop) (Tr.fin (.again ((x1,((Int.tmod x0 x1:Int),())),())))) (Tr.fin (.brk ((x0,()),())))
def s57_0(d:sh57_0.data):Option (Out sh57_0.data shb57_0.data shr57_0.data):=(t57_0 d.1.1 d.1.2.1).val
def l57_0(d:sh57_0.data):Option (shb57_0.data ⊕ shr57_0.data):=itr s57_0 rounds d
def b57_0(d:sh57_0.data):shb57_0.data:=outB shb57_0.dflt (l57_0 d)
def lc57_0:LoopC:=lcB sh57_0 shb57_0 shr57_0 l57_0 b57_0
def ww14:List Nat:=[2]
theorem wk57_0(x0:Int)(x1:Int):Walks (qap (kf15 Proofs.Tryz.prog).orc Proofs.Tryz.prog 400 57 0 sh57_0 shb57_0 shr57_0 ((x0,x1,()),())) (t57_0 x0 x1) [(bl 2 1,4::ww14),(bl 1 0,ww14)]:=
 ⟨by kernel_rfl,by kernel_rfl,trivial⟩
theorem ok57_0:qay Proofs.Tryz.prog 57 0 lc57_0:=qaB (sh:=sh57_0) (shB:=shb57_0) (shR:=shr57_0) kf15_ok.base (T:=fun(d:sh57_0.data)=>t57_0 d.1.1 d.1.2.1) (by kernel_rfl) rfl (fun(d:sh57_0.data)=>wB (wk57_0 d.1.1 d.1.2.1) (by kernel_rfl)) (fun _=>rfl)
def kl57_0(P:Go.Program):Known:=(kf15 P).loop 57 0 lc57_0
theorem kl57_0_ok:KnownOk Proofs.Tryz.prog (kl57_0 Proofs.Tryz.prog):=kf15_ok.loop ok57_0
abbrev as57:List Ty:=[(.int .i64),(.int .i64)]
abbrev rs57:List Ty:=[(.int .i64)]
def t57(x0:Int)(x1:Int):Tr (Tys.data rs57):= Tr.test (qa5 (l57_0 ((x0,(x1,())),()))) (let r0:=b57_0 ((x0,(x1,())),());Tr.test (Option.isSome (f15 (r0.1.1,()))) (let r1:=g15 (r0.1.1,());Tr.fin ((r1.1,()))) (Tr.stop)) (Tr.stop)
def f57(d:Tys.data as57):Option (Tys.data rs57):=(t57 d.1 d.2.1).val
def g57(d:Tys.data as57):Tys.data rs57:=(f57 d).getD (Tys.dflt rs57)
def p57:PureC:=pcOf as57 rs57 f57 g57
theorem wk57(x0:Int)(x1:Int):Walks (runPure (kl57_0 Proofs.Tryz.prog).orc Proofs.Tryz.prog 400 57 as57 rs57 (x0,x1,())) (t57 x0 x1) [(bl 2 3,[4,1,2])]:=
 ⟨by kernel_rfl,trivial⟩
theorem ok57:PureOk Proofs.Tryz.prog 57 p57:=qaf kl57_0_ok.base (T:=fun(d:Tys.data as57)=>t57 d.1 d.2.1) (by kernel_rfl) (fun(d:Tys.data as57)=>wP (wk57 d.1 d.2.1) (by kernel_rfl))
def kf57(P:Go.Program):Known:=(kl57_0 P).func 57 p57
theorem kf57_ok:KnownOk Proofs.Tryz.prog (kf57 Proofs.Tryz.prog):=kl57_0_ok.func ok57
abbrev sh35_0:Sh:={ n:=41,slots:=[0,3,4],pats:=[.ty (.slice (.int .i64)),.ty (.int .i64),.ty (.int .i64)],boxes:=[] }
abbrev shb35_0:Sh:={ n:=41,slots:=[0,3],pats:=[.ty (.slice (.int .i64)),.ty (.int .i64)],boxes:=[] }
abbrev shr35_0:Sh:={ n:=41,slots:=[],pats:=[],boxes:=[] }
def t35_0(x0:(List Int))(x1:Int)(x2:Int):Tr (Out sh35_0.data shb35_0.data shr35_0.data):= Tr.test ((!leF (↑(List.length x0):Int) x2:Bool)) (Tr.test (decide ((0:Int)≤x2)&&decide (x2<(↑(List.length x0):Int))) (Tr.test (Option.isSome (f57 (x1,((List.getD x0 (Int.toNat x2) (0:Int):Int),())))) (let r0:=g57 (x1,((List.getD x0 (Int.toNat x2) (0:Int):Int),()));Tr.fin (.again ((x0,(r0.1,((wrap64 (x2+(1:Int)):Int),()))),()))) (Tr.stop)) (Tr.stop)) (Tr.fin (.brk ((x0,(x1,())),())))
def s35_0(d:sh35_0.data):Option (Out sh35_0.data shb35_0.data shr35_0.data):=(t35_0 d.1.1 d.1.2.1 d.1.2.2.1).val
def l35_0(d:sh35_0.data):Option (shb35_0.data ⊕ shr35_0.data):=itr s35_0 rounds d
def b35_0(d:sh35_0.data):shb35_0.data:=outB shb35_0.dflt (l35_0 d)
def lc35_0:LoopC:=lcB sh35_0 shb35_0 shr35_0 l35_0 b35_0
def ww15:List Nat:=[2]
theorem wk35_0(x0:(List Int))(x1:Int)(x2:Int):Walks (qap (kf57 Proofs.Tryz.prog).orc Proofs.Tryz.prog 400 35 0 sh35_0 shb35_0 shr35_0 ((x0,x1,x2,()),())) (t35_0 x0 x1 x2) [(bl 3 7,6::4::ww15),(bl 1 0,ww15)]:=
 ⟨by kernel_rfl,by kernel_rfl,trivial⟩
theorem ok35_0:qay Proofs.Tryz.prog 35 0 lc35_0:=qaB (sh:=sh35_0) (shB:=shb35_0) (shR:=shr35_0) kf57_ok.base (T:=fun(d:sh35_0.data)=>t35_0 d.1.1 d.1.2.1 d.1.2.2.1) (by kernel_rfl) rfl (fun(d:sh35_0.data)=>wB (wk35_0 d.1.1 d.1.2.1 d.1.2.2.1) (by kernel_rfl)) (fun _=>rfl)
def kl35_0(P:Go.Program):Known:=(kf57 P).loop 35 0 lc35_0
theorem kl35_0_ok:KnownOk Proofs.Tryz.prog (kl35_0 Proofs.Tryz.prog):=kf57_ok.loop ok35_0
abbrev sh35_2:Sh:={ n:=41,slots:=[0,3,5,6],pats:=[.ty (.slice (.int .i64)),.ty (.int .i64),.aco (.int .i64),.ty (.int .i64)],boxes:=[] }
abbrev shb35_2:Sh:={ n:=41,slots:=[5],pats:=[.aco (.int .i64)],boxes:=[] }
abbrev shr35_2:Sh:={ n:=41,slots:=[],pats:=[],boxes:=[] }
def t35_2(x0:(List Int))(x1:Int)(x2:List Int)(x3:Int):Tr (Out sh35_2.data shb35_2.data shr35_2.data):= Tr.test ((!leF (↑(List.length x0):Int) x3:Bool)) (Tr.test (decide ((0:Int)≤x3)&&decide (x3<(↑(List.length x0):Int))) (Tr.test ((x1==(0:Int):Bool)) (Tr.stop) (Tr.test ((Nat.ble (((2:Nat)*(List.length x2+(1:Nat))+(192:Nat))*(8:Nat)) (281474976710656:Nat)&&Nat.ble (List.length x2+(1:Nat)) (281474976710656:Nat):Bool)) (Tr.fin (.again ((x0,(x1,((x2++[Go.IntKind.wrap Go.IntKind.i64 (Int.tdiv (List.getD x0 (Int.toNat x3) (0:Int)) x1)]:List Int),((wrap64 (x3+(1:Int)):Int),())))),()))) (Tr.stop))) (Tr.stop)) (Tr.fin (.brk ((x2,()),())))
def s35_2(d:sh35_2.data):Option (Out sh35_2.data shb35_2.data shr35_2.data):=(t35_2 d.1.1 d.1.2.1 d.1.2.2.1 d.1.2.2.2.1).val
def l35_2(d:sh35_2.data):Option (shb35_2.data ⊕ shr35_2.data):=itr s35_2 rounds d
def b35_2(d:sh35_2.data):shb35_2.data:=outB shb35_2.dflt (l35_2 d)
def lc35_2:LoopC:=lcB sh35_2 shb35_2 shr35_2 l35_2 b35_2
def ww16:List Nat:=[2]
theorem wk35_2(x0:(List Int))(x1:Int)(x2:List Int)(x3:Int):Walks (qap (kl35_0 Proofs.Tryz.prog).orc Proofs.Tryz.prog 400 35 2 sh35_2 shb35_2 shr35_2 ((x0,x1,x2,x3,()),())) (t35_2 x0 x1 x2 x3) [(bl 4 11,8::6::4::ww16),(bl 1 0,ww16)]:=
 ⟨by kernel_rfl,by kernel_rfl,trivial⟩
theorem ok35_2:qay Proofs.Tryz.prog 35 2 lc35_2:=qaB (sh:=sh35_2) (shB:=shb35_2) (shR:=shr35_2) kl35_0_ok.base (T:=fun(d:sh35_2.data)=>t35_2 d.1.1 d.1.2.1 d.1.2.2.1 d.1.2.2.2.1) (by kernel_rfl) rfl (fun(d:sh35_2.data)=>wB (wk35_2 d.1.1 d.1.2.1 d.1.2.2.1 d.1.2.2.2.1) (by kernel_rfl)) (fun _=>rfl)
def kl35_2(P:Go.Program):Known:=(kl35_0 P).loop 35 2 lc35_2
theorem kl35_2_ok:KnownOk Proofs.Tryz.prog (kl35_2 Proofs.Tryz.prog):=kl35_0_ok.loop ok35_2
abbrev as35:List Ty:=[(.slice (.int .i64))]
abbrev rs35:List Ty:=[(.slice (.int .i64))]
def t35(x0:(List Int)):Tr (Tys.data rs35):= Tr.test (qa5 (l35_0 ((x0,((0:Int),((0:Int),()))),()))) (let r0:=b35_0 ((x0,((0:Int),((0:Int),()))),());Tr.test ((true&&decide ((0:Int)<(↑(List.length r0.1.1):Int)):Bool)) (Tr.test ((!leF (0:Int) (List.getD r0.1.1 (0:Nat) (0:Int)):Bool)) (Tr.test (qa5 (l35_2 ((r0.1.1,((Go.IntKind.wrap Go.IntKind.i64 ((0:Int)-r0.1.2.1):Int),(([]:List Int),((0:Int),())))),()))) (let r1:=b35_2 ((r0.1.1,((Go.IntKind.wrap Go.IntKind.i64 ((0:Int)-r0.1.2.1):Int),(([]:List Int),((0:Int),())))),());Tr.fin ((r1.1.1,()))) (Tr.stop)) (Tr.test (qa5 (l35_2 ((r0.1.1,(r0.1.2.1,(([]:List Int),((0:Int),())))),()))) (let r2:=b35_2 ((r0.1.1,(r0.1.2.1,(([]:List Int),((0:Int),())))),());Tr.fin ((r2.1.1,()))) (Tr.stop))) (Tr.stop)) (Tr.stop)
def f35(d:Tys.data as35):Option (Tys.data rs35):=(t35 d.1).val
def g35(d:Tys.data as35):Tys.data rs35:=(f35 d).getD (Tys.dflt rs35)
def p35:PureC:=pcOf as35 rs35 f35 g35
def ww17:List Nat:=[1,8,6,4,1,2]
theorem wk35(x0:(List Int)):Walks (runPure (kl35_2 Proofs.Tryz.prog).orc Proofs.Tryz.prog 400 35 as35 rs35 (x0,())) (t35 x0) [(bl 4 15,ww17),(bl 4 11,ww17)]:=
 ⟨by kernel_rfl,by kernel_rfl,trivial⟩
theorem ok35:PureOk Proofs.Tryz.prog 35 p35:=qaf kl35_2_ok.base (T:=fun(d:Tys.data as35)=>t35 d.1) (by kernel_rfl) (fun(d:Tys.data as35)=>wP (wk35 d.1) (by kernel_rfl))
def kf35(P:Go.Program):Known:=(kl35_2 P).func 35 p35
theorem kf35_ok:KnownOk Proofs.Tryz.prog (kf35 Proofs.Tryz.prog):=kl35_2_ok.func ok35
abbrev sh12_2:Sh:={ n:=72,slots:=[3,4,5,6,7],pats:=[.ty (.slice (.int .i64)),.acc (.slice (.int .i64)),.ty (.int .i64),.aco (.int .i64),.ty (.int .i64)],boxes:=[] }
abbrev shb12_2:Sh:={ n:=72,slots:=[4,6],pats:=[.acc (.slice (.int .i64)),.aco (.int .i64)],boxes:=[] }
abbrev shr12_2:Sh:={ n:=72,slots:=[],pats:=[],boxes:=[] }
def t12_2(x0:(List Int))(x1:List (List Int))(x2:Int)(x3:List Int)(x4:Int):Tr (Out sh12_2.data shb12_2.data shr12_2.data):= Tr.test ((!leF x2 x4:Bool)) (Tr.test (true&&decide ((0:Int)<(↑(List.length x0):Int))) (Tr.test ((decide ((0:Int)≤x4)&&decide (x4<(↑(List.length x0):Int)):Bool)) (Tr.test ((decide ((0:Int)≤x2)&&decide (x2<(↑(List.length x0):Int)):Bool)) (Tr.test ((decide ((0:Int)≤wrap64 (x2-x4))&&decide (wrap64 (x2-x4)<(↑(List.length x0):Int)):Bool)) (Tr.test ((Nat.ble (((2:Nat)*(List.length x3+(1:Nat))+(192:Nat))*(8:Nat)) (281474976710656:Nat)&&Nat.ble (List.length x3+(1:Nat)) (281474976710656:Nat):Bool)) (Tr.fin (.again ((x0,(x1,(x2,((x3++[wrap64 (wrap64 (List.getD x0 (0:Nat) (0:Int)*List.getD x0 (Int.toNat x4) (0:Int))-wrap64 (List.getD x0 (Int.toNat x2) (0:Int)*List.getD x0 (Int.toNat (wrap64 (x2-x4))) (0:Int)))]:List Int),((wrap64 (x4+(1:Int)):Int),()))))),()))) (Tr.stop)) (Tr.stop)) (Tr.stop)) (Tr.stop)) (Tr.stop)) (Tr.fin (.brk ((x1,(x3,())),())))
def s12_2(d:sh12_2.data):Option (Out sh12_2.data shb12_2.data shr12_2.data):=(t12_2 d.1.1 d.1.2.1 d.1.2.2.1 d.1.2.2.2.1 d.1.2.2.2.2.1).val
def l12_2(d:sh12_2.data):Option (shb12_2.data ⊕ shr12_2.data):=itr s12_2 rounds d
def b12_2(d:sh12_2.data):shb12_2.data:=outB shb12_2.dflt (l12_2 d)
def lc12_2:LoopC:=lcB sh12_2 shb12_2 shr12_2 l12_2 b12_2
def ww18:List Nat:=[2]
theorem wk12_2(x0:(List Int))(x1:List (List Int))(x2:Int)(x3:List Int)(x4:Int):Walks (qap (kf35 Proofs.Tryz.prog).orc Proofs.Tryz.prog 400 12 2 sh12_2 shb12_2 shr12_2 ((x0,x1,x2,x3,x4,()),())) (t12_2 x0 x1 x2 x3 x4) [(bl 6 63,pk 5 6 16236016 ww18),(bl 1 0,ww18)]:=
 ⟨by kernel_rfl,by kernel_rfl,trivial⟩
theorem ok12_2:qay Proofs.Tryz.prog 12 2 lc12_2:=qaB (sh:=sh12_2) (shB:=shb12_2) (shR:=shr12_2) kf35_ok.base (T:=fun(d:sh12_2.data)=>t12_2 d.1.1 d.1.2.1 d.1.2.2.1 d.1.2.2.2.1 d.1.2.2.2.2.1) (by kernel_rfl) rfl (fun(d:sh12_2.data)=>wB (wk12_2 d.1.1 d.1.2.1 d.1.2.2.1 d.1.2.2.2.1 d.1.2.2.2.2.1) (by kernel_rfl)) (fun _=>rfl)
def kl12_2(P:Go.Program):Known:=(kf35 P).loop 12 2 lc12_2
theorem kl12_2_ok:KnownOk Proofs.Tryz.prog (kl12_2 Proofs.Tryz.prog):=kf35_ok.loop ok12_2
abbrev sh12_0:Sh:={ n:=72,slots:=[3,4],pats:=[.ty (.slice (.int .i64)),.acc (.slice (.int .i64))],boxes:=[] }
abbrev shb12_0:Sh:={ n:=72,slots:=[4],pats:=[.acc (.slice (.int .i64))],boxes:=[] }
abbrev shr12_0:Sh:={ n:=72,slots:=[2],pats:=[.acc (.slice (.int .i64))],boxes:=[] }
def t12_0(x0:(List Int))(x1:List (List Int)):Tr (Out sh12_0.data shb12_0.data shr12_0.data):= Tr.test ((!leF (↑(List.length x0):Int) (1:Int):Bool)) (Tr.test (decide ((0:Int)≤wrap64 ((↑(List.length x0):Int)-(1:Int)))&&decide (wrap64 ((↑(List.length x0):Int)-(1:Int))<(↑(List.length x0):Int))) (Tr.test (Option.isSome (f15 ((List.getD x0 (Int.toNat (wrap64 ((↑(List.length x0):Int)-(1:Int)))) (0:Int):Int),()))) (Tr.test ((true&&decide ((0:Int)<(↑(List.length x0):Int)):Bool)) (let r0:=g15 ((List.getD x0 (Int.toNat (wrap64 ((↑(List.length x0):Int)-(1:Int)))) (0:Int):Int),());Tr.test ((!leF (List.getD x0 (0:Nat) (0:Int)) r0.1:Bool)) (Tr.test ((eqF (wrap64 ((↑(List.length x0):Int)-(1:Int))) (1:Int):Bool)) (Tr.test ((Nat.ble (((2:Nat)*(List.length x1+(1:Nat))+(192:Nat))*(24:Nat)) (281474976710656:Nat)&&Nat.ble (List.length x1+(1:Nat)) (281474976710656:Nat):Bool)) (Tr.fin (.ret (((x1++[[(1:Int)]]:List (List Int)),()),()))) (Tr.stop)) (Tr.test (qa5 (l12_2 ((x0,(x1,((wrap64 ((↑(List.length x0):Int)-(1:Int)):Int),(([]:List Int),((0:Int),()))))),()))) (let r1:=b12_2 ((x0,(x1,((wrap64 ((↑(List.length x0):Int)-(1:Int)):Int),(([]:List Int),((0:Int),()))))),());Tr.test (Option.isSome (f35 (r1.1.2.1,()))) (Tr.test ((Nat.ble (((2:Nat)*(List.length r1.1.1+(1:Nat))+(192:Nat))*(24:Nat)) (281474976710656:Nat)&&Nat.ble (List.length r1.1.1+(1:Nat)) (281474976710656:Nat):Bool)) (let r2:=g35 (r1.1.2.1,());Tr.fin (.again ((r2.1,((r1.1.1++[r2.1]:List (List Int)),())),()))) (Tr.stop)) (Tr.stop)) (Tr.stop))) (Tr.fin (.brk ((x1,()),())))) (Tr.stop)) (Tr.stop)) (Tr.stop)) (Tr.fin (.brk ((x1,()),())))
def s12_0(d:sh12_0.data):Option (Out sh12_0.data shb12_0.data shr12_0.data):=(t12_0 d.1.1 d.1.2.1).val
def l12_0(d:sh12_0.data):Option (shb12_0.data ⊕ shr12_0.data):=itr s12_0 rounds d
def b12_0(d:sh12_0.data):shb12_0.data:=outB shb12_0.dflt (l12_0 d)
def r12_0(d:sh12_0.data):shr12_0.data:=outR shr12_0.dflt (l12_0 d)
def lc12_0:LoopC:=lcOf sh12_0 shb12_0 shr12_0 l12_0 b12_0 r12_0
def ww19:List Nat:=[2,2,2,2,2]
def ww1a:List Nat:=pk 11 5 0x460e941b384190 ww19
def ww1b:List Nat:=14::12::ww1a
theorem wk12_0(x0:(List Int))(x1:List (List Int)):Walks (qap (kl12_2 Proofs.Tryz.prog).orc Proofs.Tryz.prog 400 12 0 sh12_0 shb12_0 shr12_0 ((x0,x1,()),())) (t12_0 x0 x1) [(bl 7 127,ww1b),(bl 9 479,18::16::1::ww1b),(bl 5 15,ww1a),(bl 1 0,pk 8 1 567489872384 ww19)]:=by
 repeat refine⟨by kernel_rfl,?_⟩
 exact trivial
theorem ok12_0:qay Proofs.Tryz.prog 12 0 lc12_0:=qbE (sh:=sh12_0) (shB:=shb12_0) (shR:=shr12_0) kl12_2_ok.base (T:=fun(d:sh12_0.data)=>t12_0 d.1.1 d.1.2.1) (by kernel_rfl) rfl (fun(d:sh12_0.data)=>wB (wk12_0 d.1.1 d.1.2.1) (by kernel_rfl)) (fun _=>rfl)
def kl12_0(P:Go.Program):Known:=(kl12_2 P).loop 12 0 lc12_0
theorem kl12_0_ok:KnownOk Proofs.Tryz.prog (kl12_0 Proofs.Tryz.prog):=kl12_2_ok.loop ok12_0
abbrev as12:List Ty:=[(.slice (.int .i64))]
abbrev rs12:List Ty:=[(.slice (.slice (.int .i64)))]
def t12(x0:(List Int)):Tr (Tys.data rs12):= Tr.test (Option.isSome (f35 (x0,()))) (let r0:=g35 (x0,());Tr.test (Option.isSome (l12_0 ((r0.1,(([r0.1]:List (List Int)),())),()))) (Tr.test (qbg (l12_0 ((r0.1,(([r0.1]:List (List Int)),())),()))) (let r1:=r12_0 ((r0.1,(([r0.1]:List (List Int)),())),());Tr.fin ((r1.1.1,()))) (let r2:=b12_0 ((r0.1,(([r0.1]:List (List Int)),())),());Tr.fin ((r2.1.1,())))) (Tr.stop)) (Tr.stop)
def f12(d:Tys.data as12):Option (Tys.data rs12):=(t12 d.1).val
def g12(d:Tys.data as12):Tys.data rs12:=(f12 d).getD (Tys.dflt rs12)
def p12:PureC:=pcOf as12 rs12 f12 g12
def ww1c:List Nat:=[6,4,2]
theorem wk12(x0:(List Int)):Walks (runPure (kl12_0 Proofs.Tryz.prog).orc Proofs.Tryz.prog 400 12 as12 rs12 (x0,())) (t12 x0) [(bl 3 7,ww1c),(bl 3 3,ww1c)]:=
 ⟨by kernel_rfl,by kernel_rfl,trivial⟩
theorem ok12:PureOk Proofs.Tryz.prog 12 p12:=qaf kl12_0_ok.base (T:=fun(d:Tys.data as12)=>t12 d.1) (by kernel_rfl) (fun(d:Tys.data as12)=>wP (wk12 d.1) (by kernel_rfl))
def kf12(P:Go.Program):Known:=(kl12_0 P).func 12 p12
theorem kf12_ok:KnownOk Proofs.Tryz.prog (kf12 Proofs.Tryz.prog):=kl12_0_ok.func ok12
abbrev as13:List Ty:=[(.slice (.int .i64))]
abbrev rs13:List Ty:=[.bool]
def t13(x0:(List Int)):Tr (Tys.data rs13):= Tr.test (Option.isSome (f12 (x0,()))) (let r0:=g12 (x0,());Tr.test ((decide ((0:Int)≤wrap64 ((↑(List.length r0.1):Int)-(1:Int)))&&decide (wrap64 ((↑(List.length r0.1):Int)-(1:Int))<(↑(List.length r0.1):Int)):Bool)) (Tr.fin (((eqF (↑(List.length (List.getD r0.1 (Int.toNat (wrap64 ((↑(List.length r0.1):Int)-(1:Int)))) [])):Int) (1:Int):Bool),()))) (Tr.stop)) (Tr.stop)
def f13(d:Tys.data as13):Option (Tys.data rs13):=(t13 d.1).val
def g13(d:Tys.data as13):Tys.data rs13:=(f13 d).getD (Tys.dflt rs13)
def p13:PureC:=pcOf as13 rs13 f13 g13
theorem wk13(x0:(List Int)):Walks (runPure (kf12 Proofs.Tryz.prog).orc Proofs.Tryz.prog 400 13 as13 rs13 (x0,())) (t13 x0) [(bl 2 3,[4,2])]:=
 ⟨by kernel_rfl,trivial⟩
theorem ok13:PureOk Proofs.Tryz.prog 13 p13:=qaf kf12_ok.base (T:=fun(d:Tys.data as13)=>t13 d.1) (by kernel_rfl) (fun(d:Tys.data as13)=>wP (wk13 d.1) (by kernel_rfl))
def kf13(P:Go.Program):Known:=(kf12 P).func 13 p13
theorem kf13_ok:KnownOk Proofs.Tryz.prog (kf13 Proofs.Tryz.prog):=kf12_ok.func ok13
abbrev sh21_0:Sh:={ n:=21,slots:=[1,4],pats:=[.ptr 0 4 0,.ty (.int .i64)],boxes:=[.row [.ty (.slice (.int .i64)),.ty (.slice (.int .i64)),.ty (.int .i64),.ty (.int .i64)]] }
abbrev shb21_0:Sh:={ n:=21,slots:=[],pats:=[],boxes:=[.row [.ty (.slice (.int .i64)),.ty (.slice (.int .i64)),.ty (.int .i64),.ty (.int .i64)]] }
abbrev shr21_0:Sh:={ n:=21,slots:=[2,3],pats:=[.ty (.int .i64),.ty .bool],boxes:=[.row [.ty (.slice (.int .i64)),.ty (.slice (.int .i64)),.ty (.int .i64),.ty (.int .i64)]] }
def t21_0(x1:Int)(b0_0:List Int)(b0_1:List Int)(b0_2:Int)(b0_3:Int):Tr (Out sh21_0.data shb21_0.data shr21_0.data):= Tr.test ((leF x1 b0_3:Bool)) (Tr.test (Option.isSome (f22 ((b0_0,(b0_1,((b0_2,(b0_3,())),()))),(x1,())))) (let r0:=g22 ((b0_0,(b0_1,((b0_2,(b0_3,())),()))),(x1,()));Tr.test (Option.isSome (f13 (r0.1,()))) (let r1:=g13 (r0.1,());Tr.test ((!r1.1:Bool)) (Tr.fin (.ret ((x1,((true:Bool),())),((b0_0,(b0_1,(b0_2,(b0_3,())))),())))) (Tr.fin (.again (((wrap64 (x1+(1:Int)):Int),()),((b0_0,(b0_1,(b0_2,(b0_3,())))),()))))) (Tr.stop)) (Tr.stop)) (Tr.fin (.brk ((),((b0_0,(b0_1,(b0_2,(b0_3,())))),()))))
def s21_0(d:sh21_0.data):Option (Out sh21_0.data shb21_0.data shr21_0.data):=(t21_0 d.1.1 d.2.1.1 d.2.1.2.1 d.2.1.2.2.1 d.2.1.2.2.2.1).val
def l21_0(d:sh21_0.data):Option (shb21_0.data ⊕ shr21_0.data):=itr s21_0 rounds d
def b21_0(d:sh21_0.data):shb21_0.data:=outB shb21_0.dflt (l21_0 d)
def r21_0(d:sh21_0.data):shr21_0.data:=outR shr21_0.dflt (l21_0 d)
def lc21_0:LoopC:=lcOf sh21_0 shb21_0 shr21_0 l21_0 b21_0 r21_0
def ww1d:List Nat:=[2]
def ww1e:List Nat:=8::6::4::ww1d
theorem wk21_0(x1:Int)(b0_0:List Int)(b0_1:List Int)(b0_2:Int)(b0_3:Int):Walks (qap (kf13 Proofs.Tryz.prog).orc Proofs.Tryz.prog 400 21 0 sh21_0 shb21_0 shr21_0 ((x1,()),(b0_0,b0_1,b0_2,b0_3,()),())) (t21_0 x1 b0_0 b0_1 b0_2 b0_3) [(bl 4 15,ww1e),(bl 4 7,ww1e),(bl 1 0,ww1d)]:=
 ⟨by kernel_rfl,by kernel_rfl,by kernel_rfl,trivial⟩
theorem ok21_0:qay Proofs.Tryz.prog 21 0 lc21_0:=qbE (sh:=sh21_0) (shB:=shb21_0) (shR:=shr21_0) kf13_ok.base (T:=fun(d:sh21_0.data)=>t21_0 d.1.1 d.2.1.1 d.2.1.2.1 d.2.1.2.2.1 d.2.1.2.2.2.1) (by kernel_rfl) rfl (fun(d:sh21_0.data)=>wB (wk21_0 d.1.1 d.2.1.1 d.2.1.2.1 d.2.1.2.2.1 d.2.1.2.2.2.1) (by kernel_rfl)) (fun _=>rfl)
def kl21_0(P:Go.Program):Known:=(kf13 P).loop 21 0 lc21_0
theorem kl21_0_ok:KnownOk Proofs.Tryz.prog (kl21_0 Proofs.Tryz.prog):=kf13_ok.loop ok21_0
abbrev as21:List Ty:=[(.pair (.slice (.int .i64)) (.pair (.slice (.int .i64)) (.pair (.pair (.int .i64) (.pair (.int .i64) .unit)) .unit)))]
abbrev rs21:List Ty:=[(.int .i64),.bool]
def t21(x0:(List Int))(x0':List Int)(x0''_:Int)(x0''_':Int):Tr (Tys.data rs21):= Tr.test (Option.isSome (l21_0 ((x0''_,()),((x0,(x0',(x0''_,(x0''_',())))),())))) (Tr.test (qbg (l21_0 ((x0''_,()),((x0,(x0',(x0''_,(x0''_',())))),())))) (let r0:=r21_0 ((x0''_,()),((x0,(x0',(x0''_,(x0''_',())))),()));Tr.fin ((r0.1.1,(r0.1.2.1,())))) (Tr.fin (((0:Int),((false:Bool),()))))) (Tr.stop)
def f21(d:Tys.data as21):Option (Tys.data rs21):=(t21 d.1.1 d.1.2.1 d.1.2.2.1.1 d.1.2.2.1.2.1).val
def g21(d:Tys.data as21):Tys.data rs21:=(f21 d).getD (Tys.dflt rs21)
def p21:PureC:=pcOf as21 rs21 f21 g21
def ww1f:List Nat:=[4,2]
theorem wk21(x0:(List Int))(x0':List Int)(x0''_:Int)(x0''_':Int):Walks (runPure (kl21_0 Proofs.Tryz.prog).orc Proofs.Tryz.prog 400 21 as21 rs21 ((x0,x0',(x0''_,x0''_',()),()),())) (t21 x0 x0' x0''_ x0''_') [(bl 2 3,ww1f),(bl 2 1,ww1f)]:=
 ⟨by kernel_rfl,by kernel_rfl,trivial⟩
theorem ok21:PureOk Proofs.Tryz.prog 21 p21:=qaf kl21_0_ok.base (T:=fun(d:Tys.data as21)=>t21 d.1.1 d.1.2.1 d.1.2.2.1.1 d.1.2.2.1.2.1) (by kernel_rfl) (fun(d:Tys.data as21)=>wP (wk21 d.1.1 d.1.2.1 d.1.2.2.1.1 d.1.2.2.1.2.1) (by kernel_rfl))
def kf21(P:Go.Program):Known:=(kl21_0 P).func 21 p21
theorem kf21_ok:KnownOk Proofs.Tryz.prog (kf21 Proofs.Tryz.prog):=kl21_0_ok.func ok21
abbrev as9:List Ty:=[(.slice (.int .i64))]
abbrev rs9:List Ty:=[.bool,(.int .i64)]
def t9(x0:(List Int)):Tr (Tys.data rs9):= Tr.test (Option.isSome (f31 (x0,()))) (let r0:=g31 (x0,());Tr.test ((!eqF r0.1 0:Bool)) (Tr.fin (((false:Bool),(r0.1,())))) (Tr.test (Option.isSome (f33 (x0,()))) (let r1:=g33 (x0,());Tr.fin ((r1.1,((0:Int),())))) (Tr.stop))) (Tr.stop)
def f9(d:Tys.data as9):Option (Tys.data rs9):=(t9 d.1).val
def g9(d:Tys.data as9):Tys.data rs9:=(f9 d).getD (Tys.dflt rs9)
def p9:PureC:=pcOf as9 rs9 f9 g9
def ww1g:List Nat:=[4,2]
theorem wk9(x0:(List Int)):Walks (runPure (kf21 Proofs.Tryz.prog).orc Proofs.Tryz.prog 400 9 as9 rs9 (x0,())) (t9 x0) [(bl 2 3,ww1g),(bl 3 5,6::ww1g)]:=
 ⟨by kernel_rfl,by kernel_rfl,trivial⟩
theorem ok9:PureOk Proofs.Tryz.prog 9 p9:=qaf kf21_ok.base (T:=fun(d:Tys.data as9)=>t9 d.1) (by kernel_rfl) (fun(d:Tys.data as9)=>wP (wk9 d.1) (by kernel_rfl))
def kf9(P:Go.Program):Known:=(kf21 P).func 9 p9
theorem kf9_ok:KnownOk Proofs.Tryz.prog (kf9 Proofs.Tryz.prog):=kf21_ok.func ok9
abbrev as5:List Ty:=[(.pair (.slice (.int .i64)) (.pair (.slice (.int .i64)) (.pair (.pair (.int .i64) (.pair (.int .i64) .unit)) .unit)))]
abbrev rs5:List Ty:=[.bool]
def t5(x0:(List Int))(x0':List Int)(x0''_:Int)(x0''_':Int):Tr (Tys.data rs5):= Tr.test ((!leF (↑(List.length x0):Int) (6:Int):Bool)) (Tr.fin ((true,()))) (Tr.test (!leF (↑(List.length x0'):Int) (6:Int)) (Tr.fin (((true:Bool),()))) (Tr.test (Option.isSome (f18 ((x0,(x0',((x0''_,(x0''_',())),()))),()))) (let r0:=g18 ((x0,(x0',((x0''_,(x0''_',())),()))),());Tr.test (Option.isSome (f17 ((r0.1.1,(r0.1.2.1,((r0.1.2.2.1.1,(r0.1.2.2.1.2.1,())),()))),()))) (Tr.test (Option.isSome (f19 ((r0.1.1,(r0.1.2.1,((r0.1.2.2.1.1,(r0.1.2.2.1.2.1,())),()))),()))) (Tr.test (Option.isSome (f20 ((x0,(x0',((x0''_,(x0''_',())),()))),()))) (let r3:=g20 ((x0,(x0',((x0''_,(x0''_',())),()))),());Tr.test ((!eqF r3.1 0:Bool)) (let r1:=g17 ((r0.1.1,(r0.1.2.1,((r0.1.2.2.1.1,(r0.1.2.2.1.2.1,())),()))),());Tr.test ((eqF r1.2.1 r3.1:Bool)) (let r2:=g19 ((r0.1.1,(r0.1.2.1,((r0.1.2.2.1.1,(r0.1.2.2.1.2.1,())),()))),());Tr.test ((eqF r2.2.1 r3.1:Bool)) (Tr.test ((eqF r1.1 0:Bool)) (Tr.fin (((eqF r2.1 0:Bool),()))) (Tr.fin (((false:Bool),())))) (Tr.fin (((false:Bool),())))) (Tr.fin (((false:Bool),())))) (Tr.test (Option.isSome (f21 ((x0,(x0',((x0''_,(x0''_',())),()))),()))) (let r4:=g21 ((x0,(x0',((x0''_,(x0''_',())),()))),());Tr.test (r4.2.1) (let r1:=g17 ((r0.1.1,(r0.1.2.1,((r0.1.2.2.1.1,(r0.1.2.2.1.2.1,())),()))),());Tr.test ((!eqF r1.2.1 0:Bool)) (Tr.fin (((false:Bool),()))) (Tr.test ((!eqF r1.1 r4.1:Bool)) (Tr.fin (((false:Bool),()))) (Tr.test ((eqF r4.1 x0''_:Bool)) (let r2:=g19 ((r0.1.1,(r0.1.2.1,((r0.1.2.2.1.1,(r0.1.2.2.1.2.1,())),()))),());Tr.test ((eqF r2.2.1 12:Bool)) (Tr.fin (((eqF r2.1 0:Bool),()))) (Tr.fin (((false:Bool),())))) (let r2:=g19 ((r0.1.1,(r0.1.2.1,((r0.1.2.2.1.1,(r0.1.2.2.1.2.1,())),()))),());Tr.test ((!eqF r2.2.1 0:Bool)) (Tr.fin (((false:Bool),()))) (Tr.test ((!eqF r2.1 (wrap64 (r4.1-(1:Int))):Bool)) (Tr.fin (((false:Bool),()))) (Tr.test (Option.isSome (f22 ((x0,(x0',((x0''_,(x0''_',())),()))),(r2.1,())))) (let r5:=g22 ((x0,(x0',((x0''_,(x0''_',())),()))),(r2.1,()));Tr.test (Option.isSome (f9 (r5.1,()))) (let r6:=g9 (r5.1,());Tr.test ((eqF r6.2.1 0:Bool)) (Tr.fin ((r6.1,()))) (Tr.fin (((false:Bool),())))) (Tr.stop)) (Tr.stop))))))) (let r1:=g17 ((r0.1.1,(r0.1.2.1,((r0.1.2.2.1.1,(r0.1.2.2.1.2.1,())),()))),());Tr.test ((!eqF r1.2.1 12:Bool)) (Tr.fin (((false:Bool),()))) (Tr.test ((!eqF r1.1 0:Bool)) (Tr.fin (((false:Bool),()))) (let r2:=g19 ((r0.1.1,(r0.1.2.1,((r0.1.2.2.1.1,(r0.1.2.2.1.2.1,())),()))),());Tr.test ((!eqF r2.2.1 0:Bool)) (Tr.fin (((false:Bool),()))) (Tr.test ((!eqF r2.1 (wrap64 (wrap64 (x0''_'+(1:Int))-(1:Int))):Bool)) (Tr.fin (((false:Bool),()))) (Tr.test (Option.isSome (f22 ((x0,(x0',((x0''_,(x0''_',())),()))),(r2.1,())))) (let r5:=g22 ((x0,(x0',((x0''_,(x0''_',())),()))),(r2.1,()));Tr.test (Option.isSome (f9 (r5.1,()))) (let r6:=g9 (r5.1,());Tr.test ((eqF r6.2.1 0:Bool)) (Tr.fin ((r6.1,()))) (Tr.fin (((false:Bool),())))) (Tr.stop)) (Tr.stop))))))) (Tr.stop))) (Tr.stop)) (Tr.stop)) (Tr.stop)) (Tr.stop)))
def f5(d:Tys.data as5):Option (Tys.data rs5):=(t5 d.1.1 d.1.2.1 d.1.2.2.1.1 d.1.2.2.1.2.1).val
def g5(d:Tys.data as5):Tys.data rs5:=(f5 d).getD (Tys.dflt rs5)
def p5:PureC:=pcOf as5 rs5 f5 g5
def ww1h:List Nat:=[2,2,2,2,2,0,1]
def ww1i:List Nat:=4::ww1h
def ww1j:List Nat:=pk 7 8 16691740144 ww1i
def ww1k:List Nat:=16::16::16::ww1j
def ww1l:List Nat:=18::18::18::ww1k
def ww1m:List Nat:=20::20::20::ww1l
def ww1n:List Nat:=18::18::18::ww1j
def ww1o:List Nat:=pk 6 9 554221104 ww1n
def ww1p:List Nat:=22::22::22::ww1o
def ww1q:List Nat:=24::18::18::18::18::18::18::0::22::19::22::19::19::19::19::ww1p
def ww1r:List Nat:=26::26::26::ww1q
def ww1s:List Nat:=26::26::26::26::26::19::ww1q
def ww1t:List Nat:=28::ww1s
def ww1u:List Nat:=pk 4 17 507408 ww1t
def ww1v:List Nat:=0::19::0::20::19::20::20::19::19::19::0::0::0::18::18::ww1n
def ww1w:List Nat:=22::ww1v
def ww1x:List Nat:=24::24::24::24::24::19::0::18::18::18::18::18::18::ww1w
def ww1y:List Nat:=26::ww1x
def ww1z:List Nat:=pk 4 16 507408 ww1y
theorem wk5n0(x0:(List Int))(x0':List Int)(x0''_:Int)(x0''_':Int):Walks (runPure (kf9 Proofs.Tryz.prog).orc Proofs.Tryz.prog 400 5 as5 rs5 ((x0,x0',(x0''_,x0''_',()),()),())) (t5 x0 x0' x0''_ x0''_') [(bl 1 1,1::ww1h),(bl 2 2,ww1i),(bl 10 1020,ww1m),(bl 10 508,ww1m),(bl 9 252,0::0::0::ww1l),(bl 8 124,pk 6 0 0 ww1k),(bl 10 956,pk 6 0 34636833 ww1o),(bl 11 1468,1::22::22::ww1p),(bl 13 6588,ww1r),(bl 13 2492,ww1r),(bl 13 4540,1::ww1s),(bl 14 8636,ww1t),(bl 17 115132,ww1u),(bl 17 49596,ww1u),(bl 10 700,1::ww1v),(bl 11 1212,ww1w)]:=by
 repeat refine⟨by kernel_rfl,?_⟩
 exact trivial
theorem wk5n1(x0:(List Int))(x0':List Int)(x0''_:Int)(x0''_':Int):Walks (runPure (kf9 Proofs.Tryz.prog).orc Proofs.Tryz.prog 400 5 as5 rs5 ((x0,x0',(x0''_,x0''_',()),()),())) (t5 x0 x0' x0''_ x0''_') [(bl 12 2236,1::ww1x),(bl 13 4284,ww1y),(bl 16 57532,ww1z),(bl 16 24764,ww1z)]:=by
 repeat refine⟨by kernel_rfl,?_⟩
 exact trivial
theorem ok5:PureOk Proofs.Tryz.prog 5 p5:=qaf kf9_ok.base (T:=fun(d:Tys.data as5)=>t5 d.1.1 d.1.2.1 d.1.2.2.1.1 d.1.2.2.1.2.1) (by kernel_rfl) (fun(d:Tys.data as5)=>wP ((wk5n0 d.1.1 d.1.2.1 d.1.2.2.1.1 d.1.2.2.1.2.1).append (wk5n1 d.1.1 d.1.2.1 d.1.2.2.1.1 d.1.2.2.1.2.1)) (by kernel_rfl))
end Go.Vm.Mo
