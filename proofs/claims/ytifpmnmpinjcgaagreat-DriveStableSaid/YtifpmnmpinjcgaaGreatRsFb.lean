import Derived.Test.YtifpmnmpinjcgaaGreatA5
import Derived.KernelRfl
import Derived.Test.YtifpmnmpinjcgaaGreatProg
import Derived.Test.YtifpmnmpinjcgaaGreatRsFa
set_option linter.unusedVariables false
set_option linter.unusedSimpArgs false

namespace Go.Vm.Mo
open Go
set_option linter.unusedVariables false
abbrev sh84_0:Sh:={ n:=28,slots:=[0,2,3],pats:=[.slu 0 1,.ty (.int .i64),.ty (.int .i64)],boxes:=[.arr (.int .i64)] }
abbrev shb84_0:Sh:={ n:=28,slots:=[],pats:=[],boxes:=[.arr (.int .i64)] }
abbrev shr84_0:Sh:={ n:=28,slots:=[],pats:=[],boxes:=[.arr (.int .i64)] }
def t84_0(x0n:Nat)(x1:Int)(x2:Int)(b0:List Int):Tr (Out sh84_0.data shb84_0.data shr84_0.data):= Tr.test ((!leF x2 x1:Bool)) (Tr.test (decide ((0:Int)≤x2)&&decide (x2<(↑x0n:Int))) (Tr.test ((Nat.ble ((0:Nat)+Int.toNat x2+(1:Nat)) (List.length b0):Bool)) (Tr.test ((decide ((0:Int)≤x1)&&decide (x1<(↑x0n:Int)):Bool)) (Tr.test ((Nat.ble ((0:Nat)+Int.toNat x1+(1:Nat)) (List.length b0):Bool)) (Tr.test ((Nat.ble ((0:Nat)+Int.toNat x2+(1:Nat)) (List.length (List.set b0 ((0:Nat)+Int.toNat x1) (List.getD b0 ((0:Nat)+Int.toNat x2) (0:Int)))):Bool)) (Tr.fin (.again ((x0n,((wrap64 (x1+(1:Int)):Int),((wrap64 (x2-(1:Int)):Int),()))),((List.set (List.set b0 ((0:Nat)+Int.toNat x1) (List.getD b0 ((0:Nat)+Int.toNat x2) (0:Int))) ((0:Nat)+Int.toNat x2) (List.getD b0 ((0:Nat)+Int.toNat x1) (0:Int)):List Int),())))) (Tr.stop)) (Tr.stop)) (Tr.stop)) (Tr.stop)) (Tr.stop)) (Tr.fin (.brk ((),(b0,()))))
def s84_0(d:sh84_0.data):Option (Out sh84_0.data shb84_0.data shr84_0.data):=(t84_0 d.1.1 d.1.2.1 d.1.2.2.1 d.2.1).val
def l84_0(d:sh84_0.data):Option (shb84_0.data ⊕ shr84_0.data):=itr s84_0 rounds d
def b84_0(d:sh84_0.data):shb84_0.data:=outB shb84_0.dflt (l84_0 d)
def lc84_0:LoopC:=lcB sh84_0 shb84_0 shr84_0 l84_0 b84_0
def wwk:List Nat:=[2]
theorem wk84_0(x0n:Nat)(x1:Int)(x2:Int)(b0:List Int):Walks (qbm (kf55 Proofs.Tryz.prog).orc Proofs.Tryz.prog 400 84 0 sh84_0 shb84_0 shr84_0 ((x0n,x1,x2,()),b0,())) (t84_0 x0n x1 x2 b0) [(bl 6 63,pk 8 6 532023856528 wwk),(bl 1 0,wwk)]:=
 ⟨by kernel_rfl,by kernel_rfl,trivial⟩
theorem ok84_0:qbt Proofs.Tryz.prog 84 0 lc84_0:=qcg (sh:=sh84_0) (shB:=shb84_0) (shR:=shr84_0) kf55_ok.base (T:=fun(d:sh84_0.data)=>t84_0 d.1.1 d.1.2.1 d.1.2.2.1 d.2.1) (by kernel_rfl) rfl (fun(d:sh84_0.data)=>wB (wk84_0 d.1.1 d.1.2.1 d.1.2.2.1 d.2.1) (by kernel_rfl)) (fun _=>rfl)
def kl84_0(P:Go.Program):Known:=(kf55 P).loop 84 0 lc84_0
theorem kl84_0_ok:KnownOk Proofs.Tryz.prog (kl84_0 Proofs.Tryz.prog):=kf55_ok.loop ok84_0
theorem sc56_0:qjy Proofs.Tryz.prog 56 0=true:=qnU (by kernel_rfl)
abbrev sh105_0(P:Go.Program):Sh:={ n:=25,slots:=[0,1,2,9,10],pats:=[.yld 0,.ptr 1 1 0,.ptr 2 1 0,.ty (.int .i64),.ty (.int .i64)],boxes:=[.lp (lpOf P 56 0 .ready none 39 [1,3,5] 3) [.ptr 4 1 0,.ptr 5 1 0,.ptr 6 1 0],.row [.ty (.slice (.int .i64))],.row [.slu 7 1],.dfr,.row [.ty (.slice (.int .i64))],.row [.ty (.int .i64)],.row [.aco (.int .i64)],.arr (.int .i64)] }
abbrev shb105_0(P:Go.Program):Sh:={ n:=25,slots:=[],pats:=[],boxes:=[.lp (lpOf P 56 0 .ready none 39 [1,3,5] 3) [.ptr 4 1 0,.ptr 5 1 0,.ptr 6 1 0],.row [.ty (.slice (.int .i64))],.row [.slu 7 1],.dfr,.row [.ty (.slice (.int .i64))],.row [.ty (.int .i64)],.row [.aco (.int .i64)],.arr (.int .i64)] }
abbrev shr105_0(P:Go.Program):Sh:={ n:=25,slots:=[],pats:=[],boxes:=[.lp (lpOf P 56 0 .ready none 39 [1,3,5] 3) [.ptr 4 1 0,.ptr 5 1 0,.ptr 6 1 0],.row [.ty (.slice (.int .i64))],.row [.slu 7 1],.dfr,.row [.ty (.slice (.int .i64))],.row [.ty (.int .i64)],.row [.aco (.int .i64)],.arr (.int .i64)] }
abbrev dt105_0:Type:=(Int×Int×PUnit)×PUnit×(List Int×PUnit)×(Nat×PUnit)×(List Int×PUnit)×(Int×PUnit)×(List Int×PUnit)×List Int×PUnit
abbrev db105_0:Type:=PUnit×PUnit×(List Int×PUnit)×(Nat×PUnit)×(List Int×PUnit)×(Int×PUnit)×(List Int×PUnit)×List Int×PUnit
abbrev dr105_0:Type:=PUnit×PUnit×(List Int×PUnit)×(Nat×PUnit)×(List Int×PUnit)×(Int×PUnit)×(List Int×PUnit)×List Int×PUnit
def t105_0(x3:Int)(x4:Int)(b1_0:List Int)(b2_0n:Nat)(b4_0:List Int)(b5_0:Int)(b6_0:List Int)(b7:List Int):Tr (Out dt105_0 db105_0 dr105_0):= Tr.test ((!leF x3 x4:Bool)) (Tr.test (decide ((0:Int)≤x4)&&decide (x4<(↑(List.length b1_0):Int))) (Tr.test ((decide ((0:Int)≤x4)&&decide (x4<(↑b2_0n:Int)):Bool)) (Tr.test ((Nat.ble ((0:Nat)+Int.toNat x4+(1:Nat)) (List.length b7):Bool)) (Tr.test ((true&&decide ((0:Int)<(↑(List.length b4_0):Int)):Bool)) (Tr.test ((decide ((0:Int)≤b5_0)&&decide (b5_0<(↑(List.length b4_0):Int)):Bool)) (Tr.test ((Nat.ble (((2:Nat)*(List.length b6_0+(1:Nat))+(192:Nat))*(8:Nat)) (281474976710656:Nat)&&Nat.ble (List.length b6_0+(1:Nat)) (281474976710656:Nat):Bool)) (Tr.fin (.again ((x3,((wrap64 (x4+(1:Int)):Int),())),((),((b1_0,()),((b2_0n,()),((b4_0,()),((b5_0,()),(((b6_0++[wrap64 (wrap64 (List.getD b4_0 (0:Nat) (0:Int)*List.getD b1_0 (Int.toNat x4) (0:Int))-wrap64 (List.getD b4_0 (Int.toNat b5_0) (0:Int)*List.getD b7 ((0:Nat)+Int.toNat x4) (0:Int)))]:List Int),()),(b7,())))))))))) (Tr.stop)) (Tr.stop)) (Tr.stop)) (Tr.stop)) (Tr.stop)) (Tr.stop)) (Tr.fin (.brk ((),((),((b1_0,()),((b2_0n,()),((b4_0,()),((b5_0,()),((b6_0,()),(b7,()))))))))))
def s105_0(d:dt105_0):Option (Out dt105_0 db105_0 dr105_0):=(t105_0 d.1.1 d.1.2.1 d.2.2.1.1 d.2.2.2.1.1 d.2.2.2.2.1.1 d.2.2.2.2.2.1.1 d.2.2.2.2.2.2.1.1 d.2.2.2.2.2.2.2.1).val
def l105_0(d:dt105_0):Option (db105_0 ⊕ dr105_0):=itr s105_0 rounds d
def b105_0(d:dt105_0):db105_0:=outB (((),((),((([]:List Int),()),(((0:Nat),()),((([]:List Int),()),(((0:Int),()),((([]:List Int),()),(([]:List Int),()))))))))) (l105_0 d)
def lc105_0(P:Go.Program):LoopC:=lcB (sh105_0 P) (shb105_0 P) (shr105_0 P) l105_0 b105_0
theorem e105_0_0(x3:Int)(x4:Int)(b1_0:List Int)(b2_0n:Nat)(b4_0:List Int)(b5_0:Int)(b6_0:List Int)(b7:List Int):qbm (kl84_0 Proofs.Tryz.prog).orc Proofs.Tryz.prog 400 105 0 (sh105_0 Proofs.Tryz.prog) (shb105_0 Proofs.Tryz.prog) (shr105_0 Proofs.Tryz.prog) ((x3,x4,()),(),(b1_0,()),(b2_0n,()),(b4_0,()),(b5_0,()),(b6_0,()),b7,()) [tt,tt,tt,tt,tt,tt,tt,ff] =
 (some (.again ((x3,((wrap64 (x4+(1:Int)):Int),())),((),((b1_0,()),((b2_0n,()),((b4_0,()),((b5_0,()),(((b6_0++[wrap64 (wrap64 (List.getD b4_0 (0:Nat) (0:Int)*List.getD b1_0 (Int.toNat x4) (0:Int))-wrap64 (List.getD b4_0 (Int.toNat b5_0) (0:Int)*List.getD b7 ((0:Nat)+Int.toNat x4) (0:Int)))]:List Int),()),(b7,())))))))),[(qjy Proofs.Tryz.prog (nat_lit 56) (nat_lit 0),true),(false,false),(Nat.ble (((2:Nat)*(List.length b6_0+(1:Nat))+(192:Nat))*(8:Nat)) (281474976710656:Nat)&&Nat.ble (List.length b6_0+(1:Nat)) (281474976710656:Nat),true),(decide ((0:Int)≤b5_0)&&decide (b5_0<(↑(List.length b4_0):Int)),true),(true&&decide ((0:Int)<(↑(List.length b4_0):Int)),true),(Nat.ble ((0:Nat)+Int.toNat x4+(1:Nat)) (List.length b7),true),(decide ((0:Int)≤x4)&&decide (x4<(↑b2_0n:Int)),true),(decide ((0:Int)≤x4)&&decide (x4<(↑(List.length b1_0):Int)),true),(!leF x3 x4,true)])):=by kernel_rfl
theorem e105_0_7(x3:Int)(x4:Int)(b1_0:List Int)(b2_0n:Nat)(b4_0:List Int)(b5_0:Int)(b6_0:List Int)(b7:List Int):qbm (kl84_0 Proofs.Tryz.prog).orc Proofs.Tryz.prog 400 105 0 (sh105_0 Proofs.Tryz.prog) (shb105_0 Proofs.Tryz.prog) (shr105_0 Proofs.Tryz.prog) ((x3,x4,()),(),(b1_0,()),(b2_0n,()),(b4_0,()),(b5_0,()),(b6_0,()),b7,()) [ff] =
 (some (.brk ((),((),((b1_0,()),((b2_0n,()),((b4_0,()),((b5_0,()),((b6_0,()),(b7,())))))))),[(qjy Proofs.Tryz.prog (nat_lit 56) (nat_lit 0),true),(!leF x3 x4,false)])):=by kernel_rfl
theorem ok105_0_t(x3:Int)(x4:Int)(b1_0:List Int)(b2_0n:Nat)(b4_0:List Int)(b5_0:Int)(b6_0:List Int)(b7:List Int):TrOk (BodyRuns Proofs.Tryz.prog (kl84_0 Proofs.Tryz.prog).orc 105 0 (sh105_0 Proofs.Tryz.prog) (shb105_0 Proofs.Tryz.prog) (shr105_0 Proofs.Tryz.prog) ((x3,x4,()),(),(b1_0,()),(b2_0n,()),(b4_0,()),(b5_0,()),(b6_0,()),b7,())) (t105_0 x3 x4 b1_0 b2_0n b4_0 b5_0 b6_0 b7):=
 TrOk.ofTest (fun h0=>TrOk.ofTest (fun h1=>TrOk.ofTest (fun h2=>TrOk.ofTest (fun h3=>TrOk.ofTest (fun h4=>TrOk.ofTest (fun h5=>TrOk.ofTest (fun h6=>TrOk.ofFin (BodyRuns.of (e105_0_0 x3 x4 b1_0 b2_0n b4_0 b5_0 b6_0 b7) (ac (sc56_0) (ac rfl (ac h6 (ac h5 (ac h4 (ac h3 (ac h2 (ac h1 (ac h0 All.nil))))))))))) (fun h6=>TrOk.ofStop)) (fun h5=>TrOk.ofStop)) (fun h4=>TrOk.ofStop)) (fun h3=>TrOk.ofStop)) (fun h2=>TrOk.ofStop)) (fun h1=>TrOk.ofStop)) (fun h0=>TrOk.ofFin (BodyRuns.of (e105_0_7 x3 x4 b1_0 b2_0n b4_0 b5_0 b6_0 b7) (ac (sc56_0) (ac h0 All.nil))))
theorem ok105_0:qbt Proofs.Tryz.prog 105 0 (lc105_0 Proofs.Tryz.prog):=qcg (sh:=(sh105_0 Proofs.Tryz.prog)) (shB:=(shb105_0 Proofs.Tryz.prog)) (shR:=(shr105_0 Proofs.Tryz.prog)) kl84_0_ok.base (T:=fun(d:dt105_0)=>t105_0 d.1.1 d.1.2.1 d.2.2.1.1 d.2.2.2.1.1 d.2.2.2.2.1.1 d.2.2.2.2.2.1.1 d.2.2.2.2.2.2.1.1 d.2.2.2.2.2.2.2.1) (by kernel_rfl) rfl (fun(d:dt105_0)=>ok105_0_t d.1.1 d.1.2.1 d.2.2.1.1 d.2.2.2.1.1 d.2.2.2.2.1.1 d.2.2.2.2.2.1.1 d.2.2.2.2.2.2.1.1 d.2.2.2.2.2.2.2.1) (fun _=>rfl)
def kl105_0(P:Go.Program):Known:=(kl84_0 P).loop 105 0 (lc105_0 P)
theorem kl105_0_ok:KnownOk Proofs.Tryz.prog (kl105_0 Proofs.Tryz.prog):=kl84_0_ok.loop ok105_0
abbrev as56:List Ty:=[(.slice (.int .i64))]
abbrev rs56:List Ty:=[(.slice (.int .i64))]
def t56(x0:(List Int)):Tr (Tys.data rs56):= Tr.test ((Nat.beq (List.length x0) (0:Nat):Bool)) (Tr.stop) (Tr.test (Nat.ble (((2:Nat)*((0:Nat)+List.length x0)+(192:Nat))*(8:Nat)) (281474976710656:Nat)&&Nat.ble ((0:Nat)+List.length x0) (281474976710656:Nat)) (Tr.test (qed (l84_0 ((((0:Nat)+List.length x0:Nat),((0:Int),((wrap64 ((↑((0:Nat)+List.length x0):Int)-(1:Int)):Int),()))),(([]++x0:List Int),())))) (Tr.test ((decide ((0:Int)≤wrap64 ((↑(List.length x0):Int)-(1:Int)))&&decide (wrap64 ((↑(List.length x0):Int)-(1:Int))≤(↑(List.length x0):Int)):Bool)) (let r0:=b84_0 ((((0:Nat)+List.length x0:Nat),((0:Int),((wrap64 ((↑((0:Nat)+List.length x0):Int)-(1:Int)):Int),()))),(([]++x0:List Int),()));Tr.test (qed (l105_0 (((if(↑((0:Nat)+List.length x0):Int)<(↑(List.length (List.take (Int.toNat (wrap64 ((↑(List.length x0):Int)-(1:Int)))) x0)):Int)then(↑((0:Nat)+List.length x0):Int)else(↑(List.length (List.take (Int.toNat (wrap64 ((↑(List.length x0):Int)-(1:Int)))) x0)):Int):Int),((0:Int),())),((),(((List.take (Int.toNat (wrap64 ((↑(List.length x0):Int)-(1:Int)))) x0:List Int),()),((((0:Nat)+List.length x0:Nat),()),((x0,()),(((wrap64 ((↑(List.length x0):Int)-(1:Int)):Int),()),((([]:List Int),()),(r0.2.1,())))))))))) (let r1:=b105_0 (((if(↑((0:Nat)+List.length x0):Int)<(↑(List.length (List.take (Int.toNat (wrap64 ((↑(List.length x0):Int)-(1:Int)))) x0)):Int)then(↑((0:Nat)+List.length x0):Int)else(↑(List.length (List.take (Int.toNat (wrap64 ((↑(List.length x0):Int)-(1:Int)))) x0)):Int):Int),((0:Int),())),((),(((List.take (Int.toNat (wrap64 ((↑(List.length x0):Int)-(1:Int)))) x0:List Int),()),((((0:Nat)+List.length x0:Nat),()),((x0,()),(((wrap64 ((↑(List.length x0):Int)-(1:Int)):Int),()),((([]:List Int),()),(r0.2.1,()))))))));Tr.test (Option.isSome (f54 (r1.2.2.2.2.2.2.1.1,()))) (let r2:=g54 (r1.2.2.2.2.2.2.1.1,());Tr.fin ((r2.1,()))) (Tr.stop)) (Tr.stop)) (Tr.stop)) (Tr.stop)) (Tr.test ((Nat.ble ((0:Nat)+List.length x0) (0:Nat):Bool)) (Tr.stop) (Tr.stop)))
def f56(d:Tys.data as56):Option (Tys.data rs56):=(t56 d.1).val
def g56(d:Tys.data as56):Tys.data rs56:=(f56 d).getD (Tys.dflt rs56)
def p56:PureC:=pcOf as56 rs56 f56 g56
theorem e56_1(x0:(List Int)):runPure (kl105_0 Proofs.Tryz.prog).orc Proofs.Tryz.prog 400 56 as56 rs56 (x0,()) [ff,ff,tt,tt,tt,tt,tt,tt,tt,tt,tt] =
 (let r0:=b84_0 ((((0:Nat)+List.length x0:Nat),((0:Int),((wrap64 ((↑((0:Nat)+List.length x0):Int)-(1:Int)):Int),()))),(([]++x0:List Int),()));let r1:=b105_0 (((if(↑((0:Nat)+List.length x0):Int)<(↑(List.length (List.take (Int.toNat (wrap64 ((↑(List.length x0):Int)-(1:Int)))) x0)):Int)then(↑((0:Nat)+List.length x0):Int)else(↑(List.length (List.take (Int.toNat (wrap64 ((↑(List.length x0):Int)-(1:Int)))) x0)):Int):Int),((0:Int),())),((),(((List.take (Int.toNat (wrap64 ((↑(List.length x0):Int)-(1:Int)))) x0:List Int),()),((((0:Nat)+List.length x0:Nat),()),((x0,()),(((wrap64 ((↑(List.length x0):Int)-(1:Int)):Int),()),((([]:List Int),()),(r0.2.1,()))))))));let r2:=g54 (r1.2.2.2.2.2.2.1.1,());some ((r2.1,()),[(Option.isSome (f54 (r1.2.2.2.2.2.2.1.1,())),true),(true,true),(qed (l105_0 (((if(↑((0:Nat)+List.length x0):Int)<(↑(List.length (List.take (Int.toNat (wrap64 ((↑(List.length x0):Int)-(1:Int)))) x0)):Int)then(↑((0:Nat)+List.length x0):Int)else(↑(List.length (List.take (Int.toNat (wrap64 ((↑(List.length x0):Int)-(1:Int)))) x0)):Int):Int),((0:Int),())),((),(((List.take (Int.toNat (wrap64 ((↑(List.length x0):Int)-(1:Int)))) x0:List Int),()),((((0:Nat)+List.length x0:Nat),()),((x0,()),(((wrap64 ((↑(List.length x0):Int)-(1:Int)):Int),()),((([]:List Int),()),(r0.2.1,()))))))))),true),(qjy Proofs.Tryz.prog (nat_lit 56) (nat_lit 0),true),(decide ((0:Int)≤wrap64 ((↑(List.length x0):Int)-(1:Int)))&&decide (wrap64 ((↑(List.length x0):Int)-(1:Int))≤(↑(List.length x0):Int)),true),(true,true),(qed (l84_0 ((((0:Nat)+List.length x0:Nat),((0:Int),((wrap64 ((↑((0:Nat)+List.length x0):Int)-(1:Int)):Int),()))),(([]++x0:List Int),()))),true),(true,true),(Nat.ble (((2:Nat)*((0:Nat)+List.length x0)+(192:Nat))*(8:Nat)) (281474976710656:Nat)&&Nat.ble ((0:Nat)+List.length x0) (281474976710656:Nat),true),(false,false),(Nat.beq (List.length x0) (0:Nat),false)])):=by kernel_rfl
theorem ok56_t(x0:(List Int)):TrOk (PureRuns Proofs.Tryz.prog (kl105_0 Proofs.Tryz.prog).orc 56 as56 rs56 (x0,())) (t56 x0):=
 TrOk.ofTest (fun h0=>TrOk.ofStop) (fun h0=>TrOk.ofTest (fun h2=>TrOk.ofTest (fun h4=>TrOk.ofTest (fun h6=>TrOk.ofTest (fun h8=>TrOk.ofTest (fun h10=>TrOk.ofFin (PureRuns.of (e56_1 x0) (ac h10 (ac rfl (ac h8 (ac (sc56_0) (ac h6 (ac rfl (ac h4 (ac rfl (ac h2 (ac rfl (ac h0 All.nil))))))))))))) (fun h10=>TrOk.ofStop)) (fun h8=>TrOk.ofStop)) (fun h6=>TrOk.ofStop)) (fun h4=>TrOk.ofStop)) (fun h2=>TrOk.ofTest (fun h3=>TrOk.ofStop) (fun h3=>TrOk.ofStop)))
theorem ok56:PureOk Proofs.Tryz.prog 56 p56:=qaq kl105_0_ok.base (T:=fun(d:Tys.data as56)=>t56 d.1) (by kernel_rfl) (fun(d:Tys.data as56)=>ok56_t d.1)
def kf56(P:Go.Program):Known:=(kl105_0 P).func 56 p56
theorem kf56_ok:KnownOk Proofs.Tryz.prog (kf56 Proofs.Tryz.prog):=kl105_0_ok.func ok56
abbrev sh32_0:Sh:={ n:=19,slots:=[3,4],pats:=[.ty (.slice (.int .i64)),.acc (.slice (.int .i64))],boxes:=[] }
abbrev shb32_0:Sh:={ n:=19,slots:=[4],pats:=[.acc (.slice (.int .i64))],boxes:=[] }
abbrev shr32_0:Sh:={ n:=19,slots:=[],pats:=[],boxes:=[] }
def t32_0(x0:(List Int))(x1:List (List Int)):Tr (Out sh32_0.data shb32_0.data shr32_0.data):= Tr.test (Option.isSome (f55 (x0,()))) (let r0:=g55 (x0,());Tr.test ((!r0.1:Bool)) (Tr.test (Option.isSome (f56 (x0,()))) (Tr.test ((Nat.ble (((2:Nat)*(List.length x1+(1:Nat))+(192:Nat))*(24:Nat)) (281474976710656:Nat)&&Nat.ble (List.length x1+(1:Nat)) (281474976710656:Nat):Bool)) (let r1:=g56 (x0,());Tr.fin (.again ((r1.1,((x1++[r1.1]:List (List Int)),())),()))) (Tr.stop)) (Tr.stop)) (Tr.fin (.brk ((x1,()),())))) (Tr.stop)
def s32_0(d:sh32_0.data):Option (Out sh32_0.data shb32_0.data shr32_0.data):=(t32_0 d.1.1 d.1.2.1).val
def l32_0(d:sh32_0.data):Option (shb32_0.data ⊕ shr32_0.data):=itr s32_0 rounds d
def b32_0(d:sh32_0.data):shb32_0.data:=outB shb32_0.dflt (l32_0 d)
def lc32_0:LoopC:=lcB sh32_0 shb32_0 shr32_0 l32_0 b32_0
def wwl:List Nat:=[4,2]
theorem wk32_0(x0:(List Int))(x1:List (List Int)):Walks (qbm (kf56 Proofs.Tryz.prog).orc Proofs.Tryz.prog 400 32 0 sh32_0 shb32_0 shr32_0 ((x0,x1,()),())) (t32_0 x0 x1) [(bl 4 15,8::6::wwl),(bl 2 1,wwl)]:=
 ⟨by kernel_rfl,by kernel_rfl,trivial⟩
theorem ok32_0:qbt Proofs.Tryz.prog 32 0 lc32_0:=qcg (sh:=sh32_0) (shB:=shb32_0) (shR:=shr32_0) kf56_ok.base (T:=fun(d:sh32_0.data)=>t32_0 d.1.1 d.1.2.1) (by kernel_rfl) rfl (fun(d:sh32_0.data)=>wB (wk32_0 d.1.1 d.1.2.1) (by kernel_rfl)) (fun _=>rfl)
def kl32_0(P:Go.Program):Known:=(kf56 P).loop 32 0 lc32_0
theorem kl32_0_ok:KnownOk Proofs.Tryz.prog (kl32_0 Proofs.Tryz.prog):=kf56_ok.loop ok32_0
abbrev as32:List Ty:=[(.slice (.int .i64))]
abbrev rs32:List Ty:=[(.slice (.slice (.int .i64)))]
def t32(x0:(List Int)):Tr (Tys.data rs32):= Tr.test (Option.isSome (f54 (x0,()))) (let r0:=g54 (x0,());Tr.test (qed (l32_0 ((r0.1,(([r0.1]:List (List Int)),())),()))) (let r1:=b32_0 ((r0.1,(([r0.1]:List (List Int)),())),());Tr.fin ((r1.1.1,()))) (Tr.stop)) (Tr.stop)
def f32(d:Tys.data as32):Option (Tys.data rs32):=(t32 d.1).val
def g32(d:Tys.data as32):Tys.data rs32:=(f32 d).getD (Tys.dflt rs32)
def p32:PureC:=pcOf as32 rs32 f32 g32
theorem wk32(x0:(List Int)):Walks (runPure (kl32_0 Proofs.Tryz.prog).orc Proofs.Tryz.prog 400 32 as32 rs32 (x0,())) (t32 x0) [(bl 2 3,[1,4,2])]:=
 ⟨by kernel_rfl,trivial⟩
theorem ok32:PureOk Proofs.Tryz.prog 32 p32:=qaq kl32_0_ok.base (T:=fun(d:Tys.data as32)=>t32 d.1) (by kernel_rfl) (fun(d:Tys.data as32)=>wP (wk32 d.1) (by kernel_rfl))
def kf32(P:Go.Program):Known:=(kl32_0 P).func 32 p32
theorem kf32_ok:KnownOk Proofs.Tryz.prog (kf32 Proofs.Tryz.prog):=kl32_0_ok.func ok32
abbrev as33:List Ty:=[(.slice (.int .i64))]
abbrev rs33:List Ty:=[.bool]
def t33(x0:(List Int)):Tr (Tys.data rs33):= Tr.test (Option.isSome (f32 (x0,()))) (let r0:=g32 (x0,());Tr.test ((decide ((0:Int)≤wrap64 ((↑(List.length r0.1):Int)-(1:Int)))&&decide (wrap64 ((↑(List.length r0.1):Int)-(1:Int))<(↑(List.length r0.1):Int)):Bool)) (Tr.fin (((eqF (↑(List.length (List.getD r0.1 (Int.toNat (wrap64 ((↑(List.length r0.1):Int)-(1:Int)))) [])):Int) (1:Int):Bool),()))) (Tr.stop)) (Tr.stop)
def f33(d:Tys.data as33):Option (Tys.data rs33):=(t33 d.1).val
def g33(d:Tys.data as33):Tys.data rs33:=(f33 d).getD (Tys.dflt rs33)
def p33:PureC:=pcOf as33 rs33 f33 g33
theorem wk33(x0:(List Int)):Walks (runPure (kf32 Proofs.Tryz.prog).orc Proofs.Tryz.prog 400 33 as33 rs33 (x0,())) (t33 x0) [(bl 2 3,[4,2])]:=
 ⟨by kernel_rfl,trivial⟩
theorem ok33:PureOk Proofs.Tryz.prog 33 p33:=qaq kf32_ok.base (T:=fun(d:Tys.data as33)=>t33 d.1) (by kernel_rfl) (fun(d:Tys.data as33)=>wP (wk33 d.1) (by kernel_rfl))
def kf33(P:Go.Program):Known:=(kf32 P).func 33 p33
theorem kf33_ok:KnownOk Proofs.Tryz.prog (kf33 Proofs.Tryz.prog):=kf32_ok.func ok33
abbrev as9:List Ty:=[(.slice (.int .i64))]
abbrev rs9:List Ty:=[.bool,(.int .i64)]
def t9(x0:(List Int)):Tr (Tys.data rs9):= Tr.test (Option.isSome (f31 (x0,()))) (let r0:=g31 (x0,());Tr.test ((!eqF r0.1 0:Bool)) (Tr.fin (((false:Bool),(r0.1,())))) (Tr.test (Option.isSome (f33 (x0,()))) (let r1:=g33 (x0,());Tr.fin ((r1.1,((0:Int),())))) (Tr.stop))) (Tr.stop)
def f9(d:Tys.data as9):Option (Tys.data rs9):=(t9 d.1).val
def g9(d:Tys.data as9):Tys.data rs9:=(f9 d).getD (Tys.dflt rs9)
def p9:PureC:=pcOf as9 rs9 f9 g9
def wwm:List Nat:=[4,2]
theorem wk9(x0:(List Int)):Walks (runPure (kf33 Proofs.Tryz.prog).orc Proofs.Tryz.prog 400 9 as9 rs9 (x0,())) (t9 x0) [(bl 2 3,wwm),(bl 3 5,6::wwm)]:=
 ⟨by kernel_rfl,by kernel_rfl,trivial⟩
theorem ok9:PureOk Proofs.Tryz.prog 9 p9:=qaq kf33_ok.base (T:=fun(d:Tys.data as9)=>t9 d.1) (by kernel_rfl) (fun(d:Tys.data as9)=>wP (wk9 d.1) (by kernel_rfl))
def kf9(P:Go.Program):Known:=(kf33 P).func 9 p9
theorem kf9_ok:KnownOk Proofs.Tryz.prog (kf9 Proofs.Tryz.prog):=kf33_ok.func ok9
abbrev as15:List Ty:=[(.int .i64)]
abbrev rs15:List Ty:=[(.int .i64)]
def t15(x0:Int):Tr (Tys.data rs15):= Tr.fin (((if x0<Go.IntKind.wrap Go.IntKind.i64 ((0:Int)-x0)then Go.IntKind.wrap Go.IntKind.i64 ((0:Int)-x0)else x0:Int),()))
def f15(d:Tys.data as15):Option (Tys.data rs15):=(t15 d.1).val
def g15(d:Tys.data as15):Tys.data rs15:=(f15 d).getD (Tys.dflt rs15)
def p15:PureC:=pcOf as15 rs15 f15 g15
theorem wk15(x0:Int):Walks (runPure (kf9 Proofs.Tryz.prog).orc Proofs.Tryz.prog 400 15 as15 rs15 (x0,())) (t15 x0) [(bl 0 0,[])]:=
 ⟨by kernel_rfl,trivial⟩
theorem ok15:PureOk Proofs.Tryz.prog 15 p15:=qaq kf9_ok.base (T:=fun(d:Tys.data as15)=>t15 d.1) (by kernel_rfl) (fun(d:Tys.data as15)=>wP (wk15 d.1) (by kernel_rfl))
def kf15(P:Go.Program):Known:=(kf9 P).func 15 p15
theorem kf15_ok:KnownOk Proofs.Tryz.prog (kf15 Proofs.Tryz.prog):=kf9_ok.func ok15
abbrev sh4_0:Sh:={ n:=117,slots:=[0,3,5,6],pats:=[.ty (.slice (.int .i64)),.ptr 0 2 0,.sli 1 1,.ty (.int .i64)],boxes:=[.row [.ty (.int .i64),.ty (.int .i64)],.arr (.int .i64)] }
abbrev shb4_0:Sh:={ n:=117,slots:=[0,3,5],pats:=[.ty (.slice (.int .i64)),.ptr 0 2 0,.sli 1 1],boxes:=[.row [.ty (.int .i64),.ty (.int .i64)],.arr (.int .i64)] }
abbrev shr4_0:Sh:={ n:=117,slots:=[4],pats:=[.ty .bool],boxes:=[.row [.ty (.int .i64),.ty (.int .i64)],.arr (.int .i64)] }
def t4_0(x0:(List Int))(x2n:Nat)(x2c:Nat)(x3:Int)(b0_0:Int)(b0_1:Int)(b1:List Int):Tr (Out sh4_0.data shb4_0.data shr4_0.data):= Tr.test ((!leF (↑(List.length x0):Int) x3:Bool)) (Tr.test (decide ((0:Int)≤x3)&&decide (x3<(↑(List.length x0):Int))) (Tr.test (Option.isSome (f16 ((List.getD x0 (Int.toNat x3) (0:Int):Int),((-30:Int),((30:Int),()))))) (let r0:=g16 ((List.getD x0 (Int.toNat x3) (0:Int):Int),((-30:Int),((30:Int),())));Tr.test ((!r0.1:Bool)) (Tr.fin (.ret (((true:Bool),()),((b0_0,(b0_1,())),(b1,()))))) (Tr.test ((decide ((0:Int)≤x3)&&decide (x3<(↑x2n:Int)):Bool)) (Tr.test ((Nat.ble ((0:Nat)+Int.toNat x3+(1:Nat)) (List.length b1):Bool)) (Tr.test ((decide ((0:Int)≤wrap64 (x3+(1:Int)))&&decide (wrap64 (x3+(1:Int))<(↑x2n:Int)):Bool)) (Tr.test ((Nat.ble ((0:Nat)+Int.toNat (wrap64 (x3+(1:Int)))+(1:Nat)) (List.length (List.set b1 ((0:Nat)+Int.toNat x3) (wrap64 (List.getD b1 ((0:Nat)+Int.toNat x3) (0:Int)+wrap64 (b0_0*List.getD x0 (Int.toNat x3) (0:Int)))))):Bool)) (Tr.fin (.again ((x0,((x2n,x2c),((wrap64 (x3+(1:Int)):Int),()))),((b0_0,(b0_1,())),((List.set (List.set b1 ((0:Nat)+Int.toNat x3) (wrap64 (List.getD b1 ((0:Nat)+Int.toNat x3) (0:Int)+wrap64 (b0_0*List.getD x0 (Int.toNat x3) (0:Int))))) ((0:Nat)+Int.toNat (wrap64 (x3+(1:Int)))) (wrap64 (List.getD (List.set b1 ((0:Nat)+Int.toNat x3) (wrap64 (List.getD b1 ((0:Nat)+Int.toNat x3) (0:Int)+wrap64 (b0_0*List.getD x0 (Int.toNat x3) (0:Int))))) ((0:Nat)+Int.toNat (wrap64 (x3+(1:Int)))) (0:Int)+wrap64 (b0_1*List.getD x0 (Int.toNat x3) (0:Int)))):List Int),()))))) (Tr.stop)) (Tr.stop)) (Tr.stop)) (Tr.stop))) (Tr.stop)) (Tr.stop)) (Tr.fin (.brk ((x0,((x2n,x2c),())),((b0_0,(b0_1,())),(b1,())))))
def s4_0(d:sh4_0.data):Option (Out sh4_0.data shb4_0.data shr4_0.data):=(t4_0 d.1.1 d.1.2.1.1 d.1.2.1.2 d.1.2.2.1 d.2.1.1 d.2.1.2.1 d.2.2.1).val
def l4_0(d:sh4_0.data):Option (shb4_0.data ⊕ shr4_0.data):=itr s4_0 rounds d
def b4_0(d:sh4_0.data):shb4_0.data:=outB shb4_0.dflt (l4_0 d)
def r4_0(d:sh4_0.data):shr4_0.data:=outR shr4_0.dflt (l4_0 d)
def lc4_0:LoopC:=lcOf sh4_0 shb4_0 shr4_0 l4_0 b4_0 r4_0
def wwn:List Nat:=[2]
def wwo:List Nat:=8::6::4::wwn
theorem wk4_0(x0:(List Int))(x2n:Nat)(x2c:Nat)(x3:Int)(b0_0:Int)(b0_1:Int)(b1:List Int):Walks (qbm (kf15 Proofs.Tryz.prog).orc Proofs.Tryz.prog 400 4 0 sh4_0 shb4_0 shr4_0 ((x0,(x2n,x2c),x3,()),(b0_0,b0_1,()),b1,())) (t4_0 x0 x2n x2c x3 b0_0 b0_1 b1) [(bl 4 15,wwo),(bl 8 247,pk 12 8 0x7d02d7bdf60adf0 wwo),(bl 1 0,wwn)]:=
 ⟨by kernel_rfl,by kernel_rfl,by kernel_rfl,trivial⟩
theorem ok4_0:qbt Proofs.Tryz.prog 4 0 lc4_0:=qeS (sh:=sh4_0) (shB:=shb4_0) (shR:=shr4_0) kf15_ok.base (T:=fun(d:sh4_0.data)=>t4_0 d.1.1 d.1.2.1.1 d.1.2.1.2 d.1.2.2.1 d.2.1.1 d.2.1.2.1 d.2.2.1) (by kernel_rfl) rfl (fun(d:sh4_0.data)=>wB (wk4_0 d.1.1 d.1.2.1.1 d.1.2.1.2 d.1.2.2.1 d.2.1.1 d.2.1.2.1 d.2.2.1) (by kernel_rfl)) (fun _=>rfl)
def kl4_0(P:Go.Program):Known:=(kf15 P).loop 4 0 lc4_0
theorem kl4_0_ok:KnownOk Proofs.Tryz.prog (kl4_0 Proofs.Tryz.prog):=kf15_ok.loop ok4_0
abbrev as4:List Ty:=[(.slice (.int .i64)),(.pair (.int .i64) (.pair (.int .i64) .unit))]
abbrev rs4:List Ty:=[.bool]
def t4(x0:(List Int))(x1:Int)(x1':Int):Tr (Tys.data rs4):= Tr.test (Option.isSome (f10 (x0,()))) (let r0:=g10 (x0,());Tr.test ((!eqF r0.1 0:Bool)) (Tr.fin (((true:Bool),()))) (Tr.test ((!leF (↑(List.length x0):Int) (3:Int):Bool)) (Tr.fin (((true:Bool),()))) (Tr.test ((eqF x1 0:Bool)) (Tr.fin (((true:Bool),()))) (Tr.test (Option.isSome (f16 (x1,((-15:Int),((15:Int),()))))) (let r1:=g16 (x1,((-15:Int),((15:Int),())));Tr.test ((!r1.1:Bool)) (Tr.fin (((true:Bool),()))) (Tr.test (Option.isSome (f16 (x1',((-15:Int),((15:Int),()))))) (let r2:=g16 (x1',((-15:Int),((15:Int),())));Tr.test ((!r2.1:Bool)) (Tr.fin (((true:Bool),()))) (Tr.test ((decide ((0:Int)≤wrap64 ((↑(List.length x0):Int)+(1:Int)))&&decide (wrap64 ((↑(List.length x0):Int)+(1:Int))≤wrap64 ((↑(List.length x0):Int)+(1:Int)))&&decide ((8:Int)*wrap64 ((↑(List.length x0):Int)+(1:Int))≤(281474976710656:Int))&&decide (wrap64 ((↑(List.length x0):Int)+(1:Int))≤(281474976710656:Int)):Bool)) (Tr.test (Option.isSome (l4_0 ((x0,(((Int.toNat (wrap64 ((↑(List.length x0):Int)+(1:Int))):Nat),(Int.toNat (wrap64 ((↑(List.length x0):Int)+(1:Int))):Nat)),((0:Int),()))),((x1,(x1',())),((List.replicate (Int.toNat (wrap64 ((↑(List.length x0):Int)+(1:Int)))) (0:Int):List Int),()))))) (Tr.test (qft (l4_0 ((x0,(((Int.toNat (wrap64 ((↑(List.length x0):Int)+(1:Int))):Nat),(Int.toNat (wrap64 ((↑(List.length x0):Int)+(1:Int))):Nat)),((0:Int),()))),((x1,(x1',())),((List.replicate (Int.toNat (wrap64 ((↑(List.length x0):Int)+(1:Int)))) (0:Int):List Int),()))))) (let r3:=r4_0 ((x0,(((Int.toNat (wrap64 ((↑(List.length x0):Int)+(1:Int))):Nat),(Int.toNat (wrap64 ((↑(List.length x0):Int)+(1:Int))):Nat)),((0:Int),()))),((x1,(x1',())),((List.replicate (Int.toNat (wrap64 ((↑(List.length x0):Int)+(1:Int)))) (0:Int):List Int),())));Tr.fin ((r3.1.1,()))) (let r4:=b4_0 ((x0,(((Int.toNat (wrap64 ((↑(List.length x0):Int)+(1:Int))):Nat),(Int.toNat (wrap64 ((↑(List.length x0):Int)+(1:Int))):Nat)),((0:Int),()))),((x1,(x1',())),((List.replicate (Int.toNat (wrap64 ((↑(List.length x0):Int)+(1:Int)))) (0:Int):List Int),())));Tr.test (Option.isSome (f8 (r4.1.1,()))) (let r5:=g8 (r4.1.1,());Tr.test (Option.isSome (f9 (r5.1,()))) (Tr.test ((Nat.beq r4.1.2.1.1 (List.length r4.2.2.1):Bool)) (Tr.test (Option.isSome (f9 (r4.2.2.1,()))) (let r6:=g9 (r5.1,());Tr.test ((eqF r6.2.1 0:Bool)) (let r7:=g9 (r4.2.2.1,());Tr.test ((eqF r7.2.1 0:Bool)) (Tr.test (r6.1) (Tr.test (Option.isSome (f15 (r4.2.1.2.1,()))) (Tr.test (Option.isSome (f15 (r4.2.1.1,()))) (let r9:=g15 (r4.2.1.2.1,());let r10:=g15 (r4.2.1.1,());Tr.fin (((r7.1==!leF r10.1 r9.1:Bool),()))) (Tr.stop)) (Tr.stop)) (Tr.fin (((r7.1==false:Bool),())))) (Tr.fin (((false:Bool),())))) (Tr.fin (((false:Bool),())))) (Tr.stop)) (Tr.test ((Nat.ble r4.1.2.1.1 (List.length r4.2.2.1):Bool)) (Tr.test (Option.isSome (f9 ((List.take r4.1.2.1.1 r4.2.2.1:List Int),()))) (let r6:=g9 (r5.1,());Tr.test ((eqF r6.2.1 0:Bool)) (let r8:=g9 ((List.take r4.1.2.1.1 r4.2.2.1:List Int),());Tr.test ((eqF r8.2.1 0:Bool)) (Tr.test (r6.1) (Tr.test (Option.isSome (f15 (r4.2.1.2.1,()))) (Tr.test (Option.isSome (f15 (r4.2.1.1,()))) (let r9:=g15 (r4.2.1.2.1,());let r10:=g15 (r4.2.1.1,());Tr.fin (((r8.1==!leF r10.1 r9.1:Bool),()))) (Tr.stop)) (Tr.stop)) (Tr.fin (((r8.1==false:Bool),())))) (Tr.fin (((false:Bool),())))) (Tr.fin (((false:Bool),())))) (Tr.stop)) (Tr.stop))) (Tr.stop)) (Tr.stop))) (Tr.stop)) (Tr.stop))) (Tr.stop))) (Tr.stop))))) (Tr.stop)
def f4(d:Tys.data as4):Option (Tys.data rs4):=(t4 d.1 d.2.1.1 d.2.1.2.1).val
def g4(d:Tys.data as4):Tys.data rs4:=(f4 d).getD (Tys.dflt rs4)
def p4:PureC:=pcOf as4 rs4 f4 g4
def wwp:List Nat:=[4,4,4,4,2,0,1]
def wwq:List Nat:=6::wwp
def wwr:List Nat:=8::6::6::6::1::wwq
def wws:List Nat:=pk 7 6 1626915280 wwr
def wwt:List Nat:=pk 7 8 1626915280 wws
def wwu:List Nat:=22::20::18::wwt
def wwv:List Nat:=pk 5 16 16236016 wwu
def www:List Nat:=32::32::wwv
def wwx:List Nat:=34::34::34::www
def wwy:List Nat:=36::wwx
def wwz:List Nat:=34::34::34::wwv
def ww10:List Nat:=36::36::36::wwz
def ww11:List Nat:=38::ww10
theorem wk4(x0:(List Int))(x1:Int)(x1':Int):Walks (runPure (kl4_0 Proofs.Tryz.prog).orc Proofs.Tryz.prog 400 4 as4 rs4 (x0,(x1,x1',()),())) (t4 x0 x1 x1') [(bl 2 3,pk 15 0 0x421084210842108421 wwp),(bl 3 5,pk 14 3 0x210804210842108421 wwq),(bl 4 9,pk 10 4 581109109785633 wwr),(bl 6 49,pk 5 6 17318401 wws),(bl 8 209,wwt),(bl 11 1873,wwu),(bl 20 1047377,pk 14 17 0x307c60183a517c610 wwy),(bl 18 129873,pk 10 17 581109630354960 wwy),(bl 17 64337,34::34::34::wwx),(bl 16 31569,pk 6 0 0 www),(bl 21 2087761,pk 14 18 0x307c60183a517c610 ww11),(bl 19 252753,pk 10 18 581109630354960 ww11),(bl 18 121681,36::36::36::ww10),(bl 17 56145,pk 6 0 0 wwz)]:=by
 repeat refine⟨by kernel_rfl,?_⟩
 exact trivial
theorem ok4:PureOk Proofs.Tryz.prog 4 p4:=qaq kl4_0_ok.base (T:=fun(d:Tys.data as4)=>t4 d.1 d.2.1.1 d.2.1.2.1) (by kernel_rfl) (fun(d:Tys.data as4)=>wP (wk4 d.1 d.2.1.1 d.2.1.2.1) (by kernel_rfl))
end Go.Vm.Mo
