import Derived.Test.YtlaojojnembodaaA5
import Derived.KernelRfl
import Derived.Test.YtlaojojnembodaaProg
import Derived.Test.YtlaojojnembodaaRsFa
set_option linter.unusedVariables false
set_option linter.unusedSimpArgs false

namespace Go.Vm.Mo
open Go
set_option linter.unusedVariables false
abbrev sh129_0_2 (P:Go.Program):Sh:={ n:=28,slots:=[0,1,7,8,9],pats:=[.yld 0,.ptr 1 3 0,.ty (.slice (.pair (.int .i64) (.pair .bool .unit))),.ty (.int .i64),.ty (.int .i64)],boxes:=[.lp (lpOf P 100 0 .ready none 27 [3,5] 2) [.ptr 3 1 0,.ptr 4 3 0],.row [.ty (.slice (.pair (.int .i64) (.pair (.int .i64) (.pair .bool .unit)))),.ty (.int .i64),.ty (.slice (.pair (.int .i64) (.pair .bool .unit)))],.dfr,.row [.ty (.int .i64)],.row [.ty (.slice (.pair (.int .i64) (.pair (.int .i64) (.pair .bool .unit)))),.ty (.int .i64),.acc (.pair (.int .i64) (.pair .bool .unit))]] }
abbrev shb129_0_2 (P:Go.Program):Sh:={ n:=28,slots:=[],pats:=[],boxes:=[.lp (lpOf P 100 0 .ready none 27 [3,5] 2) [.ptr 3 1 0,.ptr 4 3 0],.row [.ty (.slice (.pair (.int .i64) (.pair (.int .i64) (.pair .bool .unit)))),.ty (.int .i64),.ty (.slice (.pair (.int .i64) (.pair .bool .unit)))],.dfr,.row [.ty (.int .i64)],.row [.ty (.slice (.pair (.int .i64) (.pair (.int .i64) (.pair .bool .unit)))),.ty (.int .i64),.acc (.pair (.int .i64) (.pair .bool .unit))]] }
abbrev shr129_0_2 (P:Go.Program):Sh:={ n:=28,slots:=[],pats:=[],boxes:=[.lp (lpOf P 100 0 .ready none 27 [3,5] 2) [.ptr 3 1 0,.ptr 4 3 0],.row [.ty (.slice (.pair (.int .i64) (.pair (.int .i64) (.pair .bool .unit)))),.ty (.int .i64),.ty (.slice (.pair (.int .i64) (.pair .bool .unit)))],.dfr,.row [.ty (.int .i64)],.row [.ty (.slice (.pair (.int .i64) (.pair (.int .i64) (.pair .bool .unit)))),.ty (.int .i64),.acc (.pair (.int .i64) (.pair .bool .unit))]] }
abbrev dt129_0_2:Type:=(List (Int×Bool×PUnit)×Int×Int×PUnit)×PUnit×(List (Int×Int×Bool×PUnit)×Int×List (Int×Bool×PUnit)×PUnit)×(Int×PUnit)×(List (Int×Int×Bool×PUnit)×Int×List (Int×Bool×PUnit)×PUnit)×PUnit
abbrev db129_0_2:Type:=PUnit×PUnit×(List (Int×Int×Bool×PUnit)×Int×List (Int×Bool×PUnit)×PUnit)×(Int×PUnit)×(List (Int×Int×Bool×PUnit)×Int×List (Int×Bool×PUnit)×PUnit)×PUnit
abbrev dr129_0_2:Type:=PUnit×PUnit×(List (Int×Int×Bool×PUnit)×Int×List (Int×Bool×PUnit)×PUnit)×(Int×PUnit)×(List (Int×Int×Bool×PUnit)×Int×List (Int×Bool×PUnit)×PUnit)×PUnit
def t129_0_2 (x2:(List (Int×(Bool×Unit)))) (x3:Int) (x4:Int) (b1_0:(List (Int×(Int×(Bool×Unit))))) (b1_1:Int) (b1_2:(List (Int×(Bool×Unit)))) (b3_0:Int) (b4_0:(List (Int×(Int×(Bool×Unit))))) (b4_1:Int) (b4_2:(List (Int×(Bool×Unit)))):Tr (Out dt129_0_2 db129_0_2 dr129_0_2) :=
  Tr.test ((!leF x3 x4:Bool))
    (Tr.test (decide ((0:Int) ≤ x4) && decide (x4 < (↑(List.length x2):Int)))
      (Tr.test ((decide ((0:Int) ≤ x4) && decide (x4 < (↑(List.length b1_0):Int)):Bool))
        (Tr.test (Option.isSome (f130 (((((List.getD b1_0 (Int.toNat x4) ((0:Int),(0:Int),false,())).1:Int),(((List.getD b1_0 (Int.toNat x4) ((0:Int),(0:Int),false,())).2.1:Int),(((List.getD b1_0 (Int.toNat x4) ((0:Int),(0:Int),false,())).2.2.1:Bool),()))),((((List.getD x2 (Int.toNat x4) ((0:Int),false,())).1:Int),(((List.getD x2 (Int.toNat x4) ((0:Int),false,())).2.1:Bool),())),(b1_1,()))),(b3_0,()))))
          (Tr.test ((Nat.ble (((2:Nat) * (List.length b4_2 + (1:Nat)) + (192:Nat)) * (16:Nat)) (281474976710656:Nat) && Nat.ble (List.length b4_2 + (1:Nat)) (281474976710656:Nat):Bool))
            (let r0:=g130 (((((List.getD b1_0 (Int.toNat x4) ((0:Int),(0:Int),false,())).1:Int),(((List.getD b1_0 (Int.toNat x4) ((0:Int),(0:Int),false,())).2.1:Int),(((List.getD b1_0 (Int.toNat x4) ((0:Int),(0:Int),false,())).2.2.1:Bool),()))),((((List.getD x2 (Int.toNat x4) ((0:Int),false,())).1:Int),(((List.getD x2 (Int.toNat x4) ((0:Int),false,())).2.1:Bool),())),(b1_1,()))),(b3_0,()));
            Tr.fin (.again ((x2,(x3,((wrap64 (x4 + (1:Int)):Int),()))),((),((b1_0,(b1_1,(b1_2,()))),((b3_0,()),((b4_0,(b4_1,((b4_2++[(r0.1.2.1.1,r0.1.2.1.2.1,())]:List (Int×Bool×PUnit)),()))),())))))))
            (Tr.stop))
          (Tr.stop))
        (Tr.stop))
      (Tr.stop))
    (Tr.fin (.brk ((),((),((b1_0,(b1_1,(b1_2,()))),((b3_0,()),((b4_0,(b4_1,(b4_2,()))),())))))))
def s129_0_2 (d:dt129_0_2):Option (Out dt129_0_2 db129_0_2 dr129_0_2):=(t129_0_2 d.1.1 d.1.2.1 d.1.2.2.1 d.2.2.1.1 d.2.2.1.2.1 d.2.2.1.2.2.1 d.2.2.2.1.1 d.2.2.2.2.1.1 d.2.2.2.2.1.2.1 d.2.2.2.2.1.2.2.1).val
def l129_0_2 (d:dt129_0_2):Option (db129_0_2 ⊕ dr129_0_2):=itr s129_0_2 rounds d
def b129_0_2 (d:dt129_0_2):db129_0_2:=outB (((),((),((([]:List (Int×Int×Bool×PUnit)),((0:Int),(([]:List (Int×Bool×PUnit)),()))),(((0:Int),()),((([]:List (Int×Int×Bool×PUnit)),((0:Int),(([]:List (Int×Bool×PUnit)),()))),())))))) (l129_0_2 d)
def lc129_0_2 (P:Go.Program):LoopC:=lcB (sh129_0_2 P) (shb129_0_2 P) (shr129_0_2 P) l129_0_2 b129_0_2
theorem e129_0_2_0 (x2:(List (Int×(Bool×Unit)))) (x3:Int) (x4:Int) (b1_0:(List (Int×(Int×(Bool×Unit))))) (b1_1:Int) (b1_2:(List (Int×(Bool×Unit)))) (b3_0:Int) (b4_0:(List (Int×(Int×(Bool×Unit))))) (b4_1:Int) (b4_2:(List (Int×(Bool×Unit)))):runBody (kf130 Go.Proofs.Try.prog).orc Go.Proofs.Try.prog 400 129 0 (sh129_0_2 Go.Proofs.Try.prog) (shb129_0_2 Go.Proofs.Try.prog) (shr129_0_2 Go.Proofs.Try.prog) ((x2,x3,x4,()),(),(b1_0,b1_1,b1_2,()),(b3_0,()),(b4_0,b4_1,b4_2,()),()) [tt,tt,tt,tt,tt,ff] =
    (let r0:=g130 (((((List.getD b1_0 (Int.toNat x4) ((0:Int),(0:Int),false,())).1:Int),(((List.getD b1_0 (Int.toNat x4) ((0:Int),(0:Int),false,())).2.1:Int),((List.getD b1_0 (Int.toNat x4) ((0:Int),(0:Int),false,())).2.2.1,()))),((((List.getD x2 (Int.toNat x4) ((0:Int),false,())).1:Int),((List.getD x2 (Int.toNat x4) ((0:Int),false,())).2.1,())),(b1_1,()))),(b3_0,())); some (.again ((x2,(x3,((wrap64 (x4 + (1:Int)):Int),()))),((),((b1_0,(b1_1,(b1_2,()))),((b3_0,()),((b4_0,(b4_1,((b4_2++[(r0.1.2.1.1,r0.1.2.1.2.1,())]:List (Int×Bool×PUnit)),()))),()))))),[(sameRf Go.Proofs.Try.prog (nat_lit 100) (nat_lit 0),true),(false,false),(Nat.ble (((2:Nat) * (List.length b4_2 + (1:Nat)) + (192:Nat)) * (16:Nat)) (281474976710656:Nat) && Nat.ble (List.length b4_2 + (1:Nat)) (281474976710656:Nat),true),(Option.isSome (f130 (((((List.getD b1_0 (Int.toNat x4) ((0:Int),(0:Int),false,())).1:Int),(((List.getD b1_0 (Int.toNat x4) ((0:Int),(0:Int),false,())).2.1:Int),((List.getD b1_0 (Int.toNat x4) ((0:Int),(0:Int),false,())).2.2.1,()))),((((List.getD x2 (Int.toNat x4) ((0:Int),false,())).1:Int),((List.getD x2 (Int.toNat x4) ((0:Int),false,())).2.1,())),(b1_1,()))),(b3_0,()))),true),(decide ((0:Int) ≤ x4) && decide (x4 < (↑(List.length b1_0):Int)),true),(decide ((0:Int) ≤ x4) && decide (x4 < (↑(List.length x2):Int)),true),(!leF x3 x4,true)])):=by kernel_rfl
theorem e129_0_2_4 (x2:(List (Int×(Bool×Unit)))) (x3:Int) (x4:Int) (b1_0:(List (Int×(Int×(Bool×Unit))))) (b1_1:Int) (b1_2:(List (Int×(Bool×Unit)))) (b3_0:Int) (b4_0:(List (Int×(Int×(Bool×Unit))))) (b4_1:Int) (b4_2:(List (Int×(Bool×Unit)))):runBody (kf130 Go.Proofs.Try.prog).orc Go.Proofs.Try.prog 400 129 0 (sh129_0_2 Go.Proofs.Try.prog) (shb129_0_2 Go.Proofs.Try.prog) (shr129_0_2 Go.Proofs.Try.prog) ((x2,x3,x4,()),(),(b1_0,b1_1,b1_2,()),(b3_0,()),(b4_0,b4_1,b4_2,()),()) [ff] =
    (some (.brk ((),((),((b1_0,(b1_1,(b1_2,()))),((b3_0,()),((b4_0,(b4_1,(b4_2,()))),()))))),[(sameRf Go.Proofs.Try.prog (nat_lit 100) (nat_lit 0),true),(!leF x3 x4,false)])):=by kernel_rfl
theorem ok129_0_2_t (x2:(List (Int×(Bool×Unit)))) (x3:Int) (x4:Int) (b1_0:(List (Int×(Int×(Bool×Unit))))) (b1_1:Int) (b1_2:(List (Int×(Bool×Unit)))) (b3_0:Int) (b4_0:(List (Int×(Int×(Bool×Unit))))) (b4_1:Int) (b4_2:(List (Int×(Bool×Unit)))):TrOk (BodyRuns Go.Proofs.Try.prog (kf130 Go.Proofs.Try.prog).orc 129 0 (sh129_0_2 Go.Proofs.Try.prog) (shb129_0_2 Go.Proofs.Try.prog) (shr129_0_2 Go.Proofs.Try.prog) ((x2,x3,x4,()),(),(b1_0,b1_1,b1_2,()),(b3_0,()),(b4_0,b4_1,b4_2,()),())) (t129_0_2 x2 x3 x4 b1_0 b1_1 b1_2 b3_0 b4_0 b4_1 b4_2) :=
  TrOk.ofTest (fun h0=>TrOk.ofTest (fun h1=>TrOk.ofTest (fun h2=>TrOk.ofTest (fun h3=>TrOk.ofTest (fun h4=>TrOk.ofFin (BodyRuns.of (e129_0_2_0 x2 x3 x4 b1_0 b1_1 b1_2 b3_0 b4_0 b4_1 b4_2) (ac (sc100_0) (ac rfl (ac h4 (ac h3 (ac h2 (ac h1 (ac h0 All.nil))))))))) (fun h4=>TrOk.ofStop)) (fun h3=>TrOk.ofStop)) (fun h2=>TrOk.ofStop)) (fun h1=>TrOk.ofStop)) (fun h0=>TrOk.ofFin (BodyRuns.of (e129_0_2_4 x2 x3 x4 b1_0 b1_1 b1_2 b3_0 b4_0 b4_1 b4_2) (ac (sc100_0) (ac h0 All.nil))))
theorem ok129_0_2:LoopOk Go.Proofs.Try.prog 129 0 (lc129_0_2 Go.Proofs.Try.prog):=loopOk_ofB (sh:=(sh129_0_2 Go.Proofs.Try.prog)) (shB:=(shb129_0_2 Go.Proofs.Try.prog)) (shR:=(shr129_0_2 Go.Proofs.Try.prog)) kf130_ok.base (T:=fun (d:dt129_0_2)=>t129_0_2 d.1.1 d.1.2.1 d.1.2.2.1 d.2.2.1.1 d.2.2.1.2.1 d.2.2.1.2.2.1 d.2.2.2.1.1 d.2.2.2.2.1.1 d.2.2.2.2.1.2.1 d.2.2.2.2.1.2.2.1) (by kernel_rfl) rfl (fun (d:dt129_0_2)=>ok129_0_2_t d.1.1 d.1.2.1 d.1.2.2.1 d.2.2.1.1 d.2.2.1.2.1 d.2.2.1.2.2.1 d.2.2.2.1.1 d.2.2.2.2.1.1 d.2.2.2.2.1.2.1 d.2.2.2.2.1.2.2.1) (fun _=>rfl)
def kl129_0_2 (P:Go.Program):Known:=(kf130 P).loop 129 0 (lc129_0_2 P)
theorem kl129_0_2_ok:KnownOk Go.Proofs.Try.prog (kl129_0_2 Go.Proofs.Try.prog):=kf130_ok.loop ok129_0_2
abbrev as100:List Ty:=[(.pair (.slice (.pair (.int .i64) (.pair (.int .i64) (.pair .bool .unit)))) (.pair (.pair (.int .i64) (.pair (.slice (.pair (.int .i64) (.pair .bool .unit))) .unit)) .unit)),(.int .i64)]
abbrev rs100:List Ty:=[(.pair (.slice (.pair (.int .i64) (.pair (.int .i64) (.pair .bool .unit)))) (.pair (.pair (.int .i64) (.pair (.slice (.pair (.int .i64) (.pair .bool .unit))) .unit)) .unit))]
def t100 (x0:(List (Int×(Int×(Bool×Unit))))) (x0'_:Int) (x0'_':(List (Int×(Bool×Unit)))) (x1:Int):Tr (Tys.data rs100) :=
  Tr.test (isBrk (l129_0_2 ((x0'_',((↑(List.length x0'_'):Int),((0:Int),()))),((),((x0,(x0'_,(x0'_',()))),((x1,()),((x0,(x1,(([]:List (Int×Bool×PUnit)),()))),())))))))
    (let r0:=b129_0_2 ((x0'_',((↑(List.length x0'_'):Int),((0:Int),()))),((),((x0,(x0'_,(x0'_',()))),((x1,()),((x0,(x1,(([]:List (Int×Bool×PUnit)),()))),())))));
    Tr.fin (((r0.2.2.2.2.1.1,((r0.2.2.2.2.1.2.1,(r0.2.2.2.2.1.2.2.1,())),())),())))
    (Tr.stop)
def f100 (d:Tys.data as100):Option (Tys.data rs100):=(t100 d.1.1 d.1.2.1.1 d.1.2.1.2.1 d.2.1).val
def g100 (d:Tys.data as100):Tys.data rs100:=(f100 d).getD (Tys.dflt rs100)
def p100:PureC:=pcOf as100 rs100 f100 g100
theorem e100_0 (x0:(List (Int×(Int×(Bool×Unit))))) (x0'_:Int) (x0'_':(List (Int×(Bool×Unit)))) (x1:Int):runPure (kl129_0_2 Go.Proofs.Try.prog).orc Go.Proofs.Try.prog 400 100 as100 rs100 ((x0,(x0'_,x0'_',()),()),x1,()) [tt,tt,tt] =
    (let r0:=b129_0_2 ((x0'_',((↑(List.length x0'_'):Int),((0:Int),()))),((),((x0,(x0'_,(x0'_',()))),((x1,()),((x0,(x1,(([]:List (Int×Bool×PUnit)),()))),()))))); some (((r0.2.2.2.2.1.1,((r0.2.2.2.2.1.2.1,(r0.2.2.2.2.1.2.2.1,())),())),()),[(true,true),(isBrk (l129_0_2 ((x0'_',((↑(List.length x0'_'):Int),((0:Int),()))),((),((x0,(x0'_,(x0'_',()))),((x1,()),((x0,(x1,(([]:List (Int×Bool×PUnit)),()))),())))))),true),(sameRf Go.Proofs.Try.prog (nat_lit 100) (nat_lit 0),true)])):=by kernel_rfl
theorem ok100_t (x0:(List (Int×(Int×(Bool×Unit))))) (x0'_:Int) (x0'_':(List (Int×(Bool×Unit)))) (x1:Int):TrOk (PureRuns Go.Proofs.Try.prog (kl129_0_2 Go.Proofs.Try.prog).orc 100 as100 rs100 ((x0,(x0'_,x0'_',()),()),x1,())) (t100 x0 x0'_ x0'_' x1) :=
  TrOk.ofTest (fun h1=>TrOk.ofFin (PureRuns.of (e100_0 x0 x0'_ x0'_' x1) (ac rfl (ac h1 (ac (sc100_0) All.nil))))) (fun h1=>TrOk.ofStop)
theorem ok100:PureOk Go.Proofs.Try.prog 100 p100:=pureOk_of kl129_0_2_ok.base (T:=fun (d:Tys.data as100)=>t100 d.1.1 d.1.2.1.1 d.1.2.1.2.1 d.2.1) (by kernel_rfl) (fun (d:Tys.data as100)=>ok100_t d.1.1 d.1.2.1.1 d.1.2.1.2.1 d.2.1)
def kf100 (P:Go.Program):Known:=(kl129_0_2 P).func 100 p100
theorem kf100_ok:KnownOk Go.Proofs.Try.prog (kf100 Go.Proofs.Try.prog):=kl129_0_2_ok.func ok100
abbrev as27:List Ty:=[(.slice (.pair (.int .i64) (.pair (.int .i64) (.pair .bool .unit)))),(.pair (.int .i64) (.pair (.slice (.pair (.int .i64) (.pair .bool .unit))) .unit)),(.int .i64)]
abbrev rs27:List Ty:=[(.pair (.int .i64) (.pair (.slice (.pair (.int .i64) (.pair .bool .unit))) .unit)),(.int .i64)]
def t27 (x0:(List (Int×(Int×(Bool×Unit))))) (x1:Int) (x1':(List (Int×(Bool×Unit)))) (x2:Int):Tr (Tys.data rs27) :=
  Tr.test (Option.isSome (f91 (x2,())))
    (let r0:=g91 (x2,());
    Tr.test (Option.isSome (f95 (x0,((x1,(x1',())),(([r0.1]:List Int),())))))
      (let r1:=g95 (x0,((x1,(x1',())),(([r0.1]:List Int),())));
      Tr.test ((!eqF r1.2.1 0:Bool))
        (Tr.fin ((((0:Int),(([]:List (Int×Bool×PUnit)),())),(r1.2.1,()))))
        (Tr.test (Option.isSome (f100 ((r1.1.1,((r1.1.2.1.1,(r1.1.2.1.2.1,())),())),(x2,()))))
          (let r2:=g100 ((r1.1.1,((r1.1.2.1.1,(r1.1.2.1.2.1,())),())),(x2,()));
          Tr.fin (((r2.1.2.1.1,(r2.1.2.1.2.1,())),((0:Int),()))))
          (Tr.stop)))
      (Tr.stop))
    (Tr.stop)
def f27 (d:Tys.data as27):Option (Tys.data rs27):=(t27 d.1 d.2.1.1 d.2.1.2.1 d.2.2.1).val
def g27 (d:Tys.data as27):Tys.data rs27:=(f27 d).getD (Tys.dflt rs27)
def p27:PureC:=pcOf as27 rs27 f27 g27
theorem wk27 (x0:(List (Int×(Int×(Bool×Unit))))) (x1:Int) (x1':(List (Int×(Bool×Unit)))) (x2:Int):Walks (runPure (kf100 Go.Proofs.Try.prog).orc Go.Proofs.Try.prog 400 27 as27 rs27 (x0,(x1,x1',()),x2,())) (t27 x0 x1 x1' x2) [(bl 3 7,[2,4,6]),(bl 4 11,[2,4,6,8])] :=
  ⟨by kernel_rfl,by kernel_rfl,trivial⟩
theorem ok27_t (x0:(List (Int×(Int×(Bool×Unit))))) (x1:Int) (x1':(List (Int×(Bool×Unit)))) (x2:Int):TrOk (PureRuns Go.Proofs.Try.prog (kf100 Go.Proofs.Try.prog).orc 27 as27 rs27 (x0,(x1,x1',()),x2,())) (t27 x0 x1 x1' x2) :=
  Walks.ok (fun _ _ _=>PureRuns.of) (wk27 x0 x1 x1' x2) (by kernel_rfl)
theorem ok27:PureOk Go.Proofs.Try.prog 27 p27:=pureOk_of kf100_ok.base (T:=fun (d:Tys.data as27)=>t27 d.1 d.2.1.1 d.2.1.2.1 d.2.2.1) (by kernel_rfl) (fun (d:Tys.data as27)=>ok27_t d.1 d.2.1.1 d.2.1.2.1 d.2.2.1)
def kf27 (P:Go.Program):Known:=(kf100 P).func 27 p27
theorem kf27_ok:KnownOk Go.Proofs.Try.prog (kf27 Go.Proofs.Try.prog):=kf100_ok.func ok27
abbrev as119:List Ty:=[(.int .i64)]
abbrev rs119:List Ty:=[(.int .i64)]
def t119 (x0:Int):Tr (Tys.data rs119) :=
  Tr.fin (((if x0 < Go.IntKind.wrap Go.IntKind.i64 ((0:Int) - x0) then Go.IntKind.wrap Go.IntKind.i64 ((0:Int) - x0) else x0:Int),()))
def f119 (d:Tys.data as119):Option (Tys.data rs119):=(t119 d.1).val
def g119 (d:Tys.data as119):Tys.data rs119:=(f119 d).getD (Tys.dflt rs119)
def p119:PureC:=pcOf as119 rs119 f119 g119
theorem wk119 (x0:Int):Walks (runPure (kf27 Go.Proofs.Try.prog).orc Go.Proofs.Try.prog 400 119 as119 rs119 (x0,())) (t119 x0) [(bl 0 0,[])] :=
  ⟨by kernel_rfl,trivial⟩
theorem ok119_t (x0:Int):TrOk (PureRuns Go.Proofs.Try.prog (kf27 Go.Proofs.Try.prog).orc 119 as119 rs119 (x0,())) (t119 x0) :=
  Walks.ok (fun _ _ _=>PureRuns.of) (wk119 x0) (by kernel_rfl)
theorem ok119:PureOk Go.Proofs.Try.prog 119 p119:=pureOk_of kf27_ok.base (T:=fun (d:Tys.data as119)=>t119 d.1) (by kernel_rfl) (fun (d:Tys.data as119)=>ok119_t d.1)
def kf119 (P:Go.Program):Known:=(kf27 P).func 119 p119
theorem kf119_ok:KnownOk Go.Proofs.Try.prog (kf119 Go.Proofs.Try.prog):=kf27_ok.func ok119
abbrev as102:List Ty:=[(.pair (.pair (.int .i64) (.pair (.int .i64) (.pair .bool .unit))) (.pair (.pair (.int .i64) (.pair .bool .unit)) (.pair (.int .i64) .unit))),(.int .i64)]
abbrev rs102:List Ty:=[(.int .i64)]
def t102 (x0_:Int) (x0_':Int) (x0_'':Bool) (x0'_:Int) (x0'_':Bool) (x0'':Int) (x1:Int):Tr (Tys.data rs102) :=
  Tr.test (x0'_')
    (Tr.fin (((0:Int),())))
    (Tr.test (Option.isSome (f119 ((wrap64 (x1 - x0'_):Int),())))
      (Tr.test (Option.isSome (f99 (((x0_,(x0_',(x0_'',()))),((x0'_,(x0'_',())),(x0'',()))),())))
        (Tr.test (x0_'')
          (let r0:=g119 ((wrap64 (x1 - x0'_):Int),());
          let r1:=g99 (((x0_,(x0_',(x0_'',()))),((x0'_,(x0'_',())),(x0'',()))),());
          Tr.fin (((wrap64 (wrap64 (wrap64 (x0_ * if x0_' < r0.1 then x0_' else r0.1) * if x0_' < r0.1 then x0_' else r0.1) - r1.1):Int),())))
          (let r0:=g119 ((wrap64 (x1 - x0'_):Int),());
          let r1:=g99 (((x0_,(x0_',(x0_'',()))),((x0'_,(x0'_',())),(x0'',()))),());
          Tr.fin (((wrap64 (wrap64 (wrap64 (wrap64 (x0_ * if x0_' < r0.1 then x0_' else r0.1) * if x0_' < r0.1 then x0_' else r0.1) - r1.1) + wrap64 (wrap64 (wrap64 ((2:Int) * x0_) * x0_') * wrap64 (r0.1 - if x0_' < r0.1 then x0_' else r0.1))):Int),()))))
        (Tr.stop))
      (Tr.stop))
def f102 (d:Tys.data as102):Option (Tys.data rs102):=(t102 d.1.1.1 d.1.1.2.1 d.1.1.2.2.1 d.1.2.1.1 d.1.2.1.2.1 d.1.2.2.1 d.2.1).val
def g102 (d:Tys.data as102):Tys.data rs102:=(f102 d).getD (Tys.dflt rs102)
def p102:PureC:=pcOf as102 rs102 f102 g102
theorem wk102 (x0_:Int) (x0_':Int) (x0_'':Bool) (x0'_:Int) (x0'_':Bool) (x0'':Int) (x1:Int):Walks (runPure (kf119 Go.Proofs.Try.prog).orc Go.Proofs.Try.prog 400 102 as102 rs102 (((x0_,x0_',x0_'',()),(x0'_,x0'_',()),x0'',()),x1,())) (t102 x0_ x0_' x0_'' x0'_ x0'_' x0'' x1) [(bl 1 1,[2]),(bl 4 14,[2,4,6,8]),(bl 4 6,[2,4,6,8])] :=
  ⟨by kernel_rfl,by kernel_rfl,by kernel_rfl,trivial⟩
theorem ok102_t (x0_:Int) (x0_':Int) (x0_'':Bool) (x0'_:Int) (x0'_':Bool) (x0'':Int) (x1:Int):TrOk (PureRuns Go.Proofs.Try.prog (kf119 Go.Proofs.Try.prog).orc 102 as102 rs102 (((x0_,x0_',x0_'',()),(x0'_,x0'_',()),x0'',()),x1,())) (t102 x0_ x0_' x0_'' x0'_ x0'_' x0'' x1) :=
  Walks.ok (fun _ _ _=>PureRuns.of) (wk102 x0_ x0_' x0_'' x0'_ x0'_' x0'' x1) (by kernel_rfl)
theorem ok102:PureOk Go.Proofs.Try.prog 102 p102:=pureOk_of kf119_ok.base (T:=fun (d:Tys.data as102)=>t102 d.1.1.1 d.1.1.2.1 d.1.1.2.2.1 d.1.2.1.1 d.1.2.1.2.1 d.1.2.2.1 d.2.1) (by kernel_rfl) (fun (d:Tys.data as102)=>ok102_t d.1.1.1 d.1.1.2.1 d.1.1.2.2.1 d.1.2.1.1 d.1.2.1.2.1 d.1.2.2.1 d.2.1)
def kf102 (P:Go.Program):Known:=(kf119 P).func 102 p102
theorem kf102_ok:KnownOk Go.Proofs.Try.prog (kf102 Go.Proofs.Try.prog):=kf119_ok.func ok102
abbrev as104:List Ty:=[(.pair (.pair (.int .i64) (.pair (.int .i64) (.pair .bool .unit))) (.pair (.pair (.int .i64) (.pair .bool .unit)) (.pair (.int .i64) .unit))),(.int .i64)]
abbrev rs104:List Ty:=[(.int .i64)]
def t104 (x0_:Int) (x0_':Int) (x0_'':Bool) (x0'_:Int) (x0'_':Bool) (x0'':Int) (x1:Int):Tr (Tys.data rs104) :=
  Tr.test (Option.isSome (f130 (((x0_,(x0_',(x0_'',()))),((x0'_,(x0'_',())),(x0'',()))),(x1,()))))
    (let r0:=g130 (((x0_,(x0_',(x0_'',()))),((x0'_,(x0'_',())),(x0'',()))),(x1,()));
    Tr.test (r0.1.2.1.2.1)
      (Tr.test ((!x0'_':Bool))
        (Tr.fin (((wrap64 (wrap64 (x0_ * x0_') * x0_'):Int),())))
        (Tr.test (Option.isSome (f119 ((wrap64 (r0.1.2.1.1 - x0'_):Int),())))
          (let r1:=g119 ((wrap64 (r0.1.2.1.1 - x0'_):Int),());
          Tr.fin (((wrap64 (wrap64 (wrap64 ((2:Int) * x0_) * x0_') * r1.1):Int),())))
          (Tr.stop)))
      (Tr.test (Option.isSome (f119 ((wrap64 (r0.1.2.1.1 - x0'_):Int),())))
        (let r1:=g119 ((wrap64 (r0.1.2.1.1 - x0'_):Int),());
        Tr.fin (((wrap64 (wrap64 (wrap64 ((2:Int) * x0_) * x0_') * r1.1):Int),())))
        (Tr.stop)))
    (Tr.stop)
def f104 (d:Tys.data as104):Option (Tys.data rs104):=(t104 d.1.1.1 d.1.1.2.1 d.1.1.2.2.1 d.1.2.1.1 d.1.2.1.2.1 d.1.2.2.1 d.2.1).val
def g104 (d:Tys.data as104):Tys.data rs104:=(f104 d).getD (Tys.dflt rs104)
def p104:PureC:=pcOf as104 rs104 f104 g104
theorem wk104 (x0_:Int) (x0_':Int) (x0_'':Bool) (x0'_:Int) (x0'_':Bool) (x0'':Int) (x1:Int):Walks (runPure (kf102 Go.Proofs.Try.prog).orc Go.Proofs.Try.prog 400 104 as104 rs104 (((x0_,x0_',x0_'',()),(x0'_,x0'_',()),x0'',()),x1,())) (t104 x0_ x0_' x0_'' x0'_ x0'_' x0'' x1) [(bl 3 7,[2,4,4,4,4,4,6]),(bl 4 11,[2,4,6,6,6,6,6,8]),(bl 3 5,[2,0,4,4,4,4,4,6])] :=
  ⟨by kernel_rfl,by kernel_rfl,by kernel_rfl,trivial⟩
theorem ok104_t (x0_:Int) (x0_':Int) (x0_'':Bool) (x0'_:Int) (x0'_':Bool) (x0'':Int) (x1:Int):TrOk (PureRuns Go.Proofs.Try.prog (kf102 Go.Proofs.Try.prog).orc 104 as104 rs104 (((x0_,x0_',x0_'',()),(x0'_,x0'_',()),x0'',()),x1,())) (t104 x0_ x0_' x0_'' x0'_ x0'_' x0'' x1) :=
  Walks.ok (fun _ _ _=>PureRuns.of) (wk104 x0_ x0_' x0_'' x0'_ x0'_' x0'' x1) (by kernel_rfl)
theorem ok104:PureOk Go.Proofs.Try.prog 104 p104:=pureOk_of kf102_ok.base (T:=fun (d:Tys.data as104)=>t104 d.1.1.1 d.1.1.2.1 d.1.1.2.2.1 d.1.2.1.1 d.1.2.1.2.1 d.1.2.2.1 d.2.1) (by kernel_rfl) (fun (d:Tys.data as104)=>ok104_t d.1.1.1 d.1.1.2.1 d.1.1.2.2.1 d.1.2.1.1 d.1.2.1.2.1 d.1.2.2.1 d.2.1)
def kf104 (P:Go.Program):Known:=(kf102 P).func 104 p104
theorem kf104_ok:KnownOk Go.Proofs.Try.prog (kf104 Go.Proofs.Try.prog):=kf102_ok.func ok104
abbrev sh129_0_3 (P:Go.Program):Sh:={ n:=28,slots:=[0,1,7,8,9],pats:=[.yld 0,.ptr 1 3 0,.ty (.slice (.pair (.int .i64) (.pair .bool .unit))),.ty (.int .i64),.ty (.int .i64)],boxes:=[.lp (lpOf P 97 0 .ready none 15 [3,5] 2) [.ptr 3 1 0,.ptr 4 1 0],.row [.ty (.slice (.pair (.int .i64) (.pair (.int .i64) (.pair .bool .unit)))),.ty (.int .i64),.ty (.slice (.pair (.int .i64) (.pair .bool .unit)))],.dfr,.row [.fn 101 [(5,1)]],.row [.ty (.int .i64)],.row [.ty (.int .i64)]] }
abbrev shb129_0_3 (P:Go.Program):Sh:={ n:=28,slots:=[],pats:=[],boxes:=[.lp (lpOf P 97 0 .ready none 15 [3,5] 2) [.ptr 3 1 0,.ptr 4 1 0],.row [.ty (.slice (.pair (.int .i64) (.pair (.int .i64) (.pair .bool .unit)))),.ty (.int .i64),.ty (.slice (.pair (.int .i64) (.pair .bool .unit)))],.dfr,.row [.fn 101 [(5,1)]],.row [.ty (.int .i64)],.row [.ty (.int .i64)]] }
abbrev shr129_0_3 (P:Go.Program):Sh:={ n:=28,slots:=[],pats:=[],boxes:=[.lp (lpOf P 97 0 .ready none 15 [3,5] 2) [.ptr 3 1 0,.ptr 4 1 0],.row [.ty (.slice (.pair (.int .i64) (.pair (.int .i64) (.pair .bool .unit)))),.ty (.int .i64),.ty (.slice (.pair (.int .i64) (.pair .bool .unit)))],.dfr,.row [.fn 101 [(5,1)]],.row [.ty (.int .i64)],.row [.ty (.int .i64)]] }
abbrev dt129_0_3:Type:=(List (Int×Bool×PUnit)×Int×Int×PUnit)×PUnit×(List (Int×Int×Bool×PUnit)×Int×List (Int×Bool×PUnit)×PUnit)×PUnit×(Int×PUnit)×(Int×PUnit)×PUnit
abbrev db129_0_3:Type:=PUnit×PUnit×(List (Int×Int×Bool×PUnit)×Int×List (Int×Bool×PUnit)×PUnit)×PUnit×(Int×PUnit)×(Int×PUnit)×PUnit
abbrev dr129_0_3:Type:=PUnit×PUnit×(List (Int×Int×Bool×PUnit)×Int×List (Int×Bool×PUnit)×PUnit)×PUnit×(Int×PUnit)×(Int×PUnit)×PUnit
def t129_0_3 (x2:(List (Int×(Bool×Unit)))) (x3:Int) (x4:Int) (b1_0:(List (Int×(Int×(Bool×Unit))))) (b1_1:Int) (b1_2:(List (Int×(Bool×Unit)))) (b4_0:Int) (b5_0:Int):Tr (Out dt129_0_3 db129_0_3 dr129_0_3) :=
  Tr.test ((!leF x3 x4:Bool))
    (Tr.test (decide ((0:Int) ≤ x4) && decide (x4 < (↑(List.length x2):Int)))
      (Tr.test ((decide ((0:Int) ≤ x4) && decide (x4 < (↑(List.length b1_0):Int)):Bool))
        (Tr.test (Option.isSome (f102 (((((List.getD b1_0 (Int.toNat x4) ((0:Int),(0:Int),false,())).1:Int),(((List.getD b1_0 (Int.toNat x4) ((0:Int),(0:Int),false,())).2.1:Int),(((List.getD b1_0 (Int.toNat x4) ((0:Int),(0:Int),false,())).2.2.1:Bool),()))),((((List.getD x2 (Int.toNat x4) ((0:Int),false,())).1:Int),(((List.getD x2 (Int.toNat x4) ((0:Int),false,())).2.1:Bool),())),(b1_1,()))),(b5_0,()))))
          (let r0:=g102 (((((List.getD b1_0 (Int.toNat x4) ((0:Int),(0:Int),false,())).1:Int),(((List.getD b1_0 (Int.toNat x4) ((0:Int),(0:Int),false,())).2.1:Int),(((List.getD b1_0 (Int.toNat x4) ((0:Int),(0:Int),false,())).2.2.1:Bool),()))),((((List.getD x2 (Int.toNat x4) ((0:Int),false,())).1:Int),(((List.getD x2 (Int.toNat x4) ((0:Int),false,())).2.1:Bool),())),(b1_1,()))),(b5_0,()));
          Tr.fin (.again ((x2,(x3,((wrap64 (x4 + (1:Int)):Int),()))),((),((b1_0,(b1_1,(b1_2,()))),((),(((wrap64 (b4_0 + r0.1):Int),()),((b5_0,()),()))))))))
          (Tr.stop))
        (Tr.stop))
      (Tr.stop))
    (Tr.fin (.brk ((),((),((b1_0,(b1_1,(b1_2,()))),((),((b4_0,()),((b5_0,()),()))))))))
def s129_0_3 (d:dt129_0_3):Option (Out dt129_0_3 db129_0_3 dr129_0_3):=(t129_0_3 d.1.1 d.1.2.1 d.1.2.2.1 d.2.2.1.1 d.2.2.1.2.1 d.2.2.1.2.2.1 d.2.2.2.2.1.1 d.2.2.2.2.2.1.1).val
def l129_0_3 (d:dt129_0_3):Option (db129_0_3 ⊕ dr129_0_3):=itr s129_0_3 rounds d
def b129_0_3 (d:dt129_0_3):db129_0_3:=outB (((),((),((([]:List (Int×Int×Bool×PUnit)),((0:Int),(([]:List (Int×Bool×PUnit)),()))),((),(((0:Int),()),(((0:Int),()),()))))))) (l129_0_3 d)
def lc129_0_3 (P:Go.Program):LoopC:=lcB (sh129_0_3 P) (shb129_0_3 P) (shr129_0_3 P) l129_0_3 b129_0_3
theorem e129_0_3_0 (x2:(List (Int×(Bool×Unit)))) (x3:Int) (x4:Int) (b1_0:(List (Int×(Int×(Bool×Unit))))) (b1_1:Int) (b1_2:(List (Int×(Bool×Unit)))) (b4_0:Int) (b5_0:Int):runBody (kf104 Go.Proofs.Try.prog).orc Go.Proofs.Try.prog 400 129 0 (sh129_0_3 Go.Proofs.Try.prog) (shb129_0_3 Go.Proofs.Try.prog) (shr129_0_3 Go.Proofs.Try.prog) ((x2,x3,x4,()),(),(b1_0,b1_1,b1_2,()),(),(b4_0,()),(b5_0,()),()) [tt,tt,tt,tt,ff] =
    (let r0:=g102 (((((List.getD b1_0 (Int.toNat x4) ((0:Int),(0:Int),false,())).1:Int),(((List.getD b1_0 (Int.toNat x4) ((0:Int),(0:Int),false,())).2.1:Int),((List.getD b1_0 (Int.toNat x4) ((0:Int),(0:Int),false,())).2.2.1,()))),((((List.getD x2 (Int.toNat x4) ((0:Int),false,())).1:Int),((List.getD x2 (Int.toNat x4) ((0:Int),false,())).2.1,())),(b1_1,()))),(b5_0,())); some (.again ((x2,(x3,((wrap64 (x4 + (1:Int)):Int),()))),((),((b1_0,(b1_1,(b1_2,()))),((),(((wrap64 (b4_0 + r0.1):Int),()),((b5_0,()),())))))),[(sameRf Go.Proofs.Try.prog (nat_lit 97) (nat_lit 0),true),(false,false),(Option.isSome (f102 (((((List.getD b1_0 (Int.toNat x4) ((0:Int),(0:Int),false,())).1:Int),(((List.getD b1_0 (Int.toNat x4) ((0:Int),(0:Int),false,())).2.1:Int),((List.getD b1_0 (Int.toNat x4) ((0:Int),(0:Int),false,())).2.2.1,()))),((((List.getD x2 (Int.toNat x4) ((0:Int),false,())).1:Int),((List.getD x2 (Int.toNat x4) ((0:Int),false,())).2.1,())),(b1_1,()))),(b5_0,()))),true),(decide ((0:Int) ≤ x4) && decide (x4 < (↑(List.length b1_0):Int)),true),(decide ((0:Int) ≤ x4) && decide (x4 < (↑(List.length x2):Int)),true),(!leF x3 x4,true)])):=by kernel_rfl
theorem e129_0_3_3 (x2:(List (Int×(Bool×Unit)))) (x3:Int) (x4:Int) (b1_0:(List (Int×(Int×(Bool×Unit))))) (b1_1:Int) (b1_2:(List (Int×(Bool×Unit)))) (b4_0:Int) (b5_0:Int):runBody (kf104 Go.Proofs.Try.prog).orc Go.Proofs.Try.prog 400 129 0 (sh129_0_3 Go.Proofs.Try.prog) (shb129_0_3 Go.Proofs.Try.prog) (shr129_0_3 Go.Proofs.Try.prog) ((x2,x3,x4,()),(),(b1_0,b1_1,b1_2,()),(),(b4_0,()),(b5_0,()),()) [ff] =
    (some (.brk ((),((),((b1_0,(b1_1,(b1_2,()))),((),((b4_0,()),((b5_0,()),())))))),[(sameRf Go.Proofs.Try.prog (nat_lit 97) (nat_lit 0),true),(!leF x3 x4,false)])):=by kernel_rfl
theorem ok129_0_3_t (x2:(List (Int×(Bool×Unit)))) (x3:Int) (x4:Int) (b1_0:(List (Int×(Int×(Bool×Unit))))) (b1_1:Int) (b1_2:(List (Int×(Bool×Unit)))) (b4_0:Int) (b5_0:Int):TrOk (BodyRuns Go.Proofs.Try.prog (kf104 Go.Proofs.Try.prog).orc 129 0 (sh129_0_3 Go.Proofs.Try.prog) (shb129_0_3 Go.Proofs.Try.prog) (shr129_0_3 Go.Proofs.Try.prog) ((x2,x3,x4,()),(),(b1_0,b1_1,b1_2,()),(),(b4_0,()),(b5_0,()),())) (t129_0_3 x2 x3 x4 b1_0 b1_1 b1_2 b4_0 b5_0) :=
  TrOk.ofTest (fun h0=>TrOk.ofTest (fun h1=>TrOk.ofTest (fun h2=>TrOk.ofTest (fun h3=>TrOk.ofFin (BodyRuns.of (e129_0_3_0 x2 x3 x4 b1_0 b1_1 b1_2 b4_0 b5_0) (ac (sc97_0) (ac rfl (ac h3 (ac h2 (ac h1 (ac h0 All.nil)))))))) (fun h3=>TrOk.ofStop)) (fun h2=>TrOk.ofStop)) (fun h1=>TrOk.ofStop)) (fun h0=>TrOk.ofFin (BodyRuns.of (e129_0_3_3 x2 x3 x4 b1_0 b1_1 b1_2 b4_0 b5_0) (ac (sc97_0) (ac h0 All.nil))))
theorem ok129_0_3:LoopOk Go.Proofs.Try.prog 129 0 (lc129_0_3 Go.Proofs.Try.prog):=loopOk_ofB (sh:=(sh129_0_3 Go.Proofs.Try.prog)) (shB:=(shb129_0_3 Go.Proofs.Try.prog)) (shR:=(shr129_0_3 Go.Proofs.Try.prog)) kf104_ok.base (T:=fun (d:dt129_0_3)=>t129_0_3 d.1.1 d.1.2.1 d.1.2.2.1 d.2.2.1.1 d.2.2.1.2.1 d.2.2.1.2.2.1 d.2.2.2.2.1.1 d.2.2.2.2.2.1.1) (by kernel_rfl) rfl (fun (d:dt129_0_3)=>ok129_0_3_t d.1.1 d.1.2.1 d.1.2.2.1 d.2.2.1.1 d.2.2.1.2.1 d.2.2.1.2.2.1 d.2.2.2.2.1.1 d.2.2.2.2.2.1.1) (fun _=>rfl)
def kl129_0_3 (P:Go.Program):Known:=(kf104 P).loop 129 0 (lc129_0_3 P)
theorem kl129_0_3_ok:KnownOk Go.Proofs.Try.prog (kl129_0_3 Go.Proofs.Try.prog):=kf104_ok.loop ok129_0_3
abbrev sh129_0_4 (P:Go.Program):Sh:={ n:=28,slots:=[0,1,7,8,9],pats:=[.yld 0,.ptr 1 3 0,.ty (.slice (.pair (.int .i64) (.pair .bool .unit))),.ty (.int .i64),.ty (.int .i64)],boxes:=[.lp (lpOf P 97 0 .ready none 15 [3,5] 2) [.ptr 3 1 0,.ptr 4 1 0],.row [.ty (.slice (.pair (.int .i64) (.pair (.int .i64) (.pair .bool .unit)))),.ty (.int .i64),.ty (.slice (.pair (.int .i64) (.pair .bool .unit)))],.dfr,.row [.fn 103 [(5,1)]],.row [.ty (.int .i64)],.row [.ty (.int .i64)]] }
abbrev shb129_0_4 (P:Go.Program):Sh:={ n:=28,slots:=[],pats:=[],boxes:=[.lp (lpOf P 97 0 .ready none 15 [3,5] 2) [.ptr 3 1 0,.ptr 4 1 0],.row [.ty (.slice (.pair (.int .i64) (.pair (.int .i64) (.pair .bool .unit)))),.ty (.int .i64),.ty (.slice (.pair (.int .i64) (.pair .bool .unit)))],.dfr,.row [.fn 103 [(5,1)]],.row [.ty (.int .i64)],.row [.ty (.int .i64)]] }
abbrev shr129_0_4 (P:Go.Program):Sh:={ n:=28,slots:=[],pats:=[],boxes:=[.lp (lpOf P 97 0 .ready none 15 [3,5] 2) [.ptr 3 1 0,.ptr 4 1 0],.row [.ty (.slice (.pair (.int .i64) (.pair (.int .i64) (.pair .bool .unit)))),.ty (.int .i64),.ty (.slice (.pair (.int .i64) (.pair .bool .unit)))],.dfr,.row [.fn 103 [(5,1)]],.row [.ty (.int .i64)],.row [.ty (.int .i64)]] }
abbrev dt129_0_4:Type:=(List (Int×Bool×PUnit)×Int×Int×PUnit)×PUnit×(List (Int×Int×Bool×PUnit)×Int×List (Int×Bool×PUnit)×PUnit)×PUnit×(Int×PUnit)×(Int×PUnit)×PUnit
abbrev db129_0_4:Type:=PUnit×PUnit×(List (Int×Int×Bool×PUnit)×Int×List (Int×Bool×PUnit)×PUnit)×PUnit×(Int×PUnit)×(Int×PUnit)×PUnit
abbrev dr129_0_4:Type:=PUnit×PUnit×(List (Int×Int×Bool×PUnit)×Int×List (Int×Bool×PUnit)×PUnit)×PUnit×(Int×PUnit)×(Int×PUnit)×PUnit
def t129_0_4 (x2:(List (Int×(Bool×Unit)))) (x3:Int) (x4:Int) (b1_0:(List (Int×(Int×(Bool×Unit))))) (b1_1:Int) (b1_2:(List (Int×(Bool×Unit)))) (b4_0:Int) (b5_0:Int):Tr (Out dt129_0_4 db129_0_4 dr129_0_4) :=
  Tr.test ((!leF x3 x4:Bool))
    (Tr.test (decide ((0:Int) ≤ x4) && decide (x4 < (↑(List.length x2):Int)))
      (Tr.test ((decide ((0:Int) ≤ x4) && decide (x4 < (↑(List.length b1_0):Int)):Bool))
        (Tr.test (Option.isSome (f104 (((((List.getD b1_0 (Int.toNat x4) ((0:Int),(0:Int),false,())).1:Int),(((List.getD b1_0 (Int.toNat x4) ((0:Int),(0:Int),false,())).2.1:Int),(((List.getD b1_0 (Int.toNat x4) ((0:Int),(0:Int),false,())).2.2.1:Bool),()))),((((List.getD x2 (Int.toNat x4) ((0:Int),false,())).1:Int),(((List.getD x2 (Int.toNat x4) ((0:Int),false,())).2.1:Bool),())),(b1_1,()))),(b5_0,()))))
          (let r0:=g104 (((((List.getD b1_0 (Int.toNat x4) ((0:Int),(0:Int),false,())).1:Int),(((List.getD b1_0 (Int.toNat x4) ((0:Int),(0:Int),false,())).2.1:Int),(((List.getD b1_0 (Int.toNat x4) ((0:Int),(0:Int),false,())).2.2.1:Bool),()))),((((List.getD x2 (Int.toNat x4) ((0:Int),false,())).1:Int),(((List.getD x2 (Int.toNat x4) ((0:Int),false,())).2.1:Bool),())),(b1_1,()))),(b5_0,()));
          Tr.fin (.again ((x2,(x3,((wrap64 (x4 + (1:Int)):Int),()))),((),((b1_0,(b1_1,(b1_2,()))),((),(((wrap64 (b4_0 + r0.1):Int),()),((b5_0,()),()))))))))
          (Tr.stop))
        (Tr.stop))
      (Tr.stop))
    (Tr.fin (.brk ((),((),((b1_0,(b1_1,(b1_2,()))),((),((b4_0,()),((b5_0,()),()))))))))
def s129_0_4 (d:dt129_0_4):Option (Out dt129_0_4 db129_0_4 dr129_0_4):=(t129_0_4 d.1.1 d.1.2.1 d.1.2.2.1 d.2.2.1.1 d.2.2.1.2.1 d.2.2.1.2.2.1 d.2.2.2.2.1.1 d.2.2.2.2.2.1.1).val
def l129_0_4 (d:dt129_0_4):Option (db129_0_4 ⊕ dr129_0_4):=itr s129_0_4 rounds d
def b129_0_4 (d:dt129_0_4):db129_0_4:=outB (((),((),((([]:List (Int×Int×Bool×PUnit)),((0:Int),(([]:List (Int×Bool×PUnit)),()))),((),(((0:Int),()),(((0:Int),()),()))))))) (l129_0_4 d)
def lc129_0_4 (P:Go.Program):LoopC:=lcB (sh129_0_4 P) (shb129_0_4 P) (shr129_0_4 P) l129_0_4 b129_0_4
theorem e129_0_4_0 (x2:(List (Int×(Bool×Unit)))) (x3:Int) (x4:Int) (b1_0:(List (Int×(Int×(Bool×Unit))))) (b1_1:Int) (b1_2:(List (Int×(Bool×Unit)))) (b4_0:Int) (b5_0:Int):runBody (kl129_0_3 Go.Proofs.Try.prog).orc Go.Proofs.Try.prog 400 129 0 (sh129_0_4 Go.Proofs.Try.prog) (shb129_0_4 Go.Proofs.Try.prog) (shr129_0_4 Go.Proofs.Try.prog) ((x2,x3,x4,()),(),(b1_0,b1_1,b1_2,()),(),(b4_0,()),(b5_0,()),()) [tt,tt,tt,tt,ff] =
    (let r0:=g104 (((((List.getD b1_0 (Int.toNat x4) ((0:Int),(0:Int),false,())).1:Int),(((List.getD b1_0 (Int.toNat x4) ((0:Int),(0:Int),false,())).2.1:Int),((List.getD b1_0 (Int.toNat x4) ((0:Int),(0:Int),false,())).2.2.1,()))),((((List.getD x2 (Int.toNat x4) ((0:Int),false,())).1:Int),((List.getD x2 (Int.toNat x4) ((0:Int),false,())).2.1,())),(b1_1,()))),(b5_0,())); some (.again ((x2,(x3,((wrap64 (x4 + (1:Int)):Int),()))),((),((b1_0,(b1_1,(b1_2,()))),((),(((wrap64 (b4_0 + r0.1):Int),()),((b5_0,()),())))))),[(sameRf Go.Proofs.Try.prog (nat_lit 97) (nat_lit 0),true),(false,false),(Option.isSome (f104 (((((List.getD b1_0 (Int.toNat x4) ((0:Int),(0:Int),false,())).1:Int),(((List.getD b1_0 (Int.toNat x4) ((0:Int),(0:Int),false,())).2.1:Int),((List.getD b1_0 (Int.toNat x4) ((0:Int),(0:Int),false,())).2.2.1,()))),((((List.getD x2 (Int.toNat x4) ((0:Int),false,())).1:Int),((List.getD x2 (Int.toNat x4) ((0:Int),false,())).2.1,())),(b1_1,()))),(b5_0,()))),true),(decide ((0:Int) ≤ x4) && decide (x4 < (↑(List.length b1_0):Int)),true),(decide ((0:Int) ≤ x4) && decide (x4 < (↑(List.length x2):Int)),true),(!leF x3 x4,true)])):=by kernel_rfl
theorem e129_0_4_3 (x2:(List (Int×(Bool×Unit)))) (x3:Int) (x4:Int) (b1_0:(List (Int×(Int×(Bool×Unit))))) (b1_1:Int) (b1_2:(List (Int×(Bool×Unit)))) (b4_0:Int) (b5_0:Int):runBody (kl129_0_3 Go.Proofs.Try.prog).orc Go.Proofs.Try.prog 400 129 0 (sh129_0_4 Go.Proofs.Try.prog) (shb129_0_4 Go.Proofs.Try.prog) (shr129_0_4 Go.Proofs.Try.prog) ((x2,x3,x4,()),(),(b1_0,b1_1,b1_2,()),(),(b4_0,()),(b5_0,()),()) [ff] =
    (some (.brk ((),((),((b1_0,(b1_1,(b1_2,()))),((),((b4_0,()),((b5_0,()),())))))),[(sameRf Go.Proofs.Try.prog (nat_lit 97) (nat_lit 0),true),(!leF x3 x4,false)])):=by kernel_rfl
theorem ok129_0_4_t (x2:(List (Int×(Bool×Unit)))) (x3:Int) (x4:Int) (b1_0:(List (Int×(Int×(Bool×Unit))))) (b1_1:Int) (b1_2:(List (Int×(Bool×Unit)))) (b4_0:Int) (b5_0:Int):TrOk (BodyRuns Go.Proofs.Try.prog (kl129_0_3 Go.Proofs.Try.prog).orc 129 0 (sh129_0_4 Go.Proofs.Try.prog) (shb129_0_4 Go.Proofs.Try.prog) (shr129_0_4 Go.Proofs.Try.prog) ((x2,x3,x4,()),(),(b1_0,b1_1,b1_2,()),(),(b4_0,()),(b5_0,()),())) (t129_0_4 x2 x3 x4 b1_0 b1_1 b1_2 b4_0 b5_0) :=
  TrOk.ofTest (fun h0=>TrOk.ofTest (fun h1=>TrOk.ofTest (fun h2=>TrOk.ofTest (fun h3=>TrOk.ofFin (BodyRuns.of (e129_0_4_0 x2 x3 x4 b1_0 b1_1 b1_2 b4_0 b5_0) (ac (sc97_0) (ac rfl (ac h3 (ac h2 (ac h1 (ac h0 All.nil)))))))) (fun h3=>TrOk.ofStop)) (fun h2=>TrOk.ofStop)) (fun h1=>TrOk.ofStop)) (fun h0=>TrOk.ofFin (BodyRuns.of (e129_0_4_3 x2 x3 x4 b1_0 b1_1 b1_2 b4_0 b5_0) (ac (sc97_0) (ac h0 All.nil))))
theorem ok129_0_4:LoopOk Go.Proofs.Try.prog 129 0 (lc129_0_4 Go.Proofs.Try.prog):=loopOk_ofB (sh:=(sh129_0_4 Go.Proofs.Try.prog)) (shB:=(shb129_0_4 Go.Proofs.Try.prog)) (shR:=(shr129_0_4 Go.Proofs.Try.prog)) kl129_0_3_ok.base (T:=fun (d:dt129_0_4)=>t129_0_4 d.1.1 d.1.2.1 d.1.2.2.1 d.2.2.1.1 d.2.2.1.2.1 d.2.2.1.2.2.1 d.2.2.2.2.1.1 d.2.2.2.2.2.1.1) (by kernel_rfl) rfl (fun (d:dt129_0_4)=>ok129_0_4_t d.1.1 d.1.2.1 d.1.2.2.1 d.2.2.1.1 d.2.2.1.2.1 d.2.2.1.2.2.1 d.2.2.2.2.1.1 d.2.2.2.2.2.1.1) (fun _=>rfl)
def kl129_0_4 (P:Go.Program):Known:=(kl129_0_3 P).loop 129 0 (lc129_0_4 P)
theorem kl129_0_4_ok:KnownOk Go.Proofs.Try.prog (kl129_0_4 Go.Proofs.Try.prog):=kl129_0_3_ok.loop ok129_0_4
abbrev as28:List Ty:=[(.slice (.pair (.int .i64) (.pair (.int .i64) (.pair .bool .unit)))),(.pair (.int .i64) (.pair (.slice (.pair (.int .i64) (.pair .bool .unit))) .unit)),(.int .i64)]
abbrev rs28:List Ty:=[(.pair (.int .i64) (.pair (.int .i64) .unit)),(.int .i64)]
def t28 (x0:(List (Int×(Int×(Bool×Unit))))) (x1:Int) (x1':(List (Int×(Bool×Unit)))) (x2:Int):Tr (Tys.data rs28) :=
  Tr.test (Option.isSome (f91 (x2,())))
    (let r0:=g91 (x2,());
    Tr.test (Option.isSome (f95 (x0,((x1,(x1',())),(([r0.1]:List Int),())))))
      (let r1:=g95 (x0,((x1,(x1',())),(([r0.1]:List Int),())));
      Tr.test (isBrk (l129_0_3 ((r1.1.2.1.2.1,((↑(List.length r1.1.2.1.2.1):Int),((0:Int),()))),((),((r1.1.1,(r1.1.2.1.1,(r1.1.2.1.2.1,()))),((),(((0:Int),()),((x2,()),()))))))))
        (let r2:=b129_0_3 ((r1.1.2.1.2.1,((↑(List.length r1.1.2.1.2.1):Int),((0:Int),()))),((),((r1.1.1,(r1.1.2.1.1,(r1.1.2.1.2.1,()))),((),(((0:Int),()),((x2,()),()))))));
        Tr.test (isBrk (l129_0_4 ((r1.1.2.1.2.1,((↑(List.length r1.1.2.1.2.1):Int),((0:Int),()))),((),((r1.1.1,(r1.1.2.1.1,(r1.1.2.1.2.1,()))),((),(((0:Int),()),((r2.2.2.2.2.2.1.1,()),()))))))))
          (let r3:=b129_0_4 ((r1.1.2.1.2.1,((↑(List.length r1.1.2.1.2.1):Int),((0:Int),()))),((),((r1.1.1,(r1.1.2.1.1,(r1.1.2.1.2.1,()))),((),(((0:Int),()),((r2.2.2.2.2.2.1.1,()),()))))));
          Tr.fin (((r2.2.2.2.2.1.1,(r3.2.2.2.2.1.1,())),(r1.2.1,()))))
          (Tr.stop))
        (Tr.stop))
      (Tr.stop))
    (Tr.stop)
def f28 (d:Tys.data as28):Option (Tys.data rs28):=(t28 d.1 d.2.1.1 d.2.1.2.1 d.2.2.1).val
def g28 (d:Tys.data as28):Tys.data rs28:=(f28 d).getD (Tys.dflt rs28)
def p28:PureC:=pcOf as28 rs28 f28 g28
theorem e28_0 (x0:(List (Int×(Int×(Bool×Unit))))) (x1:Int) (x1':(List (Int×(Bool×Unit)))) (x2:Int):runPure (kl129_0_4 Go.Proofs.Try.prog).orc Go.Proofs.Try.prog 400 28 as28 rs28 (x0,(x1,x1',()),x2,()) [tt,tt,tt,tt,tt,tt,tt,tt] =
    (let r0:=g91 (x2,());let r1:=g95 (x0,((x1,(x1',())),(([r0.1]:List Int),())));let r2:=b129_0_3 ((r1.1.2.1.2.1,((↑(List.length r1.1.2.1.2.1):Int),((0:Int),()))),((),((r1.1.1,(r1.1.2.1.1,(r1.1.2.1.2.1,()))),((),(((0:Int),()),((x2,()),()))))));let r3:=b129_0_4 ((r1.1.2.1.2.1,((↑(List.length r1.1.2.1.2.1):Int),((0:Int),()))),((),((r1.1.1,(r1.1.2.1.1,(r1.1.2.1.2.1,()))),((),(((0:Int),()),((r2.2.2.2.2.2.1.1,()),())))))); some (((r2.2.2.2.2.1.1,(r3.2.2.2.2.1.1,())),(r1.2.1,())),[(true,true),(isBrk (l129_0_4 ((r1.1.2.1.2.1,((↑(List.length r1.1.2.1.2.1):Int),((0:Int),()))),((),((r1.1.1,(r1.1.2.1.1,(r1.1.2.1.2.1,()))),((),(((0:Int),()),((r2.2.2.2.2.2.1.1,()),()))))))),true),(sameRf Go.Proofs.Try.prog (nat_lit 97) (nat_lit 0),true),(true,true),(isBrk (l129_0_3 ((r1.1.2.1.2.1,((↑(List.length r1.1.2.1.2.1):Int),((0:Int),()))),((),((r1.1.1,(r1.1.2.1.1,(r1.1.2.1.2.1,()))),((),(((0:Int),()),((x2,()),()))))))),true),(sameRf Go.Proofs.Try.prog (nat_lit 97) (nat_lit 0),true),(Option.isSome (f95 (x0,((x1,(x1',())),(([r0.1]:List Int),())))),true),(Option.isSome (f91 (x2,())),true)])):=by kernel_rfl
theorem ok28_t (x0:(List (Int×(Int×(Bool×Unit))))) (x1:Int) (x1':(List (Int×(Bool×Unit)))) (x2:Int):TrOk (PureRuns Go.Proofs.Try.prog (kl129_0_4 Go.Proofs.Try.prog).orc 28 as28 rs28 (x0,(x1,x1',()),x2,())) (t28 x0 x1 x1' x2) :=
  TrOk.ofTest (fun h0=>TrOk.ofTest (fun h1=>TrOk.ofTest (fun h3=>TrOk.ofTest (fun h6=>TrOk.ofFin (PureRuns.of (e28_0 x0 x1 x1' x2) (ac rfl (ac h6 (ac (sc97_0) (ac rfl (ac h3 (ac (sc97_0) (ac h1 (ac h0 All.nil)))))))))) (fun h6=>TrOk.ofStop)) (fun h3=>TrOk.ofStop)) (fun h1=>TrOk.ofStop)) (fun h0=>TrOk.ofStop)
theorem ok28:PureOk Go.Proofs.Try.prog 28 p28:=pureOk_of kl129_0_4_ok.base (T:=fun (d:Tys.data as28)=>t28 d.1 d.2.1.1 d.2.1.2.1 d.2.2.1) (by kernel_rfl) (fun (d:Tys.data as28)=>ok28_t d.1 d.2.1.1 d.2.1.2.1 d.2.2.1)
def kf28 (P:Go.Program):Known:=(kl129_0_4 P).func 28 p28
theorem kf28_ok:KnownOk Go.Proofs.Try.prog (kf28 Go.Proofs.Try.prog):=kl129_0_4_ok.func ok28
abbrev as105:List Ty:=[(.slice (.pair (.int .i64) (.pair (.int .i64) (.pair .bool .unit))))]
abbrev rs105:List Ty:=[(.pair (.slice (.pair (.int .i64) (.pair (.int .i64) (.pair .bool .unit)))) (.pair (.pair (.int .i64) (.pair (.slice (.pair (.int .i64) (.pair .bool .unit))) .unit)) .unit))]
def t105 (x0:(List (Int×(Int×(Bool×Unit))))):Tr (Tys.data rs105) :=
  Tr.test ((decide ((0:Int) ≤ (↑(List.length x0):Int)) && decide ((↑(List.length x0):Int) ≤ (↑(List.length x0):Int)) && decide ((16:Int) * (↑(List.length x0):Int) ≤ (281474976710656:Int)) && decide ((↑(List.length x0):Int) ≤ (281474976710656:Int)):Bool))
    (Tr.test (Nat.beq (Int.toNat (↑(List.length x0):Int)) (List.length (List.replicate (Int.toNat (↑(List.length x0):Int)) ((0:Int),false,()))))
      (Tr.fin (((x0,(((0:Int),((List.replicate (Int.toNat (↑(List.length x0):Int)) ((0:Int),false,()):List (Int×Bool×PUnit)),())),())),())))
      (Tr.stop))
    (Tr.stop)
def f105 (d:Tys.data as105):Option (Tys.data rs105):=(t105 d.1).val
def g105 (d:Tys.data as105):Tys.data rs105:=(f105 d).getD (Tys.dflt rs105)
def p105:PureC:=pcOf as105 rs105 f105 g105
theorem wk105 (x0:(List (Int×(Int×(Bool×Unit))))):Walks (runPure (kf28 Go.Proofs.Try.prog).orc Go.Proofs.Try.prog 400 105 as105 rs105 (x0,())) (t105 x0) [(bl 2 3,[2,4])] :=
  ⟨by kernel_rfl,trivial⟩
theorem ok105_t (x0:(List (Int×(Int×(Bool×Unit))))):TrOk (PureRuns Go.Proofs.Try.prog (kf28 Go.Proofs.Try.prog).orc 105 as105 rs105 (x0,())) (t105 x0) :=
  Walks.ok (fun _ _ _=>PureRuns.of) (wk105 x0) (by kernel_rfl)
theorem ok105:PureOk Go.Proofs.Try.prog 105 p105:=pureOk_of kf28_ok.base (T:=fun (d:Tys.data as105)=>t105 d.1) (by kernel_rfl) (fun (d:Tys.data as105)=>ok105_t d.1)
def kf105 (P:Go.Program):Known:=(kf28 P).func 105 p105
theorem kf105_ok:KnownOk Go.Proofs.Try.prog (kf105 Go.Proofs.Try.prog):=kf28_ok.func ok105
abbrev as29:List Ty:=[(.slice (.pair (.int .i64) (.pair (.int .i64) (.pair .bool .unit)))),(.int .i64)]
abbrev rs29:List Ty:=[(.int .i64),(.int .i64)]
def t29 (x0:(List (Int×(Int×(Bool×Unit))))) (x1:Int):Tr (Tys.data rs29) :=
  Tr.test (Option.isSome (f21 (x0,())))
    (Tr.test (Option.isSome (f91 (x1,())))
      (let r0:=g21 (x0,());
      let r1:=g91 (x1,());
      Tr.test (Option.isSome (f73 (([r0.2.1,r1.1]:List Int),())))
        (let r2:=g73 (([r0.2.1,r1.1]:List Int),());
        Tr.test ((!eqF r2.1 0:Bool))
          (Tr.fin (((0:Int),(r2.1,()))))
          (Tr.test (Option.isSome (f105 (x0,())))
            (let r3:=g105 (x0,());
            Tr.test (Option.isSome (f100 ((r3.1.1,((r3.1.2.1.1,(r3.1.2.1.2.1,())),())),(x1,()))))
              (let r4:=g100 ((r3.1.1,((r3.1.2.1.1,(r3.1.2.1.2.1,())),())),(x1,()));
              Tr.test (Option.isSome (f96 ((r4.1.1,((r4.1.2.1.1,(r4.1.2.1.2.1,())),())),())))
                (let r5:=g96 ((r4.1.1,((r4.1.2.1.1,(r4.1.2.1.2.1,())),())),());
                Tr.fin ((r5.1,((0:Int),()))))
                (Tr.stop))
              (Tr.stop))
            (Tr.stop)))
        (Tr.stop))
      (Tr.stop))
    (Tr.stop)
def f29 (d:Tys.data as29):Option (Tys.data rs29):=(t29 d.1 d.2.1).val
def g29 (d:Tys.data as29):Tys.data rs29:=(f29 d).getD (Tys.dflt rs29)
def p29:PureC:=pcOf as29 rs29 f29 g29
theorem wk29 (x0:(List (Int×(Int×(Bool×Unit))))) (x1:Int):Walks (runPure (kf105 Go.Proofs.Try.prog).orc Go.Proofs.Try.prog 400 29 as29 rs29 (x0,x1,())) (t29 x0 x1) [(bl 4 15,[2,4,6,8]),(bl 7 119,[2,4,6,8,10,12,14])] :=
  ⟨by kernel_rfl,by kernel_rfl,trivial⟩
theorem ok29_t (x0:(List (Int×(Int×(Bool×Unit))))) (x1:Int):TrOk (PureRuns Go.Proofs.Try.prog (kf105 Go.Proofs.Try.prog).orc 29 as29 rs29 (x0,x1,())) (t29 x0 x1) :=
  Walks.ok (fun _ _ _=>PureRuns.of) (wk29 x0 x1) (by kernel_rfl)
theorem ok29:PureOk Go.Proofs.Try.prog 29 p29:=pureOk_of kf105_ok.base (T:=fun (d:Tys.data as29)=>t29 d.1 d.2.1) (by kernel_rfl) (fun (d:Tys.data as29)=>ok29_t d.1 d.2.1)
def kf29 (P:Go.Program):Known:=(kf105 P).func 29 p29
theorem kf29_ok:KnownOk Go.Proofs.Try.prog (kf29 Go.Proofs.Try.prog):=kf105_ok.func ok29
abbrev as40:List Ty:=[(.int .i64),(.int .i64),(.int .i64)]
abbrev rs40:List Ty:=[.bool]
def t40 (x0:Int) (x1:Int) (x2:Int):Tr (Tys.data rs40) :=
  Tr.test ((leF x1 x0:Bool))
    (Tr.fin ((leF x0 x2,())))
    (Tr.fin ((false,())))
def f40 (d:Tys.data as40):Option (Tys.data rs40):=(t40 d.1 d.2.1 d.2.2.1).val
def g40 (d:Tys.data as40):Tys.data rs40:=(f40 d).getD (Tys.dflt rs40)
def p40:PureC:=pcOf as40 rs40 f40 g40
theorem wk40 (x0:Int) (x1:Int) (x2:Int):Walks (runPure (kf29 Go.Proofs.Try.prog).orc Go.Proofs.Try.prog 400 40 as40 rs40 (x0,x1,x2,())) (t40 x0 x1 x2) [(bl 1 1,[2,2,2,2]),(bl 1 0,[2,2,2,2])] :=
  ⟨by kernel_rfl,by kernel_rfl,trivial⟩
theorem ok40_t (x0:Int) (x1:Int) (x2:Int):TrOk (PureRuns Go.Proofs.Try.prog (kf29 Go.Proofs.Try.prog).orc 40 as40 rs40 (x0,x1,x2,())) (t40 x0 x1 x2) :=
  Walks.ok (fun _ _ _=>PureRuns.of) (wk40 x0 x1 x2) (by kernel_rfl)
theorem ok40:PureOk Go.Proofs.Try.prog 40 p40:=pureOk_of kf29_ok.base (T:=fun (d:Tys.data as40)=>t40 d.1 d.2.1 d.2.2.1) (by kernel_rfl) (fun (d:Tys.data as40)=>ok40_t d.1 d.2.1 d.2.2.1)
def kf40 (P:Go.Program):Known:=(kf29 P).func 40 p40
theorem kf40_ok:KnownOk Go.Proofs.Try.prog (kf40 Go.Proofs.Try.prog):=kf29_ok.func ok40
abbrev sh30_0:Sh:={ n:=34,slots:=[0,4],pats:=[.ty (.slice (.pair (.int .i64) (.pair (.int .i64) (.pair .bool .unit)))),.ty (.int .i64)],boxes:=[] }
abbrev shb30_0:Sh:={ n:=34,slots:=[],pats:=[],boxes:=[] }
abbrev shr30_0:Sh:={ n:=34,slots:=[2,3],pats:=[.ty (.int .i64),.ty (.int .i64)],boxes:=[] }
def t30_0 (x0:(List (Int×(Int×(Bool×Unit))))) (x1:Int):Tr (Out sh30_0.data shb30_0.data shr30_0.data) :=
  Tr.test ((!leF (↑(List.length x0):Int) x1:Bool))
    (Tr.test (decide ((0:Int) ≤ x1) && decide (x1 < (↑(List.length x0):Int)))
      (Tr.test (Option.isSome (f40 (((List.getD x0 (Int.toNat x1) ((0:Int),(0:Int),false,())).1:Int),((1:Int),((1000:Int),())))))
        (let r0:=g40 (((List.getD x0 (Int.toNat x1) ((0:Int),(0:Int),false,())).1:Int),((1:Int),((1000:Int),())));
        Tr.test ((!r0.1:Bool))
          (Tr.fin (.ret ((x1,((2:Int),())),())))
          (Tr.test (Option.isSome (f40 (((List.getD x0 (Int.toNat x1) ((0:Int),(0:Int),false,())).2.1:Int),((1:Int),((1000:Int),())))))
            (let r1:=g40 (((List.getD x0 (Int.toNat x1) ((0:Int),(0:Int),false,())).2.1:Int),((1:Int),((1000:Int),())));
            Tr.test ((!r1.1:Bool))
              (Tr.fin (.ret ((x1,((2:Int),())),())))
              (Tr.fin (.again ((x0,((wrap64 (x1 + (1:Int)):Int),())),()))))
            (Tr.stop)))
        (Tr.stop))
      (Tr.stop))
    (Tr.fin (.brk ((),())))
def s30_0 (d:sh30_0.data):Option (Out sh30_0.data shb30_0.data shr30_0.data):=(t30_0 d.1.1 d.1.2.1).val
def l30_0 (d:sh30_0.data):Option (shb30_0.data ⊕ shr30_0.data):=itr s30_0 rounds d
def b30_0 (d:sh30_0.data):shb30_0.data:=outB shb30_0.dflt (l30_0 d)
def r30_0 (d:sh30_0.data):shr30_0.data:=outR shr30_0.dflt (l30_0 d)
def lc30_0:LoopC:=lcOf sh30_0 shb30_0 shr30_0 l30_0 b30_0 r30_0
theorem wk30_0 (x0:(List (Int×(Int×(Bool×Unit))))) (x1:Int):Walks (runBody (kf40 Go.Proofs.Try.prog).orc Go.Proofs.Try.prog 400 30 0 sh30_0 shb30_0 shr30_0 ((x0,x1,()),())) (t30_0 x0 x1) [(bl 4 15,[1,2,2,2,2,2,2,2,2,4,6,8]),(bl 6 55,[2,6,6,4,6,6,6,10,6,6,6,8,10,12]),(bl 6 23,[2,6,6,4,6,6,6,10,6,6,6,8,10,12]),(bl 1 0,[2])] :=
  ⟨by kernel_rfl,by kernel_rfl,by kernel_rfl,by kernel_rfl,trivial⟩
theorem ok30_0_t (x0:(List (Int×(Int×(Bool×Unit))))) (x1:Int):TrOk (BodyRuns Go.Proofs.Try.prog (kf40 Go.Proofs.Try.prog).orc 30 0 sh30_0 shb30_0 shr30_0 ((x0,x1,()),())) (t30_0 x0 x1) :=
  Walks.ok (fun _ _ _=>BodyRuns.of) (wk30_0 x0 x1) (by kernel_rfl)
theorem ok30_0:LoopOk Go.Proofs.Try.prog 30 0 lc30_0:=loopOk_of (sh:=sh30_0) (shB:=shb30_0) (shR:=shr30_0) kf40_ok.base (T:=fun (d:sh30_0.data)=>t30_0 d.1.1 d.1.2.1) (by kernel_rfl) rfl (fun (d:sh30_0.data)=>ok30_0_t d.1.1 d.1.2.1) (fun _=>rfl)
def kl30_0 (P:Go.Program):Known:=(kf40 P).loop 30 0 lc30_0
theorem kl30_0_ok:KnownOk Go.Proofs.Try.prog (kl30_0 Go.Proofs.Try.prog):=kf40_ok.loop ok30_0
abbrev as30:List Ty:=[(.slice (.pair (.int .i64) (.pair (.int .i64) (.pair .bool .unit))))]
abbrev rs30:List Ty:=[(.int .i64),(.int .i64)]
def t30 (x0:(List (Int×(Int×(Bool×Unit))))):Tr (Tys.data rs30) :=
  Tr.test ((eqF (↑(List.length x0):Int) (0:Int):Bool))
    (Tr.fin (((0:Int),((10:Int),()))))
    (Tr.test (!leF (↑(List.length x0):Int) (4:Int))
      (Tr.fin (((0:Int),((8:Int),()))))
      (Tr.test (Option.isSome (l30_0 ((x0,((0:Int),())),())))
        (Tr.test (isRet (l30_0 ((x0,((0:Int),())),())))
          (let r0:=r30_0 ((x0,((0:Int),())),());
          Tr.fin ((r0.1.1,(r0.1.2.1,()))))
          (Tr.fin (((0:Int),((0:Int),())))))
        (Tr.stop)))
def f30 (d:Tys.data as30):Option (Tys.data rs30):=(t30 d.1).val
def g30 (d:Tys.data as30):Tys.data rs30:=(f30 d).getD (Tys.dflt rs30)
def p30:PureC:=pcOf as30 rs30 f30 g30
theorem wk30 (x0:(List (Int×(Int×(Bool×Unit))))):Walks (runPure (kl30_0 Go.Proofs.Try.prog).orc Go.Proofs.Try.prog 400 30 as30 rs30 (x0,())) (t30 x0) [(bl 1 1,[2]),(bl 2 2,[2,4]),(bl 4 12,[2,4,6,8]),(bl 4 4,[2,4,6,8])] :=
  ⟨by kernel_rfl,by kernel_rfl,by kernel_rfl,by kernel_rfl,trivial⟩
theorem ok30_t (x0:(List (Int×(Int×(Bool×Unit))))):TrOk (PureRuns Go.Proofs.Try.prog (kl30_0 Go.Proofs.Try.prog).orc 30 as30 rs30 (x0,())) (t30 x0) :=
  Walks.ok (fun _ _ _=>PureRuns.of) (wk30 x0) (by kernel_rfl)
theorem ok30:PureOk Go.Proofs.Try.prog 30 p30:=pureOk_of kl30_0_ok.base (T:=fun (d:Tys.data as30)=>t30 d.1) (by kernel_rfl) (fun (d:Tys.data as30)=>ok30_t d.1)
def kf30 (P:Go.Program):Known:=(kl30_0 P).func 30 p30
theorem kf30_ok:KnownOk Go.Proofs.Try.prog (kf30 Go.Proofs.Try.prog):=kl30_0_ok.func ok30
abbrev sh31_0:Sh:={ n:=38,slots:=[2,3,5],pats:=[.ptr 0 2 0,.ptr 1 2 0,.ty (.int .i64)],boxes:=[.row [.ty (.int .i64),.ty (.slice (.pair (.int .i64) (.pair .bool .unit)))],.row [.ty (.int .i64),.ty (.slice (.pair (.int .i64) (.pair .bool .unit)))]] }
abbrev shb31_0:Sh:={ n:=38,slots:=[],pats:=[],boxes:=[.row [.ty (.int .i64),.ty (.slice (.pair (.int .i64) (.pair .bool .unit)))],.row [.ty (.int .i64),.ty (.slice (.pair (.int .i64) (.pair .bool .unit)))]] }
abbrev shr31_0:Sh:={ n:=38,slots:=[4],pats:=[.ty .bool],boxes:=[.row [.ty (.int .i64),.ty (.slice (.pair (.int .i64) (.pair .bool .unit)))],.row [.ty (.int .i64),.ty (.slice (.pair (.int .i64) (.pair .bool .unit)))]] }
def t31_0 (x2:Int) (b0_0:Int) (b0_1:(List (Int×(Bool×Unit)))) (b1_0:Int) (b1_1:(List (Int×(Bool×Unit)))):Tr (Out sh31_0.data shb31_0.data shr31_0.data) :=
  Tr.test ((!leF (↑(List.length b0_1):Int) x2:Bool))
    (Tr.test (decide ((0:Int) ≤ x2) && decide (x2 < (↑(List.length b0_1):Int)))
      (Tr.test ((decide ((0:Int) ≤ x2) && decide (x2 < (↑(List.length b1_1):Int)):Bool))
        (Tr.test ((!((List.getD b0_1 (Int.toNat x2) ((0:Int),false,())).1 == (List.getD b1_1 (Int.toNat x2) ((0:Int),false,())).1 && ((List.getD b0_1 (Int.toNat x2) ((0:Int),false,())).2.1 == (List.getD b1_1 (Int.toNat x2) ((0:Int),false,())).2.1 && true)):Bool))
          (Tr.fin (.ret (((false:Bool),()),((b0_0,(b0_1,())),((b1_0,(b1_1,())),())))))
          (Tr.fin (.again (((wrap64 (x2 + (1:Int)):Int),()),((b0_0,(b0_1,())),((b1_0,(b1_1,())),()))))))
        (Tr.stop))
      (Tr.stop))
    (Tr.fin (.brk ((),((b0_0,(b0_1,())),((b1_0,(b1_1,())),())))))
def s31_0 (d:sh31_0.data):Option (Out sh31_0.data shb31_0.data shr31_0.data):=(t31_0 d.1.1 d.2.1.1 d.2.1.2.1 d.2.2.1.1 d.2.2.1.2.1).val
def l31_0 (d:sh31_0.data):Option (shb31_0.data ⊕ shr31_0.data):=itr s31_0 rounds d
def b31_0 (d:sh31_0.data):shb31_0.data:=outB shb31_0.dflt (l31_0 d)
def r31_0 (d:sh31_0.data):shr31_0.data:=outR shr31_0.dflt (l31_0 d)
def lc31_0:LoopC:=lcOf sh31_0 shb31_0 shr31_0 l31_0 b31_0 r31_0
theorem wk31_0 (x2:Int) (b0_0:Int) (b0_1:(List (Int×(Bool×Unit)))) (b1_0:Int) (b1_1:(List (Int×(Bool×Unit)))):Walks (runBody (kf30 Go.Proofs.Try.prog).orc Go.Proofs.Try.prog 400 31 0 sh31_0 shb31_0 shr31_0 ((x2,()),(b0_0,b0_1,()),(b1_0,b1_1,()),())) (t31_0 x2 b0_0 b0_1 b1_0 b1_1) [(bl 4 15,[2,4,6,8]),(bl 4 7,[2,4,6,8]),(bl 1 0,[2])] :=
  ⟨by kernel_rfl,by kernel_rfl,by kernel_rfl,trivial⟩
theorem ok31_0_t (x2:Int) (b0_0:Int) (b0_1:(List (Int×(Bool×Unit)))) (b1_0:Int) (b1_1:(List (Int×(Bool×Unit)))):TrOk (BodyRuns Go.Proofs.Try.prog (kf30 Go.Proofs.Try.prog).orc 31 0 sh31_0 shb31_0 shr31_0 ((x2,()),(b0_0,b0_1,()),(b1_0,b1_1,()),())) (t31_0 x2 b0_0 b0_1 b1_0 b1_1) :=
  Walks.ok (fun _ _ _=>BodyRuns.of) (wk31_0 x2 b0_0 b0_1 b1_0 b1_1) (by kernel_rfl)
theorem ok31_0:LoopOk Go.Proofs.Try.prog 31 0 lc31_0:=loopOk_of (sh:=sh31_0) (shB:=shb31_0) (shR:=shr31_0) kf30_ok.base (T:=fun (d:sh31_0.data)=>t31_0 d.1.1 d.2.1.1 d.2.1.2.1 d.2.2.1.1 d.2.2.1.2.1) (by kernel_rfl) rfl (fun (d:sh31_0.data)=>ok31_0_t d.1.1 d.2.1.1 d.2.1.2.1 d.2.2.1.1 d.2.2.1.2.1) (fun _=>rfl)
def kl31_0 (P:Go.Program):Known:=(kf30 P).loop 31 0 lc31_0
theorem kl31_0_ok:KnownOk Go.Proofs.Try.prog (kl31_0 Go.Proofs.Try.prog):=kf30_ok.loop ok31_0
abbrev as31:List Ty:=[(.pair (.int .i64) (.pair (.slice (.pair (.int .i64) (.pair .bool .unit))) .unit)),(.pair (.int .i64) (.pair (.slice (.pair (.int .i64) (.pair .bool .unit))) .unit))]
abbrev rs31:List Ty:=[.bool]
def t31 (x0:Int) (x0':(List (Int×(Bool×Unit)))) (x1:Int) (x1':(List (Int×(Bool×Unit)))):Tr (Tys.data rs31) :=
  Tr.test ((!eqF x0 x1:Bool))
    (Tr.fin ((false,())))
    (Tr.test (!eqF (↑(List.length x0'):Int) (↑(List.length x1'):Int))
      (Tr.fin (((false:Bool),())))
      (Tr.test (Option.isSome (l31_0 (((0:Int),()),((x0,(x0',())),((x1,(x1',())),())))))
        (Tr.test (isRet (l31_0 (((0:Int),()),((x0,(x0',())),((x1,(x1',())),())))))
          (let r0:=r31_0 (((0:Int),()),((x0,(x0',())),((x1,(x1',())),())));
          Tr.fin ((r0.1.1,())))
          (Tr.fin (((true:Bool),()))))
        (Tr.stop)))
def f31 (d:Tys.data as31):Option (Tys.data rs31):=(t31 d.1.1 d.1.2.1 d.2.1.1 d.2.1.2.1).val
def g31 (d:Tys.data as31):Tys.data rs31:=(f31 d).getD (Tys.dflt rs31)
def p31:PureC:=pcOf as31 rs31 f31 g31
theorem wk31 (x0:Int) (x0':(List (Int×(Bool×Unit)))) (x1:Int) (x1':(List (Int×(Bool×Unit)))):Walks (runPure (kl31_0 Go.Proofs.Try.prog).orc Go.Proofs.Try.prog 400 31 as31 rs31 ((x0,x0',()),(x1,x1',()),())) (t31 x0 x0' x1 x1') [(bl 1 1,[1,2,2,2,2,2,2,2,2]),(bl 2 2,[2,4,4,4,4,4,4,4,4]),(bl 4 12,[2,4,6,8,8,8,8,8,8,8,8]),(bl 4 4,[2,4,6,8,8,8,8,8,8,8,8])] :=
  ⟨by kernel_rfl,by kernel_rfl,by kernel_rfl,by kernel_rfl,trivial⟩
theorem ok31_t (x0:Int) (x0':(List (Int×(Bool×Unit)))) (x1:Int) (x1':(List (Int×(Bool×Unit)))):TrOk (PureRuns Go.Proofs.Try.prog (kl31_0 Go.Proofs.Try.prog).orc 31 as31 rs31 ((x0,x0',()),(x1,x1',()),())) (t31 x0 x0' x1 x1') :=
  Walks.ok (fun _ _ _=>PureRuns.of) (wk31 x0 x0' x1 x1') (by kernel_rfl)
theorem ok31:PureOk Go.Proofs.Try.prog 31 p31:=pureOk_of kl31_0_ok.base (T:=fun (d:Tys.data as31)=>t31 d.1.1 d.1.2.1 d.2.1.1 d.2.1.2.1) (by kernel_rfl) (fun (d:Tys.data as31)=>ok31_t d.1.1 d.1.2.1 d.2.1.1 d.2.1.2.1)
def kf31 (P:Go.Program):Known:=(kl31_0 P).func 31 p31
theorem kf31_ok:KnownOk Go.Proofs.Try.prog (kf31 Go.Proofs.Try.prog):=kl31_0_ok.func ok31
abbrev as32:List Ty:=[(.int .i64)]
abbrev rs32:List Ty:=[(.int .i64)]
def t32 (x0:Int):Tr (Tys.data rs32) :=
  Tr.test (Option.isSome (f40 (x0,((-10000:Int),((10000:Int),())))))
    (let r0:=g40 (x0,((-10000:Int),((10000:Int),())));
    Tr.test ((!r0.1:Bool))
      (Tr.fin (((2:Int),())))
      (Tr.fin (((0:Int),()))))
    (Tr.stop)
def f32 (d:Tys.data as32):Option (Tys.data rs32):=(t32 d.1).val
def g32 (d:Tys.data as32):Tys.data rs32:=(f32 d).getD (Tys.dflt rs32)
def p32:PureC:=pcOf as32 rs32 f32 g32
theorem wk32 (x0:Int):Walks (runPure (kf31 Go.Proofs.Try.prog).orc Go.Proofs.Try.prog 400 32 as32 rs32 (x0,())) (t32 x0) [(bl 2 3,[2,4]),(bl 2 1,[2,4])] :=
  ⟨by kernel_rfl,by kernel_rfl,trivial⟩
theorem ok32_t (x0:Int):TrOk (PureRuns Go.Proofs.Try.prog (kf31 Go.Proofs.Try.prog).orc 32 as32 rs32 (x0,())) (t32 x0) :=
  Walks.ok (fun _ _ _=>PureRuns.of) (wk32 x0) (by kernel_rfl)
theorem ok32:PureOk Go.Proofs.Try.prog 32 p32:=pureOk_of kf31_ok.base (T:=fun (d:Tys.data as32)=>t32 d.1) (by kernel_rfl) (fun (d:Tys.data as32)=>ok32_t d.1)
def kf32 (P:Go.Program):Known:=(kf31 P).func 32 p32
theorem kf32_ok:KnownOk Go.Proofs.Try.prog (kf32 Go.Proofs.Try.prog):=kf31_ok.func ok32
abbrev as35:List Ty:=[(.slice (.pair (.int .i64) (.pair (.int .i64) (.pair .bool .unit))))]
abbrev rs35:List Ty:=[(.pair (.int .i64) (.pair (.slice (.pair (.int .i64) (.pair .bool .unit))) .unit))]
def t35 (x0:(List (Int×(Int×(Bool×Unit))))):Tr (Tys.data rs35) :=
  Tr.test ((decide ((0:Int) ≤ (↑(List.length x0):Int)) && decide ((↑(List.length x0):Int) ≤ (↑(List.length x0):Int)) && decide ((16:Int) * (↑(List.length x0):Int) ≤ (281474976710656:Int)) && decide ((↑(List.length x0):Int) ≤ (281474976710656:Int)):Bool))
    (Tr.test (Nat.beq (Int.toNat (↑(List.length x0):Int)) (List.length (List.replicate (Int.toNat (↑(List.length x0):Int)) ((0:Int),false,()))))
      (Tr.fin ((((0:Int),((List.replicate (Int.toNat (↑(List.length x0):Int)) ((0:Int),false,()):List (Int×Bool×PUnit)),())),())))
      (Tr.stop))
    (Tr.stop)
def f35 (d:Tys.data as35):Option (Tys.data rs35):=(t35 d.1).val
def g35 (d:Tys.data as35):Tys.data rs35:=(f35 d).getD (Tys.dflt rs35)
def p35:PureC:=pcOf as35 rs35 f35 g35
theorem wk35 (x0:(List (Int×(Int×(Bool×Unit))))):Walks (runPure (kf32 Go.Proofs.Try.prog).orc Go.Proofs.Try.prog 400 35 as35 rs35 (x0,())) (t35 x0) [(bl 2 3,[2,4])] :=
  ⟨by kernel_rfl,trivial⟩
theorem ok35_t (x0:(List (Int×(Int×(Bool×Unit))))):TrOk (PureRuns Go.Proofs.Try.prog (kf32 Go.Proofs.Try.prog).orc 35 as35 rs35 (x0,())) (t35 x0) :=
  Walks.ok (fun _ _ _=>PureRuns.of) (wk35 x0) (by kernel_rfl)
theorem ok35:PureOk Go.Proofs.Try.prog 35 p35:=pureOk_of kf32_ok.base (T:=fun (d:Tys.data as35)=>t35 d.1) (by kernel_rfl) (fun (d:Tys.data as35)=>ok35_t d.1)
def kf35 (P:Go.Program):Known:=(kf32 P).func 35 p35
theorem kf35_ok:KnownOk Go.Proofs.Try.prog (kf35 Go.Proofs.Try.prog):=kf32_ok.func ok35
abbrev as86:List Ty:=[(.int .i64)]
abbrev rs86:List Ty:=[(.int .i64)]
def t86 (x0:Int):Tr (Tys.data rs86) :=
  Tr.fin (((if x0 < Go.IntKind.wrap Go.IntKind.i64 ((0:Int) - x0) then Go.IntKind.wrap Go.IntKind.i64 ((0:Int) - x0) else x0:Int),()))
def f86 (d:Tys.data as86):Option (Tys.data rs86):=(t86 d.1).val
def g86 (d:Tys.data as86):Tys.data rs86:=(f86 d).getD (Tys.dflt rs86)
def p86:PureC:=pcOf as86 rs86 f86 g86
theorem wk86 (x0:Int):Walks (runPure (kf35 Go.Proofs.Try.prog).orc Go.Proofs.Try.prog 400 86 as86 rs86 (x0,())) (t86 x0) [(bl 0 0,[])] :=
  ⟨by kernel_rfl,trivial⟩
theorem ok86_t (x0:Int):TrOk (PureRuns Go.Proofs.Try.prog (kf35 Go.Proofs.Try.prog).orc 86 as86 rs86 (x0,())) (t86 x0) :=
  Walks.ok (fun _ _ _=>PureRuns.of) (wk86 x0) (by kernel_rfl)
theorem ok86:PureOk Go.Proofs.Try.prog 86 p86:=pureOk_of kf35_ok.base (T:=fun (d:Tys.data as86)=>t86 d.1) (by kernel_rfl) (fun (d:Tys.data as86)=>ok86_t d.1)
def kf86 (P:Go.Program):Known:=(kf35 P).func 86 p86
theorem kf86_ok:KnownOk Go.Proofs.Try.prog (kf86 Go.Proofs.Try.prog):=kf35_ok.func ok86
abbrev sh34_0:Sh:={ n:=72,slots:=[0,2,4,6,7,8],pats:=[.ty (.slice (.pair (.int .i64) (.pair (.int .i64) (.pair .bool .unit)))),.ty (.int .i64),.ptr 0 2 0,.ptr 1 2 0,.ptr 2 2 0,.ty (.int .i64)],boxes:=[.row [.ty (.int .i64),.ty (.slice (.pair (.int .i64) (.pair .bool .unit)))],.row [.ty (.int .i64),.nil],.row [.ty (.int .i64),.acc (.pair (.int .i64) (.pair .bool .unit))]] }
abbrev shb34_0:Sh:={ n:=72,slots:=[6,7],pats:=[.ptr 1 2 0,.ptr 2 2 0],boxes:=[.row [.ty (.int .i64),.ty (.slice (.pair (.int .i64) (.pair .bool .unit)))],.row [.ty (.int .i64),.nil],.row [.ty (.int .i64),.acc (.pair (.int .i64) (.pair .bool .unit))]] }
abbrev shr34_0:Sh:={ n:=72,slots:=[],pats:=[],boxes:=[.row [.ty (.int .i64),.ty (.slice (.pair (.int .i64) (.pair .bool .unit)))],.row [.ty (.int .i64),.nil],.row [.ty (.int .i64),.acc (.pair (.int .i64) (.pair .bool .unit))]] }
def t34_0 (x0:(List (Int×(Int×(Bool×Unit))))) (x1:Int) (x5:Int) (b0_0:Int) (b0_1:(List (Int×(Bool×Unit)))) (b1_0:Int) (b2_0:Int) (b2_1:(List (Int×(Bool×Unit)))):Tr (Out sh34_0.data shb34_0.data shr34_0.data) :=
  Tr.test ((!leF (↑(List.length x0):Int) x5:Bool))
    (Tr.test (decide ((0:Int) ≤ x5) && decide (x5 < (↑(List.length b0_1):Int)))
      (Tr.test ((!(List.getD b0_1 (Int.toNat x5) ((0:Int),false,())).2.1:Bool))
        (Tr.test (Option.isSome (f86 ((wrap64 (x1 - (List.getD b0_1 (Int.toNat x5) ((0:Int),false,())).1):Int),())))
          (Tr.test ((decide ((0:Int) ≤ x5) && decide (x5 < (↑(List.length x0):Int)):Bool))
            (let r0:=g86 ((wrap64 (x1 - (List.getD b0_1 (Int.toNat x5) ((0:Int),false,())).1):Int),());
            Tr.test ((!leF r0.1 (List.getD x0 (Int.toNat x5) ((0:Int),(0:Int),false,())).2.1:Bool))
              (Tr.test (((List.getD x0 (Int.toNat x5) ((0:Int),(0:Int),false,())).2.2.1:Bool))
                (Tr.test ((Nat.ble (((2:Nat) * (List.length b2_1 + (1:Nat)) + (192:Nat)) * (16:Nat)) (281474976710656:Nat) && Nat.ble (List.length b2_1 + (1:Nat)) (281474976710656:Nat):Bool))
                  (Tr.fin (.again ((x0,(x1,((wrap64 (x5 + (1:Int)):Int),()))),((b0_0,(b0_1,())),((b1_0,()),((b2_0,((b2_1++[((0:Int),true,())]:List (Int×Bool×PUnit)),())),()))))))
                  (Tr.stop))
                (Tr.test ((!leF (wrap64 (x1 - (List.getD b0_1 (Int.toNat x5) ((0:Int),false,())).1)) (0:Int):Bool))
                  (Tr.test ((Nat.ble (((2:Nat) * (List.length b2_1 + (1:Nat)) + (192:Nat)) * (16:Nat)) (281474976710656:Nat) && Nat.ble (List.length b2_1 + (1:Nat)) (281474976710656:Nat):Bool))
                    (Tr.fin (.again ((x0,(x1,((wrap64 (x5 + (1:Int)):Int),()))),((b0_0,(b0_1,())),((b1_0,()),((b2_0,((b2_1++[(wrap64 (x1 - (List.getD x0 (Int.toNat x5) ((0:Int),(0:Int),false,())).2.1),(List.getD b0_1 (Int.toNat x5) ((0:Int),false,())).2.1,())]:List (Int×Bool×PUnit)),())),()))))))
                    (Tr.stop))
                  (Tr.test ((Nat.ble (((2:Nat) * (List.length b2_1 + (1:Nat)) + (192:Nat)) * (16:Nat)) (281474976710656:Nat) && Nat.ble (List.length b2_1 + (1:Nat)) (281474976710656:Nat):Bool))
                    (Tr.fin (.again ((x0,(x1,((wrap64 (x5 + (1:Int)):Int),()))),((b0_0,(b0_1,())),((b1_0,()),((b2_0,((b2_1++[(wrap64 (x1 + (List.getD x0 (Int.toNat x5) ((0:Int),(0:Int),false,())).2.1),(List.getD b0_1 (Int.toNat x5) ((0:Int),false,())).2.1,())]:List (Int×Bool×PUnit)),())),()))))))
                    (Tr.stop))))
              (Tr.test ((Nat.ble (((2:Nat) * (List.length b2_1 + (1:Nat)) + (192:Nat)) * (16:Nat)) (281474976710656:Nat) && Nat.ble (List.length b2_1 + (1:Nat)) (281474976710656:Nat):Bool))
                (Tr.fin (.again ((x0,(x1,((wrap64 (x5 + (1:Int)):Int),()))),((b0_0,(b0_1,())),((b1_0,()),((b2_0,((b2_1++[((List.getD b0_1 (Int.toNat x5) ((0:Int),false,())).1,(List.getD b0_1 (Int.toNat x5) ((0:Int),false,())).2.1,())]:List (Int×Bool×PUnit)),())),()))))))
                (Tr.stop)))
            (Tr.stop))
          (Tr.stop))
        (Tr.test ((Nat.ble (((2:Nat) * (List.length b2_1 + (1:Nat)) + (192:Nat)) * (16:Nat)) (281474976710656:Nat) && Nat.ble (List.length b2_1 + (1:Nat)) (281474976710656:Nat):Bool))
          (Tr.fin (.again ((x0,(x1,((wrap64 (x5 + (1:Int)):Int),()))),((b0_0,(b0_1,())),((b1_0,()),((b2_0,((b2_1++[((List.getD b0_1 (Int.toNat x5) ((0:Int),false,())).1,(List.getD b0_1 (Int.toNat x5) ((0:Int),false,())).2.1,())]:List (Int×Bool×PUnit)),())),()))))))
          (Tr.stop)))
      (Tr.stop))
    (Tr.fin (.brk ((),((b0_0,(b0_1,())),((b1_0,()),((b2_0,(b2_1,())),()))))))
def s34_0 (d:sh34_0.data):Option (Out sh34_0.data shb34_0.data shr34_0.data):=(t34_0 d.1.1 d.1.2.1 d.1.2.2.1 d.2.1.1 d.2.1.2.1 d.2.2.1.1 d.2.2.2.1.1 d.2.2.2.1.2.1).val
def l34_0 (d:sh34_0.data):Option (shb34_0.data ⊕ shr34_0.data):=itr s34_0 rounds d
def b34_0 (d:sh34_0.data):shb34_0.data:=outB shb34_0.dflt (l34_0 d)
def lc34_0:LoopC:=lcB sh34_0 shb34_0 shr34_0 l34_0 b34_0
theorem wk34_0 (x0:(List (Int×(Int×(Bool×Unit))))) (x1:Int) (x5:Int) (b0_0:Int) (b0_1:(List (Int×(Bool×Unit)))) (b1_0:Int) (b2_0:Int) (b2_1:(List (Int×(Bool×Unit)))):Walks (runBody (kf86 Go.Proofs.Try.prog).orc Go.Proofs.Try.prog 400 34 0 sh34_0 shb34_0 shr34_0 ((x0,x1,x5,()),(b0_0,b0_1,()),(b1_0,()),(b2_0,b2_1,()),())) (t34_0 x0 x1 x5 b0_0 b0_1 b1_0 b2_0 b2_1) [(bl 8 255,[2,4,8,6,12,12,12,12,8,12,12,12,10,12,12,14,16]),(bl 9 447,[2,10,4,6,10,8,14,14,14,14,10,14,14,14,12,14,14,16,18]),(bl 9 319,[2,10,4,6,10,8,14,14,14,14,10,14,14,14,12,14,14,16,18]),(bl 7 95,[2,4,10,10,10,10,6,10,10,10,8,10,10,12,14]),(bl 4 11,[2,0,4,4,4,4,4,4,4,4,4,6,8]),(bl 1 0,[2])] :=
  ⟨by kernel_rfl,by kernel_rfl,by kernel_rfl,by kernel_rfl,by kernel_rfl,by kernel_rfl,trivial⟩
theorem ok34_0_t (x0:(List (Int×(Int×(Bool×Unit))))) (x1:Int) (x5:Int) (b0_0:Int) (b0_1:(List (Int×(Bool×Unit)))) (b1_0:Int) (b2_0:Int) (b2_1:(List (Int×(Bool×Unit)))):TrOk (BodyRuns Go.Proofs.Try.prog (kf86 Go.Proofs.Try.prog).orc 34 0 sh34_0 shb34_0 shr34_0 ((x0,x1,x5,()),(b0_0,b0_1,()),(b1_0,()),(b2_0,b2_1,()),())) (t34_0 x0 x1 x5 b0_0 b0_1 b1_0 b2_0 b2_1) :=
  Walks.ok (fun _ _ _=>BodyRuns.of) (wk34_0 x0 x1 x5 b0_0 b0_1 b1_0 b2_0 b2_1) (by kernel_rfl)
theorem ok34_0:LoopOk Go.Proofs.Try.prog 34 0 lc34_0:=loopOk_ofB (sh:=sh34_0) (shB:=shb34_0) (shR:=shr34_0) kf86_ok.base (T:=fun (d:sh34_0.data)=>t34_0 d.1.1 d.1.2.1 d.1.2.2.1 d.2.1.1 d.2.1.2.1 d.2.2.1.1 d.2.2.2.1.1 d.2.2.2.1.2.1) (by kernel_rfl) rfl (fun (d:sh34_0.data)=>ok34_0_t d.1.1 d.1.2.1 d.1.2.2.1 d.2.1.1 d.2.1.2.1 d.2.2.1.1 d.2.2.2.1.1 d.2.2.2.1.2.1) (fun _=>rfl)
def kl34_0 (P:Go.Program):Known:=(kf86 P).loop 34 0 lc34_0
theorem kl34_0_ok:KnownOk Go.Proofs.Try.prog (kl34_0 Go.Proofs.Try.prog):=kf86_ok.loop ok34_0
abbrev as34:List Ty:=[(.slice (.pair (.int .i64) (.pair (.int .i64) (.pair .bool .unit)))),(.pair (.int .i64) (.pair (.slice (.pair (.int .i64) (.pair .bool .unit))) .unit)),(.int .i64)]
abbrev rs34:List Ty:=[(.pair (.int .i64) (.pair (.slice (.pair (.int .i64) (.pair .bool .unit))) .unit))]
def t34 (x0:(List (Int×(Int×(Bool×Unit))))) (x1:Int) (x1':(List (Int×(Bool×Unit)))) (x2:Int):Tr (Tys.data rs34) :=
  Tr.test (isBrk (l34_0 ((x0,(x2,((0:Int),()))),((x1,(x1',())),(((0:Int),()),((x2,(([]:List (Int×Bool×PUnit)),())),()))))))
    (let r0:=b34_0 ((x0,(x2,((0:Int),()))),((x1,(x1',())),(((0:Int),()),((x2,(([]:List (Int×Bool×PUnit)),())),()))));
    Tr.fin (((r0.2.2.2.1.1,(r0.2.2.2.1.2.1,())),())))
    (Tr.stop)
def f34 (d:Tys.data as34):Option (Tys.data rs34):=(t34 d.1 d.2.1.1 d.2.1.2.1 d.2.2.1).val
def g34 (d:Tys.data as34):Tys.data rs34:=(f34 d).getD (Tys.dflt rs34)
def p34:PureC:=pcOf as34 rs34 f34 g34
theorem wk34 (x0:(List (Int×(Int×(Bool×Unit))))) (x1:Int) (x1':(List (Int×(Bool×Unit)))) (x2:Int):Walks (runPure (kl34_0 Go.Proofs.Try.prog).orc Go.Proofs.Try.prog 400 34 as34 rs34 (x0,(x1,x1',()),x2,())) (t34 x0 x1 x1' x2) [(bl 1 1,[1,2])] :=
  ⟨by kernel_rfl,trivial⟩
theorem ok34_t (x0:(List (Int×(Int×(Bool×Unit))))) (x1:Int) (x1':(List (Int×(Bool×Unit)))) (x2:Int):TrOk (PureRuns Go.Proofs.Try.prog (kl34_0 Go.Proofs.Try.prog).orc 34 as34 rs34 (x0,(x1,x1',()),x2,())) (t34 x0 x1 x1' x2) :=
  Walks.ok (fun _ _ _=>PureRuns.of) (wk34 x0 x1 x1' x2) (by kernel_rfl)
theorem ok34:PureOk Go.Proofs.Try.prog 34 p34:=pureOk_of kl34_0_ok.base (T:=fun (d:Tys.data as34)=>t34 d.1 d.2.1.1 d.2.1.2.1 d.2.2.1) (by kernel_rfl) (fun (d:Tys.data as34)=>ok34_t d.1 d.2.1.1 d.2.1.2.1 d.2.2.1)
def kf34 (P:Go.Program):Known:=(kl34_0 P).func 34 p34
theorem kf34_ok:KnownOk Go.Proofs.Try.prog (kf34 Go.Proofs.Try.prog):=kl34_0_ok.func ok34
abbrev sh33_0:Sh:={ n:=38,slots:=[0,3,5,6],pats:=[.ty (.slice (.pair (.int .i64) (.pair (.int .i64) (.pair .bool .unit)))),.ptr 0 2 0,.ty (.int .i64),.ty (.int .i64)],boxes:=[.row [.ty (.int .i64),.ty (.slice (.pair (.int .i64) (.pair .bool .unit)))]] }
abbrev shb33_0:Sh:={ n:=38,slots:=[5],pats:=[.ty (.int .i64)],boxes:=[.row [.ty (.int .i64),.ty (.slice (.pair (.int .i64) (.pair .bool .unit)))]] }
abbrev shr33_0:Sh:={ n:=38,slots:=[],pats:=[],boxes:=[.row [.ty (.int .i64),.ty (.slice (.pair (.int .i64) (.pair .bool .unit)))]] }
def t33_0 (x0:(List (Int×(Int×(Bool×Unit))))) (x2:Int) (x3:Int) (b0_0:Int) (b0_1:(List (Int×(Bool×Unit)))):Tr (Out sh33_0.data shb33_0.data shr33_0.data) :=
  Tr.test ((!leF (↑(List.length x0):Int) x3:Bool))
    (Tr.test (decide ((0:Int) ≤ x3) && decide (x3 < (↑(List.length b0_1):Int)))
      (Tr.test ((!(List.getD b0_1 (Int.toNat x3) ((0:Int),false,())).2.1:Bool))
        (Tr.test ((decide ((0:Int) ≤ x3) && decide (x3 < (↑(List.length x0):Int)):Bool))
          (Tr.fin (.again ((x0,((wrap64 (x2 + wrap64 ((List.getD x0 (Int.toNat x3) ((0:Int),(0:Int),false,())).1 * wrap64 (b0_0 - (List.getD b0_1 (Int.toNat x3) ((0:Int),false,())).1))):Int),((wrap64 (x3 + (1:Int)):Int),()))),((b0_0,(b0_1,())),()))))
          (Tr.stop))
        (Tr.fin (.again ((x0,(x2,((wrap64 (x3 + (1:Int)):Int),()))),((b0_0,(b0_1,())),())))))
      (Tr.stop))
    (Tr.fin (.brk ((x2,()),((b0_0,(b0_1,())),()))))
def s33_0 (d:sh33_0.data):Option (Out sh33_0.data shb33_0.data shr33_0.data):=(t33_0 d.1.1 d.1.2.1 d.1.2.2.1 d.2.1.1 d.2.1.2.1).val
def l33_0 (d:sh33_0.data):Option (shb33_0.data ⊕ shr33_0.data):=itr s33_0 rounds d
def b33_0 (d:sh33_0.data):shb33_0.data:=outB shb33_0.dflt (l33_0 d)
def lc33_0:LoopC:=lcB sh33_0 shb33_0 shr33_0 l33_0 b33_0
theorem wk33_0 (x0:(List (Int×(Int×(Bool×Unit))))) (x2:Int) (x3:Int) (b0_0:Int) (b0_1:(List (Int×(Bool×Unit)))):Walks (runBody (kf34 Go.Proofs.Try.prog).orc Go.Proofs.Try.prog 400 33 0 sh33_0 shb33_0 shr33_0 ((x0,x2,x3,()),(b0_0,b0_1,()),())) (t33_0 x0 x2 x3 b0_0 b0_1) [(bl 4 15,[6,2,4,6,8]),(bl 3 3,[2,4,6]),(bl 1 0,[2])] :=
  ⟨by kernel_rfl,by kernel_rfl,by kernel_rfl,trivial⟩
theorem ok33_0_t (x0:(List (Int×(Int×(Bool×Unit))))) (x2:Int) (x3:Int) (b0_0:Int) (b0_1:(List (Int×(Bool×Unit)))):TrOk (BodyRuns Go.Proofs.Try.prog (kf34 Go.Proofs.Try.prog).orc 33 0 sh33_0 shb33_0 shr33_0 ((x0,x2,x3,()),(b0_0,b0_1,()),())) (t33_0 x0 x2 x3 b0_0 b0_1) :=
  Walks.ok (fun _ _ _=>BodyRuns.of) (wk33_0 x0 x2 x3 b0_0 b0_1) (by kernel_rfl)
theorem ok33_0:LoopOk Go.Proofs.Try.prog 33 0 lc33_0:=loopOk_ofB (sh:=sh33_0) (shB:=shb33_0) (shR:=shr33_0) kf34_ok.base (T:=fun (d:sh33_0.data)=>t33_0 d.1.1 d.1.2.1 d.1.2.2.1 d.2.1.1 d.2.1.2.1) (by kernel_rfl) rfl (fun (d:sh33_0.data)=>ok33_0_t d.1.1 d.1.2.1 d.1.2.2.1 d.2.1.1 d.2.1.2.1) (fun _=>rfl)
def kl33_0 (P:Go.Program):Known:=(kf34 P).loop 33 0 lc33_0
theorem kl33_0_ok:KnownOk Go.Proofs.Try.prog (kl33_0 Go.Proofs.Try.prog):=kf34_ok.loop ok33_0
abbrev as33:List Ty:=[(.slice (.pair (.int .i64) (.pair (.int .i64) (.pair .bool .unit)))),(.pair (.int .i64) (.pair (.slice (.pair (.int .i64) (.pair .bool .unit))) .unit))]
abbrev rs33:List Ty:=[(.int .i64)]
def t33 (x0:(List (Int×(Int×(Bool×Unit))))) (x1:Int) (x1':(List (Int×(Bool×Unit)))):Tr (Tys.data rs33) :=
  Tr.test (isBrk (l33_0 ((x0,((0:Int),((0:Int),()))),((x1,(x1',())),()))))
    (let r0:=b33_0 ((x0,((0:Int),((0:Int),()))),((x1,(x1',())),()));
    Tr.fin ((r0.1.1,())))
    (Tr.stop)
def f33 (d:Tys.data as33):Option (Tys.data rs33):=(t33 d.1 d.2.1.1 d.2.1.2.1).val
def g33 (d:Tys.data as33):Tys.data rs33:=(f33 d).getD (Tys.dflt rs33)
def p33:PureC:=pcOf as33 rs33 f33 g33
theorem wk33 (x0:(List (Int×(Int×(Bool×Unit))))) (x1:Int) (x1':(List (Int×(Bool×Unit)))):Walks (runPure (kl33_0 Go.Proofs.Try.prog).orc Go.Proofs.Try.prog 400 33 as33 rs33 (x0,(x1,x1',()),())) (t33 x0 x1 x1') [(bl 1 1,[1,2])] :=
  ⟨by kernel_rfl,trivial⟩
theorem ok33_t (x0:(List (Int×(Int×(Bool×Unit))))) (x1:Int) (x1':(List (Int×(Bool×Unit)))):TrOk (PureRuns Go.Proofs.Try.prog (kl33_0 Go.Proofs.Try.prog).orc 33 as33 rs33 (x0,(x1,x1',()),())) (t33 x0 x1 x1') :=
  Walks.ok (fun _ _ _=>PureRuns.of) (wk33 x0 x1 x1') (by kernel_rfl)
theorem ok33:PureOk Go.Proofs.Try.prog 33 p33:=pureOk_of kl33_0_ok.base (T:=fun (d:Tys.data as33)=>t33 d.1 d.2.1.1 d.2.1.2.1) (by kernel_rfl) (fun (d:Tys.data as33)=>ok33_t d.1 d.2.1.1 d.2.1.2.1)
def kf33 (P:Go.Program):Known:=(kl33_0 P).func 33 p33
theorem kf33_ok:KnownOk Go.Proofs.Try.prog (kf33 Go.Proofs.Try.prog):=kl33_0_ok.func ok33
end Go.Vm.Mo
