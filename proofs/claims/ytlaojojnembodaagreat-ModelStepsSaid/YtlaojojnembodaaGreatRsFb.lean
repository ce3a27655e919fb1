import Derived.Test.YtlaojojnembodaaGreatA5
import Derived.KernelRfl
import Derived.Test.YtlaojojnembodaaGreatProg
import Derived.Test.YtlaojojnembodaaGreatRsFa
set_option linter.unusedVariables false
set_option linter.unusedSimpArgs false

namespace Go.Vm.Mo
open Go
set_option linter.unusedVariables false
abbrev as45:List Ty:=[(.pair (.slice (.pair (.int .i64) (.pair (.int .i64) (.pair (.slice (.pair (.int .i64) (.pair (.int .i64) (.pair .bool .unit)))) .unit)))) .unit),(.pair (.slice (.int .i64)) (.pair (.slice (.int .i64)) (.pair (.slice (.pair (.int .i64) (.pair (.slice (.pair (.int .i64) (.pair .bool .unit))) .unit))) .unit))),(.slice (.int .i64))]
abbrev rs45:List Ty:=[(.pair (.pair (.pair (.slice (.pair (.int .i64) (.pair (.int .i64) (.pair (.slice (.pair (.int .i64) (.pair (.int .i64) (.pair .bool .unit)))) .unit)))) .unit) .unit) (.pair (.pair (.slice (.int .i64)) (.pair (.slice (.int .i64)) (.pair (.slice (.pair (.int .i64) (.pair (.slice (.pair (.int .i64) (.pair .bool .unit))) .unit))) .unit))) .unit)),(.int .i64)]
def t45 (x0:(List (Int×(Int×((List (Int×(Int×(Bool×Unit))))×Unit))))) (x1:(List Int)) (x1':(List Int)) (x1'':(List (Int×((List (Int×(Bool×Unit)))×Unit)))) (x2:(List Int)):Tr (Tys.data rs45) :=
  Tr.test (Option.isSome (f7 ((x0,()),((x1,(x1',(x1'',()))),()))))
    (Tr.test (Option.isSome (f41 (x2,())))
      (let r0:=g7 ((x0,()),((x1,(x1',(x1'',()))),()));
      let r1:=g41 (x2,());
      Tr.test (Option.isSome (f41 (([r0.2.1,r1.1]:List Int),())))
        (let r2:=g41 (([r0.2.1,r1.1]:List Int),());
        Tr.test ((!eqF r2.1 0:Bool))
          (Tr.fin (((((([]:List (Int×Int×List (Int×Int×Bool×PUnit)×PUnit)),()),()),((([]:List Int),(([]:List Int),(([]:List (Int×List (Int×Bool×PUnit)×PUnit)),()))),())),(r2.1,()))))
          (Tr.fin (((((x0,()),()),((x1,(x1',(x1'',()))),())),((0:Int),())))))
        (Tr.stop))
      (Tr.stop))
    (Tr.stop)
def f45 (d:Tys.data as45):Option (Tys.data rs45):=(t45 d.1.1 d.2.1.1 d.2.1.2.1 d.2.1.2.2.1 d.2.2.1).val
def g45 (d:Tys.data as45):Tys.data rs45:=(f45 d).getD (Tys.dflt rs45)
def p45:PureC:=pcOf as45 rs45 f45 g45
theorem wk45 (x0:(List (Int×(Int×((List (Int×(Int×(Bool×Unit))))×Unit))))) (x1:(List Int)) (x1':(List Int)) (x1'':(List (Int×((List (Int×(Bool×Unit)))×Unit)))) (x2:(List Int)):Walks (runPure (kf46 Go.Proofs.Tryz.prog).orc Go.Proofs.Tryz.prog 400 45 as45 rs45 ((x0,()),(x1,x1',x1'',()),x2,())) (t45 x0 x1 x1' x1'' x2) [(bl 4 15,[2,4,6,8]),(bl 4 7,[2,4,6,8])] :=
  ⟨by kernel_rfl,by kernel_rfl,trivial⟩
theorem ok45_t (x0:(List (Int×(Int×((List (Int×(Int×(Bool×Unit))))×Unit))))) (x1:(List Int)) (x1':(List Int)) (x1'':(List (Int×((List (Int×(Bool×Unit)))×Unit)))) (x2:(List Int)):TrOk (PureRuns Go.Proofs.Tryz.prog (kf46 Go.Proofs.Tryz.prog).orc 45 as45 rs45 ((x0,()),(x1,x1',x1'',()),x2,())) (t45 x0 x1 x1' x1'' x2) :=
  Walks.ok (fun _ _ _=>PureRuns.of) (wk45 x0 x1 x1' x1'' x2) (by kernel_rfl)
theorem ok45:PureOk Go.Proofs.Tryz.prog 45 p45:=pureOk_of kf46_ok.base (T:=fun (d:Tys.data as45)=>t45 d.1.1 d.2.1.1 d.2.1.2.1 d.2.1.2.2.1 d.2.2.1) (by kernel_rfl) (fun (d:Tys.data as45)=>ok45_t d.1.1 d.2.1.1 d.2.1.2.1 d.2.1.2.2.1 d.2.2.1)
def kf45 (P:Go.Program):Known:=(kf46 P).func 45 p45
theorem kf45_ok:KnownOk Go.Proofs.Tryz.prog (kf45 Go.Proofs.Tryz.prog):=kf46_ok.func ok45
abbrev as91:List Ty:=[(.slice (.int .i64))]
abbrev rs91:List Ty:=[(.slice (.int .i64))]
def t91 (x0:(List Int)):Tr (Tys.data rs91) :=
  Tr.test ((Nat.beq (List.length x0) (0:Nat):Bool))
    (Tr.stop)
    (Tr.test (Nat.ble (((2:Nat) * ((0:Nat) + List.length x0) + (192:Nat)) * (8:Nat)) (281474976710656:Nat) && Nat.ble ((0:Nat) + List.length x0) (281474976710656:Nat))
      (Tr.fin ((([]++x0:List Int),())))
      (Tr.test ((Nat.ble ((0:Nat) + List.length x0) (0:Nat):Bool))
        (Tr.stop)
        (Tr.stop)))
def f91 (d:Tys.data as91):Option (Tys.data rs91):=(t91 d.1).val
def g91 (d:Tys.data as91):Tys.data rs91:=(f91 d).getD (Tys.dflt rs91)
def p91:PureC:=pcOf as91 rs91 f91 g91
theorem wk91 (x0:(List Int)):Walks (runPure (kf45 Go.Proofs.Tryz.prog).orc Go.Proofs.Tryz.prog 400 91 as91 rs91 (x0,())) (t91 x0) [(bl 2 2,[2,0,4])] :=
  ⟨by kernel_rfl,trivial⟩
theorem ok91_t (x0:(List Int)):TrOk (PureRuns Go.Proofs.Tryz.prog (kf45 Go.Proofs.Tryz.prog).orc 91 as91 rs91 (x0,())) (t91 x0) :=
  Walks.ok (fun _ _ _=>PureRuns.of) (wk91 x0) (by kernel_rfl)
theorem ok91:PureOk Go.Proofs.Tryz.prog 91 p91:=pureOk_of kf45_ok.base (T:=fun (d:Tys.data as91)=>t91 d.1) (by kernel_rfl) (fun (d:Tys.data as91)=>ok91_t d.1)
def kf91 (P:Go.Program):Known:=(kf45 P).func 91 p91
theorem kf91_ok:KnownOk Go.Proofs.Tryz.prog (kf91 Go.Proofs.Tryz.prog):=kf45_ok.func ok91
abbrev as92:List Ty:=[(.pair (.pair (.pair (.slice (.pair (.int .i64) (.pair (.int .i64) (.pair (.slice (.pair (.int .i64) (.pair (.int .i64) (.pair .bool .unit)))) .unit)))) .unit) .unit) (.pair (.pair (.slice (.int .i64)) (.pair (.slice (.int .i64)) (.pair (.slice (.pair (.int .i64) (.pair (.slice (.pair (.int .i64) (.pair .bool .unit))) .unit))) .unit))) .unit)),(.int .i64)]
abbrev rs92:List Ty:=[(.pair (.slice (.pair (.int .i64) (.pair (.int .i64) (.pair .bool .unit)))) (.pair (.pair (.int .i64) (.pair (.slice (.pair (.int .i64) (.pair .bool .unit))) .unit)) .unit))]
def t92 (x0__:(List (Int×(Int×((List (Int×(Int×(Bool×Unit))))×Unit))))) (x0'_:(List Int)) (x0'_':(List Int)) (x0'_'':(List (Int×((List (Int×(Bool×Unit)))×Unit)))) (x1:Int):Tr (Tys.data rs92) :=
  Tr.test ((decide ((0:Int) ≤ x1) && decide (x1 < (↑(List.length x0__):Int)):Bool))
    (Tr.test (decide ((0:Int) ≤ x1) && decide (x1 < (↑(List.length x0'_''):Int)))
      (Tr.fin (((((List.getD x0__ (Int.toNat x1) ((0:Int),(0:Int),[],())).2.2.1:List (Int×Int×Bool×PUnit)),((((List.getD x0'_'' (Int.toNat x1) ((0:Int),[],())).1:Int),(((List.getD x0'_'' (Int.toNat x1) ((0:Int),[],())).2.1:List (Int×Bool×PUnit)),())),())),())))
      (Tr.stop))
    (Tr.stop)
def f92 (d:Tys.data as92):Option (Tys.data rs92):=(t92 d.1.1.1.1 d.1.2.1.1 d.1.2.1.2.1 d.1.2.1.2.2.1 d.2.1).val
def g92 (d:Tys.data as92):Tys.data rs92:=(f92 d).getD (Tys.dflt rs92)
def p92:PureC:=pcOf as92 rs92 f92 g92
theorem wk92 (x0__:(List (Int×(Int×((List (Int×(Int×(Bool×Unit))))×Unit))))) (x0'_:(List Int)) (x0'_':(List Int)) (x0'_'':(List (Int×((List (Int×(Bool×Unit)))×Unit)))) (x1:Int):Walks (runPure (kf91 Go.Proofs.Tryz.prog).orc Go.Proofs.Tryz.prog 400 92 as92 rs92 ((((x0__,()),()),(x0'_,x0'_',x0'_'',()),()),x1,())) (t92 x0__ x0'_ x0'_' x0'_'' x1) [(bl 2 3,[2,4])] :=
  ⟨by kernel_rfl,trivial⟩
theorem ok92_t (x0__:(List (Int×(Int×((List (Int×(Int×(Bool×Unit))))×Unit))))) (x0'_:(List Int)) (x0'_':(List Int)) (x0'_'':(List (Int×((List (Int×(Bool×Unit)))×Unit)))) (x1:Int):TrOk (PureRuns Go.Proofs.Tryz.prog (kf91 Go.Proofs.Tryz.prog).orc 92 as92 rs92 ((((x0__,()),()),(x0'_,x0'_',x0'_'',()),()),x1,())) (t92 x0__ x0'_ x0'_' x0'_'' x1) :=
  Walks.ok (fun _ _ _=>PureRuns.of) (wk92 x0__ x0'_ x0'_' x0'_'' x1) (by kernel_rfl)
theorem ok92:PureOk Go.Proofs.Tryz.prog 92 p92:=pureOk_of kf91_ok.base (T:=fun (d:Tys.data as92)=>t92 d.1.1.1.1 d.1.2.1.1 d.1.2.1.2.1 d.1.2.1.2.2.1 d.2.1) (by kernel_rfl) (fun (d:Tys.data as92)=>ok92_t d.1.1.1.1 d.1.2.1.1 d.1.2.1.2.1 d.1.2.1.2.2.1 d.2.1)
def kf92 (P:Go.Program):Known:=(kf91 P).func 92 p92
theorem kf92_ok:KnownOk Go.Proofs.Tryz.prog (kf92 Go.Proofs.Tryz.prog):=kf91_ok.func ok92
abbrev as102:List Ty:=[(.pair (.pair (.int .i64) (.pair (.int .i64) (.pair .bool .unit))) (.pair (.pair (.int .i64) (.pair .bool .unit)) (.pair (.int .i64) .unit)))]
abbrev rs102:List Ty:=[(.int .i64)]
def t102 (x0_:Int) (x0_':Int) (x0_'':Bool) (x0'_:Int) (x0'_':Bool) (x0'':Int):Tr (Tys.data rs102) :=
  Tr.test (x0'_')
    (Tr.fin (((0:Int),())))
    (Tr.test (Option.isSome (f113 (((x0_,(x0_',(x0_'',()))),((x0'_,(x0'_',())),(x0'',()))),())))
      (let r0:=g113 (((x0_,(x0_',(x0_'',()))),((x0'_,(x0'_',())),(x0'',()))),());
      Tr.fin (((wrap64 (x0_ * r0.1):Int),())))
      (Tr.stop))
def f102 (d:Tys.data as102):Option (Tys.data rs102):=(t102 d.1.1.1 d.1.1.2.1 d.1.1.2.2.1 d.1.2.1.1 d.1.2.1.2.1 d.1.2.2.1).val
def g102 (d:Tys.data as102):Tys.data rs102:=(f102 d).getD (Tys.dflt rs102)
def p102:PureC:=pcOf as102 rs102 f102 g102
theorem wk102 (x0_:Int) (x0_':Int) (x0_'':Bool) (x0'_:Int) (x0'_':Bool) (x0'':Int):Walks (runPure (kf92 Go.Proofs.Tryz.prog).orc Go.Proofs.Tryz.prog 400 102 as102 rs102 (((x0_,x0_',x0_'',()),(x0'_,x0'_',()),x0'',()),())) (t102 x0_ x0_' x0_'' x0'_ x0'_' x0'') [(bl 1 1,[2]),(bl 2 2,[2,4])] :=
  ⟨by kernel_rfl,by kernel_rfl,trivial⟩
theorem ok102_t (x0_:Int) (x0_':Int) (x0_'':Bool) (x0'_:Int) (x0'_':Bool) (x0'':Int):TrOk (PureRuns Go.Proofs.Tryz.prog (kf92 Go.Proofs.Tryz.prog).orc 102 as102 rs102 (((x0_,x0_',x0_'',()),(x0'_,x0'_',()),x0'',()),())) (t102 x0_ x0_' x0_'' x0'_ x0'_' x0'') :=
  Walks.ok (fun _ _ _=>PureRuns.of) (wk102 x0_ x0_' x0_'' x0'_ x0'_' x0'') (by kernel_rfl)
theorem ok102:PureOk Go.Proofs.Tryz.prog 102 p102:=pureOk_of kf92_ok.base (T:=fun (d:Tys.data as102)=>t102 d.1.1.1 d.1.1.2.1 d.1.1.2.2.1 d.1.2.1.1 d.1.2.1.2.1 d.1.2.2.1) (by kernel_rfl) (fun (d:Tys.data as102)=>ok102_t d.1.1.1 d.1.1.2.1 d.1.1.2.2.1 d.1.2.1.1 d.1.2.1.2.1 d.1.2.2.1)
def kf102 (P:Go.Program):Known:=(kf92 P).func 102 p102
theorem kf102_ok:KnownOk Go.Proofs.Tryz.prog (kf102 Go.Proofs.Tryz.prog):=kf92_ok.func ok102
theorem sc75_0:sameRf Go.Proofs.Tryz.prog 75 0 = true:=sameRf_ok (by kernel_rfl)
abbrev sh109_0 (P:Go.Program):Sh:={ n:=28,slots:=[0,1,7,8,9],pats:=[.yld 0,.ptr 1 3 0,.ty (.slice (.pair (.int .i64) (.pair .bool .unit))),.ty (.int .i64),.ty (.int .i64)],boxes:=[.lp (lpOf P 75 0 .ready none 15 [3,5] 2) [.ptr 3 1 0,.ptr 4 1 0],.row [.ty (.slice (.pair (.int .i64) (.pair (.int .i64) (.pair .bool .unit)))),.ty (.int .i64),.ty (.slice (.pair (.int .i64) (.pair .bool .unit)))],.dfr,.row [.fn 102 []],.row [.ty (.int .i64)]] }
abbrev shb109_0 (P:Go.Program):Sh:={ n:=28,slots:=[],pats:=[],boxes:=[.lp (lpOf P 75 0 .ready none 15 [3,5] 2) [.ptr 3 1 0,.ptr 4 1 0],.row [.ty (.slice (.pair (.int .i64) (.pair (.int .i64) (.pair .bool .unit)))),.ty (.int .i64),.ty (.slice (.pair (.int .i64) (.pair .bool .unit)))],.dfr,.row [.fn 102 []],.row [.ty (.int .i64)]] }
abbrev shr109_0 (P:Go.Program):Sh:={ n:=28,slots:=[],pats:=[],boxes:=[.lp (lpOf P 75 0 .ready none 15 [3,5] 2) [.ptr 3 1 0,.ptr 4 1 0],.row [.ty (.slice (.pair (.int .i64) (.pair (.int .i64) (.pair .bool .unit)))),.ty (.int .i64),.ty (.slice (.pair (.int .i64) (.pair .bool .unit)))],.dfr,.row [.fn 102 []],.row [.ty (.int .i64)]] }
abbrev dt109_0:Type:=(List (Int×Bool×PUnit)×Int×Int×PUnit)×PUnit×(List (Int×Int×Bool×PUnit)×Int×List (Int×Bool×PUnit)×PUnit)×PUnit×(Int×PUnit)×PUnit
abbrev db109_0:Type:=PUnit×PUnit×(List (Int×Int×Bool×PUnit)×Int×List (Int×Bool×PUnit)×PUnit)×PUnit×(Int×PUnit)×PUnit
abbrev dr109_0:Type:=PUnit×PUnit×(List (Int×Int×Bool×PUnit)×Int×List (Int×Bool×PUnit)×PUnit)×PUnit×(Int×PUnit)×PUnit
def t109_0 (x2:(List (Int×(Bool×Unit)))) (x3:Int) (x4:Int) (b1_0:(List (Int×(Int×(Bool×Unit))))) (b1_1:Int) (b1_2:(List (Int×(Bool×Unit)))) (b4_0:Int):Tr (Out dt109_0 db109_0 dr109_0) :=
  Tr.test ((!leF x3 x4:Bool))
    (Tr.test (decide ((0:Int) ≤ x4) && decide (x4 < (↑(List.length x2):Int)))
      (Tr.test ((decide ((0:Int) ≤ x4) && decide (x4 < (↑(List.length b1_0):Int)):Bool))
        (Tr.test (Option.isSome (f102 (((((List.getD b1_0 (Int.toNat x4) ((0:Int),(0:Int),false,())).1:Int),(((List.getD b1_0 (Int.toNat x4) ((0:Int),(0:Int),false,())).2.1:Int),(((List.getD b1_0 (Int.toNat x4) ((0:Int),(0:Int),false,())).2.2.1:Bool),()))),((((List.getD x2 (Int.toNat x4) ((0:Int),false,())).1:Int),(((List.getD x2 (Int.toNat x4) ((0:Int),false,())).2.1:Bool),())),(b1_1,()))),())))
          (let r0:=g102 (((((List.getD b1_0 (Int.toNat x4) ((0:Int),(0:Int),false,())).1:Int),(((List.getD b1_0 (Int.toNat x4) ((0:Int),(0:Int),false,())).2.1:Int),(((List.getD b1_0 (Int.toNat x4) ((0:Int),(0:Int),false,())).2.2.1:Bool),()))),((((List.getD x2 (Int.toNat x4) ((0:Int),false,())).1:Int),(((List.getD x2 (Int.toNat x4) ((0:Int),false,())).2.1:Bool),())),(b1_1,()))),());
          Tr.fin (.again ((x2,(x3,((wrap64 (x4 + (1:Int)):Int),()))),((),((b1_0,(b1_1,(b1_2,()))),((),(((wrap64 (b4_0 + r0.1):Int),()),())))))))
          (Tr.stop))
        (Tr.stop))
      (Tr.stop))
    (Tr.fin (.brk ((),((),((b1_0,(b1_1,(b1_2,()))),((),((b4_0,()),())))))))
def s109_0 (d:dt109_0):Option (Out dt109_0 db109_0 dr109_0):=(t109_0 d.1.1 d.1.2.1 d.1.2.2.1 d.2.2.1.1 d.2.2.1.2.1 d.2.2.1.2.2.1 d.2.2.2.2.1.1).val
def l109_0 (d:dt109_0):Option (db109_0 ⊕ dr109_0):=itr s109_0 rounds d
def b109_0 (d:dt109_0):db109_0:=outB (((),((),((([]:List (Int×Int×Bool×PUnit)),((0:Int),(([]:List (Int×Bool×PUnit)),()))),((),(((0:Int),()),())))))) (l109_0 d)
def lc109_0 (P:Go.Program):LoopC:=lcB (sh109_0 P) (shb109_0 P) (shr109_0 P) l109_0 b109_0
theorem e109_0_0 (x2:(List (Int×(Bool×Unit)))) (x3:Int) (x4:Int) (b1_0:(List (Int×(Int×(Bool×Unit))))) (b1_1:Int) (b1_2:(List (Int×(Bool×Unit)))) (b4_0:Int):runBody (kf102 Go.Proofs.Tryz.prog).orc Go.Proofs.Tryz.prog 400 109 0 (sh109_0 Go.Proofs.Tryz.prog) (shb109_0 Go.Proofs.Tryz.prog) (shr109_0 Go.Proofs.Tryz.prog) ((x2,x3,x4,()),(),(b1_0,b1_1,b1_2,()),(),(b4_0,()),()) [tt,tt,tt,tt,ff] =
    (let r0:=g102 (((((List.getD b1_0 (Int.toNat x4) ((0:Int),(0:Int),false,())).1:Int),(((List.getD b1_0 (Int.toNat x4) ((0:Int),(0:Int),false,())).2.1:Int),((List.getD b1_0 (Int.toNat x4) ((0:Int),(0:Int),false,())).2.2.1,()))),((((List.getD x2 (Int.toNat x4) ((0:Int),false,())).1:Int),((List.getD x2 (Int.toNat x4) ((0:Int),false,())).2.1,())),(b1_1,()))),()); some (.again ((x2,(x3,((wrap64 (x4 + (1:Int)):Int),()))),((),((b1_0,(b1_1,(b1_2,()))),((),(((wrap64 (b4_0 + r0.1):Int),()),()))))),[(sameRf Go.Proofs.Tryz.prog (nat_lit 75) (nat_lit 0),true),(false,false),(Option.isSome (f102 (((((List.getD b1_0 (Int.toNat x4) ((0:Int),(0:Int),false,())).1:Int),(((List.getD b1_0 (Int.toNat x4) ((0:Int),(0:Int),false,())).2.1:Int),((List.getD b1_0 (Int.toNat x4) ((0:Int),(0:Int),false,())).2.2.1,()))),((((List.getD x2 (Int.toNat x4) ((0:Int),false,())).1:Int),((List.getD x2 (Int.toNat x4) ((0:Int),false,())).2.1,())),(b1_1,()))),())),true),(decide ((0:Int) ≤ x4) && decide (x4 < (↑(List.length b1_0):Int)),true),(decide ((0:Int) ≤ x4) && decide (x4 < (↑(List.length x2):Int)),true),(!leF x3 x4,true)])):=by kernel_rfl
theorem e109_0_3 (x2:(List (Int×(Bool×Unit)))) (x3:Int) (x4:Int) (b1_0:(List (Int×(Int×(Bool×Unit))))) (b1_1:Int) (b1_2:(List (Int×(Bool×Unit)))) (b4_0:Int):runBody (kf102 Go.Proofs.Tryz.prog).orc Go.Proofs.Tryz.prog 400 109 0 (sh109_0 Go.Proofs.Tryz.prog) (shb109_0 Go.Proofs.Tryz.prog) (shr109_0 Go.Proofs.Tryz.prog) ((x2,x3,x4,()),(),(b1_0,b1_1,b1_2,()),(),(b4_0,()),()) [ff] =
    (some (.brk ((),((),((b1_0,(b1_1,(b1_2,()))),((),((b4_0,()),()))))),[(sameRf Go.Proofs.Tryz.prog (nat_lit 75) (nat_lit 0),true),(!leF x3 x4,false)])):=by kernel_rfl
theorem ok109_0_t (x2:(List (Int×(Bool×Unit)))) (x3:Int) (x4:Int) (b1_0:(List (Int×(Int×(Bool×Unit))))) (b1_1:Int) (b1_2:(List (Int×(Bool×Unit)))) (b4_0:Int):TrOk (BodyRuns Go.Proofs.Tryz.prog (kf102 Go.Proofs.Tryz.prog).orc 109 0 (sh109_0 Go.Proofs.Tryz.prog) (shb109_0 Go.Proofs.Tryz.prog) (shr109_0 Go.Proofs.Tryz.prog) ((x2,x3,x4,()),(),(b1_0,b1_1,b1_2,()),(),(b4_0,()),())) (t109_0 x2 x3 x4 b1_0 b1_1 b1_2 b4_0) :=
  TrOk.ofTest (fun h0=>TrOk.ofTest (fun h1=>TrOk.ofTest (fun h2=>TrOk.ofTest (fun h3=>TrOk.ofFin (BodyRuns.of (e109_0_0 x2 x3 x4 b1_0 b1_1 b1_2 b4_0) (ac (sc75_0) (ac rfl (ac h3 (ac h2 (ac h1 (ac h0 All.nil)))))))) (fun h3=>TrOk.ofStop)) (fun h2=>TrOk.ofStop)) (fun h1=>TrOk.ofStop)) (fun h0=>TrOk.ofFin (BodyRuns.of (e109_0_3 x2 x3 x4 b1_0 b1_1 b1_2 b4_0) (ac (sc75_0) (ac h0 All.nil))))
theorem ok109_0:LoopOk Go.Proofs.Tryz.prog 109 0 (lc109_0 Go.Proofs.Tryz.prog):=loopOk_ofB (sh:=(sh109_0 Go.Proofs.Tryz.prog)) (shB:=(shb109_0 Go.Proofs.Tryz.prog)) (shR:=(shr109_0 Go.Proofs.Tryz.prog)) kf102_ok.base (T:=fun (d:dt109_0)=>t109_0 d.1.1 d.1.2.1 d.1.2.2.1 d.2.2.1.1 d.2.2.1.2.1 d.2.2.1.2.2.1 d.2.2.2.2.1.1) (by kernel_rfl) rfl (fun (d:dt109_0)=>ok109_0_t d.1.1 d.1.2.1 d.1.2.2.1 d.2.2.1.1 d.2.2.1.2.1 d.2.2.1.2.2.1 d.2.2.2.2.1.1) (fun _=>rfl)
def kl109_0 (P:Go.Program):Known:=(kf102 P).loop 109 0 (lc109_0 P)
theorem kl109_0_ok:KnownOk Go.Proofs.Tryz.prog (kl109_0 Go.Proofs.Tryz.prog):=kf102_ok.loop ok109_0
abbrev as68:List Ty:=[(.pair (.slice (.pair (.int .i64) (.pair (.int .i64) (.pair .bool .unit)))) (.pair (.pair (.int .i64) (.pair (.slice (.pair (.int .i64) (.pair .bool .unit))) .unit)) .unit))]
abbrev rs68:List Ty:=[(.int .i64)]
def t68 (x0:(List (Int×(Int×(Bool×Unit))))) (x0'_:Int) (x0'_':(List (Int×(Bool×Unit)))):Tr (Tys.data rs68) :=
  Tr.test (isBrk (l109_0 ((x0'_',((↑(List.length x0'_'):Int),((0:Int),()))),((),((x0,(x0'_,(x0'_',()))),((),(((0:Int),()),())))))))
    (let r0:=b109_0 ((x0'_',((↑(List.length x0'_'):Int),((0:Int),()))),((),((x0,(x0'_,(x0'_',()))),((),(((0:Int),()),())))));
    Tr.fin ((r0.2.2.2.2.1.1,())))
    (Tr.stop)
def f68 (d:Tys.data as68):Option (Tys.data rs68):=(t68 d.1.1 d.1.2.1.1 d.1.2.1.2.1).val
def g68 (d:Tys.data as68):Tys.data rs68:=(f68 d).getD (Tys.dflt rs68)
def p68:PureC:=pcOf as68 rs68 f68 g68
theorem e68_0 (x0:(List (Int×(Int×(Bool×Unit))))) (x0'_:Int) (x0'_':(List (Int×(Bool×Unit)))):runPure (kl109_0 Go.Proofs.Tryz.prog).orc Go.Proofs.Tryz.prog 400 68 as68 rs68 ((x0,(x0'_,x0'_',()),()),()) [tt,tt,tt] =
    (let r0:=b109_0 ((x0'_',((↑(List.length x0'_'):Int),((0:Int),()))),((),((x0,(x0'_,(x0'_',()))),((),(((0:Int),()),()))))); some ((r0.2.2.2.2.1.1,()),[(true,true),(isBrk (l109_0 ((x0'_',((↑(List.length x0'_'):Int),((0:Int),()))),((),((x0,(x0'_,(x0'_',()))),((),(((0:Int),()),())))))),true),(sameRf Go.Proofs.Tryz.prog (nat_lit 75) (nat_lit 0),true)])):=by kernel_rfl
theorem ok68_t (x0:(List (Int×(Int×(Bool×Unit))))) (x0'_:Int) (x0'_':(List (Int×(Bool×Unit)))):TrOk (PureRuns Go.Proofs.Tryz.prog (kl109_0 Go.Proofs.Tryz.prog).orc 68 as68 rs68 ((x0,(x0'_,x0'_',()),()),())) (t68 x0 x0'_ x0'_') :=
  TrOk.ofTest (fun h1=>TrOk.ofFin (PureRuns.of (e68_0 x0 x0'_ x0'_') (ac rfl (ac h1 (ac (sc75_0) All.nil))))) (fun h1=>TrOk.ofStop)
theorem ok68:PureOk Go.Proofs.Tryz.prog 68 p68:=pureOk_of kl109_0_ok.base (T:=fun (d:Tys.data as68)=>t68 d.1.1 d.1.2.1.1 d.1.2.1.2.1) (by kernel_rfl) (fun (d:Tys.data as68)=>ok68_t d.1.1 d.1.2.1.1 d.1.2.1.2.1)
def kf68 (P:Go.Program):Known:=(kl109_0 P).func 68 p68
theorem kf68_ok:KnownOk Go.Proofs.Tryz.prog (kf68 Go.Proofs.Tryz.prog):=kl109_0_ok.func ok68
abbrev as94:List Ty:=[(.pair (.pair (.pair (.slice (.pair (.int .i64) (.pair (.int .i64) (.pair (.slice (.pair (.int .i64) (.pair (.int .i64) (.pair .bool .unit)))) .unit)))) .unit) .unit) (.pair (.pair (.slice (.int .i64)) (.pair (.slice (.int .i64)) (.pair (.slice (.pair (.int .i64) (.pair (.slice (.pair (.int .i64) (.pair .bool .unit))) .unit))) .unit))) .unit)),(.int .i64)]
abbrev rs94:List Ty:=[(.int .i64)]
def t94 (x0__:(List (Int×(Int×((List (Int×(Int×(Bool×Unit))))×Unit))))) (x0'_:(List Int)) (x0'_':(List Int)) (x0'_'':(List (Int×((List (Int×(Bool×Unit)))×Unit)))) (x1:Int):Tr (Tys.data rs94) :=
  Tr.test ((eqF x1 (↑(List.length x0__):Int):Bool))
    (Tr.fin (((0:Int),())))
    (Tr.test (Option.isSome (f92 ((((x0__,()),()),((x0'_,(x0'_',(x0'_'',()))),())),(x1,()))))
      (let r0:=g92 ((((x0__,()),()),((x0'_,(x0'_',(x0'_'',()))),())),(x1,()));
      Tr.test (Option.isSome (f68 ((r0.1.1,((r0.1.2.1.1,(r0.1.2.1.2.1,())),())),())))
        (let r1:=g68 ((r0.1.1,((r0.1.2.1.1,(r0.1.2.1.2.1,())),())),());
        Tr.fin ((r1.1,())))
        (Tr.stop))
      (Tr.stop))
def f94 (d:Tys.data as94):Option (Tys.data rs94):=(t94 d.1.1.1.1 d.1.2.1.1 d.1.2.1.2.1 d.1.2.1.2.2.1 d.2.1).val
def g94 (d:Tys.data as94):Tys.data rs94:=(f94 d).getD (Tys.dflt rs94)
def p94:PureC:=pcOf as94 rs94 f94 g94
theorem wk94 (x0__:(List (Int×(Int×((List (Int×(Int×(Bool×Unit))))×Unit))))) (x0'_:(List Int)) (x0'_':(List Int)) (x0'_'':(List (Int×((List (Int×(Bool×Unit)))×Unit)))) (x1:Int):Walks (runPure (kf68 Go.Proofs.Tryz.prog).orc Go.Proofs.Tryz.prog 400 94 as94 rs94 ((((x0__,()),()),(x0'_,x0'_',x0'_'',()),()),x1,())) (t94 x0__ x0'_ x0'_' x0'_'' x1) [(bl 1 1,[2]),(bl 3 6,[2,4,6])] :=
  ⟨by kernel_rfl,by kernel_rfl,trivial⟩
theorem ok94_t (x0__:(List (Int×(Int×((List (Int×(Int×(Bool×Unit))))×Unit))))) (x0'_:(List Int)) (x0'_':(List Int)) (x0'_'':(List (Int×((List (Int×(Bool×Unit)))×Unit)))) (x1:Int):TrOk (PureRuns Go.Proofs.Tryz.prog (kf68 Go.Proofs.Tryz.prog).orc 94 as94 rs94 ((((x0__,()),()),(x0'_,x0'_',x0'_'',()),()),x1,())) (t94 x0__ x0'_ x0'_' x0'_'' x1) :=
  Walks.ok (fun _ _ _=>PureRuns.of) (wk94 x0__ x0'_ x0'_' x0'_'' x1) (by kernel_rfl)
theorem ok94:PureOk Go.Proofs.Tryz.prog 94 p94:=pureOk_of kf68_ok.base (T:=fun (d:Tys.data as94)=>t94 d.1.1.1.1 d.1.2.1.1 d.1.2.1.2.1 d.1.2.1.2.2.1 d.2.1) (by kernel_rfl) (fun (d:Tys.data as94)=>ok94_t d.1.1.1.1 d.1.2.1.1 d.1.2.1.2.1 d.1.2.1.2.2.1 d.2.1)
def kf94 (P:Go.Program):Known:=(kf68 P).func 94 p94
theorem kf94_ok:KnownOk Go.Proofs.Tryz.prog (kf94 Go.Proofs.Tryz.prog):=kf68_ok.func ok94
abbrev as95:List Ty:=[(.int .i64),(.int .i64)]
abbrev rs95:List Ty:=[(.int .i64),(.int .i64)]
def t95 (x0:Int) (x1:Int):Tr (Tys.data rs95) :=
  Tr.test ((x1 == (0:Int):Bool))
    (Tr.stop)
    (Tr.test (!leF (0:Int) (Int.tmod x0 x1))
      (Tr.fin (((Go.IntKind.wrap Go.IntKind.i64 (Int.tdiv (wrap64 (x0 - wrap64 (Int.tmod x0 x1 + x1))) x1):Int),((wrap64 (Int.tmod x0 x1 + x1):Int),()))))
      (Tr.fin (((Go.IntKind.wrap Go.IntKind.i64 (Int.tdiv (wrap64 (x0 - Int.tmod x0 x1)) x1):Int),((Int.tmod x0 x1:Int),())))))
def f95 (d:Tys.data as95):Option (Tys.data rs95):=(t95 d.1 d.2.1).val
def g95 (d:Tys.data as95):Tys.data rs95:=(f95 d).getD (Tys.dflt rs95)
def p95:PureC:=pcOf as95 rs95 f95 g95
theorem wk95 (x0:Int) (x1:Int):Walks (runPure (kf94 Go.Proofs.Tryz.prog).orc Go.Proofs.Tryz.prog 400 95 as95 rs95 (x0,x1,())) (t95 x0 x1) [(bl 2 2,[4,2,4]),(bl 2 0,[4,2,4])] :=
  ⟨by kernel_rfl,by kernel_rfl,trivial⟩
theorem ok95_t (x0:Int) (x1:Int):TrOk (PureRuns Go.Proofs.Tryz.prog (kf94 Go.Proofs.Tryz.prog).orc 95 as95 rs95 (x0,x1,())) (t95 x0 x1) :=
  Walks.ok (fun _ _ _=>PureRuns.of) (wk95 x0 x1) (by kernel_rfl)
theorem ok95:PureOk Go.Proofs.Tryz.prog 95 p95:=pureOk_of kf94_ok.base (T:=fun (d:Tys.data as95)=>t95 d.1 d.2.1) (by kernel_rfl) (fun (d:Tys.data as95)=>ok95_t d.1 d.2.1)
def kf95 (P:Go.Program):Known:=(kf94 P).func 95 p95
theorem kf95_ok:KnownOk Go.Proofs.Tryz.prog (kf95 Go.Proofs.Tryz.prog):=kf94_ok.func ok95
abbrev as108:List Ty:=[(.pair (.pair (.int .i64) (.pair (.int .i64) (.pair .bool .unit))) (.pair (.pair (.int .i64) (.pair .bool .unit)) (.pair (.int .i64) .unit))),(.int .i64)]
abbrev rs108:List Ty:=[(.pair (.pair (.int .i64) (.pair (.int .i64) (.pair .bool .unit))) (.pair (.pair (.int .i64) (.pair .bool .unit)) (.pair (.int .i64) .unit)))]
def t108 (x0_:Int) (x0_':Int) (x0_'':Bool) (x0'_:Int) (x0'_':Bool) (x0'':Int) (x1:Int):Tr (Tys.data rs108) :=
  Tr.test (Option.isSome (f113 (((x0_,(x0_',(x0_'',()))),((x0'_,(x0'_',())),(x1,()))),())))
    (Tr.test (x0'_')
      (Tr.fin ((((x0_,(x0_',(x0_'',()))),((x0'_,(x0'_',())),(x1,()))),())))
      (let r0:=g113 (((x0_,(x0_',(x0_'',()))),((x0'_,(x0'_',())),(x1,()))),());
      Tr.test (Option.isSome (f44 (x0_',(([r0.1]:List Int),()))))
        (let r1:=g44 (x0_',(([r0.1]:List Int),()));
        Tr.test ((!r1.1:Bool))
          (Tr.fin ((((x0_,(x0_',(x0_'',()))),((x0'_,(x0'_',())),(x1,()))),())))
          (Tr.test (x0_'')
            (Tr.fin ((((x0_,(x0_',(x0_'',()))),(((0:Int),((true:Bool),())),(x1,()))),())))
            (Tr.test ((!leF r0.1 0:Bool))
              (Tr.fin ((((x0_,(x0_',(x0_'',()))),(((wrap64 (x1 - x0_'):Int),(x0'_',())),(x1,()))),())))
              (Tr.fin ((((x0_,(x0_',(x0_'',()))),(((wrap64 (x1 + x0_'):Int),(x0'_',())),(x1,()))),()))))))
        (Tr.stop)))
    (Tr.stop)
def f108 (d:Tys.data as108):Option (Tys.data rs108):=(t108 d.1.1.1 d.1.1.2.1 d.1.1.2.2.1 d.1.2.1.1 d.1.2.1.2.1 d.1.2.2.1 d.2.1).val
def g108 (d:Tys.data as108):Tys.data rs108:=(f108 d).getD (Tys.dflt rs108)
def p108:PureC:=pcOf as108 rs108 f108 g108
theorem wk108 (x0_:Int) (x0_':Int) (x0_'':Bool) (x0'_:Int) (x0'_':Bool) (x0'':Int) (x1:Int):Walks (runPure (kf95 Go.Proofs.Tryz.prog).orc Go.Proofs.Tryz.prog 400 108 as108 rs108 (((x0_,x0_',x0_'',()),(x0'_,x0'_',()),x0'',()),x1,())) (t108 x0_ x0_' x0_'' x0'_ x0'_' x0'' x1) [(bl 2 3,[1,2,2,2,2,2,2,2,2,4]),(bl 4 13,[2,6,6,4,6,6,6,6,6,6,8]),(bl 5 21,[2,4,8,8,6,8,8,8,8,8,8,10]),(bl 6 37,[2,4,6,10,10,8,10,10,10,10,10,10,12]),(bl 6 5,[2,4,6,10,10,8,10,10,10,10,10,10,12])] :=
  ⟨by kernel_rfl,by kernel_rfl,by kernel_rfl,by kernel_rfl,by kernel_rfl,trivial⟩
theorem ok108_t (x0_:Int) (x0_':Int) (x0_'':Bool) (x0'_:Int) (x0'_':Bool) (x0'':Int) (x1:Int):TrOk (PureRuns Go.Proofs.Tryz.prog (kf95 Go.Proofs.Tryz.prog).orc 108 as108 rs108 (((x0_,x0_',x0_'',()),(x0'_,x0'_',()),x0'',()),x1,())) (t108 x0_ x0_' x0_'' x0'_ x0'_' x0'' x1) :=
  Walks.ok (fun _ _ _=>PureRuns.of) (wk108 x0_ x0_' x0_'' x0'_ x0'_' x0'' x1) (by kernel_rfl)
theorem ok108:PureOk Go.Proofs.Tryz.prog 108 p108:=pureOk_of kf95_ok.base (T:=fun (d:Tys.data as108)=>t108 d.1.1.1 d.1.1.2.1 d.1.1.2.2.1 d.1.2.1.1 d.1.2.1.2.1 d.1.2.2.1 d.2.1) (by kernel_rfl) (fun (d:Tys.data as108)=>ok108_t d.1.1.1 d.1.1.2.1 d.1.1.2.2.1 d.1.2.1.1 d.1.2.1.2.1 d.1.2.2.1 d.2.1)
def kf108 (P:Go.Program):Known:=(kf95 P).func 108 p108
theorem kf108_ok:KnownOk Go.Proofs.Tryz.prog (kf108 Go.Proofs.Tryz.prog):=kf95_ok.func ok108
theorem sc74_0:sameRf Go.Proofs.Tryz.prog 74 0 = true:=sameRf_ok (by kernel_rfl)
abbrev sh109_0_1 (P:Go.Program):Sh:={ n:=28,slots:=[0,1,7,8,9],pats:=[.yld 0,.ptr 1 3 0,.ty (.slice (.pair (.int .i64) (.pair .bool .unit))),.ty (.int .i64),.ty (.int .i64)],boxes:=[.lp (lpOf P 74 0 .ready none 27 [3,5] 2) [.ptr 3 1 0,.ptr 4 3 0],.row [.ty (.slice (.pair (.int .i64) (.pair (.int .i64) (.pair .bool .unit)))),.ty (.int .i64),.ty (.slice (.pair (.int .i64) (.pair .bool .unit)))],.dfr,.row [.ty (.int .i64)],.row [.ty (.slice (.pair (.int .i64) (.pair (.int .i64) (.pair .bool .unit)))),.ty (.int .i64),.acc (.pair (.int .i64) (.pair .bool .unit))]] }
abbrev shb109_0_1 (P:Go.Program):Sh:={ n:=28,slots:=[],pats:=[],boxes:=[.lp (lpOf P 74 0 .ready none 27 [3,5] 2) [.ptr 3 1 0,.ptr 4 3 0],.row [.ty (.slice (.pair (.int .i64) (.pair (.int .i64) (.pair .bool .unit)))),.ty (.int .i64),.ty (.slice (.pair (.int .i64) (.pair .bool .unit)))],.dfr,.row [.ty (.int .i64)],.row [.ty (.slice (.pair (.int .i64) (.pair (.int .i64) (.pair .bool .unit)))),.ty (.int .i64),.acc (.pair (.int .i64) (.pair .bool .unit))]] }
abbrev shr109_0_1 (P:Go.Program):Sh:={ n:=28,slots:=[],pats:=[],boxes:=[.lp (lpOf P 74 0 .ready none 27 [3,5] 2) [.ptr 3 1 0,.ptr 4 3 0],.row [.ty (.slice (.pair (.int .i64) (.pair (.int .i64) (.pair .bool .unit)))),.ty (.int .i64),.ty (.slice (.pair (.int .i64) (.pair .bool .unit)))],.dfr,.row [.ty (.int .i64)],.row [.ty (.slice (.pair (.int .i64) (.pair (.int .i64) (.pair .bool .unit)))),.ty (.int .i64),.acc (.pair (.int .i64) (.pair .bool .unit))]] }
abbrev dt109_0_1:Type:=(List (Int×Bool×PUnit)×Int×Int×PUnit)×PUnit×(List (Int×Int×Bool×PUnit)×Int×List (Int×Bool×PUnit)×PUnit)×(Int×PUnit)×(List (Int×Int×Bool×PUnit)×Int×List (Int×Bool×PUnit)×PUnit)×PUnit
abbrev db109_0_1:Type:=PUnit×PUnit×(List (Int×Int×Bool×PUnit)×Int×List (Int×Bool×PUnit)×PUnit)×(Int×PUnit)×(List (Int×Int×Bool×PUnit)×Int×List (Int×Bool×PUnit)×PUnit)×PUnit
abbrev dr109_0_1:Type:=PUnit×PUnit×(List (Int×Int×Bool×PUnit)×Int×List (Int×Bool×PUnit)×PUnit)×(Int×PUnit)×(List (Int×Int×Bool×PUnit)×Int×List (Int×Bool×PUnit)×PUnit)×PUnit
def t109_0_1 (x2:(List (Int×(Bool×Unit)))) (x3:Int) (x4:Int) (b1_0:(List (Int×(Int×(Bool×Unit))))) (b1_1:Int) (b1_2:(List (Int×(Bool×Unit)))) (b3_0:Int) (b4_0:(List (Int×(Int×(Bool×Unit))))) (b4_1:Int) (b4_2:(List (Int×(Bool×Unit)))):Tr (Out dt109_0_1 db109_0_1 dr109_0_1) :=
  Tr.test ((!leF x3 x4:Bool))
    (Tr.test (decide ((0:Int) ≤ x4) && decide (x4 < (↑(List.length x2):Int)))
      (Tr.test ((decide ((0:Int) ≤ x4) && decide (x4 < (↑(List.length b1_0):Int)):Bool))
        (Tr.test (Option.isSome (f108 (((((List.getD b1_0 (Int.toNat x4) ((0:Int),(0:Int),false,())).1:Int),(((List.getD b1_0 (Int.toNat x4) ((0:Int),(0:Int),false,())).2.1:Int),(((List.getD b1_0 (Int.toNat x4) ((0:Int),(0:Int),false,())).2.2.1:Bool),()))),((((List.getD x2 (Int.toNat x4) ((0:Int),false,())).1:Int),(((List.getD x2 (Int.toNat x4) ((0:Int),false,())).2.1:Bool),())),(b1_1,()))),(b3_0,()))))
          (Tr.test ((Nat.ble (((2:Nat) * (List.length b4_2 + (1:Nat)) + (192:Nat)) * (16:Nat)) (281474976710656:Nat) && Nat.ble (List.length b4_2 + (1:Nat)) (281474976710656:Nat):Bool))
            (let r0:=g108 (((((List.getD b1_0 (Int.toNat x4) ((0:Int),(0:Int),false,())).1:Int),(((List.getD b1_0 (Int.toNat x4) ((0:Int),(0:Int),false,())).2.1:Int),(((List.getD b1_0 (Int.toNat x4) ((0:Int),(0:Int),false,())).2.2.1:Bool),()))),((((List.getD x2 (Int.toNat x4) ((0:Int),false,())).1:Int),(((List.getD x2 (Int.toNat x4) ((0:Int),false,())).2.1:Bool),())),(b1_1,()))),(b3_0,()));
            Tr.fin (.again ((x2,(x3,((wrap64 (x4 + (1:Int)):Int),()))),((),((b1_0,(b1_1,(b1_2,()))),((b3_0,()),((b4_0,(b4_1,((b4_2++[(r0.1.2.1.1,r0.1.2.1.2.1,())]:List (Int×Bool×PUnit)),()))),())))))))
            (Tr.stop))
          (Tr.stop))
        (Tr.stop))
      (Tr.stop))
    (Tr.fin (.brk ((),((),((b1_0,(b1_1,(b1_2,()))),((b3_0,()),((b4_0,(b4_1,(b4_2,()))),())))))))
def s109_0_1 (d:dt109_0_1):Option (Out dt109_0_1 db109_0_1 dr109_0_1):=(t109_0_1 d.1.1 d.1.2.1 d.1.2.2.1 d.2.2.1.1 d.2.2.1.2.1 d.2.2.1.2.2.1 d.2.2.2.1.1 d.2.2.2.2.1.1 d.2.2.2.2.1.2.1 d.2.2.2.2.1.2.2.1).val
def l109_0_1 (d:dt109_0_1):Option (db109_0_1 ⊕ dr109_0_1):=itr s109_0_1 rounds d
def b109_0_1 (d:dt109_0_1):db109_0_1:=outB (((),((),((([]:List (Int×Int×Bool×PUnit)),((0:Int),(([]:List (Int×Bool×PUnit)),()))),(((0:Int),()),((([]:List (Int×Int×Bool×PUnit)),((0:Int),(([]:List (Int×Bool×PUnit)),()))),())))))) (l109_0_1 d)
def lc109_0_1 (P:Go.Program):LoopC:=lcB (sh109_0_1 P) (shb109_0_1 P) (shr109_0_1 P) l109_0_1 b109_0_1
theorem e109_0_1_0 (x2:(List (Int×(Bool×Unit)))) (x3:Int) (x4:Int) (b1_0:(List (Int×(Int×(Bool×Unit))))) (b1_1:Int) (b1_2:(List (Int×(Bool×Unit)))) (b3_0:Int) (b4_0:(List (Int×(Int×(Bool×Unit))))) (b4_1:Int) (b4_2:(List (Int×(Bool×Unit)))):runBody (kf108 Go.Proofs.Tryz.prog).orc Go.Proofs.Tryz.prog 400 109 0 (sh109_0_1 Go.Proofs.Tryz.prog) (shb109_0_1 Go.Proofs.Tryz.prog) (shr109_0_1 Go.Proofs.Tryz.prog) ((x2,x3,x4,()),(),(b1_0,b1_1,b1_2,()),(b3_0,()),(b4_0,b4_1,b4_2,()),()) [tt,tt,tt,tt,tt,ff] =
    (let r0:=g108 (((((List.getD b1_0 (Int.toNat x4) ((0:Int),(0:Int),false,())).1:Int),(((List.getD b1_0 (Int.toNat x4) ((0:Int),(0:Int),false,())).2.1:Int),((List.getD b1_0 (Int.toNat x4) ((0:Int),(0:Int),false,())).2.2.1,()))),((((List.getD x2 (Int.toNat x4) ((0:Int),false,())).1:Int),((List.getD x2 (Int.toNat x4) ((0:Int),false,())).2.1,())),(b1_1,()))),(b3_0,())); some (.again ((x2,(x3,((wrap64 (x4 + (1:Int)):Int),()))),((),((b1_0,(b1_1,(b1_2,()))),((b3_0,()),((b4_0,(b4_1,((b4_2++[(r0.1.2.1.1,r0.1.2.1.2.1,())]:List (Int×Bool×PUnit)),()))),()))))),[(sameRf Go.Proofs.Tryz.prog (nat_lit 74) (nat_lit 0),true),(false,false),(Nat.ble (((2:Nat) * (List.length b4_2 + (1:Nat)) + (192:Nat)) * (16:Nat)) (281474976710656:Nat) && Nat.ble (List.length b4_2 + (1:Nat)) (281474976710656:Nat),true),(Option.isSome (f108 (((((List.getD b1_0 (Int.toNat x4) ((0:Int),(0:Int),false,())).1:Int),(((List.getD b1_0 (Int.toNat x4) ((0:Int),(0:Int),false,())).2.1:Int),((List.getD b1_0 (Int.toNat x4) ((0:Int),(0:Int),false,())).2.2.1,()))),((((List.getD x2 (Int.toNat x4) ((0:Int),false,())).1:Int),((List.getD x2 (Int.toNat x4) ((0:Int),false,())).2.1,())),(b1_1,()))),(b3_0,()))),true),(decide ((0:Int) ≤ x4) && decide (x4 < (↑(List.length b1_0):Int)),true),(decide ((0:Int) ≤ x4) && decide (x4 < (↑(List.length x2):Int)),true),(!leF x3 x4,true)])):=by kernel_rfl
theorem e109_0_1_4 (x2:(List (Int×(Bool×Unit)))) (x3:Int) (x4:Int) (b1_0:(List (Int×(Int×(Bool×Unit))))) (b1_1:Int) (b1_2:(List (Int×(Bool×Unit)))) (b3_0:Int) (b4_0:(List (Int×(Int×(Bool×Unit))))) (b4_1:Int) (b4_2:(List (Int×(Bool×Unit)))):runBody (kf108 Go.Proofs.Tryz.prog).orc Go.Proofs.Tryz.prog 400 109 0 (sh109_0_1 Go.Proofs.Tryz.prog) (shb109_0_1 Go.Proofs.Tryz.prog) (shr109_0_1 Go.Proofs.Tryz.prog) ((x2,x3,x4,()),(),(b1_0,b1_1,b1_2,()),(b3_0,()),(b4_0,b4_1,b4_2,()),()) [ff] =
    (some (.brk ((),((),((b1_0,(b1_1,(b1_2,()))),((b3_0,()),((b4_0,(b4_1,(b4_2,()))),()))))),[(sameRf Go.Proofs.Tryz.prog (nat_lit 74) (nat_lit 0),true),(!leF x3 x4,false)])):=by kernel_rfl
theorem ok109_0_1_t (x2:(List (Int×(Bool×Unit)))) (x3:Int) (x4:Int) (b1_0:(List (Int×(Int×(Bool×Unit))))) (b1_1:Int) (b1_2:(List (Int×(Bool×Unit)))) (b3_0:Int) (b4_0:(List (Int×(Int×(Bool×Unit))))) (b4_1:Int) (b4_2:(List (Int×(Bool×Unit)))):TrOk (BodyRuns Go.Proofs.Tryz.prog (kf108 Go.Proofs.Tryz.prog).orc 109 0 (sh109_0_1 Go.Proofs.Tryz.prog) (shb109_0_1 Go.Proofs.Tryz.prog) (shr109_0_1 Go.Proofs.Tryz.prog) ((x2,x3,x4,()),(),(b1_0,b1_1,b1_2,()),(b3_0,()),(b4_0,b4_1,b4_2,()),())) (t109_0_1 x2 x3 x4 b1_0 b1_1 b1_2 b3_0 b4_0 b4_1 b4_2) :=
  TrOk.ofTest (fun h0=>TrOk.ofTest (fun h1=>TrOk.ofTest (fun h2=>TrOk.ofTest (fun h3=>TrOk.ofTest (fun h4=>TrOk.ofFin (BodyRuns.of (e109_0_1_0 x2 x3 x4 b1_0 b1_1 b1_2 b3_0 b4_0 b4_1 b4_2) (ac (sc74_0) (ac rfl (ac h4 (ac h3 (ac h2 (ac h1 (ac h0 All.nil))))))))) (fun h4=>TrOk.ofStop)) (fun h3=>TrOk.ofStop)) (fun h2=>TrOk.ofStop)) (fun h1=>TrOk.ofStop)) (fun h0=>TrOk.ofFin (BodyRuns.of (e109_0_1_4 x2 x3 x4 b1_0 b1_1 b1_2 b3_0 b4_0 b4_1 b4_2) (ac (sc74_0) (ac h0 All.nil))))
theorem ok109_0_1:LoopOk Go.Proofs.Tryz.prog 109 0 (lc109_0_1 Go.Proofs.Tryz.prog):=loopOk_ofB (sh:=(sh109_0_1 Go.Proofs.Tryz.prog)) (shB:=(shb109_0_1 Go.Proofs.Tryz.prog)) (shR:=(shr109_0_1 Go.Proofs.Tryz.prog)) kf108_ok.base (T:=fun (d:dt109_0_1)=>t109_0_1 d.1.1 d.1.2.1 d.1.2.2.1 d.2.2.1.1 d.2.2.1.2.1 d.2.2.1.2.2.1 d.2.2.2.1.1 d.2.2.2.2.1.1 d.2.2.2.2.1.2.1 d.2.2.2.2.1.2.2.1) (by kernel_rfl) rfl (fun (d:dt109_0_1)=>ok109_0_1_t d.1.1 d.1.2.1 d.1.2.2.1 d.2.2.1.1 d.2.2.1.2.1 d.2.2.1.2.2.1 d.2.2.2.1.1 d.2.2.2.2.1.1 d.2.2.2.2.1.2.1 d.2.2.2.2.1.2.2.1) (fun _=>rfl)
def kl109_0_1 (P:Go.Program):Known:=(kf108 P).loop 109 0 (lc109_0_1 P)
theorem kl109_0_1_ok:KnownOk Go.Proofs.Tryz.prog (kl109_0_1 Go.Proofs.Tryz.prog):=kf108_ok.loop ok109_0_1
abbrev as74:List Ty:=[(.pair (.slice (.pair (.int .i64) (.pair (.int .i64) (.pair .bool .unit)))) (.pair (.pair (.int .i64) (.pair (.slice (.pair (.int .i64) (.pair .bool .unit))) .unit)) .unit)),(.int .i64)]
abbrev rs74:List Ty:=[(.pair (.slice (.pair (.int .i64) (.pair (.int .i64) (.pair .bool .unit)))) (.pair (.pair (.int .i64) (.pair (.slice (.pair (.int .i64) (.pair .bool .unit))) .unit)) .unit))]
def t74 (x0:(List (Int×(Int×(Bool×Unit))))) (x0'_:Int) (x0'_':(List (Int×(Bool×Unit)))) (x1:Int):Tr (Tys.data rs74) :=
  Tr.test (isBrk (l109_0_1 ((x0'_',((↑(List.length x0'_'):Int),((0:Int),()))),((),((x0,(x0'_,(x0'_',()))),((x1,()),((x0,(x1,(([]:List (Int×Bool×PUnit)),()))),())))))))
    (let r0:=b109_0_1 ((x0'_',((↑(List.length x0'_'):Int),((0:Int),()))),((),((x0,(x0'_,(x0'_',()))),((x1,()),((x0,(x1,(([]:List (Int×Bool×PUnit)),()))),())))));
    Tr.fin (((r0.2.2.2.2.1.1,((r0.2.2.2.2.1.2.1,(r0.2.2.2.2.1.2.2.1,())),())),())))
    (Tr.stop)
def f74 (d:Tys.data as74):Option (Tys.data rs74):=(t74 d.1.1 d.1.2.1.1 d.1.2.1.2.1 d.2.1).val
def g74 (d:Tys.data as74):Tys.data rs74:=(f74 d).getD (Tys.dflt rs74)
def p74:PureC:=pcOf as74 rs74 f74 g74
theorem e74_0 (x0:(List (Int×(Int×(Bool×Unit))))) (x0'_:Int) (x0'_':(List (Int×(Bool×Unit)))) (x1:Int):runPure (kl109_0_1 Go.Proofs.Tryz.prog).orc Go.Proofs.Tryz.prog 400 74 as74 rs74 ((x0,(x0'_,x0'_',()),()),x1,()) [tt,tt,tt] =
    (let r0:=b109_0_1 ((x0'_',((↑(List.length x0'_'):Int),((0:Int),()))),((),((x0,(x0'_,(x0'_',()))),((x1,()),((x0,(x1,(([]:List (Int×Bool×PUnit)),()))),()))))); some (((r0.2.2.2.2.1.1,((r0.2.2.2.2.1.2.1,(r0.2.2.2.2.1.2.2.1,())),())),()),[(true,true),(isBrk (l109_0_1 ((x0'_',((↑(List.length x0'_'):Int),((0:Int),()))),((),((x0,(x0'_,(x0'_',()))),((x1,()),((x0,(x1,(([]:List (Int×Bool×PUnit)),()))),())))))),true),(sameRf Go.Proofs.Tryz.prog (nat_lit 74) (nat_lit 0),true)])):=by kernel_rfl
theorem ok74_t (x0:(List (Int×(Int×(Bool×Unit))))) (x0'_:Int) (x0'_':(List (Int×(Bool×Unit)))) (x1:Int):TrOk (PureRuns Go.Proofs.Tryz.prog (kl109_0_1 Go.Proofs.Tryz.prog).orc 74 as74 rs74 ((x0,(x0'_,x0'_',()),()),x1,())) (t74 x0 x0'_ x0'_' x1) :=
  TrOk.ofTest (fun h1=>TrOk.ofFin (PureRuns.of (e74_0 x0 x0'_ x0'_' x1) (ac rfl (ac h1 (ac (sc74_0) All.nil))))) (fun h1=>TrOk.ofStop)
theorem ok74:PureOk Go.Proofs.Tryz.prog 74 p74:=pureOk_of kl109_0_1_ok.base (T:=fun (d:Tys.data as74)=>t74 d.1.1 d.1.2.1.1 d.1.2.1.2.1 d.2.1) (by kernel_rfl) (fun (d:Tys.data as74)=>ok74_t d.1.1 d.1.2.1.1 d.1.2.1.2.1 d.2.1)
def kf74 (P:Go.Program):Known:=(kl109_0_1 P).func 74 p74
theorem kf74_ok:KnownOk Go.Proofs.Tryz.prog (kf74 Go.Proofs.Tryz.prog):=kl109_0_1_ok.func ok74
theorem sc47_0:sameRf Go.Proofs.Tryz.prog 47 0 = true:=sameRf_ok (by kernel_rfl)
abbrev sh93_0 (P:Go.Program):Sh:={ n:=70,slots:=[0,1,2,15,16,17],pats:=[.yld 0,.ptr 1 4 0,.ptr 2 1 0,.ty (.slice (.pair (.int .i64) (.pair (.int .i64) (.pair (.slice (.pair (.int .i64) (.pair (.int .i64) (.pair .bool .unit)))) .unit)))),.ty (.int .i64),.ty (.int .i64)],boxes:=[.lp (lpOf P 47 0 .ready none 59 [6] 3) [.ptr 4 3 0],.row [.ty (.slice (.pair (.int .i64) (.pair (.int .i64) (.pair (.slice (.pair (.int .i64) (.pair (.int .i64) (.pair .bool .unit)))) .unit)))),.ty (.slice (.int .i64)),.ty (.slice (.int .i64)),.ty (.slice (.pair (.int .i64) (.pair (.slice (.pair (.int .i64) (.pair .bool .unit))) .unit)))],.row [.ty (.int .i64)],.dfr,.row [.acc (.int .i64),.ty (.slice (.int .i64)),.nil]] }
abbrev shb93_0 (P:Go.Program):Sh:={ n:=70,slots:=[],pats:=[],boxes:=[.lp (lpOf P 47 0 .ready none 59 [6] 3) [.ptr 4 3 0],.row [.ty (.slice (.pair (.int .i64) (.pair (.int .i64) (.pair (.slice (.pair (.int .i64) (.pair (.int .i64) (.pair .bool .unit)))) .unit)))),.ty (.slice (.int .i64)),.ty (.slice (.int .i64)),.ty (.slice (.pair (.int .i64) (.pair (.slice (.pair (.int .i64) (.pair .bool .unit))) .unit)))],.row [.ty (.int .i64)],.dfr,.row [.acc (.int .i64),.ty (.slice (.int .i64)),.nil]] }
abbrev shr93_0 (P:Go.Program):Sh:={ n:=70,slots:=[],pats:=[],boxes:=[.lp (lpOf P 47 0 .ready none 59 [6] 3) [.ptr 4 3 0],.row [.ty (.slice (.pair (.int .i64) (.pair (.int .i64) (.pair (.slice (.pair (.int .i64) (.pair (.int .i64) (.pair .bool .unit)))) .unit)))),.ty (.slice (.int .i64)),.ty (.slice (.int .i64)),.ty (.slice (.pair (.int .i64) (.pair (.slice (.pair (.int .i64) (.pair .bool .unit))) .unit)))],.row [.ty (.int .i64)],.dfr,.row [.acc (.int .i64),.ty (.slice (.int .i64)),.nil]] }
abbrev dt93_0:Type:=(List (Int×Int×List (Int×Int×Bool×PUnit)×PUnit)×Int×Int×PUnit)×PUnit×(List (Int×Int×List (Int×Int×Bool×PUnit)×PUnit)×List Int×List Int×List (Int×List (Int×Bool×PUnit)×PUnit)×PUnit)×(Int×PUnit)×(List Int×List Int×PUnit)×PUnit
abbrev db93_0:Type:=PUnit×PUnit×(List (Int×Int×List (Int×Int×Bool×PUnit)×PUnit)×List Int×List Int×List (Int×List (Int×Bool×PUnit)×PUnit)×PUnit)×(Int×PUnit)×(List Int×List Int×PUnit)×PUnit
abbrev dr93_0:Type:=PUnit×PUnit×(List (Int×Int×List (Int×Int×Bool×PUnit)×PUnit)×List Int×List Int×List (Int×List (Int×Bool×PUnit)×PUnit)×PUnit)×(Int×PUnit)×(List Int×List Int×PUnit)×PUnit
def t93_0 (x3:(List (Int×(Int×((List (Int×(Int×(Bool×Unit))))×Unit))))) (x4:Int) (x5:Int) (b1_0:(List (Int×(Int×((List (Int×(Int×(Bool×Unit))))×Unit))))) (b1_1:(List Int)) (b1_2:(List Int)) (b1_3:(List (Int×((List (Int×(Bool×Unit)))×Unit)))) (b2_0:Int) (b4_0:(List Int)) (b4_1:(List Int)):Tr (Out dt93_0 db93_0 dr93_0) :=
  Tr.test ((!leF x4 x5:Bool))
    (Tr.test (decide ((0:Int) ≤ x5) && decide (x5 < (↑(List.length x3):Int)))
      (Tr.test ((decide ((0:Int) ≤ x5) && decide (x5 < (↑(List.length b1_2):Int)):Bool))
        (Tr.test ((decide ((0:Int) ≤ x5) && decide (x5 < (↑(List.length b1_1):Int)):Bool))
          (Tr.test (Option.isSome (f94 ((((b1_0,()),()),((b1_1,(b1_2,(b1_3,()))),())),((wrap64 (x5 + (1:Int)):Int),()))))
            (Tr.test (Option.isSome (f94 ((((b1_0,()),()),((b1_1,(b1_2,(b1_3,()))),())),(x5,()))))
              (let r0:=g94 ((((b1_0,()),()),((b1_1,(b1_2,(b1_3,()))),())),((wrap64 (x5 + (1:Int)):Int),()));
              let r1:=g94 ((((b1_0,()),()),((b1_1,(b1_2,(b1_3,()))),())),(x5,()));
              Tr.test (Option.isSome (f95 ((wrap64 (r0.1 - r1.1):Int),(((List.getD x3 (Int.toNat x5) ((0:Int),(0:Int),[],())).1:Int),()))))
                (Tr.test ((Nat.ble (((2:Nat) * (List.length b4_0 + (1:Nat)) + (192:Nat)) * (8:Nat)) (281474976710656:Nat) && Nat.ble (List.length b4_0 + (1:Nat)) (281474976710656:Nat):Bool))
                  (let r2:=g95 ((wrap64 (r0.1 - r1.1):Int),(((List.getD x3 (Int.toNat x5) ((0:Int),(0:Int),[],())).1:Int),()));
                  Tr.fin (.again ((x3,(x4,((wrap64 (x5 + (1:Int)):Int),()))),((),((b1_0,(b1_1,(b1_2,(b1_3,())))),((b2_0,()),(((b4_0++[wrap64 (wrap64 (wrap64 (wrap64 ((2:Int) * List.getD b1_1 (Int.toNat x5) (0:Int)) - List.getD b1_2 (Int.toNat x5) (0:Int)) + r2.1) - b2_0)]:List Int),(b4_1,())),())))))))
                  (Tr.stop))
                (Tr.stop))
              (Tr.stop))
            (Tr.stop))
          (Tr.stop))
        (Tr.stop))
      (Tr.stop))
    (Tr.fin (.brk ((),((),((b1_0,(b1_1,(b1_2,(b1_3,())))),((b2_0,()),((b4_0,(b4_1,())),())))))))
def s93_0 (d:dt93_0):Option (Out dt93_0 db93_0 dr93_0):=(t93_0 d.1.1 d.1.2.1 d.1.2.2.1 d.2.2.1.1 d.2.2.1.2.1 d.2.2.1.2.2.1 d.2.2.1.2.2.2.1 d.2.2.2.1.1 d.2.2.2.2.1.1 d.2.2.2.2.1.2.1).val
def l93_0 (d:dt93_0):Option (db93_0 ⊕ dr93_0):=itr s93_0 rounds d
def b93_0 (d:dt93_0):db93_0:=outB (((),((),((([]:List (Int×Int×List (Int×Int×Bool×PUnit)×PUnit)),(([]:List Int),(([]:List Int),(([]:List (Int×List (Int×Bool×PUnit)×PUnit)),())))),(((0:Int),()),((([]:List Int),(([]:List Int),())),())))))) (l93_0 d)
def lc93_0 (P:Go.Program):LoopC:=lcB (sh93_0 P) (shb93_0 P) (shr93_0 P) l93_0 b93_0
theorem e93_0_0 (x3:(List (Int×(Int×((List (Int×(Int×(Bool×Unit))))×Unit))))) (x4:Int) (x5:Int) (b1_0:(List (Int×(Int×((List (Int×(Int×(Bool×Unit))))×Unit))))) (b1_1:(List Int)) (b1_2:(List Int)) (b1_3:(List (Int×((List (Int×(Bool×Unit)))×Unit)))) (b2_0:Int) (b4_0:(List Int)) (b4_1:(List Int)):runBody (kf74 Go.Proofs.Tryz.prog).orc Go.Proofs.Tryz.prog 400 93 0 (sh93_0 Go.Proofs.Tryz.prog) (shb93_0 Go.Proofs.Tryz.prog) (shr93_0 Go.Proofs.Tryz.prog) ((x3,x4,x5,()),(),(b1_0,b1_1,b1_2,b1_3,()),(b2_0,()),(b4_0,b4_1,()),()) [tt,tt,tt,tt,tt,tt,tt,tt,tt,ff] =
    (let r0:=g94 ((((b1_0,()),()),((b1_1,(b1_2,(b1_3,()))),())),((wrap64 (x5 + (1:Int)):Int),()));let r1:=g94 ((((b1_0,()),()),((b1_1,(b1_2,(b1_3,()))),())),(x5,()));let r2:=g95 ((wrap64 (r0.1 - r1.1):Int),(((List.getD x3 (Int.toNat x5) ((0:Int),(0:Int),[],())).1:Int),())); some (.again ((x3,(x4,((wrap64 (x5 + (1:Int)):Int),()))),((),((b1_0,(b1_1,(b1_2,(b1_3,())))),((b2_0,()),(((b4_0++[wrap64 (wrap64 (wrap64 (wrap64 ((2:Int) * List.getD b1_1 (Int.toNat x5) (0:Int)) - List.getD b1_2 (Int.toNat x5) (0:Int)) + r2.1) - b2_0)]:List Int),(b4_1,())),()))))),[(sameRf Go.Proofs.Tryz.prog (nat_lit 47) (nat_lit 0),true),(false,false),(Nat.ble (((2:Nat) * (List.length b4_0 + (1:Nat)) + (192:Nat)) * (8:Nat)) (281474976710656:Nat) && Nat.ble (List.length b4_0 + (1:Nat)) (281474976710656:Nat),true),(true,true),(Option.isSome (f95 ((wrap64 (r0.1 - r1.1):Int),(((List.getD x3 (Int.toNat x5) ((0:Int),(0:Int),[],())).1:Int),()))),true),(Option.isSome (f94 ((((b1_0,()),()),((b1_1,(b1_2,(b1_3,()))),())),(x5,()))),true),(Option.isSome (f94 ((((b1_0,()),()),((b1_1,(b1_2,(b1_3,()))),())),((wrap64 (x5 + (1:Int)):Int),()))),true),(decide ((0:Int) ≤ x5) && decide (x5 < (↑(List.length b1_1):Int)),true),(decide ((0:Int) ≤ x5) && decide (x5 < (↑(List.length b1_2):Int)),true),(decide ((0:Int) ≤ x5) && decide (x5 < (↑(List.length x3):Int)),true),(!leF x4 x5,true)])):=by kernel_rfl
theorem e93_0_5 (x3:(List (Int×(Int×((List (Int×(Int×(Bool×Unit))))×Unit))))) (x4:Int) (x5:Int) (b1_0:(List (Int×(Int×((List (Int×(Int×(Bool×Unit))))×Unit))))) (b1_1:(List Int)) (b1_2:(List Int)) (b1_3:(List (Int×((List (Int×(Bool×Unit)))×Unit)))) (b2_0:Int) (b4_0:(List Int)) (b4_1:(List Int)):runBody (kf74 Go.Proofs.Tryz.prog).orc Go.Proofs.Tryz.prog 400 93 0 (sh93_0 Go.Proofs.Tryz.prog) (shb93_0 Go.Proofs.Tryz.prog) (shr93_0 Go.Proofs.Tryz.prog) ((x3,x4,x5,()),(),(b1_0,b1_1,b1_2,b1_3,()),(b2_0,()),(b4_0,b4_1,()),()) [ff] =
    (some (.brk ((),((),((b1_0,(b1_1,(b1_2,(b1_3,())))),((b2_0,()),((b4_0,(b4_1,())),()))))),[(sameRf Go.Proofs.Tryz.prog (nat_lit 47) (nat_lit 0),true),(!leF x4 x5,false)])):=by kernel_rfl
theorem ok93_0_t (x3:(List (Int×(Int×((List (Int×(Int×(Bool×Unit))))×Unit))))) (x4:Int) (x5:Int) (b1_0:(List (Int×(Int×((List (Int×(Int×(Bool×Unit))))×Unit))))) (b1_1:(List Int)) (b1_2:(List Int)) (b1_3:(List (Int×((List (Int×(Bool×Unit)))×Unit)))) (b2_0:Int) (b4_0:(List Int)) (b4_1:(List Int)):TrOk (BodyRuns Go.Proofs.Tryz.prog (kf74 Go.Proofs.Tryz.prog).orc 93 0 (sh93_0 Go.Proofs.Tryz.prog) (shb93_0 Go.Proofs.Tryz.prog) (shr93_0 Go.Proofs.Tryz.prog) ((x3,x4,x5,()),(),(b1_0,b1_1,b1_2,b1_3,()),(b2_0,()),(b4_0,b4_1,()),())) (t93_0 x3 x4 x5 b1_0 b1_1 b1_2 b1_3 b2_0 b4_0 b4_1) :=
  TrOk.ofTest (fun h0=>TrOk.ofTest (fun h1=>TrOk.ofTest (fun h2=>TrOk.ofTest (fun h3=>TrOk.ofTest (fun h4=>TrOk.ofTest (fun h5=>TrOk.ofTest (fun h6=>TrOk.ofTest (fun h8=>TrOk.ofFin (BodyRuns.of (e93_0_0 x3 x4 x5 b1_0 b1_1 b1_2 b1_3 b2_0 b4_0 b4_1) (ac (sc47_0) (ac rfl (ac h8 (ac rfl (ac h6 (ac h5 (ac h4 (ac h3 (ac h2 (ac h1 (ac h0 All.nil))))))))))))) (fun h8=>TrOk.ofStop)) (fun h6=>TrOk.ofStop)) (fun h5=>TrOk.ofStop)) (fun h4=>TrOk.ofStop)) (fun h3=>TrOk.ofStop)) (fun h2=>TrOk.ofStop)) (fun h1=>TrOk.ofStop)) (fun h0=>TrOk.ofFin (BodyRuns.of (e93_0_5 x3 x4 x5 b1_0 b1_1 b1_2 b1_3 b2_0 b4_0 b4_1) (ac (sc47_0) (ac h0 All.nil))))
theorem ok93_0:LoopOk Go.Proofs.Tryz.prog 93 0 (lc93_0 Go.Proofs.Tryz.prog):=loopOk_ofB (sh:=(sh93_0 Go.Proofs.Tryz.prog)) (shB:=(shb93_0 Go.Proofs.Tryz.prog)) (shR:=(shr93_0 Go.Proofs.Tryz.prog)) kf74_ok.base (T:=fun (d:dt93_0)=>t93_0 d.1.1 d.1.2.1 d.1.2.2.1 d.2.2.1.1 d.2.2.1.2.1 d.2.2.1.2.2.1 d.2.2.1.2.2.2.1 d.2.2.2.1.1 d.2.2.2.2.1.1 d.2.2.2.2.1.2.1) (by kernel_rfl) rfl (fun (d:dt93_0)=>ok93_0_t d.1.1 d.1.2.1 d.1.2.2.1 d.2.2.1.1 d.2.2.1.2.1 d.2.2.1.2.2.1 d.2.2.1.2.2.2.1 d.2.2.2.1.1 d.2.2.2.2.1.1 d.2.2.2.2.1.2.1) (fun _=>rfl)
def kl93_0 (P:Go.Program):Known:=(kf74 P).loop 93 0 (lc93_0 P)
theorem kl93_0_ok:KnownOk Go.Proofs.Tryz.prog (kl93_0 Go.Proofs.Tryz.prog):=kf74_ok.loop ok93_0
theorem sc47_1:sameRf Go.Proofs.Tryz.prog 47 1 = true:=sameRf_ok (by kernel_rfl)
abbrev sh87_0_1 (P:Go.Program):Sh:={ n:=22,slots:=[0,3,6,7,8],pats:=[.yld 0,.ty (.int .i64),.ty (.slice (.int .i64)),.ty (.int .i64),.ty (.int .i64)],boxes:=[.lp (lpOf P 47 1 .ready none 59 [2,4,5,6] 1) [.ptr 2 4 0,.ptr 3 4 0,.ptr 4 1 0,.ptr 5 3 0],.dfr,.row [.ty (.slice (.pair (.int .i64) (.pair (.int .i64) (.pair (.slice (.pair (.int .i64) (.pair (.int .i64) (.pair .bool .unit)))) .unit)))),.ty (.slice (.int .i64)),.ty (.slice (.int .i64)),.ty (.slice (.pair (.int .i64) (.pair (.slice (.pair (.int .i64) (.pair .bool .unit))) .unit)))],.row [.nil,.nil,.nil,.nil],.row [.ty (.int .i64)],.row [.acc (.int .i64),.ty (.slice (.int .i64)),.acc (.pair (.int .i64) (.pair (.slice (.pair (.int .i64) (.pair .bool .unit))) .unit))]] }
abbrev shb87_0_1 (P:Go.Program):Sh:={ n:=22,slots:=[],pats:=[],boxes:=[.lp (lpOf P 47 1 .ready none 59 [2,4,5,6] 1) [.ptr 2 4 0,.ptr 3 4 0,.ptr 4 1 0,.ptr 5 3 0],.dfr,.row [.ty (.slice (.pair (.int .i64) (.pair (.int .i64) (.pair (.slice (.pair (.int .i64) (.pair (.int .i64) (.pair .bool .unit)))) .unit)))),.ty (.slice (.int .i64)),.ty (.slice (.int .i64)),.ty (.slice (.pair (.int .i64) (.pair (.slice (.pair (.int .i64) (.pair .bool .unit))) .unit)))],.row [.nil,.nil,.nil,.nil],.row [.ty (.int .i64)],.row [.acc (.int .i64),.ty (.slice (.int .i64)),.acc (.pair (.int .i64) (.pair (.slice (.pair (.int .i64) (.pair .bool .unit))) .unit))]] }
abbrev shr87_0_1 (P:Go.Program):Sh:={ n:=22,slots:=[],pats:=[],boxes:=[.lp (lpOf P 47 1 .done (some none) 59 [2,4,5,6] 1) [.ptr 2 4 0,.ptr 3 4 0,.ptr 4 1 0,.ptr 5 3 0],.dfr,.row [.ty (.slice (.pair (.int .i64) (.pair (.int .i64) (.pair (.slice (.pair (.int .i64) (.pair (.int .i64) (.pair .bool .unit)))) .unit)))),.ty (.slice (.int .i64)),.ty (.slice (.int .i64)),.ty (.slice (.pair (.int .i64) (.pair (.slice (.pair (.int .i64) (.pair .bool .unit))) .unit)))],.row [.nil,.nil,.nil,.nil],.row [.ty (.int .i64)],.row [.acc (.int .i64),.ty (.slice (.int .i64)),.acc (.pair (.int .i64) (.pair (.slice (.pair (.int .i64) (.pair .bool .unit))) .unit))]] }
abbrev dt87_0_1:Type:=(Int×List Int×Int×Int×PUnit)×PUnit×(List (Int×Int×List (Int×Int×Bool×PUnit)×PUnit)×List Int×List Int×List (Int×List (Int×Bool×PUnit)×PUnit)×PUnit)×PUnit×(Int×PUnit)×(List Int×List Int×List (Int×List (Int×Bool×PUnit)×PUnit)×PUnit)×PUnit
abbrev db87_0_1:Type:=PUnit×PUnit×(List (Int×Int×List (Int×Int×Bool×PUnit)×PUnit)×List Int×List Int×List (Int×List (Int×Bool×PUnit)×PUnit)×PUnit)×PUnit×(Int×PUnit)×(List Int×List Int×List (Int×List (Int×Bool×PUnit)×PUnit)×PUnit)×PUnit
abbrev dr87_0_1:Type:=PUnit×PUnit×(List (Int×Int×List (Int×Int×Bool×PUnit)×PUnit)×List Int×List Int×List (Int×List (Int×Bool×PUnit)×PUnit)×PUnit)×PUnit×(Int×PUnit)×(List Int×List Int×List (Int×List (Int×Bool×PUnit)×PUnit)×PUnit)×PUnit
def t87_0_1 (x1:Int) (x2:(List Int)) (x3:Int) (x4:Int) (b2_0:(List (Int×(Int×((List (Int×(Int×(Bool×Unit))))×Unit))))) (b2_1:(List Int)) (b2_2:(List Int)) (b2_3:(List (Int×((List (Int×(Bool×Unit)))×Unit)))) (b4_0:Int) (b5_0:(List Int)) (b5_1:(List Int)) (b5_2:(List (Int×((List (Int×(Bool×Unit)))×Unit)))):Tr (Out dt87_0_1 db87_0_1 dr87_0_1) :=
  Tr.test ((!leF x3 x4:Bool))
    (Tr.test (decide ((0:Int) ≤ x4) && decide (x4 < (↑(List.length x2):Int)))
      (Tr.test ((decide ((0:Int) ≤ x4) && decide (x4 < (↑(List.length b2_0):Int)):Bool))
        (Tr.test (Option.isSome (f44 (((List.getD b2_0 (Int.toNat x4) ((0:Int),(0:Int),[],())).2.1:Int),(([wrap64 (List.getD x2 (Int.toNat x4) (0:Int) - x1)]:List Int),()))))
          (let r0:=g44 (((List.getD b2_0 (Int.toNat x4) ((0:Int),(0:Int),[],())).2.1:Int),(([wrap64 (List.getD x2 (Int.toNat x4) (0:Int) - x1)]:List Int),()));
          Tr.test (r0.1)
            (Tr.fin (.ret ((),((),((b2_0,(b2_1,(b2_2,(b2_3,())))),((),((x4,()),((b5_0,(b5_1,(b5_2,()))),()))))))))
            (Tr.test (Option.isSome (f92 ((((b2_0,()),()),((b2_1,(b2_2,(b2_3,()))),())),(x4,()))))
              (let r1:=g92 ((((b2_0,()),()),((b2_1,(b2_2,(b2_3,()))),())),(x4,()));
              Tr.test (Option.isSome (f74 ((r1.1.1,((r1.1.2.1.1,(r1.1.2.1.2.1,())),())),((wrap64 (List.getD x2 (Int.toNat x4) (0:Int) - x1):Int),()))))
                (Tr.test ((Nat.ble (((2:Nat) * (List.length b5_2 + (1:Nat)) + (192:Nat)) * (32:Nat)) (281474976710656:Nat) && Nat.ble (List.length b5_2 + (1:Nat)) (281474976710656:Nat):Bool))
                  (let r2:=g74 ((r1.1.1,((r1.1.2.1.1,(r1.1.2.1.2.1,())),())),((wrap64 (List.getD x2 (Int.toNat x4) (0:Int) - x1):Int),()));
                  Tr.fin (.again (((List.getD x2 (Int.toNat x4) (0:Int):Int),(x2,(x3,((wrap64 (x4 + (1:Int)):Int),())))),((),((b2_0,(b2_1,(b2_2,(b2_3,())))),((),((b4_0,()),((b5_0,(b5_1,((b5_2++[(r2.1.2.1.1,r2.1.2.1.2.1,())]:List (Int×List (Int×Bool×PUnit)×PUnit)),()))),()))))))))
                  (Tr.stop))
                (Tr.stop))
              (Tr.stop)))
          (Tr.stop))
        (Tr.stop))
      (Tr.stop))
    (Tr.fin (.brk ((),((),((b2_0,(b2_1,(b2_2,(b2_3,())))),((),((b4_0,()),((b5_0,(b5_1,(b5_2,()))),()))))))))
def s87_0_1 (d:dt87_0_1):Option (Out dt87_0_1 db87_0_1 dr87_0_1):=(t87_0_1 d.1.1 d.1.2.1 d.1.2.2.1 d.1.2.2.2.1 d.2.2.1.1 d.2.2.1.2.1 d.2.2.1.2.2.1 d.2.2.1.2.2.2.1 d.2.2.2.2.1.1 d.2.2.2.2.2.1.1 d.2.2.2.2.2.1.2.1 d.2.2.2.2.2.1.2.2.1).val
def l87_0_1 (d:dt87_0_1):Option (db87_0_1 ⊕ dr87_0_1):=itr s87_0_1 rounds d
def b87_0_1 (d:dt87_0_1):db87_0_1:=outB (((),((),((([]:List (Int×Int×List (Int×Int×Bool×PUnit)×PUnit)),(([]:List Int),(([]:List Int),(([]:List (Int×List (Int×Bool×PUnit)×PUnit)),())))),((),(((0:Int),()),((([]:List Int),(([]:List Int),(([]:List (Int×List (Int×Bool×PUnit)×PUnit)),()))),()))))))) (l87_0_1 d)
def r87_0_1 (d:dt87_0_1):dr87_0_1:=outR (((),((),((([]:List (Int×Int×List (Int×Int×Bool×PUnit)×PUnit)),(([]:List Int),(([]:List Int),(([]:List (Int×List (Int×Bool×PUnit)×PUnit)),())))),((),(((0:Int),()),((([]:List Int),(([]:List Int),(([]:List (Int×List (Int×Bool×PUnit)×PUnit)),()))),()))))))) (l87_0_1 d)
def lc87_0_1 (P:Go.Program):LoopC:=lcOf (sh87_0_1 P) (shb87_0_1 P) (shr87_0_1 P) l87_0_1 b87_0_1 r87_0_1
theorem e87_0_1_0 (x1:Int) (x2:(List Int)) (x3:Int) (x4:Int) (b2_0:(List (Int×(Int×((List (Int×(Int×(Bool×Unit))))×Unit))))) (b2_1:(List Int)) (b2_2:(List Int)) (b2_3:(List (Int×((List (Int×(Bool×Unit)))×Unit)))) (b4_0:Int) (b5_0:(List Int)) (b5_1:(List Int)) (b5_2:(List (Int×((List (Int×(Bool×Unit)))×Unit)))):runBody (kl93_0 Go.Proofs.Tryz.prog).orc Go.Proofs.Tryz.prog 400 87 0 (sh87_0_1 Go.Proofs.Tryz.prog) (shb87_0_1 Go.Proofs.Tryz.prog) (shr87_0_1 Go.Proofs.Tryz.prog) ((x1,x2,x3,x4,()),(),(b2_0,b2_1,b2_2,b2_3,()),(),(b4_0,()),(b5_0,b5_1,b5_2,()),()) [tt,tt,tt,tt,tt,tt] =
    (let r0:=g44 (((List.getD b2_0 (Int.toNat x4) ((0:Int),(0:Int),[],())).2.1:Int),(([wrap64 (List.getD x2 (Int.toNat x4) (0:Int) - x1)]:List Int),())); some (.ret ((),((),((b2_0,(b2_1,(b2_2,(b2_3,())))),((),((x4,()),((b5_0,(b5_1,(b5_2,()))),())))))),[(sameRf Go.Proofs.Tryz.prog (nat_lit 47) (nat_lit 1),true),(true,true),(r0.1,true),(Option.isSome (f44 (((List.getD b2_0 (Int.toNat x4) ((0:Int),(0:Int),[],())).2.1:Int),(([wrap64 (List.getD x2 (Int.toNat x4) (0:Int) - x1)]:List Int),()))),true),(decide ((0:Int) ≤ x4) && decide (x4 < (↑(List.length b2_0):Int)),true),(decide ((0:Int) ≤ x4) && decide (x4 < (↑(List.length x2):Int)),true),(!leF x3 x4,true)])):=by kernel_rfl
theorem e87_0_1_1 (x1:Int) (x2:(List Int)) (x3:Int) (x4:Int) (b2_0:(List (Int×(Int×((List (Int×(Int×(Bool×Unit))))×Unit))))) (b2_1:(List Int)) (b2_2:(List Int)) (b2_3:(List (Int×((List (Int×(Bool×Unit)))×Unit)))) (b4_0:Int) (b5_0:(List Int)) (b5_1:(List Int)) (b5_2:(List (Int×((List (Int×(Bool×Unit)))×Unit)))):runBody (kl93_0 Go.Proofs.Tryz.prog).orc Go.Proofs.Tryz.prog 400 87 0 (sh87_0_1 Go.Proofs.Tryz.prog) (shb87_0_1 Go.Proofs.Tryz.prog) (shr87_0_1 Go.Proofs.Tryz.prog) ((x1,x2,x3,x4,()),(),(b2_0,b2_1,b2_2,b2_3,()),(),(b4_0,()),(b5_0,b5_1,b5_2,()),()) [tt,tt,tt,tt,ff,tt,tt,tt,ff] =
    (let r0:=g44 (((List.getD b2_0 (Int.toNat x4) ((0:Int),(0:Int),[],())).2.1:Int),(([wrap64 (List.getD x2 (Int.toNat x4) (0:Int) - x1)]:List Int),()));let r1:=g92 ((((b2_0,()),()),((b2_1,(b2_2,(b2_3,()))),())),(x4,()));let r2:=g74 ((r1.1.1,((r1.1.2.1.1,(r1.1.2.1.2.1,())),())),((wrap64 (List.getD x2 (Int.toNat x4) (0:Int) - x1):Int),())); some (.again (((List.getD x2 (Int.toNat x4) (0:Int):Int),(x2,(x3,((wrap64 (x4 + (1:Int)):Int),())))),((),((b2_0,(b2_1,(b2_2,(b2_3,())))),((),((b4_0,()),((b5_0,(b5_1,((b5_2++[(r2.1.2.1.1,r2.1.2.1.2.1,())]:List (Int×List (Int×Bool×PUnit)×PUnit)),()))),())))))),[(sameRf Go.Proofs.Tryz.prog (nat_lit 47) (nat_lit 1),true),(false,false),(Nat.ble (((2:Nat) * (List.length b5_2 + (1:Nat)) + (192:Nat)) * (32:Nat)) (281474976710656:Nat) && Nat.ble (List.length b5_2 + (1:Nat)) (281474976710656:Nat),true),(Option.isSome (f74 ((r1.1.1,((r1.1.2.1.1,(r1.1.2.1.2.1,())),())),((wrap64 (List.getD x2 (Int.toNat x4) (0:Int) - x1):Int),()))),true),(Option.isSome (f92 ((((b2_0,()),()),((b2_1,(b2_2,(b2_3,()))),())),(x4,()))),true),(r0.1,false),(Option.isSome (f44 (((List.getD b2_0 (Int.toNat x4) ((0:Int),(0:Int),[],())).2.1:Int),(([wrap64 (List.getD x2 (Int.toNat x4) (0:Int) - x1)]:List Int),()))),true),(decide ((0:Int) ≤ x4) && decide (x4 < (↑(List.length b2_0):Int)),true),(decide ((0:Int) ≤ x4) && decide (x4 < (↑(List.length x2):Int)),true),(!leF x3 x4,true)])):=by kernel_rfl
theorem e87_0_1_5 (x1:Int) (x2:(List Int)) (x3:Int) (x4:Int) (b2_0:(List (Int×(Int×((List (Int×(Int×(Bool×Unit))))×Unit))))) (b2_1:(List Int)) (b2_2:(List Int)) (b2_3:(List (Int×((List (Int×(Bool×Unit)))×Unit)))) (b4_0:Int) (b5_0:(List Int)) (b5_1:(List Int)) (b5_2:(List (Int×((List (Int×(Bool×Unit)))×Unit)))):runBody (kl93_0 Go.Proofs.Tryz.prog).orc Go.Proofs.Tryz.prog 400 87 0 (sh87_0_1 Go.Proofs.Tryz.prog) (shb87_0_1 Go.Proofs.Tryz.prog) (shr87_0_1 Go.Proofs.Tryz.prog) ((x1,x2,x3,x4,()),(),(b2_0,b2_1,b2_2,b2_3,()),(),(b4_0,()),(b5_0,b5_1,b5_2,()),()) [ff] =
    (some (.brk ((),((),((b2_0,(b2_1,(b2_2,(b2_3,())))),((),((b4_0,()),((b5_0,(b5_1,(b5_2,()))),())))))),[(sameRf Go.Proofs.Tryz.prog (nat_lit 47) (nat_lit 1),true),(!leF x3 x4,false)])):=by kernel_rfl
theorem ok87_0_1_t (x1:Int) (x2:(List Int)) (x3:Int) (x4:Int) (b2_0:(List (Int×(Int×((List (Int×(Int×(Bool×Unit))))×Unit))))) (b2_1:(List Int)) (b2_2:(List Int)) (b2_3:(List (Int×((List (Int×(Bool×Unit)))×Unit)))) (b4_0:Int) (b5_0:(List Int)) (b5_1:(List Int)) (b5_2:(List (Int×((List (Int×(Bool×Unit)))×Unit)))):TrOk (BodyRuns Go.Proofs.Tryz.prog (kl93_0 Go.Proofs.Tryz.prog).orc 87 0 (sh87_0_1 Go.Proofs.Tryz.prog) (shb87_0_1 Go.Proofs.Tryz.prog) (shr87_0_1 Go.Proofs.Tryz.prog) ((x1,x2,x3,x4,()),(),(b2_0,b2_1,b2_2,b2_3,()),(),(b4_0,()),(b5_0,b5_1,b5_2,()),())) (t87_0_1 x1 x2 x3 x4 b2_0 b2_1 b2_2 b2_3 b4_0 b5_0 b5_1 b5_2) :=
  TrOk.ofTest (fun h0=>TrOk.ofTest (fun h1=>TrOk.ofTest (fun h2=>TrOk.ofTest (fun h3=>TrOk.ofTest (fun h4=>TrOk.ofFin (BodyRuns.of (e87_0_1_0 x1 x2 x3 x4 b2_0 b2_1 b2_2 b2_3 b4_0 b5_0 b5_1 b5_2) (ac (sc47_1) (ac rfl (ac h4 (ac h3 (ac h2 (ac h1 (ac h0 All.nil))))))))) (fun h4=>TrOk.ofTest (fun h5=>TrOk.ofTest (fun h6=>TrOk.ofTest (fun h7=>TrOk.ofFin (BodyRuns.of (e87_0_1_1 x1 x2 x3 x4 b2_0 b2_1 b2_2 b2_3 b4_0 b5_0 b5_1 b5_2) (ac (sc47_1) (ac rfl (ac h7 (ac h6 (ac h5 (ac h4 (ac h3 (ac h2 (ac h1 (ac h0 All.nil)))))))))))) (fun h7=>TrOk.ofStop)) (fun h6=>TrOk.ofStop)) (fun h5=>TrOk.ofStop))) (fun h3=>TrOk.ofStop)) (fun h2=>TrOk.ofStop)) (fun h1=>TrOk.ofStop)) (fun h0=>TrOk.ofFin (BodyRuns.of (e87_0_1_5 x1 x2 x3 x4 b2_0 b2_1 b2_2 b2_3 b4_0 b5_0 b5_1 b5_2) (ac (sc47_1) (ac h0 All.nil))))
theorem ok87_0_1:LoopOk Go.Proofs.Tryz.prog 87 0 (lc87_0_1 Go.Proofs.Tryz.prog):=loopOk_of (sh:=(sh87_0_1 Go.Proofs.Tryz.prog)) (shB:=(shb87_0_1 Go.Proofs.Tryz.prog)) (shR:=(shr87_0_1 Go.Proofs.Tryz.prog)) kl93_0_ok.base (T:=fun (d:dt87_0_1)=>t87_0_1 d.1.1 d.1.2.1 d.1.2.2.1 d.1.2.2.2.1 d.2.2.1.1 d.2.2.1.2.1 d.2.2.1.2.2.1 d.2.2.1.2.2.2.1 d.2.2.2.2.1.1 d.2.2.2.2.2.1.1 d.2.2.2.2.2.1.2.1 d.2.2.2.2.2.1.2.2.1) (by kernel_rfl) rfl (fun (d:dt87_0_1)=>ok87_0_1_t d.1.1 d.1.2.1 d.1.2.2.1 d.1.2.2.2.1 d.2.2.1.1 d.2.2.1.2.1 d.2.2.1.2.2.1 d.2.2.1.2.2.2.1 d.2.2.2.2.1.1 d.2.2.2.2.2.1.1 d.2.2.2.2.2.1.2.1 d.2.2.2.2.2.1.2.2.1) (fun _=>rfl)
def kl87_0_1 (P:Go.Program):Known:=(kl93_0 P).loop 87 0 (lc87_0_1 P)
theorem kl87_0_1_ok:KnownOk Go.Proofs.Tryz.prog (kl87_0_1 Go.Proofs.Tryz.prog):=kl93_0_ok.loop ok87_0_1
abbrev as47:List Ty:=[(.pair (.pair (.pair (.slice (.pair (.int .i64) (.pair (.int .i64) (.pair (.slice (.pair (.int .i64) (.pair (.int .i64) (.pair .bool .unit)))) .unit)))) .unit) .unit) (.pair (.pair (.slice (.int .i64)) (.pair (.slice (.int .i64)) (.pair (.slice (.pair (.int .i64) (.pair (.slice (.pair (.int .i64) (.pair .bool .unit))) .unit))) .unit))) .unit)),(.int .i64)]
abbrev rs47:List Ty:=[(.pair (.pair (.pair (.slice (.pair (.int .i64) (.pair (.int .i64) (.pair (.slice (.pair (.int .i64) (.pair (.int .i64) (.pair .bool .unit)))) .unit)))) .unit) .unit) (.pair (.pair (.slice (.int .i64)) (.pair (.slice (.int .i64)) (.pair (.slice (.pair (.int .i64) (.pair (.slice (.pair (.int .i64) (.pair .bool .unit))) .unit))) .unit))) .unit)),(.int .i64)]
def t47 (x0__:(List (Int×(Int×((List (Int×(Int×(Bool×Unit))))×Unit))))) (x0'_:(List Int)) (x0'_':(List Int)) (x0'_'':(List (Int×((List (Int×(Bool×Unit)))×Unit)))) (x1:Int):Tr (Tys.data rs47) :=
  Tr.test (Option.isSome (f91 (x0'_,())))
    (let r0:=g91 (x0'_,());
    Tr.test (isBrk (l93_0 ((x0__,((↑(List.length x0__):Int),((0:Int),()))),((),((x0__,(x0'_,(x0'_',(x0'_'',())))),((x1,()),((([]:List Int),(r0.1,())),())))))))
      (let r1:=b93_0 ((x0__,((↑(List.length x0__):Int),((0:Int),()))),((),((x0__,(x0'_,(x0'_',(x0'_'',())))),((x1,()),((([]:List Int),(r0.1,())),())))));
      Tr.test (Option.isSome (l87_0_1 (((0:Int),(r1.2.2.2.2.1.1,((↑(List.length r1.2.2.2.2.1.1):Int),((0:Int),())))),((),((x0__,(x0'_,(x0'_',(x0'_'',())))),((),(((0:Int),()),((r1.2.2.2.2.1.1,(r1.2.2.2.2.1.2.1,(([]:List (Int×List (Int×Bool×PUnit)×PUnit)),()))),()))))))))
        (Tr.test (isRet (l87_0_1 (((0:Int),(r1.2.2.2.2.1.1,((↑(List.length r1.2.2.2.2.1.1):Int),((0:Int),())))),((),((x0__,(x0'_,(x0'_',(x0'_'',())))),((),(((0:Int),()),((r1.2.2.2.2.1.1,(r1.2.2.2.2.1.2.1,(([]:List (Int×List (Int×Bool×PUnit)×PUnit)),()))),()))))))))
          (let r2:=r87_0_1 (((0:Int),(r1.2.2.2.2.1.1,((↑(List.length r1.2.2.2.2.1.1):Int),((0:Int),())))),((),((x0__,(x0'_,(x0'_',(x0'_'',())))),((),(((0:Int),()),((r1.2.2.2.2.1.1,(r1.2.2.2.2.1.2.1,(([]:List (Int×List (Int×Bool×PUnit)×PUnit)),()))),()))))));
          Tr.fin (((((([]:List (Int×Int×List (Int×Int×Bool×PUnit)×PUnit)),()),()),((([]:List Int),(([]:List Int),(([]:List (Int×List (Int×Bool×PUnit)×PUnit)),()))),())),(r2.2.2.2.2.1.1,()))))
          (let r3:=b87_0_1 (((0:Int),(r1.2.2.2.2.1.1,((↑(List.length r1.2.2.2.2.1.1):Int),((0:Int),())))),((),((x0__,(x0'_,(x0'_',(x0'_'',())))),((),(((0:Int),()),((r1.2.2.2.2.1.1,(r1.2.2.2.2.1.2.1,(([]:List (Int×List (Int×Bool×PUnit)×PUnit)),()))),()))))));
          Tr.fin ((((((r3.2.2.1.1:List (Int×Int×List (Int×Int×Bool×PUnit)×PUnit)),()),()),((r3.2.2.2.2.2.1.1,(r3.2.2.2.2.2.1.2.1,((r3.2.2.2.2.2.1.2.2.1:List (Int×List (Int×Bool×PUnit)×PUnit)),()))),())),((-1:Int),())))))
        (Tr.stop))
      (Tr.stop))
    (Tr.stop)
def f47 (d:Tys.data as47):Option (Tys.data rs47):=(t47 d.1.1.1.1 d.1.2.1.1 d.1.2.1.2.1 d.1.2.1.2.2.1 d.2.1).val
def g47 (d:Tys.data as47):Tys.data rs47:=(f47 d).getD (Tys.dflt rs47)
def p47:PureC:=pcOf as47 rs47 f47 g47
theorem e47_0 (x0__:(List (Int×(Int×((List (Int×(Int×(Bool×Unit))))×Unit))))) (x0'_:(List Int)) (x0'_':(List Int)) (x0'_'':(List (Int×((List (Int×(Bool×Unit)))×Unit)))) (x1:Int):runPure (kl87_0_1 Go.Proofs.Tryz.prog).orc Go.Proofs.Tryz.prog 400 47 as47 rs47 ((((x0__,()),()),(x0'_,x0'_',x0'_'',()),()),x1,()) [tt,tt,tt,tt,tt,tt,tt] =
    (let r0:=g91 (x0'_,());let r1:=b93_0 ((x0__,((↑(List.length x0__):Int),((0:Int),()))),((),((x0__,(x0'_,(x0'_',(x0'_'',())))),((x1,()),((([]:List Int),(r0.1,())),())))));let r2:=r87_0_1 (((0:Int),(r1.2.2.2.2.1.1,((↑(List.length r1.2.2.2.2.1.1):Int),((0:Int),())))),((),((x0__,(x0'_,(x0'_',(x0'_'',())))),((),(((0:Int),()),((r1.2.2.2.2.1.1,(r1.2.2.2.2.1.2.1,(([]:List (Int×List (Int×Bool×PUnit)×PUnit)),()))),())))))); some (((((([]:List (Int×Int×List (Int×Int×Bool×PUnit)×PUnit)),()),()),((([]:List Int),(([]:List Int),(([]:List (Int×List (Int×Bool×PUnit)×PUnit)),()))),())),(r2.2.2.2.2.1.1,())),[(isRet (l87_0_1 (((0:Int),(r1.2.2.2.2.1.1,((↑(List.length r1.2.2.2.2.1.1):Int),((0:Int),())))),((),((x0__,(x0'_,(x0'_',(x0'_'',())))),((),(((0:Int),()),((r1.2.2.2.2.1.1,(r1.2.2.2.2.1.2.1,(([]:List (Int×List (Int×Bool×PUnit)×PUnit)),()))),()))))))),true),(Option.isSome (l87_0_1 (((0:Int),(r1.2.2.2.2.1.1,((↑(List.length r1.2.2.2.2.1.1):Int),((0:Int),())))),((),((x0__,(x0'_,(x0'_',(x0'_'',())))),((),(((0:Int),()),((r1.2.2.2.2.1.1,(r1.2.2.2.2.1.2.1,(([]:List (Int×List (Int×Bool×PUnit)×PUnit)),()))),()))))))),true),(sameRf Go.Proofs.Tryz.prog (nat_lit 47) (nat_lit 1),true),(true,true),(isBrk (l93_0 ((x0__,((↑(List.length x0__):Int),((0:Int),()))),((),((x0__,(x0'_,(x0'_',(x0'_'',())))),((x1,()),((([]:List Int),(r0.1,())),())))))),true),(sameRf Go.Proofs.Tryz.prog (nat_lit 47) (nat_lit 0),true),(Option.isSome (f91 (x0'_,())),true)])):=by kernel_rfl
theorem e47_1 (x0__:(List (Int×(Int×((List (Int×(Int×(Bool×Unit))))×Unit))))) (x0'_:(List Int)) (x0'_':(List Int)) (x0'_'':(List (Int×((List (Int×(Bool×Unit)))×Unit)))) (x1:Int):runPure (kl87_0_1 Go.Proofs.Tryz.prog).orc Go.Proofs.Tryz.prog 400 47 as47 rs47 ((((x0__,()),()),(x0'_,x0'_',x0'_'',()),()),x1,()) [tt,tt,tt,tt,tt,tt,ff] =
    (let r0:=g91 (x0'_,());let r1:=b93_0 ((x0__,((↑(List.length x0__):Int),((0:Int),()))),((),((x0__,(x0'_,(x0'_',(x0'_'',())))),((x1,()),((([]:List Int),(r0.1,())),())))));let r3:=b87_0_1 (((0:Int),(r1.2.2.2.2.1.1,((↑(List.length r1.2.2.2.2.1.1):Int),((0:Int),())))),((),((x0__,(x0'_,(x0'_',(x0'_'',())))),((),(((0:Int),()),((r1.2.2.2.2.1.1,(r1.2.2.2.2.1.2.1,(([]:List (Int×List (Int×Bool×PUnit)×PUnit)),()))),())))))); some ((((((r3.2.2.1.1:List (Int×Int×List (Int×Int×Bool×PUnit)×PUnit)),()),()),((r3.2.2.2.2.2.1.1,(r3.2.2.2.2.2.1.2.1,((r3.2.2.2.2.2.1.2.2.1:List (Int×List (Int×Bool×PUnit)×PUnit)),()))),())),((-1:Int),())),[(isRet (l87_0_1 (((0:Int),(r1.2.2.2.2.1.1,((↑(List.length r1.2.2.2.2.1.1):Int),((0:Int),())))),((),((x0__,(x0'_,(x0'_',(x0'_'',())))),((),(((0:Int),()),((r1.2.2.2.2.1.1,(r1.2.2.2.2.1.2.1,(([]:List (Int×List (Int×Bool×PUnit)×PUnit)),()))),()))))))),false),(Option.isSome (l87_0_1 (((0:Int),(r1.2.2.2.2.1.1,((↑(List.length r1.2.2.2.2.1.1):Int),((0:Int),())))),((),((x0__,(x0'_,(x0'_',(x0'_'',())))),((),(((0:Int),()),((r1.2.2.2.2.1.1,(r1.2.2.2.2.1.2.1,(([]:List (Int×List (Int×Bool×PUnit)×PUnit)),()))),()))))))),true),(sameRf Go.Proofs.Tryz.prog (nat_lit 47) (nat_lit 1),true),(true,true),(isBrk (l93_0 ((x0__,((↑(List.length x0__):Int),((0:Int),()))),((),((x0__,(x0'_,(x0'_',(x0'_'',())))),((x1,()),((([]:List Int),(r0.1,())),())))))),true),(sameRf Go.Proofs.Tryz.prog (nat_lit 47) (nat_lit 0),true),(Option.isSome (f91 (x0'_,())),true)])):=by kernel_rfl
theorem ok47_t (x0__:(List (Int×(Int×((List (Int×(Int×(Bool×Unit))))×Unit))))) (x0'_:(List Int)) (x0'_':(List Int)) (x0'_'':(List (Int×((List (Int×(Bool×Unit)))×Unit)))) (x1:Int):TrOk (PureRuns Go.Proofs.Tryz.prog (kl87_0_1 Go.Proofs.Tryz.prog).orc 47 as47 rs47 ((((x0__,()),()),(x0'_,x0'_',x0'_'',()),()),x1,())) (t47 x0__ x0'_ x0'_' x0'_'' x1) :=
  TrOk.ofTest (fun h0=>TrOk.ofTest (fun h2=>TrOk.ofTest (fun h5=>TrOk.ofTest (fun h6=>TrOk.ofFin (PureRuns.of (e47_0 x0__ x0'_ x0'_' x0'_'' x1) (ac h6 (ac h5 (ac (sc47_1) (ac rfl (ac h2 (ac (sc47_0) (ac h0 All.nil))))))))) (fun h6=>TrOk.ofFin (PureRuns.of (e47_1 x0__ x0'_ x0'_' x0'_'' x1) (ac h6 (ac h5 (ac (sc47_1) (ac rfl (ac h2 (ac (sc47_0) (ac h0 All.nil)))))))))) (fun h5=>TrOk.ofStop)) (fun h2=>TrOk.ofStop)) (fun h0=>TrOk.ofStop)
theorem ok47:PureOk Go.Proofs.Tryz.prog 47 p47:=pureOk_of kl87_0_1_ok.base (T:=fun (d:Tys.data as47)=>t47 d.1.1.1.1 d.1.2.1.1 d.1.2.1.2.1 d.1.2.1.2.2.1 d.2.1) (by kernel_rfl) (fun (d:Tys.data as47)=>ok47_t d.1.1.1.1 d.1.2.1.1 d.1.2.1.2.1 d.1.2.1.2.2.1 d.2.1)
def kf47 (P:Go.Program):Known:=(kl87_0_1 P).func 47 p47
theorem kf47_ok:KnownOk Go.Proofs.Tryz.prog (kf47 Go.Proofs.Tryz.prog):=kl87_0_1_ok.func ok47
abbrev as10:List Ty:=[(.pair (.slice (.pair (.int .i64) (.pair (.int .i64) (.pair (.slice (.pair (.int .i64) (.pair (.int .i64) (.pair .bool .unit)))) .unit)))) .unit),(.pair (.slice (.int .i64)) (.pair (.slice (.int .i64)) (.pair (.slice (.pair (.int .i64) (.pair (.slice (.pair (.int .i64) (.pair .bool .unit))) .unit))) .unit))),(.int .i64)]
abbrev rs10:List Ty:=[(.pair (.slice (.int .i64)) (.pair (.slice (.int .i64)) (.pair (.slice (.pair (.int .i64) (.pair (.slice (.pair (.int .i64) (.pair .bool .unit))) .unit))) .unit))),(.int .i64)]
def t10 (x0:(List (Int×(Int×((List (Int×(Int×(Bool×Unit))))×Unit))))) (x1:(List Int)) (x1':(List Int)) (x1'':(List (Int×((List (Int×(Bool×Unit)))×Unit)))) (x2:Int):Tr (Tys.data rs10) :=
  Tr.test (Option.isSome (f46 (x2,())))
    (let r0:=g46 (x2,());
    Tr.test (Option.isSome (f45 ((x0,()),((x1,(x1',(x1'',()))),(([r0.1]:List Int),())))))
      (let r1:=g45 ((x0,()),((x1,(x1',(x1'',()))),(([r0.1]:List Int),())));
      Tr.test ((!eqF r1.2.1 0:Bool))
        (Tr.fin (((([]:List Int),(([]:List Int),(([]:List (Int×List (Int×Bool×PUnit)×PUnit)),()))),(r1.2.1,()))))
        (Tr.test (Option.isSome (f47 (((((r1.1.1.1.1:List (Int×Int×List (Int×Int×Bool×PUnit)×PUnit)),()),()),((r1.1.2.1.1,(r1.1.2.1.2.1,((r1.1.2.1.2.2.1:List (Int×List (Int×Bool×PUnit)×PUnit)),()))),())),(x2,()))))
          (let r2:=g47 (((((r1.1.1.1.1:List (Int×Int×List (Int×Int×Bool×PUnit)×PUnit)),()),()),((r1.1.2.1.1,(r1.1.2.1.2.1,((r1.1.2.1.2.2.1:List (Int×List (Int×Bool×PUnit)×PUnit)),()))),())),(x2,()));
          Tr.test (Option.isSome (f43 ((!eqF r2.2.1 (-1):Bool),((22:Int),()))))
            (let r3:=g43 ((!eqF r2.2.1 (-1):Bool),((22:Int),()));
            Tr.fin (((r2.1.2.1.1,(r2.1.2.1.2.1,((r2.1.2.1.2.2.1:List (Int×List (Int×Bool×PUnit)×PUnit)),()))),(r3.1,()))))
            (Tr.stop))
          (Tr.stop)))
      (Tr.stop))
    (Tr.stop)
def f10 (d:Tys.data as10):Option (Tys.data rs10):=(t10 d.1.1 d.2.1.1 d.2.1.2.1 d.2.1.2.2.1 d.2.2.1).val
def g10 (d:Tys.data as10):Tys.data rs10:=(f10 d).getD (Tys.dflt rs10)
def p10:PureC:=pcOf as10 rs10 f10 g10
theorem wk10 (x0:(List (Int×(Int×((List (Int×(Int×(Bool×Unit))))×Unit))))) (x1:(List Int)) (x1':(List Int)) (x1'':(List (Int×((List (Int×(Bool×Unit)))×Unit)))) (x2:Int):Walks (runPure (kf47 Go.Proofs.Tryz.prog).orc Go.Proofs.Tryz.prog 400 10 as10 rs10 ((x0,()),(x1,x1',x1'',()),x2,())) (t10 x0 x1 x1' x1'' x2) [(bl 3 7,[2,4,6]),(bl 5 27,[2,4,6,8,10])] :=
  ⟨by kernel_rfl,by kernel_rfl,trivial⟩
theorem ok10_t (x0:(List (Int×(Int×((List (Int×(Int×(Bool×Unit))))×Unit))))) (x1:(List Int)) (x1':(List Int)) (x1'':(List (Int×((List (Int×(Bool×Unit)))×Unit)))) (x2:Int):TrOk (PureRuns Go.Proofs.Tryz.prog (kf47 Go.Proofs.Tryz.prog).orc 10 as10 rs10 ((x0,()),(x1,x1',x1'',()),x2,())) (t10 x0 x1 x1' x1'' x2) :=
  Walks.ok (fun _ _ _=>PureRuns.of) (wk10 x0 x1 x1' x1'' x2) (by kernel_rfl)
theorem ok10:PureOk Go.Proofs.Tryz.prog 10 p10:=pureOk_of kf47_ok.base (T:=fun (d:Tys.data as10)=>t10 d.1.1 d.2.1.1 d.2.1.2.1 d.2.1.2.2.1 d.2.2.1) (by kernel_rfl) (fun (d:Tys.data as10)=>ok10_t d.1.1 d.2.1.1 d.2.1.2.1 d.2.1.2.2.1 d.2.2.1)
def kf10 (P:Go.Program):Known:=(kf47 P).func 10 p10
theorem kf10_ok:KnownOk Go.Proofs.Tryz.prog (kf10 Go.Proofs.Tryz.prog):=kf47_ok.func ok10
abbrev as50:List Ty:=[(.pair (.int .i64) (.pair (.int .i64) (.pair (.int .i64) (.pair (.int .i64) (.pair (.int .i64) (.pair (.int .i64) (.pair (.int .i64) .unit)))))))]
abbrev rs50:List Ty:=[(.int .i64)]
def t50 (x0:Int) (x0':Int) (x0'':Int) (x0''':Int) (x0'''':Int) (x0''''':Int) (x0'''''':Int):Tr (Tys.data rs50) :=
  Tr.fin (((wrap64 (x0 * wrap64 (wrap64 (wrap64 (x0'''''' - x0''''') * wrap64 (x0'''''' - x0''''')) - wrap64 (wrap64 (x0''''' - x0'''') * wrap64 (x0''''' - x0'''')))):Int),()))
def f50 (d:Tys.data as50):Option (Tys.data rs50):=(t50 d.1.1 d.1.2.1 d.1.2.2.1 d.1.2.2.2.1 d.1.2.2.2.2.1 d.1.2.2.2.2.2.1 d.1.2.2.2.2.2.2.1).val
def g50 (d:Tys.data as50):Tys.data rs50:=(f50 d).getD (Tys.dflt rs50)
def p50:PureC:=pcOf as50 rs50 f50 g50
theorem wk50 (x0:Int) (x0':Int) (x0'':Int) (x0''':Int) (x0'''':Int) (x0''''':Int) (x0'''''':Int):Walks (runPure (kf10 Go.Proofs.Tryz.prog).orc Go.Proofs.Tryz.prog 400 50 as50 rs50 ((x0,x0',x0'',x0''',x0'''',x0''''',x0'''''',()),())) (t50 x0 x0' x0'' x0''' x0'''' x0''''' x0'''''') [(bl 0 0,[1,1,1,1,1])] :=
  ⟨by kernel_rfl,trivial⟩
theorem ok50_t (x0:Int) (x0':Int) (x0'':Int) (x0''':Int) (x0'''':Int) (x0''''':Int) (x0'''''':Int):TrOk (PureRuns Go.Proofs.Tryz.prog (kf10 Go.Proofs.Tryz.prog).orc 50 as50 rs50 ((x0,x0',x0'',x0''',x0'''',x0''''',x0'''''',()),())) (t50 x0 x0' x0'' x0''' x0'''' x0''''' x0'''''') :=
  Walks.ok (fun _ _ _=>PureRuns.of) (wk50 x0 x0' x0'' x0''' x0'''' x0''''' x0'''''') (by kernel_rfl)
theorem ok50:PureOk Go.Proofs.Tryz.prog 50 p50:=pureOk_of kf10_ok.base (T:=fun (d:Tys.data as50)=>t50 d.1.1 d.1.2.1 d.1.2.2.1 d.1.2.2.2.1 d.1.2.2.2.2.1 d.1.2.2.2.2.2.1 d.1.2.2.2.2.2.2.1) (by kernel_rfl) (fun (d:Tys.data as50)=>ok50_t d.1.1 d.1.2.1 d.1.2.2.1 d.1.2.2.2.1 d.1.2.2.2.2.1 d.1.2.2.2.2.2.1 d.1.2.2.2.2.2.2.1)
def kf50 (P:Go.Program):Known:=(kf10 P).func 50 p50
theorem kf50_ok:KnownOk Go.Proofs.Tryz.prog (kf50 Go.Proofs.Tryz.prog):=kf10_ok.func ok50
abbrev as96:List Ty:=[(.pair (.int .i64) (.pair (.int .i64) (.pair (.int .i64) (.pair (.int .i64) (.pair (.int .i64) (.pair (.int .i64) (.pair (.int .i64) .unit)))))))]
abbrev rs96:List Ty:=[(.int .i64)]
def t96 (x0:Int) (x0':Int) (x0'':Int) (x0''':Int) (x0'''':Int) (x0''''':Int) (x0'''''':Int):Tr (Tys.data rs96) :=
  Tr.fin (((wrap64 (x0'''''' - x0''''):Int),()))
def f96 (d:Tys.data as96):Option (Tys.data rs96):=(t96 d.1.1 d.1.2.1 d.1.2.2.1 d.1.2.2.2.1 d.1.2.2.2.2.1 d.1.2.2.2.2.2.1 d.1.2.2.2.2.2.2.1).val
def g96 (d:Tys.data as96):Tys.data rs96:=(f96 d).getD (Tys.dflt rs96)
def p96:PureC:=pcOf as96 rs96 f96 g96
theorem wk96 (x0:Int) (x0':Int) (x0'':Int) (x0''':Int) (x0'''':Int) (x0''''':Int) (x0'''''':Int):Walks (runPure (kf50 Go.Proofs.Tryz.prog).orc Go.Proofs.Tryz.prog 400 96 as96 rs96 ((x0,x0',x0'',x0''',x0'''',x0''''',x0'''''',()),())) (t96 x0 x0' x0'' x0''' x0'''' x0''''' x0'''''') [(bl 0 0,[1,1])] :=
  ⟨by kernel_rfl,trivial⟩
theorem ok96_t (x0:Int) (x0':Int) (x0'':Int) (x0''':Int) (x0'''':Int) (x0''''':Int) (x0'''''':Int):TrOk (PureRuns Go.Proofs.Tryz.prog (kf50 Go.Proofs.Tryz.prog).orc 96 as96 rs96 ((x0,x0',x0'',x0''',x0'''',x0''''',x0'''''',()),())) (t96 x0 x0' x0'' x0''' x0'''' x0''''' x0'''''') :=
  Walks.ok (fun _ _ _=>PureRuns.of) (wk96 x0 x0' x0'' x0''' x0'''' x0''''' x0'''''') (by kernel_rfl)
theorem ok96:PureOk Go.Proofs.Tryz.prog 96 p96:=pureOk_of kf50_ok.base (T:=fun (d:Tys.data as96)=>t96 d.1.1 d.1.2.1 d.1.2.2.1 d.1.2.2.2.1 d.1.2.2.2.2.1 d.1.2.2.2.2.2.1 d.1.2.2.2.2.2.2.1) (by kernel_rfl) (fun (d:Tys.data as96)=>ok96_t d.1.1 d.1.2.1 d.1.2.2.1 d.1.2.2.2.1 d.1.2.2.2.2.1 d.1.2.2.2.2.2.1 d.1.2.2.2.2.2.2.1)
def kf96 (P:Go.Program):Known:=(kf50 P).func 96 p96
theorem kf96_ok:KnownOk Go.Proofs.Tryz.prog (kf96 Go.Proofs.Tryz.prog):=kf50_ok.func ok96
abbrev as51:List Ty:=[(.pair (.int .i64) (.pair (.int .i64) (.pair (.int .i64) (.pair (.int .i64) (.pair (.int .i64) (.pair (.int .i64) (.pair (.int .i64) .unit)))))))]
abbrev rs51:List Ty:=[(.int .i64)]
def t51 (x0:Int) (x0':Int) (x0'':Int) (x0''':Int) (x0'''':Int) (x0''''':Int) (x0'''''':Int):Tr (Tys.data rs51) :=
  Tr.test (Option.isSome (f96 ((x0,(x0',(x0'',(x0''',(x0'''',(x0''''',(x0'''''',()))))))),())))
    (let r0:=g96 ((x0,(x0',(x0'',(x0''',(x0'''',(x0''''',(x0'''''',()))))))),());
    Tr.fin (((wrap64 (x0' * r0.1):Int),())))
    (Tr.stop)
def f51 (d:Tys.data as51):Option (Tys.data rs51):=(t51 d.1.1 d.1.2.1 d.1.2.2.1 d.1.2.2.2.1 d.1.2.2.2.2.1 d.1.2.2.2.2.2.1 d.1.2.2.2.2.2.2.1).val
def g51 (d:Tys.data as51):Tys.data rs51:=(f51 d).getD (Tys.dflt rs51)
def p51:PureC:=pcOf as51 rs51 f51 g51
theorem wk51 (x0:Int) (x0':Int) (x0'':Int) (x0''':Int) (x0'''':Int) (x0''''':Int) (x0'''''':Int):Walks (runPure (kf96 Go.Proofs.Tryz.prog).orc Go.Proofs.Tryz.prog 400 51 as51 rs51 ((x0,x0',x0'',x0''',x0'''',x0''''',x0'''''',()),())) (t51 x0 x0' x0'' x0''' x0'''' x0''''' x0'''''') [(bl 1 1,[2,1])] :=
  ⟨by kernel_rfl,trivial⟩
theorem ok51_t (x0:Int) (x0':Int) (x0'':Int) (x0''':Int) (x0'''':Int) (x0''''':Int) (x0'''''':Int):TrOk (PureRuns Go.Proofs.Tryz.prog (kf96 Go.Proofs.Tryz.prog).orc 51 as51 rs51 ((x0,x0',x0'',x0''',x0'''',x0''''',x0'''''',()),())) (t51 x0 x0' x0'' x0''' x0'''' x0''''' x0'''''') :=
  Walks.ok (fun _ _ _=>PureRuns.of) (wk51 x0 x0' x0'' x0''' x0'''' x0''''' x0'''''') (by kernel_rfl)
theorem ok51:PureOk Go.Proofs.Tryz.prog 51 p51:=pureOk_of kf96_ok.base (T:=fun (d:Tys.data as51)=>t51 d.1.1 d.1.2.1 d.1.2.2.1 d.1.2.2.2.1 d.1.2.2.2.2.1 d.1.2.2.2.2.2.1 d.1.2.2.2.2.2.2.1) (by kernel_rfl) (fun (d:Tys.data as51)=>ok51_t d.1.1 d.1.2.1 d.1.2.2.1 d.1.2.2.2.1 d.1.2.2.2.2.1 d.1.2.2.2.2.2.1 d.1.2.2.2.2.2.2.1)
def kf51 (P:Go.Program):Known:=(kf96 P).func 51 p51
theorem kf51_ok:KnownOk Go.Proofs.Tryz.prog (kf51 Go.Proofs.Tryz.prog):=kf96_ok.func ok51
abbrev as52:List Ty:=[(.pair (.int .i64) (.pair (.int .i64) (.pair (.int .i64) (.pair (.int .i64) (.pair (.int .i64) (.pair (.int .i64) (.pair (.int .i64) .unit)))))))]
abbrev rs52:List Ty:=[(.int .i64)]
def t52 (x0:Int) (x0':Int) (x0'':Int) (x0''':Int) (x0'''':Int) (x0''''':Int) (x0'''''':Int):Tr (Tys.data rs52) :=
  Tr.test (Option.isSome (f96 ((x0,(x0',(x0'',(x0''',(x0'''',(x0''''',(x0'''''',()))))))),())))
    (let r0:=g96 ((x0,(x0',(x0'',(x0''',(x0'''',(x0''''',(x0'''''',()))))))),());
    Tr.fin (((wrap64 (wrap64 (Go.IntKind.wrap Go.IntKind.i64 ((0:Int) - x0) * x0''') * r0.1):Int),())))
    (Tr.stop)
def f52 (d:Tys.data as52):Option (Tys.data rs52):=(t52 d.1.1 d.1.2.1 d.1.2.2.1 d.1.2.2.2.1 d.1.2.2.2.2.1 d.1.2.2.2.2.2.1 d.1.2.2.2.2.2.2.1).val
def g52 (d:Tys.data as52):Tys.data rs52:=(f52 d).getD (Tys.dflt rs52)
def p52:PureC:=pcOf as52 rs52 f52 g52
theorem wk52 (x0:Int) (x0':Int) (x0'':Int) (x0''':Int) (x0'''':Int) (x0''''':Int) (x0'''''':Int):Walks (runPure (kf51 Go.Proofs.Tryz.prog).orc Go.Proofs.Tryz.prog 400 52 as52 rs52 ((x0,x0',x0'',x0''',x0'''',x0''''',x0'''''',()),())) (t52 x0 x0' x0'' x0''' x0'''' x0''''' x0'''''') [(bl 1 1,[2,1,1])] :=
  ⟨by kernel_rfl,trivial⟩
theorem ok52_t (x0:Int) (x0':Int) (x0'':Int) (x0''':Int) (x0'''':Int) (x0''''':Int) (x0'''''':Int):TrOk (PureRuns Go.Proofs.Tryz.prog (kf51 Go.Proofs.Tryz.prog).orc 52 as52 rs52 ((x0,x0',x0'',x0''',x0'''',x0''''',x0'''''',()),())) (t52 x0 x0' x0'' x0''' x0'''' x0''''' x0'''''') :=
  Walks.ok (fun _ _ _=>PureRuns.of) (wk52 x0 x0' x0'' x0''' x0'''' x0''''' x0'''''') (by kernel_rfl)
theorem ok52:PureOk Go.Proofs.Tryz.prog 52 p52:=pureOk_of kf51_ok.base (T:=fun (d:Tys.data as52)=>t52 d.1.1 d.1.2.1 d.1.2.2.1 d.1.2.2.2.1 d.1.2.2.2.2.1 d.1.2.2.2.2.2.1 d.1.2.2.2.2.2.2.1) (by kernel_rfl) (fun (d:Tys.data as52)=>ok52_t d.1.1 d.1.2.1 d.1.2.2.1 d.1.2.2.2.1 d.1.2.2.2.2.1 d.1.2.2.2.2.2.1 d.1.2.2.2.2.2.2.1)
def kf52 (P:Go.Program):Known:=(kf51 P).func 52 p52
theorem kf52_ok:KnownOk Go.Proofs.Tryz.prog (kf52 Go.Proofs.Tryz.prog):=kf51_ok.func ok52
abbrev as53:List Ty:=[(.pair (.int .i64) (.pair (.int .i64) (.pair (.int .i64) (.pair (.int .i64) (.pair (.int .i64) (.pair (.int .i64) (.pair (.int .i64) .unit)))))))]
abbrev rs53:List Ty:=[(.int .i64)]
def t53 (x0:Int) (x0':Int) (x0'':Int) (x0''':Int) (x0'''':Int) (x0''''':Int) (x0'''''':Int):Tr (Tys.data rs53) :=
  Tr.test (Option.isSome (f96 ((x0,(x0',(x0'',(x0''',(x0'''',(x0''''',(x0'''''',()))))))),())))
    (let r0:=g96 ((x0,(x0',(x0'',(x0''',(x0'''',(x0''''',(x0'''''',()))))))),());
    Tr.fin (((wrap64 (x0'' * r0.1):Int),())))
    (Tr.stop)
def f53 (d:Tys.data as53):Option (Tys.data rs53):=(t53 d.1.1 d.1.2.1 d.1.2.2.1 d.1.2.2.2.1 d.1.2.2.2.2.1 d.1.2.2.2.2.2.1 d.1.2.2.2.2.2.2.1).val
def g53 (d:Tys.data as53):Tys.data rs53:=(f53 d).getD (Tys.dflt rs53)
def p53:PureC:=pcOf as53 rs53 f53 g53
theorem wk53 (x0:Int) (x0':Int) (x0'':Int) (x0''':Int) (x0'''':Int) (x0''''':Int) (x0'''''':Int):Walks (runPure (kf52 Go.Proofs.Tryz.prog).orc Go.Proofs.Tryz.prog 400 53 as53 rs53 ((x0,x0',x0'',x0''',x0'''',x0''''',x0'''''',()),())) (t53 x0 x0' x0'' x0''' x0'''' x0''''' x0'''''') [(bl 1 1,[2,1])] :=
  ⟨by kernel_rfl,trivial⟩
theorem ok53_t (x0:Int) (x0':Int) (x0'':Int) (x0''':Int) (x0'''':Int) (x0''''':Int) (x0'''''':Int):TrOk (PureRuns Go.Proofs.Tryz.prog (kf52 Go.Proofs.Tryz.prog).orc 53 as53 rs53 ((x0,x0',x0'',x0''',x0'''',x0''''',x0'''''',()),())) (t53 x0 x0' x0'' x0''' x0'''' x0''''' x0'''''') :=
  Walks.ok (fun _ _ _=>PureRuns.of) (wk53 x0 x0' x0'' x0''' x0'''' x0''''' x0'''''') (by kernel_rfl)
theorem ok53:PureOk Go.Proofs.Tryz.prog 53 p53:=pureOk_of kf52_ok.base (T:=fun (d:Tys.data as53)=>t53 d.1.1 d.1.2.1 d.1.2.2.1 d.1.2.2.2.1 d.1.2.2.2.2.1 d.1.2.2.2.2.2.1 d.1.2.2.2.2.2.2.1) (by kernel_rfl) (fun (d:Tys.data as53)=>ok53_t d.1.1 d.1.2.1 d.1.2.2.1 d.1.2.2.2.1 d.1.2.2.2.2.1 d.1.2.2.2.2.2.1 d.1.2.2.2.2.2.2.1)
def kf53 (P:Go.Program):Known:=(kf52 P).func 53 p53
theorem kf53_ok:KnownOk Go.Proofs.Tryz.prog (kf53 Go.Proofs.Tryz.prog):=kf52_ok.func ok53
theorem sc49_0:sameRf Go.Proofs.Tryz.prog 49 0 = true:=sameRf_ok (by kernel_rfl)
end Go.Vm.Mo
