import Derived.Test.YtlaojojnembodaaA5
import Derived.KernelRfl
import Derived.Test.YtlaojojnembodaaProg
import Derived.Test.YtlaojojnembodaaRsFa
set_option linter.unusedVariables false
set_option linter.unusedSimpArgs false

namespace Go.Vm.Mo
open Go
set_option linter.unusedVariables false

/-! ductility/model.divisorOf -/

abbrev as123:List Ty:=[(.int .i64),(.int .i64)]
abbrev rs123:List Ty:=[(.int .i64)]

def t123 (x0:Int) (x1:Int):Tr (Tys.data rs123) :=
  Tr.test (isBrk (l123_0 ((x0,(x1,())),())))
    (let r0:=b123_0 ((x0,(x1,())),());
    Tr.test (Option.isSome (f119 (r0.1.1,())))
      (let r1:=g119 (r0.1.1,());
      Tr.fin ((r1.1,())))
      (Tr.stop))
    (Tr.stop)

def f123 (d:Tys.data as123):Option (Tys.data rs123):=(t123 d.1 d.2.1).val
def g123 (d:Tys.data as123):Tys.data rs123:=(f123 d).getD (Tys.dflt rs123)
def p123:PureC:=pcOf as123 rs123 f123 g123

theorem wk123 (x0:Int) (x1:Int):Walks (runPure (kl123_0 Go.Proofs.Try.prog).orc Go.Proofs.Try.prog 400 123 as123 rs123 (x0,x1,())) (t123 x0 x1) [(bl 2 3,[2,1,4])] :=
  ⟨by kernel_rfl,trivial⟩

theorem ok123_t (x0:Int) (x1:Int):TrOk (PureRuns Go.Proofs.Try.prog (kl123_0 Go.Proofs.Try.prog).orc 123 as123 rs123 (x0,x1,())) (t123 x0 x1) :=
  Walks.ok (fun _ _ _=>PureRuns.of) (wk123 x0 x1) (by kernel_rfl)

theorem ok123:PureOk Go.Proofs.Try.prog 123 p123:=pureOk_of kl123_0_ok.base (T:=fun (d:Tys.data as123)=>t123 d.1 d.2.1) (by kernel_rfl) (fun (d:Tys.data as123)=>ok123_t d.1 d.2.1)
def kf123 (P:Go.Program):Known:=(kl123_0 P).func 123 p123
theorem kf123_ok:KnownOk Go.Proofs.Try.prog (kf123 Go.Proofs.Try.prog):=kl123_0_ok.func ok123

/-! ductility/model.fraction -/

abbrev as112:List Ty:=[(.int .i64),(.int .i64)]
abbrev rs112:List Ty:=[(.pair (.int .i64) (.pair (.int .i64) .unit))]

def t112 (x0:Int) (x1:Int):Tr (Tys.data rs112) :=
  Tr.test (Option.isSome (f123 (x0,(x1,()))))
    (let r0:=g123 (x0,(x1,()));
    Tr.test ((r0.1 == (0:Int):Bool))
      (Tr.stop)
      (Tr.fin ((((Go.IntKind.wrap Go.IntKind.i64 (Int.tdiv x0 r0.1):Int),((Go.IntKind.wrap Go.IntKind.i64 (Int.tdiv x1 r0.1):Int),())),()))))
    (Tr.stop)

def f112 (d:Tys.data as112):Option (Tys.data rs112):=(t112 d.1 d.2.1).val
def g112 (d:Tys.data as112):Tys.data rs112:=(f112 d).getD (Tys.dflt rs112)
def p112:PureC:=pcOf as112 rs112 f112 g112

theorem wk112 (x0:Int) (x1:Int):Walks (runPure (kf123 Go.Proofs.Try.prog).orc Go.Proofs.Try.prog 400 112 as112 rs112 (x0,x1,())) (t112 x0 x1) [(bl 2 1,[2,2,4])] :=
  ⟨by kernel_rfl,trivial⟩

theorem ok112_t (x0:Int) (x1:Int):TrOk (PureRuns Go.Proofs.Try.prog (kf123 Go.Proofs.Try.prog).orc 112 as112 rs112 (x0,x1,())) (t112 x0 x1) :=
  Walks.ok (fun _ _ _=>PureRuns.of) (wk112 x0 x1) (by kernel_rfl)

theorem ok112:PureOk Go.Proofs.Try.prog 112 p112:=pureOk_of kf123_ok.base (T:=fun (d:Tys.data as112)=>t112 d.1 d.2.1) (by kernel_rfl) (fun (d:Tys.data as112)=>ok112_t d.1 d.2.1)
def kf112 (P:Go.Program):Known:=(kf123 P).func 112 p112
theorem kf112_ok:KnownOk Go.Proofs.Try.prog (kf112 Go.Proofs.Try.prog):=kf123_ok.func ok112

theorem sc46_0:sameRf Go.Proofs.Try.prog 46 0 = true:=sameRf_ok (by kernel_rfl)

/-! loop 0 of slices.Backward[[]int,int]$1 -/

abbrev sh132_0 (P:Go.Program):Sh:={ n:=19,slots:=[0,1,3],pats:=[.yld 0,.ptr 1 1 0,.ty (.int .i64)],boxes:=[.lp (lpOf P 46 0 .ready none 51 [7,9,10] 2) [.ptr 3 1 0,.ptr 4 1 0,.ptr 5 1 0],.row [.ty (.slice (.int .i64))],.dfr,.row [.ty (.slice (.pair (.int .i64) (.pair (.int .i64) (.pair (.slice (.pair (.int .i64) (.pair (.int .i64) (.pair .bool .unit)))) .unit))))],.row [.sli 6 2],.row [.ty (.int .i64)],.arr (.pair (.int .i64) (.pair (.int .i64) .unit))] }
abbrev shb132_0 (P:Go.Program):Sh:={ n:=19,slots:=[],pats:=[],boxes:=[.lp (lpOf P 46 0 .ready none 51 [7,9,10] 2) [.ptr 3 1 0,.ptr 4 1 0,.ptr 5 1 0],.row [.ty (.slice (.int .i64))],.dfr,.row [.ty (.slice (.pair (.int .i64) (.pair (.int .i64) (.pair (.slice (.pair (.int .i64) (.pair (.int .i64) (.pair .bool .unit)))) .unit))))],.row [.sli 6 2],.row [.ty (.int .i64)],.arr (.pair (.int .i64) (.pair (.int .i64) .unit))] }
abbrev shr132_0 (P:Go.Program):Sh:={ n:=19,slots:=[],pats:=[],boxes:=[.lp (lpOf P 46 0 .ready none 51 [7,9,10] 2) [.ptr 3 1 0,.ptr 4 1 0,.ptr 5 1 0],.row [.ty (.slice (.int .i64))],.dfr,.row [.ty (.slice (.pair (.int .i64) (.pair (.int .i64) (.pair (.slice (.pair (.int .i64) (.pair (.int .i64) (.pair .bool .unit)))) .unit))))],.row [.sli 6 2],.row [.ty (.int .i64)],.arr (.pair (.int .i64) (.pair (.int .i64) .unit))] }

abbrev dt132_0:Type:=(Int×PUnit)×PUnit×(List Int×PUnit)×(List (Int×Int×List (Int×Int×Bool×PUnit)×PUnit)×PUnit)×((Nat×Nat)×PUnit)×(Int×PUnit)×List (Int×Int×PUnit)×PUnit
abbrev db132_0:Type:=PUnit×PUnit×(List Int×PUnit)×(List (Int×Int×List (Int×Int×Bool×PUnit)×PUnit)×PUnit)×((Nat×Nat)×PUnit)×(Int×PUnit)×List (Int×Int×PUnit)×PUnit
abbrev dr132_0:Type:=PUnit×PUnit×(List Int×PUnit)×(List (Int×Int×List (Int×Int×Bool×PUnit)×PUnit)×PUnit)×((Nat×Nat)×PUnit)×(Int×PUnit)×List (Int×Int×PUnit)×PUnit

def t132_0 (x2:Int) (b1_0:(List Int)) (b3_0:(List (Int×(Int×((List (Int×(Int×(Bool×Unit))))×Unit))))) (b4_0n:Nat) (b4_0c:Nat) (b5_0:Int) (b6:(List (Int×(Int×Unit)))):Tr (Out dt132_0 db132_0 dr132_0) :=
  Tr.test ((leF (0:Int) x2:Bool))
    (Tr.test (decide ((0:Int) ≤ x2) && decide (x2 < (↑(List.length b1_0):Int)))
      (Tr.test (Option.isSome (f109 (((b3_0,()),()),(x2,()))))
        (let r0:=g109 (((b3_0,()),()),(x2,()));
        Tr.test (Option.isSome (f112 ((wrap64 (b5_0 + List.getD b1_0 (Int.toNat x2) (0:Int)):Int),(r0.1,()))))
          (Tr.test ((decide ((0:Int) ≤ x2) && decide (x2 < (↑b4_0n:Int)):Bool))
            (Tr.test ((Nat.ble ((0:Nat) + Int.toNat x2 + (1:Nat)) (List.length b6):Bool))
              (let r1:=g112 ((wrap64 (b5_0 + List.getD b1_0 (Int.toNat x2) (0:Int)):Int),(r0.1,()));
              Tr.fin (.again (((wrap64 (x2 - (1:Int)):Int),()),((),((b1_0,()),((b3_0,()),(((b4_0n,b4_0c),()),(((wrap64 (b5_0 + List.getD b1_0 (Int.toNat x2) (0:Int)):Int),()),((List.set b6 ((0:Nat) + Int.toNat x2) (r1.1.1,r1.1.2.1,()):List (Int×Int×PUnit)),())))))))))
              (Tr.stop))
            (Tr.stop))
          (Tr.stop))
        (Tr.stop))
      (Tr.stop))
    (Tr.fin (.brk ((),((),((b1_0,()),((b3_0,()),(((b4_0n,b4_0c),()),((b5_0,()),(b6,())))))))))

def s132_0 (d:dt132_0):Option (Out dt132_0 db132_0 dr132_0):=(t132_0 d.1.1 d.2.2.1.1 d.2.2.2.1.1 d.2.2.2.2.1.1.1 d.2.2.2.2.1.1.2 d.2.2.2.2.2.1.1 d.2.2.2.2.2.2.1).val
def l132_0 (d:dt132_0):Option (db132_0 ⊕ dr132_0):=itr s132_0 rounds d
def b132_0 (d:dt132_0):db132_0:=outB (((),((),((([]:List Int),()),((([]:List (Int×Int×List (Int×Int×Bool×PUnit)×PUnit)),()),((((0:Nat),(0:Nat)),()),(((0:Int),()),(([]:List (Int×Int×PUnit)),())))))))) (l132_0 d)
def lc132_0 (P:Go.Program):LoopC:=lcB (sh132_0 P) (shb132_0 P) (shr132_0 P) l132_0 b132_0

theorem e132_0_0 (x2:Int) (b1_0:(List Int)) (b3_0:(List (Int×(Int×((List (Int×(Int×(Bool×Unit))))×Unit))))) (b4_0n:Nat) (b4_0c:Nat) (b5_0:Int) (b6:(List (Int×(Int×Unit)))):runBody (kf112 Go.Proofs.Try.prog).orc Go.Proofs.Try.prog 400 132 0 (sh132_0 Go.Proofs.Try.prog) (shb132_0 Go.Proofs.Try.prog) (shr132_0 Go.Proofs.Try.prog) ((x2,()),(),(b1_0,()),(b3_0,()),((b4_0n,b4_0c),()),(b5_0,()),b6,()) [tt,tt,tt,tt,tt,tt,ff] =
    (let r0:=g109 (((b3_0,()),()),(x2,()));let r1:=g112 ((wrap64 (b5_0 + List.getD b1_0 (Int.toNat x2) (0:Int)):Int),(r0.1,())); some (.again (((wrap64 (x2 - (1:Int)):Int),()),((),((b1_0,()),((b3_0,()),(((b4_0n,b4_0c),()),(((wrap64 (b5_0 + List.getD b1_0 (Int.toNat x2) (0:Int)):Int),()),((List.set b6 ((0:Nat) + Int.toNat x2) (r1.1.1,r1.1.2.1,()):List (Int×Int×PUnit)),()))))))),[(sameRf Go.Proofs.Try.prog (nat_lit 46) (nat_lit 0),true),(false,false),(Nat.ble ((0:Nat) + Int.toNat x2 + (1:Nat)) (List.length b6),true),(decide ((0:Int) ≤ x2) && decide (x2 < (↑b4_0n:Int)),true),(Option.isSome (f112 ((wrap64 (b5_0 + List.getD b1_0 (Int.toNat x2) (0:Int)):Int),(r0.1,()))),true),(Option.isSome (f109 (((b3_0,()),()),(x2,()))),true),(decide ((0:Int) ≤ x2) && decide (x2 < (↑(List.length b1_0):Int)),true),(leF (0:Int) x2,true)])):=by kernel_rfl
theorem e132_0_4 (x2:Int) (b1_0:(List Int)) (b3_0:(List (Int×(Int×((List (Int×(Int×(Bool×Unit))))×Unit))))) (b4_0n:Nat) (b4_0c:Nat) (b5_0:Int) (b6:(List (Int×(Int×Unit)))):runBody (kf112 Go.Proofs.Try.prog).orc Go.Proofs.Try.prog 400 132 0 (sh132_0 Go.Proofs.Try.prog) (shb132_0 Go.Proofs.Try.prog) (shr132_0 Go.Proofs.Try.prog) ((x2,()),(),(b1_0,()),(b3_0,()),((b4_0n,b4_0c),()),(b5_0,()),b6,()) [ff] =
    (some (.brk ((),((),((b1_0,()),((b3_0,()),(((b4_0n,b4_0c),()),((b5_0,()),(b6,()))))))),[(sameRf Go.Proofs.Try.prog (nat_lit 46) (nat_lit 0),true),(leF (0:Int) x2,false)])):=by kernel_rfl

theorem ok132_0_t (x2:Int) (b1_0:(List Int)) (b3_0:(List (Int×(Int×((List (Int×(Int×(Bool×Unit))))×Unit))))) (b4_0n:Nat) (b4_0c:Nat) (b5_0:Int) (b6:(List (Int×(Int×Unit)))):TrOk (BodyRuns Go.Proofs.Try.prog (kf112 Go.Proofs.Try.prog).orc 132 0 (sh132_0 Go.Proofs.Try.prog) (shb132_0 Go.Proofs.Try.prog) (shr132_0 Go.Proofs.Try.prog) ((x2,()),(),(b1_0,()),(b3_0,()),((b4_0n,b4_0c),()),(b5_0,()),b6,())) (t132_0 x2 b1_0 b3_0 b4_0n b4_0c b5_0 b6) :=
  TrOk.ofTest (fun h0=>TrOk.ofTest (fun h1=>TrOk.ofTest (fun h2=>TrOk.ofTest (fun h3=>TrOk.ofTest (fun h4=>TrOk.ofTest (fun h5=>TrOk.ofFin (BodyRuns.of (e132_0_0 x2 b1_0 b3_0 b4_0n b4_0c b5_0 b6) (ac (sc46_0) (ac rfl (ac h5 (ac h4 (ac h3 (ac h2 (ac h1 (ac h0 All.nil)))))))))) (fun h5=>TrOk.ofStop)) (fun h4=>TrOk.ofStop)) (fun h3=>TrOk.ofStop)) (fun h2=>TrOk.ofStop)) (fun h1=>TrOk.ofStop)) (fun h0=>TrOk.ofFin (BodyRuns.of (e132_0_4 x2 b1_0 b3_0 b4_0n b4_0c b5_0 b6) (ac (sc46_0) (ac h0 All.nil))))

theorem ok132_0:LoopOk Go.Proofs.Try.prog 132 0 (lc132_0 Go.Proofs.Try.prog):=loopOk_ofB (sh:=(sh132_0 Go.Proofs.Try.prog)) (shB:=(shb132_0 Go.Proofs.Try.prog)) (shR:=(shr132_0 Go.Proofs.Try.prog)) kf112_ok.base (T:=fun (d:dt132_0)=>t132_0 d.1.1 d.2.2.1.1 d.2.2.2.1.1 d.2.2.2.2.1.1.1 d.2.2.2.2.1.1.2 d.2.2.2.2.2.1.1 d.2.2.2.2.2.2.1) (by kernel_rfl) rfl (fun (d:dt132_0)=>ok132_0_t d.1.1 d.2.2.1.1 d.2.2.2.1.1 d.2.2.2.2.1.1.1 d.2.2.2.2.1.1.2 d.2.2.2.2.2.1.1 d.2.2.2.2.2.2.1) (fun _=>rfl)
def kl132_0 (P:Go.Program):Known:=(kf112 P).loop 132 0 (lc132_0 P)
theorem kl132_0_ok:KnownOk Go.Proofs.Try.prog (kl132_0 Go.Proofs.Try.prog):=kf112_ok.loop ok132_0

/-! ductility/model.DriftsUnder -/

abbrev as46:List Ty:=[(.pair (.slice (.pair (.int .i64) (.pair (.int .i64) (.pair (.slice (.pair (.int .i64) (.pair (.int .i64) (.pair .bool .unit)))) .unit)))) .unit),(.slice (.int .i64))]
abbrev rs46:List Ty:=[(.slice (.pair (.int .i64) (.pair (.int .i64) .unit))),(.int .i64)]

def t46 (x0:(List (Int×(Int×((List (Int×(Int×(Bool×Unit))))×Unit))))) (x1:(List Int)):Tr (Tys.data rs46) :=
  Tr.test (Option.isSome (f74 ((!eqF (↑(List.length x1):Int) (↑(List.length x0):Int):Bool),((10:Int),()))))
    (Tr.test (Option.isSome (f110 ((1000000:Int),(x1,()))))
      (let r0:=g74 ((!eqF (↑(List.length x1):Int) (↑(List.length x0):Int):Bool),((10:Int),()));
      let r1:=g110 ((1000000:Int),(x1,()));
      Tr.test (Option.isSome (f108 ((x0,()),(([r0.1,r1.1]:List Int),()))))
        (let r2:=g108 ((x0,()),(([r0.1,r1.1]:List Int),()));
        Tr.test ((!eqF r2.2.1 0:Bool))
          (Tr.fin ((([]:List (Int×Int×PUnit)),(r2.2.1,()))))
          (Tr.test ((decide ((0:Int) ≤ (↑(List.length x1):Int)) && decide ((↑(List.length x1):Int) ≤ (↑(List.length x1):Int)) && decide ((16:Int) * (↑(List.length x1):Int) ≤ (281474976710656:Int)) && decide ((↑(List.length x1):Int) ≤ (281474976710656:Int)):Bool))
            (Tr.test (isBrk (l132_0 (((wrap64 ((↑(List.length x1):Int) - (1:Int)):Int),()),((),((x1,()),(((r2.1.1.1:List (Int×Int×List (Int×Int×Bool×PUnit)×PUnit)),()),((((Int.toNat (↑(List.length x1):Int):Nat),(Int.toNat (↑(List.length x1):Int):Nat)),()),(((0:Int),()),((List.replicate (Int.toNat (↑(List.length x1):Int)) ((0:Int),(0:Int),()):List (Int×Int×PUnit)),())))))))))
              (let r3:=b132_0 (((wrap64 ((↑(List.length x1):Int) - (1:Int)):Int),()),((),((x1,()),(((r2.1.1.1:List (Int×Int×List (Int×Int×Bool×PUnit)×PUnit)),()),((((Int.toNat (↑(List.length x1):Int):Nat),(Int.toNat (↑(List.length x1):Int):Nat)),()),(((0:Int),()),((List.replicate (Int.toNat (↑(List.length x1):Int)) ((0:Int),(0:Int),()):List (Int×Int×PUnit)),())))))));
              Tr.test ((Nat.beq r3.2.2.2.2.1.1.1 (List.length r3.2.2.2.2.2.2.1):Bool))
                (Tr.fin ((r3.2.2.2.2.2.2.1,((0:Int),()))))
                (Tr.test ((Nat.ble r3.2.2.2.2.1.1.1 (List.length r3.2.2.2.2.2.2.1):Bool))
                  (Tr.fin (((List.take r3.2.2.2.2.1.1.1 r3.2.2.2.2.2.2.1:List (Int×Int×PUnit)),((0:Int),()))))
                  (Tr.stop)))
              (Tr.stop))
            (Tr.stop)))
        (Tr.stop))
      (Tr.stop))
    (Tr.stop)

def f46 (d:Tys.data as46):Option (Tys.data rs46):=(t46 d.1.1 d.2.1).val
def g46 (d:Tys.data as46):Tys.data rs46:=(f46 d).getD (Tys.dflt rs46)
def p46:PureC:=pcOf as46 rs46 f46 g46

theorem e46_0 (x0:(List (Int×(Int×((List (Int×(Int×(Bool×Unit))))×Unit))))) (x1:(List Int)):runPure (kl132_0 Go.Proofs.Try.prog).orc Go.Proofs.Try.prog 400 46 as46 rs46 ((x0,()),x1,()) [tt,tt,tt,tt] =
    (let r0:=g74 (!eqF (↑(List.length x1):Int) (↑(List.length x0):Int),((10:Int),()));let r1:=g110 ((1000000:Int),(x1,()));let r2:=g108 ((x0,()),(([r0.1,r1.1]:List Int),())); some ((([]:List (Int×Int×PUnit)),(r2.2.1,())),[(!eqF r2.2.1 0,true),(Option.isSome (f108 ((x0,()),(([r0.1,r1.1]:List Int),()))),true),(Option.isSome (f110 ((1000000:Int),(x1,()))),true),(Option.isSome (f74 (!eqF (↑(List.length x1):Int) (↑(List.length x0):Int),((10:Int),()))),true)])):=by kernel_rfl
theorem e46_1 (x0:(List (Int×(Int×((List (Int×(Int×(Bool×Unit))))×Unit))))) (x1:(List Int)):runPure (kl132_0 Go.Proofs.Try.prog).orc Go.Proofs.Try.prog 400 46 as46 rs46 ((x0,()),x1,()) [tt,tt,tt,ff,tt,tt,tt,tt,tt] =
    (let r0:=g74 (!eqF (↑(List.length x1):Int) (↑(List.length x0):Int),((10:Int),()));let r1:=g110 ((1000000:Int),(x1,()));let r2:=g108 ((x0,()),(([r0.1,r1.1]:List Int),()));let r3:=b132_0 (((wrap64 ((↑(List.length x1):Int) - (1:Int)):Int),()),((),((x1,()),(((r2.1.1.1:List (Int×Int×List (Int×Int×Bool×PUnit)×PUnit)),()),((((Int.toNat (↑(List.length x1):Int):Nat),(Int.toNat (↑(List.length x1):Int):Nat)),()),(((0:Int),()),((List.replicate (Int.toNat (↑(List.length x1):Int)) ((0:Int),(0:Int),()):List (Int×Int×PUnit)),()))))))); some ((r3.2.2.2.2.2.2.1,((0:Int),())),[(Nat.beq r3.2.2.2.2.1.1.1 (List.length r3.2.2.2.2.2.2.1),true),(true,true),(isBrk (l132_0 (((wrap64 ((↑(List.length x1):Int) - (1:Int)):Int),()),((),((x1,()),(((r2.1.1.1:List (Int×Int×List (Int×Int×Bool×PUnit)×PUnit)),()),((((Int.toNat (↑(List.length x1):Int):Nat),(Int.toNat (↑(List.length x1):Int):Nat)),()),(((0:Int),()),((List.replicate (Int.toNat (↑(List.length x1):Int)) ((0:Int),(0:Int),()):List (Int×Int×PUnit)),())))))))),true),(sameRf Go.Proofs.Try.prog (nat_lit 46) (nat_lit 0),true),(decide ((0:Int) ≤ (↑(List.length x1):Int)) && decide ((↑(List.length x1):Int) ≤ (↑(List.length x1):Int)) && decide ((16:Int) * (↑(List.length x1):Int) ≤ (281474976710656:Int)) && decide ((↑(List.length x1):Int) ≤ (281474976710656:Int)),true),(!eqF r2.2.1 0,false),(Option.isSome (f108 ((x0,()),(([r0.1,r1.1]:List Int),()))),true),(Option.isSome (f110 ((1000000:Int),(x1,()))),true),(Option.isSome (f74 (!eqF (↑(List.length x1):Int) (↑(List.length x0):Int),((10:Int),()))),true)])):=by kernel_rfl
theorem e46_2 (x0:(List (Int×(Int×((List (Int×(Int×(Bool×Unit))))×Unit))))) (x1:(List Int)):runPure (kl132_0 Go.Proofs.Try.prog).orc Go.Proofs.Try.prog 400 46 as46 rs46 ((x0,()),x1,()) [tt,tt,tt,ff,tt,tt,tt,tt,ff,tt] =
    (let r0:=g74 (!eqF (↑(List.length x1):Int) (↑(List.length x0):Int),((10:Int),()));let r1:=g110 ((1000000:Int),(x1,()));let r2:=g108 ((x0,()),(([r0.1,r1.1]:List Int),()));let r3:=b132_0 (((wrap64 ((↑(List.length x1):Int) - (1:Int)):Int),()),((),((x1,()),(((r2.1.1.1:List (Int×Int×List (Int×Int×Bool×PUnit)×PUnit)),()),((((Int.toNat (↑(List.length x1):Int):Nat),(Int.toNat (↑(List.length x1):Int):Nat)),()),(((0:Int),()),((List.replicate (Int.toNat (↑(List.length x1):Int)) ((0:Int),(0:Int),()):List (Int×Int×PUnit)),()))))))); some (((List.take r3.2.2.2.2.1.1.1 r3.2.2.2.2.2.2.1:List (Int×Int×PUnit)),((0:Int),())),[(Nat.ble r3.2.2.2.2.1.1.1 (List.length r3.2.2.2.2.2.2.1),true),(Nat.beq r3.2.2.2.2.1.1.1 (List.length r3.2.2.2.2.2.2.1),false),(true,true),(isBrk (l132_0 (((wrap64 ((↑(List.length x1):Int) - (1:Int)):Int),()),((),((x1,()),(((r2.1.1.1:List (Int×Int×List (Int×Int×Bool×PUnit)×PUnit)),()),((((Int.toNat (↑(List.length x1):Int):Nat),(Int.toNat (↑(List.length x1):Int):Nat)),()),(((0:Int),()),((List.replicate (Int.toNat (↑(List.length x1):Int)) ((0:Int),(0:Int),()):List (Int×Int×PUnit)),())))))))),true),(sameRf Go.Proofs.Try.prog (nat_lit 46) (nat_lit 0),true),(decide ((0:Int) ≤ (↑(List.length x1):Int)) && decide ((↑(List.length x1):Int) ≤ (↑(List.length x1):Int)) && decide ((16:Int) * (↑(List.length x1):Int) ≤ (281474976710656:Int)) && decide ((↑(List.length x1):Int) ≤ (281474976710656:Int)),true),(!eqF r2.2.1 0,false),(Option.isSome (f108 ((x0,()),(([r0.1,r1.1]:List Int),()))),true),(Option.isSome (f110 ((1000000:Int),(x1,()))),true),(Option.isSome (f74 (!eqF (↑(List.length x1):Int) (↑(List.length x0):Int),((10:Int),()))),true)])):=by kernel_rfl

theorem ok46_t (x0:(List (Int×(Int×((List (Int×(Int×(Bool×Unit))))×Unit))))) (x1:(List Int)):TrOk (PureRuns Go.Proofs.Try.prog (kl132_0 Go.Proofs.Try.prog).orc 46 as46 rs46 ((x0,()),x1,())) (t46 x0 x1) :=
  TrOk.ofTest (fun h0=>TrOk.ofTest (fun h1=>TrOk.ofTest (fun h2=>TrOk.ofTest (fun h3=>TrOk.ofFin (PureRuns.of (e46_0 x0 x1) (ac h3 (ac h2 (ac h1 (ac h0 All.nil)))))) (fun h3=>TrOk.ofTest (fun h4=>TrOk.ofTest (fun h6=>TrOk.ofTest (fun h8=>TrOk.ofFin (PureRuns.of (e46_1 x0 x1) (ac h8 (ac rfl (ac h6 (ac (sc46_0) (ac h4 (ac h3 (ac h2 (ac h1 (ac h0 All.nil))))))))))) (fun h8=>TrOk.ofTest (fun h9=>TrOk.ofFin (PureRuns.of (e46_2 x0 x1) (ac h9 (ac h8 (ac rfl (ac h6 (ac (sc46_0) (ac h4 (ac h3 (ac h2 (ac h1 (ac h0 All.nil)))))))))))) (fun h9=>TrOk.ofStop))) (fun h6=>TrOk.ofStop)) (fun h4=>TrOk.ofStop))) (fun h2=>TrOk.ofStop)) (fun h1=>TrOk.ofStop)) (fun h0=>TrOk.ofStop)

theorem ok46:PureOk Go.Proofs.Try.prog 46 p46:=pureOk_of kl132_0_ok.base (T:=fun (d:Tys.data as46)=>t46 d.1.1 d.2.1) (by kernel_rfl) (fun (d:Tys.data as46)=>ok46_t d.1.1 d.2.1)
def kf46 (P:Go.Program):Known:=(kl132_0 P).func 46 p46
theorem kf46_ok:KnownOk Go.Proofs.Try.prog (kf46 Go.Proofs.Try.prog):=kl132_0_ok.func ok46

/-! loop 0 of (ductility/model.frame).begin -/

abbrev sh113_0:Sh:={ n:=37,slots:=[1,2,4,18,19,20],pats:=[.ptr 0 1 0,.ptr 1 4 0,.ptr 2 3 0,.ty (.slice (.pair (.int .i64) (.pair (.int .i64) (.pair (.slice (.pair (.int .i64) (.pair (.int .i64) (.pair .bool .unit)))) .unit)))),.ty (.int .i64),.ty (.int .i64)],boxes:=[.row [.ty (.slice (.pair (.int .i64) (.pair (.int .i64) (.pair (.slice (.pair (.int .i64) (.pair (.int .i64) (.pair .bool .unit)))) .unit))))],.row [.nil,.nil,.nil,.nil],.row [.sli 3 1,.sli 4 1,.acc (.pair (.int .i64) (.pair (.slice (.pair (.int .i64) (.pair .bool .unit))) .unit))],.arr (.int .i64),.arr (.int .i64)] }
abbrev shb113_0:Sh:={ n:=37,slots:=[1,2,4],pats:=[.ptr 0 1 0,.ptr 1 4 0,.ptr 2 3 0],boxes:=[.row [.ty (.slice (.pair (.int .i64) (.pair (.int .i64) (.pair (.slice (.pair (.int .i64) (.pair (.int .i64) (.pair .bool .unit)))) .unit))))],.row [.nil,.nil,.nil,.nil],.row [.sli 3 1,.sli 4 1,.acc (.pair (.int .i64) (.pair (.slice (.pair (.int .i64) (.pair .bool .unit))) .unit))],.arr (.int .i64),.arr (.int .i64)] }
abbrev shr113_0:Sh:={ n:=37,slots:=[],pats:=[],boxes:=[.row [.ty (.slice (.pair (.int .i64) (.pair (.int .i64) (.pair (.slice (.pair (.int .i64) (.pair (.int .i64) (.pair .bool .unit)))) .unit))))],.row [.nil,.nil,.nil,.nil],.row [.sli 3 1,.sli 4 1,.acc (.pair (.int .i64) (.pair (.slice (.pair (.int .i64) (.pair .bool .unit))) .unit))],.arr (.int .i64),.arr (.int .i64)] }

def t113_0 (x3:(List (Int×(Int×((List (Int×(Int×(Bool×Unit))))×Unit))))) (x4:Int) (x5:Int) (b0_0:(List (Int×(Int×((List (Int×(Int×(Bool×Unit))))×Unit))))) (b2_0n:Nat) (b2_0c:Nat) (b2_1n:Nat) (b2_1c:Nat) (b2_2:(List (Int×((List (Int×(Bool×Unit)))×Unit)))) (b3:(List Int)) (b4:(List Int)):Tr (Out sh113_0.data shb113_0.data shr113_0.data) :=
  Tr.test ((!leF x4 x5:Bool))
    (Tr.test (decide ((0:Int) ≤ x5) && decide (x5 < (↑(List.length x3):Int)))
      (Tr.test (Option.isSome (f105 (((List.getD x3 (Int.toNat x5) ((0:Int),(0:Int),[],())).2.2.1:List (Int×Int×Bool×PUnit)),())))
        (Tr.test ((Nat.ble (((2:Nat) * (List.length b2_2 + (1:Nat)) + (192:Nat)) * (32:Nat)) (281474976710656:Nat) && Nat.ble (List.length b2_2 + (1:Nat)) (281474976710656:Nat):Bool))
          (let r0:=g105 (((List.getD x3 (Int.toNat x5) ((0:Int),(0:Int),[],())).2.2.1:List (Int×Int×Bool×PUnit)),());
          Tr.fin (.again ((x3,(x4,((wrap64 (x5 + (1:Int)):Int),()))),((b0_0,()),((),(((b2_0n,b2_0c),((b2_1n,b2_1c),((b2_2++[(r0.1.2.1.1,r0.1.2.1.2.1,())]:List (Int×List (Int×Bool×PUnit)×PUnit)),()))),(b3,(b4,()))))))))
          (Tr.stop))
        (Tr.stop))
      (Tr.stop))
    (Tr.fin (.brk ((),((b0_0,()),((),(((b2_0n,b2_0c),((b2_1n,b2_1c),(b2_2,()))),(b3,(b4,()))))))))

def s113_0 (d:sh113_0.data):Option (Out sh113_0.data shb113_0.data shr113_0.data):=(t113_0 d.1.1 d.1.2.1 d.1.2.2.1 d.2.1.1 d.2.2.2.1.1.1 d.2.2.2.1.1.2 d.2.2.2.1.2.1.1 d.2.2.2.1.2.1.2 d.2.2.2.1.2.2.1 d.2.2.2.2.1 d.2.2.2.2.2.1).val
def l113_0 (d:sh113_0.data):Option (shb113_0.data ⊕ shr113_0.data):=itr s113_0 rounds d
def b113_0 (d:sh113_0.data):shb113_0.data:=outB shb113_0.dflt (l113_0 d)
def lc113_0:LoopC:=lcB sh113_0 shb113_0 shr113_0 l113_0 b113_0

theorem wk113_0 (x3:(List (Int×(Int×((List (Int×(Int×(Bool×Unit))))×Unit))))) (x4:Int) (x5:Int) (b0_0:(List (Int×(Int×((List (Int×(Int×(Bool×Unit))))×Unit))))) (b2_0n:Nat) (b2_0c:Nat) (b2_1n:Nat) (b2_1c:Nat) (b2_2:(List (Int×((List (Int×(Bool×Unit)))×Unit)))) (b3:(List Int)) (b4:(List Int)):Walks (runBody (kf46 Go.Proofs.Try.prog).orc Go.Proofs.Try.prog 400 113 0 sh113_0 shb113_0 shr113_0 ((x3,x4,x5,()),(b0_0,()),(),((b2_0n,b2_0c),(b2_1n,b2_1c),b2_2,()),b3,b4,())) (t113_0 x3 x4 x5 b0_0 b2_0n b2_0c b2_1n b2_1c b2_2 b3 b4) [(bl 4 15,[2,4,6,8]),(bl 1 0,[2])] :=
  ⟨by kernel_rfl,by kernel_rfl,trivial⟩

theorem ok113_0_t (x3:(List (Int×(Int×((List (Int×(Int×(Bool×Unit))))×Unit))))) (x4:Int) (x5:Int) (b0_0:(List (Int×(Int×((List (Int×(Int×(Bool×Unit))))×Unit))))) (b2_0n:Nat) (b2_0c:Nat) (b2_1n:Nat) (b2_1c:Nat) (b2_2:(List (Int×((List (Int×(Bool×Unit)))×Unit)))) (b3:(List Int)) (b4:(List Int)):TrOk (BodyRuns Go.Proofs.Try.prog (kf46 Go.Proofs.Try.prog).orc 113 0 sh113_0 shb113_0 shr113_0 ((x3,x4,x5,()),(b0_0,()),(),((b2_0n,b2_0c),(b2_1n,b2_1c),b2_2,()),b3,b4,())) (t113_0 x3 x4 x5 b0_0 b2_0n b2_0c b2_1n b2_1c b2_2 b3 b4) :=
  Walks.ok (fun _ _ _=>BodyRuns.of) (wk113_0 x3 x4 x5 b0_0 b2_0n b2_0c b2_1n b2_1c b2_2 b3 b4) (by kernel_rfl)

theorem ok113_0:LoopOk Go.Proofs.Try.prog 113 0 lc113_0:=loopOk_ofB (sh:=sh113_0) (shB:=shb113_0) (shR:=shr113_0) kf46_ok.base (T:=fun (d:sh113_0.data)=>t113_0 d.1.1 d.1.2.1 d.1.2.2.1 d.2.1.1 d.2.2.2.1.1.1 d.2.2.2.1.1.2 d.2.2.2.1.2.1.1 d.2.2.2.1.2.1.2 d.2.2.2.1.2.2.1 d.2.2.2.2.1 d.2.2.2.2.2.1) (by kernel_rfl) rfl (fun (d:sh113_0.data)=>ok113_0_t d.1.1 d.1.2.1 d.1.2.2.1 d.2.1.1 d.2.2.2.1.1.1 d.2.2.2.1.1.2 d.2.2.2.1.2.1.1 d.2.2.2.1.2.1.2 d.2.2.2.1.2.2.1 d.2.2.2.2.1 d.2.2.2.2.2.1) (fun _=>rfl)
def kl113_0 (P:Go.Program):Known:=(kf46 P).loop 113 0 lc113_0
theorem kl113_0_ok:KnownOk Go.Proofs.Try.prog (kl113_0 Go.Proofs.Try.prog):=kf46_ok.loop ok113_0

/-! (ductility/model.frame).begin -/

abbrev as113:List Ty:=[(.pair (.pair (.slice (.pair (.int .i64) (.pair (.int .i64) (.pair (.slice (.pair (.int .i64) (.pair (.int .i64) (.pair .bool .unit)))) .unit)))) .unit) .unit)]
abbrev rs113:List Ty:=[(.pair (.pair (.pair (.slice (.pair (.int .i64) (.pair (.int .i64) (.pair (.slice (.pair (.int .i64) (.pair (.int .i64) (.pair .bool .unit)))) .unit)))) .unit) .unit) (.pair (.pair (.slice (.int .i64)) (.pair (.slice (.int .i64)) (.pair (.slice (.pair (.int .i64) (.pair (.slice (.pair (.int .i64) (.pair .bool .unit))) .unit))) .unit))) .unit))]

def t113 (x0_:(List (Int×(Int×((List (Int×(Int×(Bool×Unit))))×Unit))))):Tr (Tys.data rs113) :=
  Tr.test ((decide ((0:Int) ≤ (↑(List.length x0_):Int)) && decide ((↑(List.length x0_):Int) ≤ (↑(List.length x0_):Int)) && decide ((8:Int) * (↑(List.length x0_):Int) ≤ (281474976710656:Int)) && decide ((↑(List.length x0_):Int) ≤ (281474976710656:Int)):Bool))
    (Tr.test (isBrk (l113_0 ((x0_,((↑(List.length x0_):Int),((0:Int),()))),((x0_,()),((),((((Int.toNat (↑(List.length x0_):Int):Nat),(Int.toNat (↑(List.length x0_):Int):Nat)),(((Int.toNat (↑(List.length x0_):Int):Nat),(Int.toNat (↑(List.length x0_):Int):Nat)),(([]:List (Int×List (Int×Bool×PUnit)×PUnit)),()))),((List.replicate (Int.toNat (↑(List.length x0_):Int)) (0:Int):List Int),((List.replicate (Int.toNat (↑(List.length x0_):Int)) (0:Int):List Int),()))))))))
      (let r0:=b113_0 ((x0_,((↑(List.length x0_):Int),((0:Int),()))),((x0_,()),((),((((Int.toNat (↑(List.length x0_):Int):Nat),(Int.toNat (↑(List.length x0_):Int):Nat)),(((Int.toNat (↑(List.length x0_):Int):Nat),(Int.toNat (↑(List.length x0_):Int):Nat)),(([]:List (Int×List (Int×Bool×PUnit)×PUnit)),()))),((List.replicate (Int.toNat (↑(List.length x0_):Int)) (0:Int):List Int),((List.replicate (Int.toNat (↑(List.length x0_):Int)) (0:Int):List Int),()))))));
      Tr.test ((Nat.beq r0.2.2.2.1.1.1 (List.length r0.2.2.2.2.1):Bool))
        (Tr.test ((Nat.beq r0.2.2.2.1.2.1.1 (List.length r0.2.2.2.2.2.1):Bool))
          (Tr.fin ((((((r0.2.1.1:List (Int×Int×List (Int×Int×Bool×PUnit)×PUnit)),()),()),((r0.2.2.2.2.1,(r0.2.2.2.2.2.1,((r0.2.2.2.1.2.2.1:List (Int×List (Int×Bool×PUnit)×PUnit)),()))),())),())))
          (Tr.test ((Nat.ble r0.2.2.2.1.2.1.1 (List.length r0.2.2.2.2.2.1):Bool))
            (Tr.fin ((((((r0.2.1.1:List (Int×Int×List (Int×Int×Bool×PUnit)×PUnit)),()),()),((r0.2.2.2.2.1,((List.take r0.2.2.2.1.2.1.1 r0.2.2.2.2.2.1:List Int),((r0.2.2.2.1.2.2.1:List (Int×List (Int×Bool×PUnit)×PUnit)),()))),())),())))
            (Tr.stop)))
        (Tr.test ((Nat.ble r0.2.2.2.1.1.1 (List.length r0.2.2.2.2.1):Bool))
          (Tr.test ((Nat.beq r0.2.2.2.1.2.1.1 (List.length r0.2.2.2.2.2.1):Bool))
            (Tr.fin ((((((r0.2.1.1:List (Int×Int×List (Int×Int×Bool×PUnit)×PUnit)),()),()),(((List.take r0.2.2.2.1.1.1 r0.2.2.2.2.1:List Int),(r0.2.2.2.2.2.1,((r0.2.2.2.1.2.2.1:List (Int×List (Int×Bool×PUnit)×PUnit)),()))),())),())))
            (Tr.test ((Nat.ble r0.2.2.2.1.2.1.1 (List.length r0.2.2.2.2.2.1):Bool))
              (Tr.fin ((((((r0.2.1.1:List (Int×Int×List (Int×Int×Bool×PUnit)×PUnit)),()),()),(((List.take r0.2.2.2.1.1.1 r0.2.2.2.2.1:List Int),((List.take r0.2.2.2.1.2.1.1 r0.2.2.2.2.2.1:List Int),((r0.2.2.2.1.2.2.1:List (Int×List (Int×Bool×PUnit)×PUnit)),()))),())),())))
              (Tr.stop)))
          (Tr.stop)))
      (Tr.stop))
    (Tr.stop)

def f113 (d:Tys.data as113):Option (Tys.data rs113):=(t113 d.1.1.1).val
def g113 (d:Tys.data as113):Tys.data rs113:=(f113 d).getD (Tys.dflt rs113)
def p113:PureC:=pcOf as113 rs113 f113 g113

theorem wk113 (x0_:(List (Int×(Int×((List (Int×(Int×(Bool×Unit))))×Unit))))):Walks (runPure (kl113_0 Go.Proofs.Try.prog).orc Go.Proofs.Try.prog 400 113 as113 rs113 (((x0_,()),()),())) (t113 x0_) [(bl 4 15,[2,4,1,6,8,8]),(bl 5 23,[2,4,6,1,8,10,10]),(bl 5 27,[2,4,6,1,8,10,10]),(bl 6 43,[2,4,6,8,1,10,12,12])] :=
  ⟨by kernel_rfl,by kernel_rfl,by kernel_rfl,by kernel_rfl,trivial⟩

theorem ok113_t (x0_:(List (Int×(Int×((List (Int×(Int×(Bool×Unit))))×Unit))))):TrOk (PureRuns Go.Proofs.Try.prog (kl113_0 Go.Proofs.Try.prog).orc 113 as113 rs113 (((x0_,()),()),())) (t113 x0_) :=
  Walks.ok (fun _ _ _=>PureRuns.of) (wk113 x0_) (by kernel_rfl)

theorem ok113:PureOk Go.Proofs.Try.prog 113 p113:=pureOk_of kl113_0_ok.base (T:=fun (d:Tys.data as113)=>t113 d.1.1.1) (by kernel_rfl) (fun (d:Tys.data as113)=>ok113_t d.1.1.1)
def kf113 (P:Go.Program):Known:=(kl113_0 P).func 113 p113
theorem kf113_ok:KnownOk Go.Proofs.Try.prog (kf113 Go.Proofs.Try.prog):=kl113_0_ok.func ok113

/-! ductility/model.BeginOf -/

abbrev as48:List Ty:=[(.pair (.slice (.pair (.int .i64) (.pair (.int .i64) (.pair (.slice (.pair (.int .i64) (.pair (.int .i64) (.pair .bool .unit)))) .unit)))) .unit)]
abbrev rs48:List Ty:=[(.pair (.slice (.int .i64)) (.pair (.slice (.int .i64)) (.pair (.slice (.pair (.int .i64) (.pair (.slice (.pair (.int .i64) (.pair .bool .unit))) .unit))) .unit))),(.int .i64)]

def t48 (x0:(List (Int×(Int×((List (Int×(Int×(Bool×Unit))))×Unit))))):Tr (Tys.data rs48) :=
  Tr.test (Option.isSome (f108 ((x0,()),(([]:List Int),()))))
    (let r0:=g108 ((x0,()),(([]:List Int),()));
    Tr.test ((!eqF r0.2.1 0:Bool))
      (Tr.fin (((([]:List Int),(([]:List Int),(([]:List (Int×List (Int×Bool×PUnit)×PUnit)),()))),(r0.2.1,()))))
      (Tr.test (Option.isSome (f113 ((((r0.1.1.1:List (Int×Int×List (Int×Int×Bool×PUnit)×PUnit)),()),()),())))
        (let r1:=g113 ((((r0.1.1.1:List (Int×Int×List (Int×Int×Bool×PUnit)×PUnit)),()),()),());
        Tr.fin (((r1.1.2.1.1,(r1.1.2.1.2.1,((r1.1.2.1.2.2.1:List (Int×List (Int×Bool×PUnit)×PUnit)),()))),((0:Int),()))))
        (Tr.stop)))
    (Tr.stop)

def f48 (d:Tys.data as48):Option (Tys.data rs48):=(t48 d.1.1).val
def g48 (d:Tys.data as48):Tys.data rs48:=(f48 d).getD (Tys.dflt rs48)
def p48:PureC:=pcOf as48 rs48 f48 g48

theorem wk48 (x0:(List (Int×(Int×((List (Int×(Int×(Bool×Unit))))×Unit))))):Walks (runPure (kf113 Go.Proofs.Try.prog).orc Go.Proofs.Try.prog 400 48 as48 rs48 ((x0,()),())) (t48 x0) [(bl 2 3,[2,4]),(bl 3 5,[2,4,6])] :=
  ⟨by kernel_rfl,by kernel_rfl,trivial⟩

theorem ok48_t (x0:(List (Int×(Int×((List (Int×(Int×(Bool×Unit))))×Unit))))):TrOk (PureRuns Go.Proofs.Try.prog (kf113 Go.Proofs.Try.prog).orc 48 as48 rs48 ((x0,()),())) (t48 x0) :=
  Walks.ok (fun _ _ _=>PureRuns.of) (wk48 x0) (by kernel_rfl)

theorem ok48:PureOk Go.Proofs.Try.prog 48 p48:=pureOk_of kf113_ok.base (T:=fun (d:Tys.data as48)=>t48 d.1.1) (by kernel_rfl) (fun (d:Tys.data as48)=>ok48_t d.1.1)
def kf48 (P:Go.Program):Known:=(kf113 P).func 48 p48
theorem kf48_ok:KnownOk Go.Proofs.Try.prog (kf48 Go.Proofs.Try.prog):=kf113_ok.func ok48

/-! ductility/ductilitybase.Within -/

abbrev as40:List Ty:=[(.int .i64),(.int .i64),(.int .i64)]
abbrev rs40:List Ty:=[.bool]

def t40 (x0:Int) (x1:Int) (x2:Int):Tr (Tys.data rs40) :=
  Tr.test ((leF x1 x0:Bool))
    (Tr.fin ((leF x0 x2,())))
    (Tr.fin ((false,())))

def f40 (d:Tys.data as40):Option (Tys.data rs40):=(t40 d.1 d.2.1 d.2.2.1).val
def g40 (d:Tys.data as40):Tys.data rs40:=(f40 d).getD (Tys.dflt rs40)
def p40:PureC:=pcOf as40 rs40 f40 g40

theorem wk40 (x0:Int) (x1:Int) (x2:Int):Walks (runPure (kf48 Go.Proofs.Try.prog).orc Go.Proofs.Try.prog 400 40 as40 rs40 (x0,x1,x2,())) (t40 x0 x1 x2) [(bl 1 1,[2,2,2,2]),(bl 1 0,[2,2,2,2])] :=
  ⟨by kernel_rfl,by kernel_rfl,trivial⟩

theorem ok40_t (x0:Int) (x1:Int) (x2:Int):TrOk (PureRuns Go.Proofs.Try.prog (kf48 Go.Proofs.Try.prog).orc 40 as40 rs40 (x0,x1,x2,())) (t40 x0 x1 x2) :=
  Walks.ok (fun _ _ _=>PureRuns.of) (wk40 x0 x1 x2) (by kernel_rfl)

theorem ok40:PureOk Go.Proofs.Try.prog 40 p40:=pureOk_of kf48_ok.base (T:=fun (d:Tys.data as40)=>t40 d.1 d.2.1 d.2.2.1) (by kernel_rfl) (fun (d:Tys.data as40)=>ok40_t d.1 d.2.1 d.2.2.1)
def kf40 (P:Go.Program):Known:=(kf48 P).func 40 p40
theorem kf40_ok:KnownOk Go.Proofs.Try.prog (kf40 Go.Proofs.Try.prog):=kf48_ok.func ok40

/-! loop 0 of ductility/ductilityref05.CheckSpring -/

abbrev sh30_0:Sh:={ n:=34,slots:=[0,4],pats:=[.ty (.slice (.pair (.int .i64) (.pair (.int .i64) (.pair .bool .unit)))),.ty (.int .i64)],boxes:=[] }
abbrev shb30_0:Sh:={ n:=34,slots:=[],pats:=[],boxes:=[] }
abbrev shr30_0:Sh:={ n:=34,slots:=[2,3],pats:=[.ty (.int .i64),.ty (.int .i64)],boxes:=[] }

def t30_0 (x0:(List (Int×(Int×(Bool×Unit))))) (x1:Int):Tr (Out sh30_0.data shb30_0.data shr30_0.data) :=
  Tr.test ((!leF (↑(List.length x0):Int) x1:Bool))
    (Tr.test (decide ((0:Int) ≤ x1) && decide (x1 < (↑(List.length x0):Int)))
      (Tr.test (Option.isSome (f40 (((List.getD x0 (Int.toNat x1) ((0:Int),(0:Int),false,())).1:Int),((1:Int),((1000:Int),())))))
        (let r0:=g40 (((List.getD x0 (Int.toNat x1) ((0:Int),(0:Int),false,())).1:Int),((1:Int),((1000:Int),())));
        Tr.test ((!r0.1:Bool))
          (Tr.fin (.ret ((x1,((2:Int),())),())))
          (Tr.test (Option.isSome (f40 (((List.getD x0 (Int.toNat x1) ((0:Int),(0:Int),false,())).2.1:Int),((1:Int),((1000:Int),())))))
            (let r1:=g40 (((List.getD x0 (Int.toNat x1) ((0:Int),(0:Int),false,())).2.1:Int),((1:Int),((1000:Int),())));
            Tr.test ((!r1.1:Bool))
              (Tr.fin (.ret ((x1,((2:Int),())),())))
              (Tr.fin (.again ((x0,((wrap64 (x1 + (1:Int)):Int),())),()))))
            (Tr.stop)))
        (Tr.stop))
      (Tr.stop))
    (Tr.fin (.brk ((),())))

def s30_0 (d:sh30_0.data):Option (Out sh30_0.data shb30_0.data shr30_0.data):=(t30_0 d.1.1 d.1.2.1).val
def l30_0 (d:sh30_0.data):Option (shb30_0.data ⊕ shr30_0.data):=itr s30_0 rounds d
def b30_0 (d:sh30_0.data):shb30_0.data:=outB shb30_0.dflt (l30_0 d)
def r30_0 (d:sh30_0.data):shr30_0.data:=outR shr30_0.dflt (l30_0 d)
def lc30_0:LoopC:=lcOf sh30_0 shb30_0 shr30_0 l30_0 b30_0 r30_0

theorem wk30_0 (x0:(List (Int×(Int×(Bool×Unit))))) (x1:Int):Walks (runBody (kf40 Go.Proofs.Try.prog).orc Go.Proofs.Try.prog 400 30 0 sh30_0 shb30_0 shr30_0 ((x0,x1,()),())) (t30_0 x0 x1) [(bl 4 15,[1,2,2,2,2,2,2,2,2,4,6,8]),(bl 6 55,[2,6,6,4,6,6,6,10,6,6,6,8,10,12]),(bl 6 23,[2,6,6,4,6,6,6,10,6,6,6,8,10,12]),(bl 1 0,[2])] :=
  ⟨by kernel_rfl,by kernel_rfl,by kernel_rfl,by kernel_rfl,trivial⟩

theorem ok30_0_t (x0:(List (Int×(Int×(Bool×Unit))))) (x1:Int):TrOk (BodyRuns Go.Proofs.Try.prog (kf40 Go.Proofs.Try.prog).orc 30 0 sh30_0 shb30_0 shr30_0 ((x0,x1,()),())) (t30_0 x0 x1) :=
  Walks.ok (fun _ _ _=>BodyRuns.of) (wk30_0 x0 x1) (by kernel_rfl)

theorem ok30_0:LoopOk Go.Proofs.Try.prog 30 0 lc30_0:=loopOk_of (sh:=sh30_0) (shB:=shb30_0) (shR:=shr30_0) kf40_ok.base (T:=fun (d:sh30_0.data)=>t30_0 d.1.1 d.1.2.1) (by kernel_rfl) rfl (fun (d:sh30_0.data)=>ok30_0_t d.1.1 d.1.2.1) (fun _=>rfl)
def kl30_0 (P:Go.Program):Known:=(kf40 P).loop 30 0 lc30_0
theorem kl30_0_ok:KnownOk Go.Proofs.Try.prog (kl30_0 Go.Proofs.Try.prog):=kf40_ok.loop ok30_0

/-! ductility/ductilityref05.CheckSpring -/

abbrev as30:List Ty:=[(.slice (.pair (.int .i64) (.pair (.int .i64) (.pair .bool .unit))))]
abbrev rs30:List Ty:=[(.int .i64),(.int .i64)]

def t30 (x0:(List (Int×(Int×(Bool×Unit))))):Tr (Tys.data rs30) :=
  Tr.test ((eqF (↑(List.length x0):Int) (0:Int):Bool))
    (Tr.fin (((0:Int),((10:Int),()))))
    (Tr.test (!leF (↑(List.length x0):Int) (4:Int))
      (Tr.fin (((0:Int),((8:Int),()))))
      (Tr.test (Option.isSome (l30_0 ((x0,((0:Int),())),())))
        (Tr.test (isRet (l30_0 ((x0,((0:Int),())),())))
          (let r0:=r30_0 ((x0,((0:Int),())),());
          Tr.fin ((r0.1.1,(r0.1.2.1,()))))
          (Tr.fin (((0:Int),((0:Int),())))))
        (Tr.stop)))

def f30 (d:Tys.data as30):Option (Tys.data rs30):=(t30 d.1).val
def g30 (d:Tys.data as30):Tys.data rs30:=(f30 d).getD (Tys.dflt rs30)
def p30:PureC:=pcOf as30 rs30 f30 g30

theorem wk30 (x0:(List (Int×(Int×(Bool×Unit))))):Walks (runPure (kl30_0 Go.Proofs.Try.prog).orc Go.Proofs.Try.prog 400 30 as30 rs30 (x0,())) (t30 x0) [(bl 1 1,[2]),(bl 2 2,[2,4]),(bl 4 12,[2,4,6,8]),(bl 4 4,[2,4,6,8])] :=
  ⟨by kernel_rfl,by kernel_rfl,by kernel_rfl,by kernel_rfl,trivial⟩

theorem ok30_t (x0:(List (Int×(Int×(Bool×Unit))))):TrOk (PureRuns Go.Proofs.Try.prog (kl30_0 Go.Proofs.Try.prog).orc 30 as30 rs30 (x0,())) (t30 x0) :=
  Walks.ok (fun _ _ _=>PureRuns.of) (wk30 x0) (by kernel_rfl)

theorem ok30:PureOk Go.Proofs.Try.prog 30 p30:=pureOk_of kl30_0_ok.base (T:=fun (d:Tys.data as30)=>t30 d.1) (by kernel_rfl) (fun (d:Tys.data as30)=>ok30_t d.1)
def kf30 (P:Go.Program):Known:=(kl30_0 P).func 30 p30
theorem kf30_ok:KnownOk Go.Proofs.Try.prog (kf30 Go.Proofs.Try.prog):=kl30_0_ok.func ok30

/-! ductility/ductilityref05.SpringErr -/

abbrev as39:List Ty:=[(.slice (.pair (.int .i64) (.pair (.int .i64) (.pair .bool .unit))))]
abbrev rs39:List Ty:=[(.int .i64)]

def t39 (x0:(List (Int×(Int×(Bool×Unit))))):Tr (Tys.data rs39) :=
  Tr.test (Option.isSome (f30 (x0,())))
    (let r0:=g30 (x0,());
    Tr.fin ((r0.2.1,())))
    (Tr.stop)

def f39 (d:Tys.data as39):Option (Tys.data rs39):=(t39 d.1).val
def g39 (d:Tys.data as39):Tys.data rs39:=(f39 d).getD (Tys.dflt rs39)
def p39:PureC:=pcOf as39 rs39 f39 g39

theorem wk39 (x0:(List (Int×(Int×(Bool×Unit))))):Walks (runPure (kf30 Go.Proofs.Try.prog).orc Go.Proofs.Try.prog 400 39 as39 rs39 (x0,())) (t39 x0) [(bl 1 1,[2])] :=
  ⟨by kernel_rfl,trivial⟩

theorem ok39_t (x0:(List (Int×(Int×(Bool×Unit))))):TrOk (PureRuns Go.Proofs.Try.prog (kf30 Go.Proofs.Try.prog).orc 39 as39 rs39 (x0,())) (t39 x0) :=
  Walks.ok (fun _ _ _=>PureRuns.of) (wk39 x0) (by kernel_rfl)

theorem ok39:PureOk Go.Proofs.Try.prog 39 p39:=pureOk_of kf30_ok.base (T:=fun (d:Tys.data as39)=>t39 d.1) (by kernel_rfl) (fun (d:Tys.data as39)=>ok39_t d.1)
def kf39 (P:Go.Program):Known:=(kf30 P).func 39 p39
theorem kf39_ok:KnownOk Go.Proofs.Try.prog (kf39 Go.Proofs.Try.prog):=kf30_ok.func ok39

/-! loop 0 of ductility/ductilityref05.CheckFrame -/

abbrev sh49_0:Sh:={ n:=45,slots:=[1,4],pats:=[.ptr 0 1 0,.ty (.int .i64)],boxes:=[.row [.ty (.slice (.pair (.int .i64) (.pair (.int .i64) (.pair (.slice (.pair (.int .i64) (.pair (.int .i64) (.pair .bool .unit)))) .unit))))]] }
abbrev shb49_0:Sh:={ n:=45,slots:=[],pats:=[],boxes:=[.row [.ty (.slice (.pair (.int .i64) (.pair (.int .i64) (.pair (.slice (.pair (.int .i64) (.pair (.int .i64) (.pair .bool .unit)))) .unit))))]] }
abbrev shr49_0:Sh:={ n:=45,slots:=[2,3],pats:=[.ty (.int .i64),.ty (.int .i64)],boxes:=[.row [.ty (.slice (.pair (.int .i64) (.pair (.int .i64) (.pair (.slice (.pair (.int .i64) (.pair (.int .i64) (.pair .bool .unit)))) .unit))))]] }

def t49_0 (x1:Int) (b0_0:(List (Int×(Int×((List (Int×(Int×(Bool×Unit))))×Unit))))):Tr (Out sh49_0.data shb49_0.data shr49_0.data) :=
  Tr.test ((!leF (↑(List.length b0_0):Int) x1:Bool))
    (Tr.test (decide ((0:Int) ≤ x1) && decide (x1 < (↑(List.length b0_0):Int)))
      (Tr.test (Option.isSome (f40 (((List.getD b0_0 (Int.toNat x1) ((0:Int),(0:Int),[],())).1:Int),((1:Int),((10000:Int),())))))
        (let r0:=g40 (((List.getD b0_0 (Int.toNat x1) ((0:Int),(0:Int),[],())).1:Int),((1:Int),((10000:Int),())));
        Tr.test ((!r0.1:Bool))
          (Tr.fin (.ret ((x1,((2:Int),())),((b0_0,()),()))))
          (Tr.test (Option.isSome (f40 (((List.getD b0_0 (Int.toNat x1) ((0:Int),(0:Int),[],())).2.1:Int),((1:Int),((1000:Int),())))))
            (let r1:=g40 (((List.getD b0_0 (Int.toNat x1) ((0:Int),(0:Int),[],())).2.1:Int),((1:Int),((1000:Int),())));
            Tr.test ((!r1.1:Bool))
              (Tr.fin (.ret ((x1,((2:Int),())),((b0_0,()),()))))
              (Tr.test (Option.isSome (f39 (((List.getD b0_0 (Int.toNat x1) ((0:Int),(0:Int),[],())).2.2.1:List (Int×Int×Bool×PUnit)),())))
                (let r2:=g39 (((List.getD b0_0 (Int.toNat x1) ((0:Int),(0:Int),[],())).2.2.1:List (Int×Int×Bool×PUnit)),());
                Tr.test ((!eqF r2.1 0:Bool))
                  (Tr.fin (.ret ((x1,(r2.1,())),((b0_0,()),()))))
                  (Tr.fin (.again (((wrap64 (x1 + (1:Int)):Int),()),((b0_0,()),())))))
                (Tr.stop)))
            (Tr.stop)))
        (Tr.stop))
      (Tr.stop))
    (Tr.fin (.brk ((),((b0_0,()),()))))

def s49_0 (d:sh49_0.data):Option (Out sh49_0.data shb49_0.data shr49_0.data):=(t49_0 d.1.1 d.2.1.1).val
def l49_0 (d:sh49_0.data):Option (shb49_0.data ⊕ shr49_0.data):=itr s49_0 rounds d
def b49_0 (d:sh49_0.data):shb49_0.data:=outB shb49_0.dflt (l49_0 d)
def r49_0 (d:sh49_0.data):shr49_0.data:=outR shr49_0.dflt (l49_0 d)
def lc49_0:LoopC:=lcOf sh49_0 shb49_0 shr49_0 l49_0 b49_0 r49_0

theorem wk49_0 (x1:Int) (b0_0:(List (Int×(Int×((List (Int×(Int×(Bool×Unit))))×Unit))))):Walks (runBody (kf39 Go.Proofs.Try.prog).orc Go.Proofs.Try.prog 400 49 0 sh49_0 shb49_0 shr49_0 ((x1,()),(b0_0,()),())) (t49_0 x1 b0_0) [(bl 4 15,[1,2,2,2,2,2,4,6,8]),(bl 6 55,[2,6,6,4,6,6,6,8,10,12]),(bl 8 215,[2,4,6,10,10,8,10,10,10,12,14,16]),(bl 8 87,[2,4,6,10,10,8,10,10,10,12,14,16]),(bl 1 0,[2])] :=
  ⟨by kernel_rfl,by kernel_rfl,by kernel_rfl,by kernel_rfl,by kernel_rfl,trivial⟩

theorem ok49_0_t (x1:Int) (b0_0:(List (Int×(Int×((List (Int×(Int×(Bool×Unit))))×Unit))))):TrOk (BodyRuns Go.Proofs.Try.prog (kf39 Go.Proofs.Try.prog).orc 49 0 sh49_0 shb49_0 shr49_0 ((x1,()),(b0_0,()),())) (t49_0 x1 b0_0) :=
  Walks.ok (fun _ _ _=>BodyRuns.of) (wk49_0 x1 b0_0) (by kernel_rfl)

theorem ok49_0:LoopOk Go.Proofs.Try.prog 49 0 lc49_0:=loopOk_of (sh:=sh49_0) (shB:=shb49_0) (shR:=shr49_0) kf39_ok.base (T:=fun (d:sh49_0.data)=>t49_0 d.1.1 d.2.1.1) (by kernel_rfl) rfl (fun (d:sh49_0.data)=>ok49_0_t d.1.1 d.2.1.1) (fun _=>rfl)
def kl49_0 (P:Go.Program):Known:=(kf39 P).loop 49 0 lc49_0
theorem kl49_0_ok:KnownOk Go.Proofs.Try.prog (kl49_0 Go.Proofs.Try.prog):=kf39_ok.loop ok49_0

/-! ductility/ductilityref05.CheckFrame -/

abbrev as49:List Ty:=[(.pair (.slice (.pair (.int .i64) (.pair (.int .i64) (.pair (.slice (.pair (.int .i64) (.pair (.int .i64) (.pair .bool .unit)))) .unit)))) .unit)]
abbrev rs49:List Ty:=[(.int .i64),(.int .i64)]

def t49 (x0:(List (Int×(Int×((List (Int×(Int×(Bool×Unit))))×Unit))))):Tr (Tys.data rs49) :=
  Tr.test ((eqF (↑(List.length x0):Int) (0:Int):Bool))
    (Tr.fin (((0:Int),((10:Int),()))))
    (Tr.test (!leF (↑(List.length x0):Int) (5:Int))
      (Tr.fin (((0:Int),((8:Int),()))))
      (Tr.test (Option.isSome (l49_0 (((0:Int),()),((x0,()),()))))
        (Tr.test (isRet (l49_0 (((0:Int),()),((x0,()),()))))
          (let r0:=r49_0 (((0:Int),()),((x0,()),()));
          Tr.fin ((r0.1.1,(r0.1.2.1,()))))
          (Tr.fin (((0:Int),((0:Int),())))))
        (Tr.stop)))

def f49 (d:Tys.data as49):Option (Tys.data rs49):=(t49 d.1.1).val
def g49 (d:Tys.data as49):Tys.data rs49:=(f49 d).getD (Tys.dflt rs49)
def p49:PureC:=pcOf as49 rs49 f49 g49

theorem wk49 (x0:(List (Int×(Int×((List (Int×(Int×(Bool×Unit))))×Unit))))):Walks (runPure (kl49_0 Go.Proofs.Try.prog).orc Go.Proofs.Try.prog 400 49 as49 rs49 ((x0,()),())) (t49 x0) [(bl 1 1,[2]),(bl 2 2,[2,4]),(bl 4 12,[2,4,6,8]),(bl 4 4,[2,4,6,8])] :=
  ⟨by kernel_rfl,by kernel_rfl,by kernel_rfl,by kernel_rfl,trivial⟩

theorem ok49_t (x0:(List (Int×(Int×((List (Int×(Int×(Bool×Unit))))×Unit))))):TrOk (PureRuns Go.Proofs.Try.prog (kl49_0 Go.Proofs.Try.prog).orc 49 as49 rs49 ((x0,()),())) (t49 x0) :=
  Walks.ok (fun _ _ _=>PureRuns.of) (wk49 x0) (by kernel_rfl)

theorem ok49:PureOk Go.Proofs.Try.prog 49 p49:=pureOk_of kl49_0_ok.base (T:=fun (d:Tys.data as49)=>t49 d.1.1) (by kernel_rfl) (fun (d:Tys.data as49)=>ok49_t d.1.1)
def kf49 (P:Go.Program):Known:=(kl49_0 P).func 49 p49
theorem kf49_ok:KnownOk Go.Proofs.Try.prog (kf49 Go.Proofs.Try.prog):=kl49_0_ok.func ok49

/-! loop 0 of ductility/ductilitybase.Ints -/

abbrev sh64_0:Sh:={ n:=26,slots:=[0,1,5],pats:=[.ty (.slice (.int .i64)),.ty (.slice (.int .i64)),.ty (.int .i64)],boxes:=[] }
abbrev shb64_0:Sh:={ n:=26,slots:=[],pats:=[],boxes:=[] }
abbrev shr64_0:Sh:={ n:=26,slots:=[4],pats:=[.ty .bool],boxes:=[] }

def t64_0 (x0:(List Int)) (x1:(List Int)) (x2:Int):Tr (Out sh64_0.data shb64_0.data shr64_0.data) :=
  Tr.test ((!leF (↑(List.length x0):Int) x2:Bool))
    (Tr.test (decide ((0:Int) ≤ x2) && decide (x2 < (↑(List.length x0):Int)))
      (Tr.test ((decide ((0:Int) ≤ x2) && decide (x2 < (↑(List.length x1):Int)):Bool))
        (Tr.test ((!eqF (List.getD x0 (Int.toNat x2) (0:Int)) (List.getD x1 (Int.toNat x2) (0:Int)):Bool))
          (Tr.fin (.ret (((false:Bool),()),())))
          (Tr.fin (.again ((x0,(x1,((wrap64 (x2 + (1:Int)):Int),()))),()))))
        (Tr.stop))
      (Tr.stop))
    (Tr.fin (.brk ((),())))

def s64_0 (d:sh64_0.data):Option (Out sh64_0.data shb64_0.data shr64_0.data):=(t64_0 d.1.1 d.1.2.1 d.1.2.2.1).val
def l64_0 (d:sh64_0.data):Option (shb64_0.data ⊕ shr64_0.data):=itr s64_0 rounds d
def b64_0 (d:sh64_0.data):shb64_0.data:=outB shb64_0.dflt (l64_0 d)
def r64_0 (d:sh64_0.data):shr64_0.data:=outR shr64_0.dflt (l64_0 d)
def lc64_0:LoopC:=lcOf sh64_0 shb64_0 shr64_0 l64_0 b64_0 r64_0

theorem wk64_0 (x0:(List Int)) (x1:(List Int)) (x2:Int):Walks (runBody (kf49 Go.Proofs.Try.prog).orc Go.Proofs.Try.prog 400 64 0 sh64_0 shb64_0 shr64_0 ((x0,x1,x2,()),())) (t64_0 x0 x1 x2) [(bl 4 15,[2,4,6,8]),(bl 4 7,[2,4,6,8]),(bl 1 0,[2])] :=
  ⟨by kernel_rfl,by kernel_rfl,by kernel_rfl,trivial⟩

theorem ok64_0_t (x0:(List Int)) (x1:(List Int)) (x2:Int):TrOk (BodyRuns Go.Proofs.Try.prog (kf49 Go.Proofs.Try.prog).orc 64 0 sh64_0 shb64_0 shr64_0 ((x0,x1,x2,()),())) (t64_0 x0 x1 x2) :=
  Walks.ok (fun _ _ _=>BodyRuns.of) (wk64_0 x0 x1 x2) (by kernel_rfl)

theorem ok64_0:LoopOk Go.Proofs.Try.prog 64 0 lc64_0:=loopOk_of (sh:=sh64_0) (shB:=shb64_0) (shR:=shr64_0) kf49_ok.base (T:=fun (d:sh64_0.data)=>t64_0 d.1.1 d.1.2.1 d.1.2.2.1) (by kernel_rfl) rfl (fun (d:sh64_0.data)=>ok64_0_t d.1.1 d.1.2.1 d.1.2.2.1) (fun _=>rfl)
def kl64_0 (P:Go.Program):Known:=(kf49 P).loop 64 0 lc64_0
theorem kl64_0_ok:KnownOk Go.Proofs.Try.prog (kl64_0 Go.Proofs.Try.prog):=kf49_ok.loop ok64_0

/-! ductility/ductilitybase.Ints -/

abbrev as64:List Ty:=[(.slice (.int .i64)),(.slice (.int .i64))]
abbrev rs64:List Ty:=[.bool]

def t64 (x0:(List Int)) (x1:(List Int)):Tr (Tys.data rs64) :=
  Tr.test ((!eqF (↑(List.length x0):Int) (↑(List.length x1):Int):Bool))
    (Tr.fin ((false,())))
    (Tr.test (Option.isSome (l64_0 ((x0,(x1,((0:Int),()))),())))
      (Tr.test (isRet (l64_0 ((x0,(x1,((0:Int),()))),())))
        (let r0:=r64_0 ((x0,(x1,((0:Int),()))),());
        Tr.fin ((r0.1.1,())))
        (Tr.fin (((true:Bool),()))))
      (Tr.stop))

def f64 (d:Tys.data as64):Option (Tys.data rs64):=(t64 d.1 d.2.1).val
def g64 (d:Tys.data as64):Tys.data rs64:=(f64 d).getD (Tys.dflt rs64)
def p64:PureC:=pcOf as64 rs64 f64 g64

theorem wk64 (x0:(List Int)) (x1:(List Int)):Walks (runPure (kl64_0 Go.Proofs.Try.prog).orc Go.Proofs.Try.prog 400 64 as64 rs64 (x0,x1,())) (t64 x0 x1) [(bl 1 1,[2]),(bl 3 6,[2,4,6]),(bl 3 2,[2,4,6])] :=
  ⟨by kernel_rfl,by kernel_rfl,by kernel_rfl,trivial⟩

theorem ok64_t (x0:(List Int)) (x1:(List Int)):TrOk (PureRuns Go.Proofs.Try.prog (kl64_0 Go.Proofs.Try.prog).orc 64 as64 rs64 (x0,x1,())) (t64 x0 x1) :=
  Walks.ok (fun _ _ _=>PureRuns.of) (wk64 x0 x1) (by kernel_rfl)

theorem ok64:PureOk Go.Proofs.Try.prog 64 p64:=pureOk_of kl64_0_ok.base (T:=fun (d:Tys.data as64)=>t64 d.1 d.2.1) (by kernel_rfl) (fun (d:Tys.data as64)=>ok64_t d.1 d.2.1)
def kf64 (P:Go.Program):Known:=(kl64_0 P).func 64 p64
theorem kf64_ok:KnownOk Go.Proofs.Try.prog (kf64 Go.Proofs.Try.prog):=kl64_0_ok.func ok64

/-! loop 0 of ductility/ductilityref05.SameHold -/

abbrev sh31_0:Sh:={ n:=38,slots:=[2,3,5],pats:=[.ptr 0 2 0,.ptr 1 2 0,.ty (.int .i64)],boxes:=[.row [.ty (.int .i64),.ty (.slice (.pair (.int .i64) (.pair .bool .unit)))],.row [.ty (.int .i64),.ty (.slice (.pair (.int .i64) (.pair .bool .unit)))]] }
abbrev shb31_0:Sh:={ n:=38,slots:=[],pats:=[],boxes:=[.row [.ty (.int .i64),.ty (.slice (.pair (.int .i64) (.pair .bool .unit)))],.row [.ty (.int .i64),.ty (.slice (.pair (.int .i64) (.pair .bool .unit)))]] }
abbrev shr31_0:Sh:={ n:=38,slots:=[4],pats:=[.ty .bool],boxes:=[.row [.ty (.int .i64),.ty (.slice (.pair (.int .i64) (.pair .bool .unit)))],.row [.ty (.int .i64),.ty (.slice (.pair (.int .i64) (.pair .bool .unit)))]] }

def t31_0 (x2:Int) (b0_0:Int) (b0_1:(List (Int×(Bool×Unit)))) (b1_0:Int) (b1_1:(List (Int×(Bool×Unit)))):Tr (Out sh31_0.data shb31_0.data shr31_0.data) :=
  Tr.test ((!leF (↑(List.length b0_1):Int) x2:Bool))
    (Tr.test (decide ((0:Int) ≤ x2) && decide (x2 < (↑(List.length b0_1):Int)))
      (Tr.test ((decide ((0:Int) ≤ x2) && decide (x2 < (↑(List.length b1_1):Int)):Bool))
        (Tr.test ((!((List.getD b0_1 (Int.toNat x2) ((0:Int),false,())).1 == (List.getD b1_1 (Int.toNat x2) ((0:Int),false,())).1 && ((List.getD b0_1 (Int.toNat x2) ((0:Int),false,())).2.1 == (List.getD b1_1 (Int.toNat x2) ((0:Int),false,())).2.1 && true)):Bool))
          (Tr.fin (.ret (((false:Bool),()),((b0_0,(b0_1,())),((b1_0,(b1_1,())),())))))
          (Tr.fin (.again (((wrap64 (x2 + (1:Int)):Int),()),((b0_0,(b0_1,())),((b1_0,(b1_1,())),()))))))
        (Tr.stop))
      (Tr.stop))
    (Tr.fin (.brk ((),((b0_0,(b0_1,())),((b1_0,(b1_1,())),())))))

def s31_0 (d:sh31_0.data):Option (Out sh31_0.data shb31_0.data shr31_0.data):=(t31_0 d.1.1 d.2.1.1 d.2.1.2.1 d.2.2.1.1 d.2.2.1.2.1).val
def l31_0 (d:sh31_0.data):Option (shb31_0.data ⊕ shr31_0.data):=itr s31_0 rounds d
def b31_0 (d:sh31_0.data):shb31_0.data:=outB shb31_0.dflt (l31_0 d)
def r31_0 (d:sh31_0.data):shr31_0.data:=outR shr31_0.dflt (l31_0 d)
def lc31_0:LoopC:=lcOf sh31_0 shb31_0 shr31_0 l31_0 b31_0 r31_0

theorem wk31_0 (x2:Int) (b0_0:Int) (b0_1:(List (Int×(Bool×Unit)))) (b1_0:Int) (b1_1:(List (Int×(Bool×Unit)))):Walks (runBody (kf64 Go.Proofs.Try.prog).orc Go.Proofs.Try.prog 400 31 0 sh31_0 shb31_0 shr31_0 ((x2,()),(b0_0,b0_1,()),(b1_0,b1_1,()),())) (t31_0 x2 b0_0 b0_1 b1_0 b1_1) [(bl 4 15,[2,4,6,8]),(bl 4 7,[2,4,6,8]),(bl 1 0,[2])] :=
  ⟨by kernel_rfl,by kernel_rfl,by kernel_rfl,trivial⟩

theorem ok31_0_t (x2:Int) (b0_0:Int) (b0_1:(List (Int×(Bool×Unit)))) (b1_0:Int) (b1_1:(List (Int×(Bool×Unit)))):TrOk (BodyRuns Go.Proofs.Try.prog (kf64 Go.Proofs.Try.prog).orc 31 0 sh31_0 shb31_0 shr31_0 ((x2,()),(b0_0,b0_1,()),(b1_0,b1_1,()),())) (t31_0 x2 b0_0 b0_1 b1_0 b1_1) :=
  Walks.ok (fun _ _ _=>BodyRuns.of) (wk31_0 x2 b0_0 b0_1 b1_0 b1_1) (by kernel_rfl)

theorem ok31_0:LoopOk Go.Proofs.Try.prog 31 0 lc31_0:=loopOk_of (sh:=sh31_0) (shB:=shb31_0) (shR:=shr31_0) kf64_ok.base (T:=fun (d:sh31_0.data)=>t31_0 d.1.1 d.2.1.1 d.2.1.2.1 d.2.2.1.1 d.2.2.1.2.1) (by kernel_rfl) rfl (fun (d:sh31_0.data)=>ok31_0_t d.1.1 d.2.1.1 d.2.1.2.1 d.2.2.1.1 d.2.2.1.2.1) (fun _=>rfl)
def kl31_0 (P:Go.Program):Known:=(kf64 P).loop 31 0 lc31_0
theorem kl31_0_ok:KnownOk Go.Proofs.Try.prog (kl31_0 Go.Proofs.Try.prog):=kf64_ok.loop ok31_0

/-! ductility/ductilityref05.SameHold -/

abbrev as31:List Ty:=[(.pair (.int .i64) (.pair (.slice (.pair (.int .i64) (.pair .bool .unit))) .unit)),(.pair (.int .i64) (.pair (.slice (.pair (.int .i64) (.pair .bool .unit))) .unit))]
abbrev rs31:List Ty:=[.bool]

def t31 (x0:Int) (x0':(List (Int×(Bool×Unit)))) (x1:Int) (x1':(List (Int×(Bool×Unit)))):Tr (Tys.data rs31) :=
  Tr.test ((!eqF x0 x1:Bool))
    (Tr.fin ((false,())))
    (Tr.test (!eqF (↑(List.length x0'):Int) (↑(List.length x1'):Int))
      (Tr.fin (((false:Bool),())))
      (Tr.test (Option.isSome (l31_0 (((0:Int),()),((x0,(x0',())),((x1,(x1',())),())))))
        (Tr.test (isRet (l31_0 (((0:Int),()),((x0,(x0',())),((x1,(x1',())),())))))
          (let r0:=r31_0 (((0:Int),()),((x0,(x0',())),((x1,(x1',())),())));
          Tr.fin ((r0.1.1,())))
          (Tr.fin (((true:Bool),()))))
        (Tr.stop)))

def f31 (d:Tys.data as31):Option (Tys.data rs31):=(t31 d.1.1 d.1.2.1 d.2.1.1 d.2.1.2.1).val
def g31 (d:Tys.data as31):Tys.data rs31:=(f31 d).getD (Tys.dflt rs31)
def p31:PureC:=pcOf as31 rs31 f31 g31

theorem wk31 (x0:Int) (x0':(List (Int×(Bool×Unit)))) (x1:Int) (x1':(List (Int×(Bool×Unit)))):Walks (runPure (kl31_0 Go.Proofs.Try.prog).orc Go.Proofs.Try.prog 400 31 as31 rs31 ((x0,x0',()),(x1,x1',()),())) (t31 x0 x0' x1 x1') [(bl 1 1,[1,2,2,2,2,2,2,2,2]),(bl 2 2,[2,4,4,4,4,4,4,4,4]),(bl 4 12,[2,4,6,8,8,8,8,8,8,8,8]),(bl 4 4,[2,4,6,8,8,8,8,8,8,8,8])] :=
  ⟨by kernel_rfl,by kernel_rfl,by kernel_rfl,by kernel_rfl,trivial⟩

theorem ok31_t (x0:Int) (x0':(List (Int×(Bool×Unit)))) (x1:Int) (x1':(List (Int×(Bool×Unit)))):TrOk (PureRuns Go.Proofs.Try.prog (kl31_0 Go.Proofs.Try.prog).orc 31 as31 rs31 ((x0,x0',()),(x1,x1',()),())) (t31 x0 x0' x1 x1') :=
  Walks.ok (fun _ _ _=>PureRuns.of) (wk31 x0 x0' x1 x1') (by kernel_rfl)

theorem ok31:PureOk Go.Proofs.Try.prog 31 p31:=pureOk_of kl31_0_ok.base (T:=fun (d:Tys.data as31)=>t31 d.1.1 d.1.2.1 d.2.1.1 d.2.1.2.1) (by kernel_rfl) (fun (d:Tys.data as31)=>ok31_t d.1.1 d.1.2.1 d.2.1.1 d.2.1.2.1)
def kf31 (P:Go.Program):Known:=(kl31_0 P).func 31 p31
theorem kf31_ok:KnownOk Go.Proofs.Try.prog (kf31 Go.Proofs.Try.prog):=kl31_0_ok.func ok31

/-! loop 0 of ductility/ductilityref05.SameState -/

abbrev sh50_0:Sh:={ n:=48,slots:=[2,3,5],pats:=[.ptr 0 3 0,.ptr 1 3 0,.ty (.int .i64)],boxes:=[.row [.ty (.slice (.int .i64)),.ty (.slice (.int .i64)),.ty (.slice (.pair (.int .i64) (.pair (.slice (.pair (.int .i64) (.pair .bool .unit))) .unit)))],.row [.ty (.slice (.int .i64)),.ty (.slice (.int .i64)),.ty (.slice (.pair (.int .i64) (.pair (.slice (.pair (.int .i64) (.pair .bool .unit))) .unit)))]] }
abbrev shb50_0:Sh:={ n:=48,slots:=[],pats:=[],boxes:=[.row [.ty (.slice (.int .i64)),.ty (.slice (.int .i64)),.ty (.slice (.pair (.int .i64) (.pair (.slice (.pair (.int .i64) (.pair .bool .unit))) .unit)))],.row [.ty (.slice (.int .i64)),.ty (.slice (.int .i64)),.ty (.slice (.pair (.int .i64) (.pair (.slice (.pair (.int .i64) (.pair .bool .unit))) .unit)))]] }
abbrev shr50_0:Sh:={ n:=48,slots:=[4],pats:=[.ty .bool],boxes:=[.row [.ty (.slice (.int .i64)),.ty (.slice (.int .i64)),.ty (.slice (.pair (.int .i64) (.pair (.slice (.pair (.int .i64) (.pair .bool .unit))) .unit)))],.row [.ty (.slice (.int .i64)),.ty (.slice (.int .i64)),.ty (.slice (.pair (.int .i64) (.pair (.slice (.pair (.int .i64) (.pair .bool .unit))) .unit)))]] }

def t50_0 (x2:Int) (b0_0:(List Int)) (b0_1:(List Int)) (b0_2:(List (Int×((List (Int×(Bool×Unit)))×Unit)))) (b1_0:(List Int)) (b1_1:(List Int)) (b1_2:(List (Int×((List (Int×(Bool×Unit)))×Unit)))):Tr (Out sh50_0.data shb50_0.data shr50_0.data) :=
  Tr.test ((!leF (↑(List.length b0_2):Int) x2:Bool))
    (Tr.test (decide ((0:Int) ≤ x2) && decide (x2 < (↑(List.length b0_2):Int)))
      (Tr.test ((decide ((0:Int) ≤ x2) && decide (x2 < (↑(List.length b1_2):Int)):Bool))
        (Tr.test (Option.isSome (f31 ((((List.getD b0_2 (Int.toNat x2) ((0:Int),[],())).1:Int),(((List.getD b0_2 (Int.toNat x2) ((0:Int),[],())).2.1:List (Int×Bool×PUnit)),())),((((List.getD b1_2 (Int.toNat x2) ((0:Int),[],())).1:Int),(((List.getD b1_2 (Int.toNat x2) ((0:Int),[],())).2.1:List (Int×Bool×PUnit)),())),()))))
          (let r0:=g31 ((((List.getD b0_2 (Int.toNat x2) ((0:Int),[],())).1:Int),(((List.getD b0_2 (Int.toNat x2) ((0:Int),[],())).2.1:List (Int×Bool×PUnit)),())),((((List.getD b1_2 (Int.toNat x2) ((0:Int),[],())).1:Int),(((List.getD b1_2 (Int.toNat x2) ((0:Int),[],())).2.1:List (Int×Bool×PUnit)),())),()));
          Tr.test ((!r0.1:Bool))
            (Tr.fin (.ret (((false:Bool),()),((b0_0,(b0_1,(b0_2,()))),((b1_0,(b1_1,(b1_2,()))),())))))
            (Tr.fin (.again (((wrap64 (x2 + (1:Int)):Int),()),((b0_0,(b0_1,(b0_2,()))),((b1_0,(b1_1,(b1_2,()))),()))))))
          (Tr.stop))
        (Tr.stop))
      (Tr.stop))
    (Tr.fin (.brk ((),((b0_0,(b0_1,(b0_2,()))),((b1_0,(b1_1,(b1_2,()))),())))))

def s50_0 (d:sh50_0.data):Option (Out sh50_0.data shb50_0.data shr50_0.data):=(t50_0 d.1.1 d.2.1.1 d.2.1.2.1 d.2.1.2.2.1 d.2.2.1.1 d.2.2.1.2.1 d.2.2.1.2.2.1).val
def l50_0 (d:sh50_0.data):Option (shb50_0.data ⊕ shr50_0.data):=itr s50_0 rounds d
def b50_0 (d:sh50_0.data):shb50_0.data:=outB shb50_0.dflt (l50_0 d)
def r50_0 (d:sh50_0.data):shr50_0.data:=outR shr50_0.dflt (l50_0 d)
def lc50_0:LoopC:=lcOf sh50_0 shb50_0 shr50_0 l50_0 b50_0 r50_0

theorem wk50_0 (x2:Int) (b0_0:(List Int)) (b0_1:(List Int)) (b0_2:(List (Int×((List (Int×(Bool×Unit)))×Unit)))) (b1_0:(List Int)) (b1_1:(List Int)) (b1_2:(List (Int×((List (Int×(Bool×Unit)))×Unit)))):Walks (runBody (kf31 Go.Proofs.Try.prog).orc Go.Proofs.Try.prog 400 50 0 sh50_0 shb50_0 shr50_0 ((x2,()),(b0_0,b0_1,b0_2,()),(b1_0,b1_1,b1_2,()),())) (t50_0 x2 b0_0 b0_1 b0_2 b1_0 b1_1 b1_2) [(bl 5 31,[2,4,6,8,10]),(bl 5 15,[2,4,6,8,10]),(bl 1 0,[2])] :=
  ⟨by kernel_rfl,by kernel_rfl,by kernel_rfl,trivial⟩

theorem ok50_0_t (x2:Int) (b0_0:(List Int)) (b0_1:(List Int)) (b0_2:(List (Int×((List (Int×(Bool×Unit)))×Unit)))) (b1_0:(List Int)) (b1_1:(List Int)) (b1_2:(List (Int×((List (Int×(Bool×Unit)))×Unit)))):TrOk (BodyRuns Go.Proofs.Try.prog (kf31 Go.Proofs.Try.prog).orc 50 0 sh50_0 shb50_0 shr50_0 ((x2,()),(b0_0,b0_1,b0_2,()),(b1_0,b1_1,b1_2,()),())) (t50_0 x2 b0_0 b0_1 b0_2 b1_0 b1_1 b1_2) :=
  Walks.ok (fun _ _ _=>BodyRuns.of) (wk50_0 x2 b0_0 b0_1 b0_2 b1_0 b1_1 b1_2) (by kernel_rfl)

theorem ok50_0:LoopOk Go.Proofs.Try.prog 50 0 lc50_0:=loopOk_of (sh:=sh50_0) (shB:=shb50_0) (shR:=shr50_0) kf31_ok.base (T:=fun (d:sh50_0.data)=>t50_0 d.1.1 d.2.1.1 d.2.1.2.1 d.2.1.2.2.1 d.2.2.1.1 d.2.2.1.2.1 d.2.2.1.2.2.1) (by kernel_rfl) rfl (fun (d:sh50_0.data)=>ok50_0_t d.1.1 d.2.1.1 d.2.1.2.1 d.2.1.2.2.1 d.2.2.1.1 d.2.2.1.2.1 d.2.2.1.2.2.1) (fun _=>rfl)
def kl50_0 (P:Go.Program):Known:=(kf31 P).loop 50 0 lc50_0
theorem kl50_0_ok:KnownOk Go.Proofs.Try.prog (kl50_0 Go.Proofs.Try.prog):=kf31_ok.loop ok50_0

/-! ductility/ductilityref05.SameState -/

abbrev as50:List Ty:=[(.pair (.slice (.int .i64)) (.pair (.slice (.int .i64)) (.pair (.slice (.pair (.int .i64) (.pair (.slice (.pair (.int .i64) (.pair .bool .unit))) .unit))) .unit))),(.pair (.slice (.int .i64)) (.pair (.slice (.int .i64)) (.pair (.slice (.pair (.int .i64) (.pair (.slice (.pair (.int .i64) (.pair .bool .unit))) .unit))) .unit)))]
abbrev rs50:List Ty:=[.bool]

def t50 (x0:(List Int)) (x0':(List Int)) (x0'':(List (Int×((List (Int×(Bool×Unit)))×Unit)))) (x1:(List Int)) (x1':(List Int)) (x1'':(List (Int×((List (Int×(Bool×Unit)))×Unit)))):Tr (Tys.data rs50) :=
  Tr.test (Option.isSome (f64 (x0,(x1,()))))
    (let r0:=g64 (x0,(x1,()));
    Tr.test ((!r0.1:Bool))
      (Tr.fin (((false:Bool),())))
      (Tr.test (Option.isSome (f64 (x0',(x1',()))))
        (let r1:=g64 (x0',(x1',()));
        Tr.test ((!r1.1:Bool))
          (Tr.fin (((false:Bool),())))
          (Tr.test ((!eqF (↑(List.length x0''):Int) (↑(List.length x1''):Int):Bool))
            (Tr.fin (((false:Bool),())))
            (Tr.test (Option.isSome (l50_0 (((0:Int),()),((x0,(x0',(x0'',()))),((x1,(x1',(x1'',()))),())))))
              (Tr.test (isRet (l50_0 (((0:Int),()),((x0,(x0',(x0'',()))),((x1,(x1',(x1'',()))),())))))
                (let r2:=r50_0 (((0:Int),()),((x0,(x0',(x0'',()))),((x1,(x1',(x1'',()))),())));
                Tr.fin ((r2.1.1,())))
                (Tr.fin (((true:Bool),()))))
              (Tr.stop))))
        (Tr.stop)))
    (Tr.stop)

def f50 (d:Tys.data as50):Option (Tys.data rs50):=(t50 d.1.1 d.1.2.1 d.1.2.2.1 d.2.1.1 d.2.1.2.1 d.2.1.2.2.1).val
def g50 (d:Tys.data as50):Tys.data rs50:=(f50 d).getD (Tys.dflt rs50)
def p50:PureC:=pcOf as50 rs50 f50 g50

theorem wk50 (x0:(List Int)) (x0':(List Int)) (x0'':(List (Int×((List (Int×(Bool×Unit)))×Unit)))) (x1:(List Int)) (x1':(List Int)) (x1'':(List (Int×((List (Int×(Bool×Unit)))×Unit)))):Walks (runPure (kl50_0 Go.Proofs.Try.prog).orc Go.Proofs.Try.prog 400 50 as50 rs50 ((x0,x0',x0'',()),(x1,x1',x1'',()),())) (t50 x0 x0' x0'' x1 x1' x1'') [(bl 2 3,[1,1,1,1,1,1,1,1,1,2,2,2,2,2,2,2,4]),(bl 4 13,[1,2,2,2,2,2,2,2,2,6,6,4,6,6,6,6,6,8]),(bl 5 21,[2,4,4,4,4,4,4,4,4,8,8,6,8,8,8,8,8,10]),(bl 7 101,[2,4,6,8,8,8,8,8,8,8,8,12,12,10,12,12,12,12,12,14]),(bl 7 37,[2,4,6,8,8,8,8,8,8,8,8,12,12,10,12,12,12,12,12,14])] :=
  ⟨by kernel_rfl,by kernel_rfl,by kernel_rfl,by kernel_rfl,by kernel_rfl,trivial⟩

theorem ok50_t (x0:(List Int)) (x0':(List Int)) (x0'':(List (Int×((List (Int×(Bool×Unit)))×Unit)))) (x1:(List Int)) (x1':(List Int)) (x1'':(List (Int×((List (Int×(Bool×Unit)))×Unit)))):TrOk (PureRuns Go.Proofs.Try.prog (kl50_0 Go.Proofs.Try.prog).orc 50 as50 rs50 ((x0,x0',x0'',()),(x1,x1',x1'',()),())) (t50 x0 x0' x0'' x1 x1' x1'') :=
  Walks.ok (fun _ _ _=>PureRuns.of) (wk50 x0 x0' x0'' x1 x1' x1'') (by kernel_rfl)

theorem ok50:PureOk Go.Proofs.Try.prog 50 p50:=pureOk_of kl50_0_ok.base (T:=fun (d:Tys.data as50)=>t50 d.1.1 d.1.2.1 d.1.2.2.1 d.2.1.1 d.2.1.2.1 d.2.1.2.2.1) (by kernel_rfl) (fun (d:Tys.data as50)=>ok50_t d.1.1 d.1.2.1 d.1.2.2.1 d.2.1.1 d.2.1.2.1 d.2.1.2.2.1)
def kf50 (P:Go.Program):Known:=(kl50_0 P).func 50 p50
theorem kf50_ok:KnownOk Go.Proofs.Try.prog (kf50 Go.Proofs.Try.prog):=kl50_0_ok.func ok50

/-! loop 0 of ductility/ductilityref05.whole -/

abbrev sh114_0:Sh:={ n:=38,slots:=[1,2,5,6],pats:=[.ty (.int .i64),.ptr 0 1 0,.ty (.int .i64),.ty (.int .i64)],boxes:=[.row [.ty (.slice (.pair (.int .i64) (.pair (.int .i64) (.pair (.slice (.pair (.int .i64) (.pair (.int .i64) (.pair .bool .unit)))) .unit))))]] }
abbrev shb114_0:Sh:={ n:=38,slots:=[5],pats:=[.ty (.int .i64)],boxes:=[.row [.ty (.slice (.pair (.int .i64) (.pair (.int .i64) (.pair (.slice (.pair (.int .i64) (.pair (.int .i64) (.pair .bool .unit)))) .unit))))]] }
abbrev shr114_0:Sh:={ n:=38,slots:=[],pats:=[],boxes:=[.row [.ty (.slice (.pair (.int .i64) (.pair (.int .i64) (.pair (.slice (.pair (.int .i64) (.pair (.int .i64) (.pair .bool .unit)))) .unit))))]] }

def t114_0 (x0:Int) (x2:Int) (x3:Int) (b0_0:(List (Int×(Int×((List (Int×(Int×(Bool×Unit))))×Unit))))):Tr (Out sh114_0.data shb114_0.data shr114_0.data) :=
  Tr.test ((!leF (↑(List.length b0_0):Int) x0:Bool))
    (Tr.test (decide ((0:Int) ≤ x0) && decide (x0 < (↑(List.length b0_0):Int)))
      (Tr.test ((!leF (↑(List.length (List.getD b0_0 (Int.toNat x0) ((0:Int),(0:Int),[],())).2.2.1):Int) x3:Bool))
        (Tr.test ((decide ((0:Int) ≤ x3) && decide (x3 < (↑(List.length (List.getD b0_0 (Int.toNat x0) ((0:Int),(0:Int),[],())).2.2.1):Int)):Bool))
          (Tr.fin (.again ((x0,((wrap64 (x2 + (List.getD (List.getD b0_0 (Int.toNat x0) ((0:Int),(0:Int),[],())).2.2.1 (Int.toNat x3) ((0:Int),(0:Int),false,())).1):Int),((wrap64 (x3 + (1:Int)):Int),()))),((b0_0,()),()))))
          (Tr.stop))
        (Tr.fin (.brk ((x2,()),((b0_0,()),())))))
      (Tr.stop))
    (Tr.fin (.brk ((x2,()),((b0_0,()),()))))

def s114_0 (d:sh114_0.data):Option (Out sh114_0.data shb114_0.data shr114_0.data):=(t114_0 d.1.1 d.1.2.1 d.1.2.2.1 d.2.1.1).val
def l114_0 (d:sh114_0.data):Option (shb114_0.data ⊕ shr114_0.data):=itr s114_0 rounds d
def b114_0 (d:sh114_0.data):shb114_0.data:=outB shb114_0.dflt (l114_0 d)
def lc114_0:LoopC:=lcB sh114_0 shb114_0 shr114_0 l114_0 b114_0

theorem wk114_0 (x0:Int) (x2:Int) (x3:Int) (b0_0:(List (Int×(Int×((List (Int×(Int×(Bool×Unit))))×Unit))))):Walks (runBody (kf50 Go.Proofs.Try.prog).orc Go.Proofs.Try.prog 400 114 0 sh114_0 shb114_0 shr114_0 ((x0,x2,x3,()),(b0_0,()),())) (t114_0 x0 x2 x3 b0_0) [(bl 4 15,[2,6,4,8,8,8,8,8,6,8,8,8,8,8]),(bl 3 3,[2,6,6,6,6,6,4,6,6,6,6,6]),(bl 1 0,[0,2,2,2,2,2,2,2,2,2,2])] :=
  ⟨by kernel_rfl,by kernel_rfl,by kernel_rfl,trivial⟩

theorem ok114_0_t (x0:Int) (x2:Int) (x3:Int) (b0_0:(List (Int×(Int×((List (Int×(Int×(Bool×Unit))))×Unit))))):TrOk (BodyRuns Go.Proofs.Try.prog (kf50 Go.Proofs.Try.prog).orc 114 0 sh114_0 shb114_0 shr114_0 ((x0,x2,x3,()),(b0_0,()),())) (t114_0 x0 x2 x3 b0_0) :=
  Walks.ok (fun _ _ _=>BodyRuns.of) (wk114_0 x0 x2 x3 b0_0) (by kernel_rfl)

theorem ok114_0:LoopOk Go.Proofs.Try.prog 114 0 lc114_0:=loopOk_ofB (sh:=sh114_0) (shB:=shb114_0) (shR:=shr114_0) kf50_ok.base (T:=fun (d:sh114_0.data)=>t114_0 d.1.1 d.1.2.1 d.1.2.2.1 d.2.1.1) (by kernel_rfl) rfl (fun (d:sh114_0.data)=>ok114_0_t d.1.1 d.1.2.1 d.1.2.2.1 d.2.1.1) (fun _=>rfl)
def kl114_0 (P:Go.Program):Known:=(kf50 P).loop 114 0 lc114_0
theorem kl114_0_ok:KnownOk Go.Proofs.Try.prog (kl114_0 Go.Proofs.Try.prog):=kf50_ok.loop ok114_0

/-! ductility/ductilityref05.whole -/

abbrev as114:List Ty:=[(.pair (.slice (.pair (.int .i64) (.pair (.int .i64) (.pair (.slice (.pair (.int .i64) (.pair (.int .i64) (.pair .bool .unit)))) .unit)))) .unit),(.int .i64)]
abbrev rs114:List Ty:=[(.int .i64)]

def t114 (x0:(List (Int×(Int×((List (Int×(Int×(Bool×Unit))))×Unit))))) (x1:Int):Tr (Tys.data rs114) :=
  Tr.test (isBrk (l114_0 ((x1,((0:Int),((0:Int),()))),((x0,()),()))))
    (let r0:=b114_0 ((x1,((0:Int),((0:Int),()))),((x0,()),()));
    Tr.fin ((r0.1.1,())))
    (Tr.stop)

def f114 (d:Tys.data as114):Option (Tys.data rs114):=(t114 d.1.1 d.2.1).val
def g114 (d:Tys.data as114):Tys.data rs114:=(f114 d).getD (Tys.dflt rs114)
def p114:PureC:=pcOf as114 rs114 f114 g114

theorem wk114 (x0:(List (Int×(Int×((List (Int×(Int×(Bool×Unit))))×Unit))))) (x1:Int):Walks (runPure (kl114_0 Go.Proofs.Try.prog).orc Go.Proofs.Try.prog 400 114 as114 rs114 ((x0,()),x1,())) (t114 x0 x1) [(bl 1 1,[1,2])] :=
  ⟨by kernel_rfl,trivial⟩

theorem ok114_t (x0:(List (Int×(Int×((List (Int×(Int×(Bool×Unit))))×Unit))))) (x1:Int):TrOk (PureRuns Go.Proofs.Try.prog (kl114_0 Go.Proofs.Try.prog).orc 114 as114 rs114 ((x0,()),x1,())) (t114 x0 x1) :=
  Walks.ok (fun _ _ _=>PureRuns.of) (wk114 x0 x1) (by kernel_rfl)

theorem ok114:PureOk Go.Proofs.Try.prog 114 p114:=pureOk_of kl114_0_ok.base (T:=fun (d:Tys.data as114)=>t114 d.1.1 d.2.1) (by kernel_rfl) (fun (d:Tys.data as114)=>ok114_t d.1.1 d.2.1)
def kf114 (P:Go.Program):Known:=(kl114_0 P).func 114 p114
theorem kf114_ok:KnownOk Go.Proofs.Try.prog (kf114 Go.Proofs.Try.prog):=kl114_0_ok.func ok114

end Go.Vm.Mo
