import Derived.Test.YtiodahganfihkaaGreatA4
import Derived.Test.YtiodahganfihkaaGreatA5
import Derived.KernelRfl
import Derived.Test.YtiodahganfihkaaGreatProg
import Derived.Test.YtiodahganfihkaaGreatRsFd
set_option linter.unusedVariables false
set_option linter.unusedSimpArgs false

namespace Go.Vm.Mo
open Go
set_option linter.unusedVariables false

/-! (ductility/safety.machine).closedError -/

abbrev as115:List Ty:=[(.pair (.slice (.pair (.pair (.int .u64) (.pair (.int .u64) .unit)) (.pair (.pair (.int .u64) (.pair (.int .u64) .unit)) .unit))) (.pair (.slice (.pair (.int .u64) (.pair (.int .u64) .unit))) .unit)),(.int .u64),(.slice (.int .i64))]
abbrev rs115:List Ty:=[(.int .i64)]

def t115 (x0:(List ((Int×(Int×Unit))×((Int×(Int×Unit))×Unit)))) (x0':(List (Int×(Int×Unit)))) (x1:Int) (x2:(List Int)):Tr (Tys.data rs115) :=
  Tr.test (Option.isSome (f104 (x1,(x0',()))))
    (let r0:=g104 (x1,(x0',()));
    Tr.test (r0.1)
      (Tr.fin (((22:Int),())))
      (Tr.test (Option.isSome (l147_0 ((x0,((↑(List.length x0):Int),((0:Int),()))),((),((x1,()),((x2,()),(((0:Int),()),())))))))
        (Tr.test (isRet (l147_0 ((x0,((↑(List.length x0):Int),((0:Int),()))),((),((x1,()),((x2,()),(((0:Int),()),())))))))
          (let r1:=r147_0 ((x0,((↑(List.length x0):Int),((0:Int),()))),((),((x1,()),((x2,()),(((0:Int),()),())))));
          Tr.fin ((r1.2.2.2.2.1.1,())))
          (Tr.fin (((0:Int),()))))
        (Tr.stop)))
    (Tr.stop)

def f115 (d:Tys.data as115):Option (Tys.data rs115):=(t115 d.1.1 d.1.2.1 d.2.1 d.2.2.1).val
def g115 (d:Tys.data as115):Tys.data rs115:=(f115 d).getD (Tys.dflt rs115)
def p115:PureC:=pcOf as115 rs115 f115 g115

theorem e115_0 (x0:(List ((Int×(Int×Unit))×((Int×(Int×Unit))×Unit)))) (x0':(List (Int×(Int×Unit)))) (x1:Int) (x2:(List Int)):runPure (kl147_0 Go.Proofs.Tryz.prog).orc Go.Proofs.Tryz.prog 400 115 as115 rs115 ((x0,x0',()),x1,x2,()) [tt,tt] =
    (let r0:=g104 (x1,(x0',())); some (((22:Int),()),[(r0.1,true),(Option.isSome (f104 (x1,(x0',()))),true)])):=by kernel_rfl
theorem e115_1 (x0:(List ((Int×(Int×Unit))×((Int×(Int×Unit))×Unit)))) (x0':(List (Int×(Int×Unit)))) (x1:Int) (x2:(List Int)):runPure (kl147_0 Go.Proofs.Tryz.prog).orc Go.Proofs.Tryz.prog 400 115 as115 rs115 ((x0,x0',()),x1,x2,()) [tt,ff,tt,tt,tt] =
    (let r0:=g104 (x1,(x0',()));let r1:=r147_0 ((x0,((↑(List.length x0):Int),((0:Int),()))),((),((x1,()),((x2,()),(((0:Int),()),()))))); some ((r1.2.2.2.2.1.1,()),[(isRet (l147_0 ((x0,((↑(List.length x0):Int),((0:Int),()))),((),((x1,()),((x2,()),(((0:Int),()),())))))),true),(Option.isSome (l147_0 ((x0,((↑(List.length x0):Int),((0:Int),()))),((),((x1,()),((x2,()),(((0:Int),()),())))))),true),(sameRf Go.Proofs.Tryz.prog (nat_lit 115) (nat_lit 0),true),(r0.1,false),(Option.isSome (f104 (x1,(x0',()))),true)])):=by kernel_rfl
theorem e115_2 (x0:(List ((Int×(Int×Unit))×((Int×(Int×Unit))×Unit)))) (x0':(List (Int×(Int×Unit)))) (x1:Int) (x2:(List Int)):runPure (kl147_0 Go.Proofs.Tryz.prog).orc Go.Proofs.Tryz.prog 400 115 as115 rs115 ((x0,x0',()),x1,x2,()) [tt,ff,tt,tt,ff] =
    (let r0:=g104 (x1,(x0',())); some (((0:Int),()),[(isRet (l147_0 ((x0,((↑(List.length x0):Int),((0:Int),()))),((),((x1,()),((x2,()),(((0:Int),()),())))))),false),(Option.isSome (l147_0 ((x0,((↑(List.length x0):Int),((0:Int),()))),((),((x1,()),((x2,()),(((0:Int),()),())))))),true),(sameRf Go.Proofs.Tryz.prog (nat_lit 115) (nat_lit 0),true),(r0.1,false),(Option.isSome (f104 (x1,(x0',()))),true)])):=by kernel_rfl

theorem ok115_t (x0:(List ((Int×(Int×Unit))×((Int×(Int×Unit))×Unit)))) (x0':(List (Int×(Int×Unit)))) (x1:Int) (x2:(List Int)):TrOk (PureRuns Go.Proofs.Tryz.prog (kl147_0 Go.Proofs.Tryz.prog).orc 115 as115 rs115 ((x0,x0',()),x1,x2,())) (t115 x0 x0' x1 x2) :=
  TrOk.ofTest (fun h0=>TrOk.ofTest (fun h1=>TrOk.ofFin (PureRuns.of (e115_0 x0 x0' x1 x2) (ac h1 (ac h0 All.nil)))) (fun h1=>TrOk.ofTest (fun h3=>TrOk.ofTest (fun h4=>TrOk.ofFin (PureRuns.of (e115_1 x0 x0' x1 x2) (ac h4 (ac h3 (ac (sc115_0) (ac h1 (ac h0 All.nil))))))) (fun h4=>TrOk.ofFin (PureRuns.of (e115_2 x0 x0' x1 x2) (ac h4 (ac h3 (ac (sc115_0) (ac h1 (ac h0 All.nil)))))))) (fun h3=>TrOk.ofStop))) (fun h0=>TrOk.ofStop)

theorem ok115:PureOk Go.Proofs.Tryz.prog 115 p115:=pureOk_of kl147_0_ok.base (T:=fun (d:Tys.data as115)=>t115 d.1.1 d.1.2.1 d.2.1 d.2.2.1) (by kernel_rfl) (fun (d:Tys.data as115)=>ok115_t d.1.1 d.1.2.1 d.2.1 d.2.2.1)
def kf115 (P:Go.Program):Known:=(kl147_0 P).func 115 p115
theorem kf115_ok:KnownOk Go.Proofs.Tryz.prog (kf115 Go.Proofs.Tryz.prog):=kl147_0_ok.func ok115

/-! loop 0 of ductility/safety.checkItems[int] -/

abbrev sh111_0_1:Sh:={ n:=25,slots:=[1,9,10,11],pats:=[.fn 112 [(0,3),(1,1)],.ty (.slice (.int .i64)),.ty (.int .i64),.ty (.int .i64)],boxes:=[.row [.ty (.slice .str),.ty (.slice (.pair .str (.pair (.pair (.slice (.int .i64)) (.pair (.slice (.int .i64)) .unit)) (.pair (.pair (.slice (.int .i64)) (.pair (.slice (.int .i64)) .unit)) .unit)))),.ty (.slice (.pair (.slice (.int .i64)) (.pair (.slice (.int .i64)) .unit)))],.row [.ty (.slice (.int .i64))]] }
abbrev shb111_0_1:Sh:={ n:=25,slots:=[],pats:=[],boxes:=[.row [.ty (.slice .str),.ty (.slice (.pair .str (.pair (.pair (.slice (.int .i64)) (.pair (.slice (.int .i64)) .unit)) (.pair (.pair (.slice (.int .i64)) (.pair (.slice (.int .i64)) .unit)) .unit)))),.ty (.slice (.pair (.slice (.int .i64)) (.pair (.slice (.int .i64)) .unit)))],.row [.ty (.slice (.int .i64))]] }
abbrev shr111_0_1:Sh:={ n:=25,slots:=[4,5],pats:=[.ty (.int .i64),.ty (.int .i64)],boxes:=[.row [.ty (.slice .str),.ty (.slice (.pair .str (.pair (.pair (.slice (.int .i64)) (.pair (.slice (.int .i64)) .unit)) (.pair (.pair (.slice (.int .i64)) (.pair (.slice (.int .i64)) .unit)) .unit)))),.ty (.slice (.pair (.slice (.int .i64)) (.pair (.slice (.int .i64)) .unit)))],.row [.ty (.slice (.int .i64))]] }

def t111_0_1 (x1:(List Int)) (x2:Int) (x3:Int) (b0_0:(List ByteArray)) (b0_1:(List (ByteArray×(((List Int)×((List Int)×Unit))×(((List Int)×((List Int)×Unit))×Unit))))) (b0_2:(List ((List Int)×((List Int)×Unit)))) (b1_0:(List Int)):Tr (Out sh111_0_1.data shb111_0_1.data shr111_0_1.data) :=
  Tr.test ((!leF x2 x3:Bool))
    (Tr.test (decide ((0:Int) ≤ x3) && decide (x3 < (↑(List.length x1):Int)))
      (Tr.test (Option.isSome (f91 ((b0_0,(b0_1,(b0_2,()))),((List.getD x1 (Int.toNat x3) (0:Int):Int),()))))
        (let r0:=g91 ((b0_0,(b0_1,(b0_2,()))),((List.getD x1 (Int.toNat x3) (0:Int):Int),()));
        Tr.test (Option.isSome (f80 ((!r0.1:Bool),((2:Int),()))))
          (Tr.test ((!leF x3 0:Bool))
            (Tr.test ((decide ((0:Int) ≤ wrap64 (x3 - (1:Int))) && decide (wrap64 (x3 - (1:Int)) < (↑(List.length b1_0):Int)):Bool))
              (Tr.test (Option.isSome (f80 ((leF (List.getD x1 (Int.toNat x3) (0:Int)) (List.getD b1_0 (Int.toNat (wrap64 (x3 - (1:Int)))) (0:Int)):Bool),((9:Int),()))))
                (let r1:=g80 ((!r0.1:Bool),((2:Int),()));
                let r2:=g80 ((leF (List.getD x1 (Int.toNat x3) (0:Int)) (List.getD b1_0 (Int.toNat (wrap64 (x3 - (1:Int)))) (0:Int)):Bool),((9:Int),()));
                Tr.test (Option.isSome (f79 (([r1.1,r2.1]:List Int),())))
                  (let r4:=g79 (([r1.1,r2.1]:List Int),());
                  Tr.test ((!eqF r4.1 0:Bool))
                    (Tr.fin (.ret ((x3,(r4.1,())),((b0_0,(b0_1,(b0_2,()))),((b1_0,()),())))))
                    (Tr.fin (.again ((x1,(x2,((wrap64 (x3 + (1:Int)):Int),()))),((b0_0,(b0_1,(b0_2,()))),((b1_0,()),()))))))
                  (Tr.stop))
                (Tr.stop))
              (Tr.stop))
            (Tr.test (Option.isSome (f80 ((false:Bool),((9:Int),()))))
              (let r1:=g80 ((!r0.1:Bool),((2:Int),()));
              let r3:=g80 ((false:Bool),((9:Int),()));
              Tr.test (Option.isSome (f79 (([r1.1,r3.1]:List Int),())))
                (let r5:=g79 (([r1.1,r3.1]:List Int),());
                Tr.test ((!eqF r5.1 0:Bool))
                  (Tr.fin (.ret ((x3,(r5.1,())),((b0_0,(b0_1,(b0_2,()))),((b1_0,()),())))))
                  (Tr.fin (.again ((x1,(x2,((wrap64 (x3 + (1:Int)):Int),()))),((b0_0,(b0_1,(b0_2,()))),((b1_0,()),()))))))
                (Tr.stop))
              (Tr.stop)))
          (Tr.stop))
        (Tr.stop))
      (Tr.stop))
    (Tr.fin (.brk ((),((b0_0,(b0_1,(b0_2,()))),((b1_0,()),())))))

def s111_0_1 (d:sh111_0_1.data):Option (Out sh111_0_1.data shb111_0_1.data shr111_0_1.data):=(t111_0_1 d.1.1 d.1.2.1 d.1.2.2.1 d.2.1.1 d.2.1.2.1 d.2.1.2.2.1 d.2.2.1.1).val
def l111_0_1 (d:sh111_0_1.data):Option (shb111_0_1.data ⊕ shr111_0_1.data):=itr s111_0_1 rounds d
def b111_0_1 (d:sh111_0_1.data):shb111_0_1.data:=outB shb111_0_1.dflt (l111_0_1 d)
def r111_0_1 (d:sh111_0_1.data):shr111_0_1.data:=outR shr111_0_1.dflt (l111_0_1 d)
def lc111_0_1:LoopC:=lcOf sh111_0_1 shb111_0_1 shr111_0_1 l111_0_1 b111_0_1 r111_0_1

theorem wk111_0_1 (x1:(List Int)) (x2:Int) (x3:Int) (b0_0:(List ByteArray)) (b0_1:(List (ByteArray×(((List Int)×((List Int)×Unit))×(((List Int)×((List Int)×Unit))×Unit))))) (b0_2:(List ((List Int)×((List Int)×Unit)))) (b1_0:(List Int)):Walks (runBody (kf115 Go.Proofs.Tryz.prog).orc Go.Proofs.Tryz.prog 400 111 0 sh111_0_1 shb111_0_1 shr111_0_1 ((x1,x2,x3,()),(b0_0,b0_1,b0_2,()),(b1_0,()),())) (t111_0_1 x1 x2 x3 b0_0 b0_1 b0_2 b1_0) [(bl 9 511,[2,4,6,10,10,10,8,10,10,10,10,10,12,14,16,18]),(bl 9 255,[2,4,6,10,10,10,8,10,10,10,10,10,12,14,16,18]),(bl 8 239,[2,4,6,8,8,8,8,8,8,8,8,10,12,14,16]),(bl 8 111,[2,4,6,8,8,8,8,8,8,8,8,10,12,14,16]),(bl 1 0,[2])] :=
  ⟨by kernel_rfl,by kernel_rfl,by kernel_rfl,by kernel_rfl,by kernel_rfl,trivial⟩

theorem ok111_0_1_t (x1:(List Int)) (x2:Int) (x3:Int) (b0_0:(List ByteArray)) (b0_1:(List (ByteArray×(((List Int)×((List Int)×Unit))×(((List Int)×((List Int)×Unit))×Unit))))) (b0_2:(List ((List Int)×((List Int)×Unit)))) (b1_0:(List Int)):TrOk (BodyRuns Go.Proofs.Tryz.prog (kf115 Go.Proofs.Tryz.prog).orc 111 0 sh111_0_1 shb111_0_1 shr111_0_1 ((x1,x2,x3,()),(b0_0,b0_1,b0_2,()),(b1_0,()),())) (t111_0_1 x1 x2 x3 b0_0 b0_1 b0_2 b1_0) :=
  Walks.ok (fun _ _ _=>BodyRuns.of) (wk111_0_1 x1 x2 x3 b0_0 b0_1 b0_2 b1_0) (by kernel_rfl)

theorem ok111_0_1:LoopOk Go.Proofs.Tryz.prog 111 0 lc111_0_1:=loopOk_of (sh:=sh111_0_1) (shB:=shb111_0_1) (shR:=shr111_0_1) kf115_ok.base (T:=fun (d:sh111_0_1.data)=>t111_0_1 d.1.1 d.1.2.1 d.1.2.2.1 d.2.1.1 d.2.1.2.1 d.2.1.2.2.1 d.2.2.1.1) (by kernel_rfl) rfl (fun (d:sh111_0_1.data)=>ok111_0_1_t d.1.1 d.1.2.1 d.1.2.2.1 d.2.1.1 d.2.1.2.1 d.2.1.2.2.1 d.2.2.1.1) (fun _=>rfl)
def kl111_0_1 (P:Go.Program):Known:=(kf115 P).loop 111 0 lc111_0_1
theorem kl111_0_1_ok:KnownOk Go.Proofs.Tryz.prog (kl111_0_1 Go.Proofs.Tryz.prog):=kf115_ok.loop ok111_0_1

/-! loop 0 of ductility/safety.checkItems[int] -/

abbrev sh111_0_2:Sh:={ n:=25,slots:=[1,9,10,11],pats:=[.fn 114 [(0,2),(1,1)],.ty (.slice (.int .i64)),.ty (.int .i64),.ty (.int .i64)],boxes:=[.row [.ty (.slice (.pair (.pair (.int .u64) (.pair (.int .u64) .unit)) (.pair (.pair (.int .u64) (.pair (.int .u64) .unit)) .unit))),.ty (.slice (.pair (.int .u64) (.pair (.int .u64) .unit)))],.row [.ty (.slice (.int .i64))]] }
abbrev shb111_0_2:Sh:={ n:=25,slots:=[],pats:=[],boxes:=[.row [.ty (.slice (.pair (.pair (.int .u64) (.pair (.int .u64) .unit)) (.pair (.pair (.int .u64) (.pair (.int .u64) .unit)) .unit))),.ty (.slice (.pair (.int .u64) (.pair (.int .u64) .unit)))],.row [.ty (.slice (.int .i64))]] }
abbrev shr111_0_2:Sh:={ n:=25,slots:=[4,5],pats:=[.ty (.int .i64),.ty (.int .i64)],boxes:=[.row [.ty (.slice (.pair (.pair (.int .u64) (.pair (.int .u64) .unit)) (.pair (.pair (.int .u64) (.pair (.int .u64) .unit)) .unit))),.ty (.slice (.pair (.int .u64) (.pair (.int .u64) .unit)))],.row [.ty (.slice (.int .i64))]] }

def t111_0_2 (x1:(List Int)) (x2:Int) (x3:Int) (b0_0:(List ((Int×(Int×Unit))×((Int×(Int×Unit))×Unit)))) (b0_1:(List (Int×(Int×Unit)))) (b1_0:(List Int)):Tr (Out sh111_0_2.data shb111_0_2.data shr111_0_2.data) :=
  Tr.test ((!leF x2 x3:Bool))
    (Tr.test (decide ((0:Int) ≤ x3) && decide (x3 < (↑(List.length x1):Int)))
      (Tr.test (Option.isSome (f115 ((b0_0,(b0_1,())),((Go.IntKind.wrap Go.IntKind.u64 (List.getD x1 (Int.toNat x3) (0:Int)):Int),(b1_0,())))))
        (let r0:=g115 ((b0_0,(b0_1,())),((Go.IntKind.wrap Go.IntKind.u64 (List.getD x1 (Int.toNat x3) (0:Int)):Int),(b1_0,())));
        Tr.test ((!eqF r0.1 0:Bool))
          (Tr.fin (.ret ((x3,(r0.1,())),((b0_0,(b0_1,())),((b1_0,()),())))))
          (Tr.fin (.again ((x1,(x2,((wrap64 (x3 + (1:Int)):Int),()))),((b0_0,(b0_1,())),((b1_0,()),()))))))
        (Tr.stop))
      (Tr.stop))
    (Tr.fin (.brk ((),((b0_0,(b0_1,())),((b1_0,()),())))))

def s111_0_2 (d:sh111_0_2.data):Option (Out sh111_0_2.data shb111_0_2.data shr111_0_2.data):=(t111_0_2 d.1.1 d.1.2.1 d.1.2.2.1 d.2.1.1 d.2.1.2.1 d.2.2.1.1).val
def l111_0_2 (d:sh111_0_2.data):Option (shb111_0_2.data ⊕ shr111_0_2.data):=itr s111_0_2 rounds d
def b111_0_2 (d:sh111_0_2.data):shb111_0_2.data:=outB shb111_0_2.dflt (l111_0_2 d)
def r111_0_2 (d:sh111_0_2.data):shr111_0_2.data:=outR shr111_0_2.dflt (l111_0_2 d)
def lc111_0_2:LoopC:=lcOf sh111_0_2 shb111_0_2 shr111_0_2 l111_0_2 b111_0_2 r111_0_2

theorem wk111_0_2 (x1:(List Int)) (x2:Int) (x3:Int) (b0_0:(List ((Int×(Int×Unit))×((Int×(Int×Unit))×Unit)))) (b0_1:(List (Int×(Int×Unit)))) (b1_0:(List Int)):Walks (runBody (kl111_0_1 Go.Proofs.Tryz.prog).orc Go.Proofs.Tryz.prog 400 111 0 sh111_0_2 shb111_0_2 shr111_0_2 ((x1,x2,x3,()),(b0_0,b0_1,()),(b1_0,()),())) (t111_0_2 x1 x2 x3 b0_0 b0_1 b1_0) [(bl 4 15,[2,4,6,8]),(bl 4 7,[2,4,6,8]),(bl 1 0,[2])] :=
  ⟨by kernel_rfl,by kernel_rfl,by kernel_rfl,trivial⟩

theorem ok111_0_2_t (x1:(List Int)) (x2:Int) (x3:Int) (b0_0:(List ((Int×(Int×Unit))×((Int×(Int×Unit))×Unit)))) (b0_1:(List (Int×(Int×Unit)))) (b1_0:(List Int)):TrOk (BodyRuns Go.Proofs.Tryz.prog (kl111_0_1 Go.Proofs.Tryz.prog).orc 111 0 sh111_0_2 shb111_0_2 shr111_0_2 ((x1,x2,x3,()),(b0_0,b0_1,()),(b1_0,()),())) (t111_0_2 x1 x2 x3 b0_0 b0_1 b1_0) :=
  Walks.ok (fun _ _ _=>BodyRuns.of) (wk111_0_2 x1 x2 x3 b0_0 b0_1 b1_0) (by kernel_rfl)

theorem ok111_0_2:LoopOk Go.Proofs.Tryz.prog 111 0 lc111_0_2:=loopOk_of (sh:=sh111_0_2) (shB:=shb111_0_2) (shR:=shr111_0_2) kl111_0_1_ok.base (T:=fun (d:sh111_0_2.data)=>t111_0_2 d.1.1 d.1.2.1 d.1.2.2.1 d.2.1.1 d.2.1.2.1 d.2.2.1.1) (by kernel_rfl) rfl (fun (d:sh111_0_2.data)=>ok111_0_2_t d.1.1 d.1.2.1 d.1.2.2.1 d.2.1.1 d.2.1.2.1 d.2.2.1.1) (fun _=>rfl)
def kl111_0_2 (P:Go.Program):Known:=(kl111_0_1 P).loop 111 0 lc111_0_2
theorem kl111_0_2_ok:KnownOk Go.Proofs.Tryz.prog (kl111_0_2 Go.Proofs.Tryz.prog):=kl111_0_1_ok.loop ok111_0_2

/-! ductility/safety.CheckClosed -/

abbrev as34:List Ty:=[(.pair (.slice .str) (.pair (.slice (.pair .str (.pair (.pair (.slice (.int .i64)) (.pair (.slice (.int .i64)) .unit)) (.pair (.pair (.slice (.int .i64)) (.pair (.slice (.int .i64)) .unit)) .unit)))) (.pair (.slice (.pair (.slice (.int .i64)) (.pair (.slice (.int .i64)) .unit))) .unit))),(.int .i64),(.slice (.int .i64))]
abbrev rs34:List Ty:=[(.int .i64),(.int .i64)]

def t34 (x0:(List ByteArray)) (x0':(List (ByteArray×(((List Int)×((List Int)×Unit))×(((List Int)×((List Int)×Unit))×Unit))))) (x0'':(List ((List Int)×((List Int)×Unit)))) (x1:Int) (x2:(List Int)):Tr (Tys.data rs34) :=
  Tr.test (Option.isSome (f92 ((x0,(x0',(x0'',()))),(x1,()))))
    (let r0:=g92 ((x0,(x0',(x0'',()))),(x1,()));
    Tr.test ((!eqF r0.2.2.1 0:Bool))
      (Tr.fin (((0:Int),(r0.2.2.1,()))))
      (Tr.test (Option.isSome (l111_0_1 ((x2,((↑(List.length x2):Int),((0:Int),()))),((x0,(x0',(x0'',()))),((x2,()),())))))
        (Tr.test (isRet (l111_0_1 ((x2,((↑(List.length x2):Int),((0:Int),()))),((x0,(x0',(x0'',()))),((x2,()),())))))
          (let r1:=r111_0_1 ((x2,((↑(List.length x2):Int),((0:Int),()))),((x0,(x0',(x0'',()))),((x2,()),())));
          Tr.test ((!eqF r1.1.2.1 0:Bool))
            (Tr.fin ((r1.1.1,(r1.1.2.1,()))))
            (Tr.test (Option.isSome (f113 (r1.2.2.1.1,(x1,()))))
              (let r3:=g113 (r1.2.2.1.1,(x1,()));
              Tr.test ((!r3.1:Bool))
                (Tr.fin (((0:Int),((6:Int),()))))
                (Tr.test (Option.isSome (l111_0_2 ((r1.2.2.1.1,((↑(List.length r1.2.2.1.1):Int),((0:Int),()))),(((r0.1.1:List ((Int×Int×PUnit)×(Int×Int×PUnit)×PUnit)),(r0.1.2.1,())),((r1.2.2.1.1,()),())))))
                  (Tr.test (isRet (l111_0_2 ((r1.2.2.1.1,((↑(List.length r1.2.2.1.1):Int),((0:Int),()))),(((r0.1.1:List ((Int×Int×PUnit)×(Int×Int×PUnit)×PUnit)),(r0.1.2.1,())),((r1.2.2.1.1,()),())))))
                    (let r4:=r111_0_2 ((r1.2.2.1.1,((↑(List.length r1.2.2.1.1):Int),((0:Int),()))),(((r0.1.1:List ((Int×Int×PUnit)×(Int×Int×PUnit)×PUnit)),(r0.1.2.1,())),((r1.2.2.1.1,()),())));
                    Tr.fin ((r4.1.1,(r4.1.2.1,()))))
                    (Tr.fin (((0:Int),((0:Int),())))))
                  (Tr.stop)))
              (Tr.stop)))
          (let r2:=b111_0_1 ((x2,((↑(List.length x2):Int),((0:Int),()))),((x0,(x0',(x0'',()))),((x2,()),())));
          Tr.test (Option.isSome (f113 (r2.2.2.1.1,(x1,()))))
            (let r6:=g113 (r2.2.2.1.1,(x1,()));
            Tr.test ((!r6.1:Bool))
              (Tr.fin (((0:Int),((6:Int),()))))
              (Tr.test (Option.isSome (l111_0_2 ((r2.2.2.1.1,((↑(List.length r2.2.2.1.1):Int),((0:Int),()))),(((r0.1.1:List ((Int×Int×PUnit)×(Int×Int×PUnit)×PUnit)),(r0.1.2.1,())),((r2.2.2.1.1,()),())))))
                (Tr.test (isRet (l111_0_2 ((r2.2.2.1.1,((↑(List.length r2.2.2.1.1):Int),((0:Int),()))),(((r0.1.1:List ((Int×Int×PUnit)×(Int×Int×PUnit)×PUnit)),(r0.1.2.1,())),((r2.2.2.1.1,()),())))))
                  (let r7:=r111_0_2 ((r2.2.2.1.1,((↑(List.length r2.2.2.1.1):Int),((0:Int),()))),(((r0.1.1:List ((Int×Int×PUnit)×(Int×Int×PUnit)×PUnit)),(r0.1.2.1,())),((r2.2.2.1.1,()),())));
                  Tr.fin ((r7.1.1,(r7.1.2.1,()))))
                  (Tr.fin (((0:Int),((0:Int),())))))
                (Tr.stop)))
            (Tr.stop)))
        (Tr.stop)))
    (Tr.stop)

def f34 (d:Tys.data as34):Option (Tys.data rs34):=(t34 d.1.1 d.1.2.1 d.1.2.2.1 d.2.1 d.2.2.1).val
def g34 (d:Tys.data as34):Tys.data rs34:=(f34 d).getD (Tys.dflt rs34)
def p34:PureC:=pcOf as34 rs34 f34 g34

theorem wk34 (x0:(List ByteArray)) (x0':(List (ByteArray×(((List Int)×((List Int)×Unit))×(((List Int)×((List Int)×Unit))×Unit))))) (x0'':(List ((List Int)×((List Int)×Unit)))) (x1:Int) (x2:(List Int)):Walks (runPure (kl111_0_2 Go.Proofs.Tryz.prog).orc Go.Proofs.Tryz.prog 400 34 as34 rs34 ((x0,x0',x0'',()),x1,x2,())) (t34 x0 x0' x0'' x1 x2) [(bl 2 3,[2,4]),(bl 5 29,[2,4,6,8,10]),(bl 7 109,[2,4,6,8,10,12,14]),(bl 9 429,[2,4,6,8,10,12,14,16,18]),(bl 9 173,[2,4,6,8,10,12,14,16,18]),(bl 6 53,[2,4,0,6,8,10,12]),(bl 8 213,[2,4,6,8,0,10,12,14,16]),(bl 8 85,[2,4,6,8,0,10,12,14,16])] :=
  ⟨by kernel_rfl,by kernel_rfl,by kernel_rfl,by kernel_rfl,by kernel_rfl,by kernel_rfl,by kernel_rfl,by kernel_rfl,trivial⟩

theorem ok34_t (x0:(List ByteArray)) (x0':(List (ByteArray×(((List Int)×((List Int)×Unit))×(((List Int)×((List Int)×Unit))×Unit))))) (x0'':(List ((List Int)×((List Int)×Unit)))) (x1:Int) (x2:(List Int)):TrOk (PureRuns Go.Proofs.Tryz.prog (kl111_0_2 Go.Proofs.Tryz.prog).orc 34 as34 rs34 ((x0,x0',x0'',()),x1,x2,())) (t34 x0 x0' x0'' x1 x2) :=
  Walks.ok (fun _ _ _=>PureRuns.of) (wk34 x0 x0' x0'' x1 x2) (by kernel_rfl)

theorem ok34:PureOk Go.Proofs.Tryz.prog 34 p34:=pureOk_of kl111_0_2_ok.base (T:=fun (d:Tys.data as34)=>t34 d.1.1 d.1.2.1 d.1.2.2.1 d.2.1 d.2.2.1) (by kernel_rfl) (fun (d:Tys.data as34)=>ok34_t d.1.1 d.1.2.1 d.1.2.2.1 d.2.1 d.2.2.1)
def kf34 (P:Go.Program):Known:=(kl111_0_2 P).func 34 p34
theorem kf34_ok:KnownOk Go.Proofs.Tryz.prog (kf34 Go.Proofs.Tryz.prog):=kl111_0_2_ok.func ok34

/-! loop 0 of ductility/ductilitybase.IsName -/

abbrev sh95_0:Sh:={ n:=55,slots:=[0,3],pats:=[.ty .str,.ty (.int .i64)],boxes:=[] }
abbrev shb95_0:Sh:={ n:=55,slots:=[],pats:=[],boxes:=[] }
abbrev shr95_0:Sh:={ n:=55,slots:=[2],pats:=[.ty .bool],boxes:=[] }

def t95_0 (x0:ByteArray) (x1:Int):Tr (Out sh95_0.data shb95_0.data shr95_0.data) :=
  Tr.test ((!leF (↑(ByteArray.size x0):Int) x1:Bool))
    (Tr.test (decide ((0:Int) ≤ x1) && decide (x1 < (↑(ByteArray.size x0):Int)))
      (Tr.test ((decide ((97:Int) ≤ (↑(List.getD x0.data.toList (Int.toNat x1) (0:UInt8)).toBitVec.toFin.1:Int)):Bool))
        (Tr.test ((decide ((↑(List.getD x0.data.toList (Int.toNat x1) (0:UInt8)).toBitVec.toFin.1:Int) ≤ (122:Int)):Bool))
          (Tr.fin (.again ((x0,((wrap64 (x1 + (1:Int)):Int),())),())))
          (Tr.test ((decide ((65:Int) ≤ (↑(List.getD x0.data.toList (Int.toNat x1) (0:UInt8)).toBitVec.toFin.1:Int)):Bool))
            (Tr.test ((!decide ((↑(List.getD x0.data.toList (Int.toNat x1) (0:UInt8)).toBitVec.toFin.1:Int) ≤ (90:Int)):Bool))
              (Tr.test ((eqF x1 0:Bool))
                (Tr.fin (.ret (((false:Bool),()),())))
                (Tr.test ((!(↑(List.getD x0.data.toList (Int.toNat x1) (0:UInt8)).toBitVec.toFin.1:Int) == (45:Int):Bool))
                  (Tr.test ((decide ((↑(List.getD x0.data.toList (Int.toNat x1) (0:UInt8)).toBitVec.toFin.1:Int) < (48:Int)):Bool))
                    (Tr.fin (.ret (((false:Bool),()),())))
                    (Tr.test ((decide ((57:Int) < (↑(List.getD x0.data.toList (Int.toNat x1) (0:UInt8)).toBitVec.toFin.1:Int)):Bool))
                      (Tr.fin (.ret (((false:Bool),()),())))
                      (Tr.fin (.again ((x0,((wrap64 (x1 + (1:Int)):Int),())),())))))
                  (Tr.fin (.again ((x0,((wrap64 (x1 + (1:Int)):Int),())),())))))
              (Tr.fin (.again ((x0,((wrap64 (x1 + (1:Int)):Int),())),()))))
            (Tr.test ((eqF x1 0:Bool))
              (Tr.fin (.ret (((false:Bool),()),())))
              (Tr.test ((!(↑(List.getD x0.data.toList (Int.toNat x1) (0:UInt8)).toBitVec.toFin.1:Int) == (45:Int):Bool))
                (Tr.test ((decide ((↑(List.getD x0.data.toList (Int.toNat x1) (0:UInt8)).toBitVec.toFin.1:Int) < (48:Int)):Bool))
                  (Tr.fin (.ret (((false:Bool),()),())))
                  (Tr.test ((decide ((57:Int) < (↑(List.getD x0.data.toList (Int.toNat x1) (0:UInt8)).toBitVec.toFin.1:Int)):Bool))
                    (Tr.fin (.ret (((false:Bool),()),())))
                    (Tr.fin (.again ((x0,((wrap64 (x1 + (1:Int)):Int),())),())))))
                (Tr.fin (.again ((x0,((wrap64 (x1 + (1:Int)):Int),())),())))))))
        (Tr.test ((decide ((65:Int) ≤ (↑(List.getD x0.data.toList (Int.toNat x1) (0:UInt8)).toBitVec.toFin.1:Int)):Bool))
          (Tr.test ((!decide ((↑(List.getD x0.data.toList (Int.toNat x1) (0:UInt8)).toBitVec.toFin.1:Int) ≤ (90:Int)):Bool))
            (Tr.test ((eqF x1 0:Bool))
              (Tr.fin (.ret (((false:Bool),()),())))
              (Tr.test ((!(↑(List.getD x0.data.toList (Int.toNat x1) (0:UInt8)).toBitVec.toFin.1:Int) == (45:Int):Bool))
                (Tr.test ((decide ((↑(List.getD x0.data.toList (Int.toNat x1) (0:UInt8)).toBitVec.toFin.1:Int) < (48:Int)):Bool))
                  (Tr.fin (.ret (((false:Bool),()),())))
                  (Tr.test ((decide ((57:Int) < (↑(List.getD x0.data.toList (Int.toNat x1) (0:UInt8)).toBitVec.toFin.1:Int)):Bool))
                    (Tr.fin (.ret (((false:Bool),()),())))
                    (Tr.fin (.again ((x0,((wrap64 (x1 + (1:Int)):Int),())),())))))
                (Tr.fin (.again ((x0,((wrap64 (x1 + (1:Int)):Int),())),())))))
            (Tr.fin (.again ((x0,((wrap64 (x1 + (1:Int)):Int),())),()))))
          (Tr.test ((eqF x1 0:Bool))
            (Tr.fin (.ret (((false:Bool),()),())))
            (Tr.test ((!(↑(List.getD x0.data.toList (Int.toNat x1) (0:UInt8)).toBitVec.toFin.1:Int) == (45:Int):Bool))
              (Tr.test ((decide ((↑(List.getD x0.data.toList (Int.toNat x1) (0:UInt8)).toBitVec.toFin.1:Int) < (48:Int)):Bool))
                (Tr.fin (.ret (((false:Bool),()),())))
                (Tr.test ((decide ((57:Int) < (↑(List.getD x0.data.toList (Int.toNat x1) (0:UInt8)).toBitVec.toFin.1:Int)):Bool))
                  (Tr.fin (.ret (((false:Bool),()),())))
                  (Tr.fin (.again ((x0,((wrap64 (x1 + (1:Int)):Int),())),())))))
              (Tr.fin (.again ((x0,((wrap64 (x1 + (1:Int)):Int),())),())))))))
      (Tr.stop))
    (Tr.fin (.brk ((),())))

def s95_0 (d:sh95_0.data):Option (Out sh95_0.data shb95_0.data shr95_0.data):=(t95_0 d.1.1 d.1.2.1).val
def l95_0 (d:sh95_0.data):Option (shb95_0.data ⊕ shr95_0.data):=itr s95_0 rounds d
def b95_0 (d:sh95_0.data):shb95_0.data:=outB shb95_0.dflt (l95_0 d)
def r95_0 (d:sh95_0.data):shr95_0.data:=outR shr95_0.dflt (l95_0 d)
def lc95_0:LoopC:=lcOf sh95_0 shb95_0 shr95_0 l95_0 b95_0 r95_0

theorem wk95_0n0 (x0:ByteArray) (x1:Int):Walks (runBody (kf34 Go.Proofs.Tryz.prog).orc Go.Proofs.Tryz.prog 400 95 0 sh95_0 shb95_0 shr95_0 ((x0,x1,()),())) (t95_0 x0 x1) [(bl 4 15,[0,0,0,0,0,0,2,2,2,2,2,4,4,4,6,8]),(bl 7 119,[1,4,2,4,2,2,2,2,4,4,4,8,6,8,6,6,8,8,8,10,10,10,12,14]),(bl 9 439,[1,8,6,8,4,6,2,4,2,2,4,4,4,6,6,6,8,8,8,12,10,12,10,10,12,12,12,14,14,14,16,18]),(bl 10 695,[2,10,8,10,6,8,4,6,4,4,6,6,6,8,8,8,10,10,10,14,12,14,12,12,14,14,14,16,16,16,18,20]),(bl 10 183,[2,10,8,10,6,8,4,6,4,4,6,6,6,8,8,8,10,10,10,14,12,14,12,12,14,14,14,16,16,16,18,20]),(bl 8 55,[0,6,4,6,2,4,2,2,2,2,4,4,4,6,6,6,10,8,10,8,8,10,10,10,12,12,12,14,16]),(bl 6 23,[0,2,2,2,2,2,6,4,6,4,4,6,6,6,8,8,8,10,12]),(bl 6 39,[1,1,2,1,2,2,2,2,1,1,1,6,4,6,4,4,6,6,6,8,8,8,10,12]),(bl 8 199,[1,1,6,1,4,6,2,4,2,2,4,4,4,6,6,6,1,1,1,10,8,10,8,8,10,10,10,12,12,12,14,16]),(bl 9 327,[2,1,8,1,6,8,4,6,4,4,6,6,6,8,8,8,1,1,1,12,10,12,10,10,12,12,12,14,14,14,16,18]),(bl 9 71,[2,1,8,1,6,8,4,6,4,4,6,6,6,8,8,8,1,1,1,12,10,12,10,10,12,12,12,14,14,14,16,18]),(bl 7 7,[0,1,4,1,2,4,2,2,2,2,4,4,4,1,1,1,8,6,8,6,6,8,8,8,10,10,10,12,14]),(bl 6 59,[1,4,2,4,2,2,2,2,4,4,4,0,6,0,6,6,0,0,0,8,8,8,10,12]),(bl 8 219,[1,8,6,8,4,6,2,4,2,2,4,4,4,6,6,6,8,8,8,0,10,0,10,10,0,0,0,12,12,12,14,16]),(bl 9 347,[2,10,8,10,6,8,4,6,4,4,6,6,6,8,8,8,10,10,10,0,12,0,12,12,0,0,0,14,14,14,16,18]),(bl 9 91,[2,10,8,10,6,8,4,6,4,4,6,6,6,8,8,8,10,10,10,0,12,0,12,12,0,0,0,14,14,14,16,18])] :=
  ⟨by kernel_rfl,by kernel_rfl,by kernel_rfl,by kernel_rfl,by kernel_rfl,by kernel_rfl,by kernel_rfl,by kernel_rfl,by kernel_rfl,by kernel_rfl,by kernel_rfl,by kernel_rfl,by kernel_rfl,by kernel_rfl,by kernel_rfl,by kernel_rfl,trivial⟩

theorem wk95_0n1 (x0:ByteArray) (x1:Int):Walks (runBody (kf34 Go.Proofs.Tryz.prog).orc Go.Proofs.Tryz.prog 400 95 0 sh95_0 shb95_0 shr95_0 ((x0,x1,()),())) (t95_0 x0 x1) [(bl 7 27,[0,6,4,6,2,4,2,2,2,2,4,4,4,6,6,6,0,8,0,8,8,0,0,0,10,10,10,12,14]),(bl 5 11,[0,2,2,2,2,2,0,4,0,4,4,0,0,0,6,6,6,8,10]),(bl 5 19,[1,1,2,1,2,2,2,2,1,1,1,0,4,0,4,4,0,0,0,6,6,6,8,10]),(bl 7 99,[1,1,6,1,4,6,2,4,2,2,4,4,4,6,6,6,1,1,1,0,8,0,8,8,0,0,0,10,10,10,12,14]),(bl 8 163,[2,1,8,1,6,8,4,6,4,4,6,6,6,8,8,8,1,1,1,0,10,0,10,10,0,0,0,12,12,12,14,16]),(bl 8 35,[2,1,8,1,6,8,4,6,4,4,6,6,6,8,8,8,1,1,1,0,10,0,10,10,0,0,0,12,12,12,14,16]),(bl 6 3,[0,1,4,1,2,4,2,2,2,2,4,4,4,1,1,1,0,6,0,6,6,0,0,0,8,8,8,10,12]),(bl 1 0,[2])] :=
  ⟨by kernel_rfl,by kernel_rfl,by kernel_rfl,by kernel_rfl,by kernel_rfl,by kernel_rfl,by kernel_rfl,by kernel_rfl,trivial⟩

theorem ok95_0_t (x0:ByteArray) (x1:Int):TrOk (BodyRuns Go.Proofs.Tryz.prog (kf34 Go.Proofs.Tryz.prog).orc 95 0 sh95_0 shb95_0 shr95_0 ((x0,x1,()),())) (t95_0 x0 x1) :=
  Walks.ok (fun _ _ _=>BodyRuns.of) ((wk95_0n0 x0 x1).append (wk95_0n1 x0 x1)) (by kernel_rfl)

theorem ok95_0:LoopOk Go.Proofs.Tryz.prog 95 0 lc95_0:=loopOk_of (sh:=sh95_0) (shB:=shb95_0) (shR:=shr95_0) kf34_ok.base (T:=fun (d:sh95_0.data)=>t95_0 d.1.1 d.1.2.1) (by kernel_rfl) rfl (fun (d:sh95_0.data)=>ok95_0_t d.1.1 d.1.2.1) (fun _=>rfl)
def kl95_0 (P:Go.Program):Known:=(kf34 P).loop 95 0 lc95_0
theorem kl95_0_ok:KnownOk Go.Proofs.Tryz.prog (kl95_0 Go.Proofs.Tryz.prog):=kf34_ok.loop ok95_0

/-! ductility/ductilitybase.IsName -/

abbrev as95:List Ty:=[.str]
abbrev rs95:List Ty:=[.bool]

def t95 (x0:ByteArray):Tr (Tys.data rs95) :=
  Tr.test ((!leF (1:Int) (↑(ByteArray.size x0):Int):Bool))
    (Tr.fin ((false,())))
    (Tr.test (!leF (↑(ByteArray.size x0):Int) (12:Int))
      (Tr.fin (((false:Bool),())))
      (Tr.test (Option.isSome (l95_0 ((x0,((0:Int),())),())))
        (Tr.test (isRet (l95_0 ((x0,((0:Int),())),())))
          (let r0:=r95_0 ((x0,((0:Int),())),());
          Tr.fin ((r0.1.1,())))
          (Tr.fin (((true:Bool),()))))
        (Tr.stop)))

def f95 (d:Tys.data as95):Option (Tys.data rs95):=(t95 d.1).val
def g95 (d:Tys.data as95):Tys.data rs95:=(f95 d).getD (Tys.dflt rs95)
def p95:PureC:=pcOf as95 rs95 f95 g95

theorem wk95 (x0:ByteArray):Walks (runPure (kl95_0 Go.Proofs.Tryz.prog).orc Go.Proofs.Tryz.prog 400 95 as95 rs95 (x0,())) (t95 x0) [(bl 1 1,[1,2,2,2,2]),(bl 2 2,[2,4,4,4,4]),(bl 4 12,[2,4,6,8,8,8,8]),(bl 4 4,[2,4,6,8,8,8,8])] :=
  ⟨by kernel_rfl,by kernel_rfl,by kernel_rfl,by kernel_rfl,trivial⟩

theorem ok95_t (x0:ByteArray):TrOk (PureRuns Go.Proofs.Tryz.prog (kl95_0 Go.Proofs.Tryz.prog).orc 95 as95 rs95 (x0,())) (t95 x0) :=
  Walks.ok (fun _ _ _=>PureRuns.of) (wk95 x0) (by kernel_rfl)

theorem ok95:PureOk Go.Proofs.Tryz.prog 95 p95:=pureOk_of kl95_0_ok.base (T:=fun (d:Tys.data as95)=>t95 d.1) (by kernel_rfl) (fun (d:Tys.data as95)=>ok95_t d.1)
def kf95 (P:Go.Program):Known:=(kl95_0 P).func 95 p95
theorem kf95_ok:KnownOk Go.Proofs.Tryz.prog (kf95 Go.Proofs.Tryz.prog):=kl95_0_ok.func ok95

/-! loop 0 of ductility/ductilitybase.HasText -/

abbrev sh96_0:Sh:={ n:=18,slots:=[0,1,5],pats:=[.ty (.slice .str),.ty .str,.ty (.int .i64)],boxes:=[] }
abbrev shb96_0:Sh:={ n:=18,slots:=[],pats:=[],boxes:=[] }
abbrev shr96_0:Sh:={ n:=18,slots:=[4],pats:=[.ty .bool],boxes:=[] }

def t96_0 (x0:(List ByteArray)) (x1:ByteArray) (x2:Int):Tr (Out sh96_0.data shb96_0.data shr96_0.data) :=
  Tr.test ((!leF (↑(List.length x0):Int) x2:Bool))
    (Tr.test (decide ((0:Int) ≤ x2) && decide (x2 < (↑(List.length x0):Int)))
      (Tr.test ((strEq (List.getD x0 (Int.toNat x2) { data:={ toList:=[] } }) x1:Bool))
        (Tr.fin (.ret (((true:Bool),()),())))
        (Tr.fin (.again ((x0,(x1,((wrap64 (x2 + (1:Int)):Int),()))),()))))
      (Tr.stop))
    (Tr.fin (.brk ((),())))

def s96_0 (d:sh96_0.data):Option (Out sh96_0.data shb96_0.data shr96_0.data):=(t96_0 d.1.1 d.1.2.1 d.1.2.2.1).val
def l96_0 (d:sh96_0.data):Option (shb96_0.data ⊕ shr96_0.data):=itr s96_0 rounds d
def b96_0 (d:sh96_0.data):shb96_0.data:=outB shb96_0.dflt (l96_0 d)
def r96_0 (d:sh96_0.data):shr96_0.data:=outR shr96_0.dflt (l96_0 d)
def lc96_0:LoopC:=lcOf sh96_0 shb96_0 shr96_0 l96_0 b96_0 r96_0

theorem wk96_0 (x0:(List ByteArray)) (x1:ByteArray) (x2:Int):Walks (runBody (kf95 Go.Proofs.Tryz.prog).orc Go.Proofs.Tryz.prog 400 96 0 sh96_0 shb96_0 shr96_0 ((x0,x1,x2,()),())) (t96_0 x0 x1 x2) [(bl 3 7,[2,4,6]),(bl 3 3,[2,4,6]),(bl 1 0,[2])] :=
  ⟨by kernel_rfl,by kernel_rfl,by kernel_rfl,trivial⟩

theorem ok96_0_t (x0:(List ByteArray)) (x1:ByteArray) (x2:Int):TrOk (BodyRuns Go.Proofs.Tryz.prog (kf95 Go.Proofs.Tryz.prog).orc 96 0 sh96_0 shb96_0 shr96_0 ((x0,x1,x2,()),())) (t96_0 x0 x1 x2) :=
  Walks.ok (fun _ _ _=>BodyRuns.of) (wk96_0 x0 x1 x2) (by kernel_rfl)

theorem ok96_0:LoopOk Go.Proofs.Tryz.prog 96 0 lc96_0:=loopOk_of (sh:=sh96_0) (shB:=shb96_0) (shR:=shr96_0) kf95_ok.base (T:=fun (d:sh96_0.data)=>t96_0 d.1.1 d.1.2.1 d.1.2.2.1) (by kernel_rfl) rfl (fun (d:sh96_0.data)=>ok96_0_t d.1.1 d.1.2.1 d.1.2.2.1) (fun _=>rfl)
def kl96_0 (P:Go.Program):Known:=(kf95 P).loop 96 0 lc96_0
theorem kl96_0_ok:KnownOk Go.Proofs.Tryz.prog (kl96_0 Go.Proofs.Tryz.prog):=kf95_ok.loop ok96_0

/-! ductility/ductilitybase.HasText -/

abbrev as96:List Ty:=[(.slice .str),.str]
abbrev rs96:List Ty:=[.bool]

def t96 (x0:(List ByteArray)) (x1:ByteArray):Tr (Tys.data rs96) :=
  Tr.test (Option.isSome (l96_0 ((x0,(x1,((0:Int),()))),())))
    (Tr.test (isRet (l96_0 ((x0,(x1,((0:Int),()))),())))
      (let r0:=r96_0 ((x0,(x1,((0:Int),()))),());
      Tr.fin ((r0.1.1,())))
      (Tr.fin (((false:Bool),()))))
    (Tr.stop)

def f96 (d:Tys.data as96):Option (Tys.data rs96):=(t96 d.1 d.2.1).val
def g96 (d:Tys.data as96):Tys.data rs96:=(f96 d).getD (Tys.dflt rs96)
def p96:PureC:=pcOf as96 rs96 f96 g96

theorem wk96 (x0:(List ByteArray)) (x1:ByteArray):Walks (runPure (kl96_0 Go.Proofs.Tryz.prog).orc Go.Proofs.Tryz.prog 400 96 as96 rs96 (x0,x1,())) (t96 x0 x1) [(bl 2 3,[2,4]),(bl 2 1,[2,4])] :=
  ⟨by kernel_rfl,by kernel_rfl,trivial⟩

theorem ok96_t (x0:(List ByteArray)) (x1:ByteArray):TrOk (PureRuns Go.Proofs.Tryz.prog (kl96_0 Go.Proofs.Tryz.prog).orc 96 as96 rs96 (x0,x1,())) (t96 x0 x1) :=
  Walks.ok (fun _ _ _=>PureRuns.of) (wk96 x0 x1) (by kernel_rfl)

theorem ok96:PureOk Go.Proofs.Tryz.prog 96 p96:=pureOk_of kl96_0_ok.base (T:=fun (d:Tys.data as96)=>t96 d.1 d.2.1) (by kernel_rfl) (fun (d:Tys.data as96)=>ok96_t d.1 d.2.1)
def kf96 (P:Go.Program):Known:=(kl96_0 P).func 96 p96
theorem kf96_ok:KnownOk Go.Proofs.Tryz.prog (kf96 Go.Proofs.Tryz.prog):=kl96_0_ok.func ok96

/-! ductility/ductilitybase.Within -/

abbrev as25:List Ty:=[(.int .i64),(.int .i64),(.int .i64)]
abbrev rs25:List Ty:=[.bool]

def t25 (x0:Int) (x1:Int) (x2:Int):Tr (Tys.data rs25) :=
  Tr.test ((leF x1 x0:Bool))
    (Tr.fin ((leF x0 x2,())))
    (Tr.fin ((false,())))

def f25 (d:Tys.data as25):Option (Tys.data rs25):=(t25 d.1 d.2.1 d.2.2.1).val
def g25 (d:Tys.data as25):Tys.data rs25:=(f25 d).getD (Tys.dflt rs25)
def p25:PureC:=pcOf as25 rs25 f25 g25

theorem wk25 (x0:Int) (x1:Int) (x2:Int):Walks (runPure (kf96 Go.Proofs.Tryz.prog).orc Go.Proofs.Tryz.prog 400 25 as25 rs25 (x0,x1,x2,())) (t25 x0 x1 x2) [(bl 1 1,[2,2,2,2]),(bl 1 0,[2,2,2,2])] :=
  ⟨by kernel_rfl,by kernel_rfl,trivial⟩

theorem ok25_t (x0:Int) (x1:Int) (x2:Int):TrOk (PureRuns Go.Proofs.Tryz.prog (kf96 Go.Proofs.Tryz.prog).orc 25 as25 rs25 (x0,x1,x2,())) (t25 x0 x1 x2) :=
  Walks.ok (fun _ _ _=>PureRuns.of) (wk25 x0 x1 x2) (by kernel_rfl)

theorem ok25:PureOk Go.Proofs.Tryz.prog 25 p25:=pureOk_of kf96_ok.base (T:=fun (d:Tys.data as25)=>t25 d.1 d.2.1 d.2.2.1) (by kernel_rfl) (fun (d:Tys.data as25)=>ok25_t d.1 d.2.1 d.2.2.1)
def kf25 (P:Go.Program):Known:=(kf96 P).func 25 p25
theorem kf25_ok:KnownOk Go.Proofs.Tryz.prog (kf25 Go.Proofs.Tryz.prog):=kf96_ok.func ok25

/-! loop 0 of ductility/ductilityref09.indexesErr -/

abbrev sh150_0:Sh:={ n:=34,slots:=[0,1,5],pats:=[.ty (.slice (.int .i64)),.ty (.int .i64),.ty (.int .i64)],boxes:=[] }
abbrev shb150_0:Sh:={ n:=34,slots:=[],pats:=[],boxes:=[] }
abbrev shr150_0:Sh:={ n:=34,slots:=[4],pats:=[.ty (.int .i64)],boxes:=[] }

def t150_0 (x0:(List Int)) (x1:Int) (x2:Int):Tr (Out sh150_0.data shb150_0.data shr150_0.data) :=
  Tr.test ((!leF (↑(List.length x0):Int) x2:Bool))
    (Tr.test (decide ((0:Int) ≤ x2) && decide (x2 < (↑(List.length x0):Int)))
      (Tr.test (Option.isSome (f25 ((List.getD x0 (Int.toNat x2) (0:Int):Int),((0:Int),((wrap64 (x1 - (1:Int)):Int),())))))
        (let r0:=g25 ((List.getD x0 (Int.toNat x2) (0:Int):Int),((0:Int),((wrap64 (x1 - (1:Int)):Int),())));
        Tr.test ((!r0.1:Bool))
          (Tr.fin (.ret (((6:Int),()),())))
          (Tr.test ((!leF x2 0:Bool))
            (Tr.test ((decide ((0:Int) ≤ wrap64 (x2 - (1:Int))) && decide (wrap64 (x2 - (1:Int)) < (↑(List.length x0):Int)):Bool))
              (Tr.test ((leF (List.getD x0 (Int.toNat x2) (0:Int)) (List.getD x0 (Int.toNat (wrap64 (x2 - (1:Int)))) (0:Int)):Bool))
                (Tr.fin (.ret (((9:Int),()),())))
                (Tr.fin (.again ((x0,(x1,((wrap64 (x2 + (1:Int)):Int),()))),()))))
              (Tr.stop))
            (Tr.fin (.again ((x0,(x1,((wrap64 (x2 + (1:Int)):Int),()))),())))))
        (Tr.stop))
      (Tr.stop))
    (Tr.fin (.brk ((),())))

def s150_0 (d:sh150_0.data):Option (Out sh150_0.data shb150_0.data shr150_0.data):=(t150_0 d.1.1 d.1.2.1 d.1.2.2.1).val
def l150_0 (d:sh150_0.data):Option (shb150_0.data ⊕ shr150_0.data):=itr s150_0 rounds d
def b150_0 (d:sh150_0.data):shb150_0.data:=outB shb150_0.dflt (l150_0 d)
def r150_0 (d:sh150_0.data):shr150_0.data:=outR shr150_0.dflt (l150_0 d)
def lc150_0:LoopC:=lcOf sh150_0 shb150_0 shr150_0 l150_0 b150_0 r150_0

theorem wk150_0 (x0:(List Int)) (x1:Int) (x2:Int):Walks (runBody (kf25 Go.Proofs.Tryz.prog).orc Go.Proofs.Tryz.prog 400 150 0 sh150_0 shb150_0 shr150_0 ((x0,x1,x2,()),())) (t150_0 x0 x1 x2) [(bl 4 15,[2,4,6,8]),(bl 7 119,[2,6,6,6,4,6,6,6,6,6,12,6,6,6,8,10,12,14]),(bl 7 55,[2,6,6,6,4,6,6,6,6,6,12,6,6,6,8,10,12,14]),(bl 5 7,[0,2,2,2,2,2,2,2,2,2,2,2,4,6,8,10]),(bl 1 0,[2])] :=
  ⟨by kernel_rfl,by kernel_rfl,by kernel_rfl,by kernel_rfl,by kernel_rfl,trivial⟩

theorem ok150_0_t (x0:(List Int)) (x1:Int) (x2:Int):TrOk (BodyRuns Go.Proofs.Tryz.prog (kf25 Go.Proofs.Tryz.prog).orc 150 0 sh150_0 shb150_0 shr150_0 ((x0,x1,x2,()),())) (t150_0 x0 x1 x2) :=
  Walks.ok (fun _ _ _=>BodyRuns.of) (wk150_0 x0 x1 x2) (by kernel_rfl)

theorem ok150_0:LoopOk Go.Proofs.Tryz.prog 150 0 lc150_0:=loopOk_of (sh:=sh150_0) (shB:=shb150_0) (shR:=shr150_0) kf25_ok.base (T:=fun (d:sh150_0.data)=>t150_0 d.1.1 d.1.2.1 d.1.2.2.1) (by kernel_rfl) rfl (fun (d:sh150_0.data)=>ok150_0_t d.1.1 d.1.2.1 d.1.2.2.1) (fun _=>rfl)
def kl150_0 (P:Go.Program):Known:=(kf25 P).loop 150 0 lc150_0
theorem kl150_0_ok:KnownOk Go.Proofs.Tryz.prog (kl150_0 Go.Proofs.Tryz.prog):=kf25_ok.loop ok150_0

/-! ductility/ductilityref09.indexesErr -/

abbrev as150:List Ty:=[(.slice (.int .i64)),(.int .i64)]
abbrev rs150:List Ty:=[(.int .i64)]

def t150 (x0:(List Int)) (x1:Int):Tr (Tys.data rs150) :=
  Tr.test (Option.isSome (l150_0 ((x0,(x1,((0:Int),()))),())))
    (Tr.test (isRet (l150_0 ((x0,(x1,((0:Int),()))),())))
      (let r0:=r150_0 ((x0,(x1,((0:Int),()))),());
      Tr.fin ((r0.1.1,())))
      (Tr.fin (((0:Int),()))))
    (Tr.stop)

def f150 (d:Tys.data as150):Option (Tys.data rs150):=(t150 d.1 d.2.1).val
def g150 (d:Tys.data as150):Tys.data rs150:=(f150 d).getD (Tys.dflt rs150)
def p150:PureC:=pcOf as150 rs150 f150 g150

theorem wk150 (x0:(List Int)) (x1:Int):Walks (runPure (kl150_0 Go.Proofs.Tryz.prog).orc Go.Proofs.Tryz.prog 400 150 as150 rs150 (x0,x1,())) (t150 x0 x1) [(bl 2 3,[2,4]),(bl 2 1,[2,4])] :=
  ⟨by kernel_rfl,by kernel_rfl,trivial⟩

theorem ok150_t (x0:(List Int)) (x1:Int):TrOk (PureRuns Go.Proofs.Tryz.prog (kl150_0 Go.Proofs.Tryz.prog).orc 150 as150 rs150 (x0,x1,())) (t150 x0 x1) :=
  Walks.ok (fun _ _ _=>PureRuns.of) (wk150 x0 x1) (by kernel_rfl)

theorem ok150:PureOk Go.Proofs.Tryz.prog 150 p150:=pureOk_of kl150_0_ok.base (T:=fun (d:Tys.data as150)=>t150 d.1 d.2.1) (by kernel_rfl) (fun (d:Tys.data as150)=>ok150_t d.1 d.2.1)
def kf150 (P:Go.Program):Known:=(kl150_0 P).func 150 p150
theorem kf150_ok:KnownOk Go.Proofs.Tryz.prog (kf150 Go.Proofs.Tryz.prog):=kl150_0_ok.func ok150

/-! loop 0 of ductility/ductilitybase.Has -/

abbrev sh51_0:Sh:={ n:=18,slots:=[0,1,5],pats:=[.ty (.slice (.int .i64)),.ty (.int .i64),.ty (.int .i64)],boxes:=[] }
abbrev shb51_0:Sh:={ n:=18,slots:=[],pats:=[],boxes:=[] }
abbrev shr51_0:Sh:={ n:=18,slots:=[4],pats:=[.ty .bool],boxes:=[] }

def t51_0 (x0:(List Int)) (x1:Int) (x2:Int):Tr (Out sh51_0.data shb51_0.data shr51_0.data) :=
  Tr.test ((!leF (↑(List.length x0):Int) x2:Bool))
    (Tr.test (decide ((0:Int) ≤ x2) && decide (x2 < (↑(List.length x0):Int)))
      (Tr.test ((eqF (List.getD x0 (Int.toNat x2) (0:Int)) x1:Bool))
        (Tr.fin (.ret (((true:Bool),()),())))
        (Tr.fin (.again ((x0,(x1,((wrap64 (x2 + (1:Int)):Int),()))),()))))
      (Tr.stop))
    (Tr.fin (.brk ((),())))

def s51_0 (d:sh51_0.data):Option (Out sh51_0.data shb51_0.data shr51_0.data):=(t51_0 d.1.1 d.1.2.1 d.1.2.2.1).val
def l51_0 (d:sh51_0.data):Option (shb51_0.data ⊕ shr51_0.data):=itr s51_0 rounds d
def b51_0 (d:sh51_0.data):shb51_0.data:=outB shb51_0.dflt (l51_0 d)
def r51_0 (d:sh51_0.data):shr51_0.data:=outR shr51_0.dflt (l51_0 d)
def lc51_0:LoopC:=lcOf sh51_0 shb51_0 shr51_0 l51_0 b51_0 r51_0

theorem wk51_0 (x0:(List Int)) (x1:Int) (x2:Int):Walks (runBody (kf150 Go.Proofs.Tryz.prog).orc Go.Proofs.Tryz.prog 400 51 0 sh51_0 shb51_0 shr51_0 ((x0,x1,x2,()),())) (t51_0 x0 x1 x2) [(bl 3 7,[2,4,6]),(bl 3 3,[2,4,6]),(bl 1 0,[2])] :=
  ⟨by kernel_rfl,by kernel_rfl,by kernel_rfl,trivial⟩

theorem ok51_0_t (x0:(List Int)) (x1:Int) (x2:Int):TrOk (BodyRuns Go.Proofs.Tryz.prog (kf150 Go.Proofs.Tryz.prog).orc 51 0 sh51_0 shb51_0 shr51_0 ((x0,x1,x2,()),())) (t51_0 x0 x1 x2) :=
  Walks.ok (fun _ _ _=>BodyRuns.of) (wk51_0 x0 x1 x2) (by kernel_rfl)

theorem ok51_0:LoopOk Go.Proofs.Tryz.prog 51 0 lc51_0:=loopOk_of (sh:=sh51_0) (shB:=shb51_0) (shR:=shr51_0) kf150_ok.base (T:=fun (d:sh51_0.data)=>t51_0 d.1.1 d.1.2.1 d.1.2.2.1) (by kernel_rfl) rfl (fun (d:sh51_0.data)=>ok51_0_t d.1.1 d.1.2.1 d.1.2.2.1) (fun _=>rfl)
def kl51_0 (P:Go.Program):Known:=(kf150 P).loop 51 0 lc51_0
theorem kl51_0_ok:KnownOk Go.Proofs.Tryz.prog (kl51_0 Go.Proofs.Tryz.prog):=kf150_ok.loop ok51_0

/-! ductility/ductilitybase.Has -/

abbrev as51:List Ty:=[(.slice (.int .i64)),(.int .i64)]
abbrev rs51:List Ty:=[.bool]

def t51 (x0:(List Int)) (x1:Int):Tr (Tys.data rs51) :=
  Tr.test (Option.isSome (l51_0 ((x0,(x1,((0:Int),()))),())))
    (Tr.test (isRet (l51_0 ((x0,(x1,((0:Int),()))),())))
      (let r0:=r51_0 ((x0,(x1,((0:Int),()))),());
      Tr.fin ((r0.1.1,())))
      (Tr.fin (((false:Bool),()))))
    (Tr.stop)

def f51 (d:Tys.data as51):Option (Tys.data rs51):=(t51 d.1 d.2.1).val
def g51 (d:Tys.data as51):Tys.data rs51:=(f51 d).getD (Tys.dflt rs51)
def p51:PureC:=pcOf as51 rs51 f51 g51

theorem wk51 (x0:(List Int)) (x1:Int):Walks (runPure (kl51_0 Go.Proofs.Tryz.prog).orc Go.Proofs.Tryz.prog 400 51 as51 rs51 (x0,x1,())) (t51 x0 x1) [(bl 2 3,[2,4]),(bl 2 1,[2,4])] :=
  ⟨by kernel_rfl,by kernel_rfl,trivial⟩

theorem ok51_t (x0:(List Int)) (x1:Int):TrOk (PureRuns Go.Proofs.Tryz.prog (kl51_0 Go.Proofs.Tryz.prog).orc 51 as51 rs51 (x0,x1,())) (t51 x0 x1) :=
  Walks.ok (fun _ _ _=>PureRuns.of) (wk51 x0 x1) (by kernel_rfl)

theorem ok51:PureOk Go.Proofs.Tryz.prog 51 p51:=pureOk_of kl51_0_ok.base (T:=fun (d:Tys.data as51)=>t51 d.1 d.2.1) (by kernel_rfl) (fun (d:Tys.data as51)=>ok51_t d.1 d.2.1)
def kf51 (P:Go.Program):Known:=(kl51_0 P).func 51 p51
theorem kf51_ok:KnownOk Go.Proofs.Tryz.prog (kf51 Go.Proofs.Tryz.prog):=kl51_0_ok.func ok51

end Go.Vm.Mo
