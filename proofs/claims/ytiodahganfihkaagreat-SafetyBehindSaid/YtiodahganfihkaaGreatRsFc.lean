import Derived.Test.YtiodahganfihkaaGreatA4
import Derived.KernelRfl
import Derived.Test.YtiodahganfihkaaGreatProg
import Derived.Test.YtiodahganfihkaaGreatRsFb
set_option linter.unusedVariables false
set_option linter.unusedSimpArgs false

namespace Go.Vm.Mo
open Go
set_option linter.unusedVariables false

/-! loop 0 of ductility/safety.checkItems[string] -/

abbrev sh81_0:Sh:={ n:=25,slots:=[1,9,10,11],pats:=[.fn 165 [(0,3)],.ty (.slice .str),.ty (.int .i64),.ty (.int .i64)],boxes:=[.row [.ty .str,.ty (.slice .str),.ty (.int .i64)]] }
abbrev shb81_0:Sh:={ n:=25,slots:=[],pats:=[],boxes:=[.row [.ty .str,.ty (.slice .str),.ty (.int .i64)]] }
abbrev shr81_0:Sh:={ n:=25,slots:=[4,5],pats:=[.ty (.int .i64),.ty (.int .i64)],boxes:=[.row [.ty .str,.ty (.slice .str),.ty (.int .i64)]] }

def t81_0 (x1:(List ByteArray)) (x2:Int) (x3:Int) (b0_0:ByteArray) (b0_1:(List ByteArray)) (b0_2:Int):Tr (Out sh81_0.data shb81_0.data shr81_0.data) :=
  Tr.test ((!leF x2 x3:Bool))
    (Tr.test (decide ((0:Int) ≤ x3) && decide (x3 < (↑(List.length x1):Int)))
      (Tr.test (Option.isSome (f83 (b0_1,(x3,((23:Int),())))))
        (let r0:=g83 (b0_1,(x3,((23:Int),())));
        Tr.test ((!eqF r0.1 0:Bool))
          (Tr.fin (.ret ((x3,(r0.1,())),((b0_0,(b0_1,(b0_2,()))),()))))
          (Tr.fin (.again ((x1,(x2,((wrap64 (x3 + (1:Int)):Int),()))),((b0_0,(b0_1,(b0_2,()))),())))))
        (Tr.stop))
      (Tr.stop))
    (Tr.fin (.brk ((),((b0_0,(b0_1,(b0_2,()))),()))))

def s81_0 (d:sh81_0.data):Option (Out sh81_0.data shb81_0.data shr81_0.data):=(t81_0 d.1.1 d.1.2.1 d.1.2.2.1 d.2.1.1 d.2.1.2.1 d.2.1.2.2.1).val
def l81_0 (d:sh81_0.data):Option (shb81_0.data ⊕ shr81_0.data):=itr s81_0 rounds d
def b81_0 (d:sh81_0.data):shb81_0.data:=outB shb81_0.dflt (l81_0 d)
def r81_0 (d:sh81_0.data):shr81_0.data:=outR shr81_0.dflt (l81_0 d)
def lc81_0:LoopC:=lcOf sh81_0 shb81_0 shr81_0 l81_0 b81_0 r81_0

theorem wk81_0 (x1:(List ByteArray)) (x2:Int) (x3:Int) (b0_0:ByteArray) (b0_1:(List ByteArray)) (b0_2:Int):Walks (runBody (kf83 Go.Proofs.Tryz.prog).orc Go.Proofs.Tryz.prog 400 81 0 sh81_0 shb81_0 shr81_0 ((x1,x2,x3,()),(b0_0,b0_1,b0_2,()),())) (t81_0 x1 x2 x3 b0_0 b0_1 b0_2) [(bl 4 15,[2,4,6,8]),(bl 4 7,[2,4,6,8]),(bl 1 0,[2])] :=
  ⟨by kernel_rfl,by kernel_rfl,by kernel_rfl,trivial⟩

theorem ok81_0_t (x1:(List ByteArray)) (x2:Int) (x3:Int) (b0_0:ByteArray) (b0_1:(List ByteArray)) (b0_2:Int):TrOk (BodyRuns Go.Proofs.Tryz.prog (kf83 Go.Proofs.Tryz.prog).orc 81 0 sh81_0 shb81_0 shr81_0 ((x1,x2,x3,()),(b0_0,b0_1,b0_2,()),())) (t81_0 x1 x2 x3 b0_0 b0_1 b0_2) :=
  Walks.ok (fun _ _ _=>BodyRuns.of) (wk81_0 x1 x2 x3 b0_0 b0_1 b0_2) (by kernel_rfl)

theorem ok81_0:LoopOk Go.Proofs.Tryz.prog 81 0 lc81_0:=loopOk_of (sh:=sh81_0) (shB:=shb81_0) (shR:=shr81_0) kf83_ok.base (T:=fun (d:sh81_0.data)=>t81_0 d.1.1 d.1.2.1 d.1.2.2.1 d.2.1.1 d.2.1.2.1 d.2.1.2.2.1) (by kernel_rfl) rfl (fun (d:sh81_0.data)=>ok81_0_t d.1.1 d.1.2.1 d.1.2.2.1 d.2.1.1 d.2.1.2.1 d.2.1.2.2.1) (fun _=>rfl)
def kl81_0 (P:Go.Program):Known:=(kf83 P).loop 81 0 lc81_0
theorem kl81_0_ok:KnownOk Go.Proofs.Tryz.prog (kl81_0 Go.Proofs.Tryz.prog):=kf83_ok.loop ok81_0

/-! ductility/safety.gateError -/

abbrev as131:List Ty:=[(.pair .str (.pair (.slice .str) (.pair (.int .i64) .unit)))]
abbrev rs131:List Ty:=[(.int .i64)]

def t131 (x0:ByteArray) (x0':(List ByteArray)) (x0'':Int):Tr (Tys.data rs131) :=
  Tr.test ((!leF (↑(List.length x0'):Int) (4:Int):Bool))
    (Tr.fin (((8:Int),())))
    (Tr.test (Option.isSome (l81_0 ((x0',((↑(List.length x0'):Int),((0:Int),()))),((x0,(x0',(x0'',()))),()))))
      (Tr.test (isRet (l81_0 ((x0',((↑(List.length x0'):Int),((0:Int),()))),((x0,(x0',(x0'',()))),()))))
        (let r0:=r81_0 ((x0',((↑(List.length x0'):Int),((0:Int),()))),((x0,(x0',(x0'',()))),()));
        Tr.test (Option.isSome (f94 ((0:Int),((20:Int),(([r0.2.1.2.2.1]:List Int),())))))
          (let r2:=g94 ((0:Int),((20:Int),(([r0.2.1.2.2.1]:List Int),())));
          Tr.test (Option.isSome (f80 ((!r2.1:Bool),((2:Int),()))))
            (let r3:=g80 ((!r2.1:Bool),((2:Int),()));
            Tr.test (Option.isSome (f79 (([r0.1.2.1,r3.1]:List Int),())))
              (let r4:=g79 (([r0.1.2.1,r3.1]:List Int),());
              Tr.fin ((r4.1,())))
              (Tr.stop))
            (Tr.stop))
          (Tr.stop))
        (let r1:=b81_0 ((x0',((↑(List.length x0'):Int),((0:Int),()))),((x0,(x0',(x0'',()))),()));
        Tr.test (Option.isSome (f94 ((0:Int),((20:Int),(([r1.2.1.2.2.1]:List Int),())))))
          (let r5:=g94 ((0:Int),((20:Int),(([r1.2.1.2.2.1]:List Int),())));
          Tr.test (Option.isSome (f80 ((!r5.1:Bool),((2:Int),()))))
            (let r6:=g80 ((!r5.1:Bool),((2:Int),()));
            Tr.test (Option.isSome (f79 (([(0:Int),r6.1]:List Int),())))
              (let r7:=g79 (([(0:Int),r6.1]:List Int),());
              Tr.fin ((r7.1,())))
              (Tr.stop))
            (Tr.stop))
          (Tr.stop)))
      (Tr.stop))

def f131 (d:Tys.data as131):Option (Tys.data rs131):=(t131 d.1.1 d.1.2.1 d.1.2.2.1).val
def g131 (d:Tys.data as131):Tys.data rs131:=(f131 d).getD (Tys.dflt rs131)
def p131:PureC:=pcOf as131 rs131 f131 g131

theorem wk131 (x0:ByteArray) (x0':(List ByteArray)) (x0'':Int):Walks (runPure (kl81_0 Go.Proofs.Tryz.prog).orc Go.Proofs.Tryz.prog 400 131 as131 rs131 ((x0,x0',x0'',()),())) (t131 x0 x0' x0'') [(bl 1 1,[2]),(bl 6 62,[2,4,6,8,10,12]),(bl 6 58,[2,4,6,8,10,12])] :=
  ⟨by kernel_rfl,by kernel_rfl,by kernel_rfl,trivial⟩

theorem ok131_t (x0:ByteArray) (x0':(List ByteArray)) (x0'':Int):TrOk (PureRuns Go.Proofs.Tryz.prog (kl81_0 Go.Proofs.Tryz.prog).orc 131 as131 rs131 ((x0,x0',x0'',()),())) (t131 x0 x0' x0'') :=
  Walks.ok (fun _ _ _=>PureRuns.of) (wk131 x0 x0' x0'') (by kernel_rfl)

theorem ok131:PureOk Go.Proofs.Tryz.prog 131 p131:=pureOk_of kl81_0_ok.base (T:=fun (d:Tys.data as131)=>t131 d.1.1 d.1.2.1 d.1.2.2.1) (by kernel_rfl) (fun (d:Tys.data as131)=>ok131_t d.1.1 d.1.2.1 d.1.2.2.1)
def kf131 (P:Go.Program):Known:=(kl81_0 P).func 131 p131
theorem kf131_ok:KnownOk Go.Proofs.Tryz.prog (kf131 Go.Proofs.Tryz.prog):=kl81_0_ok.func ok131

/-! loop 0 of ductility/safety.CheckGates -/

abbrev sh59_0:Sh:={ n:=38,slots:=[0,5,21,22,23],pats:=[.ty (.slice (.pair .str (.pair (.slice .str) (.pair (.int .i64) .unit)))),.ptr 0 1 0,.ty (.slice (.pair .str (.pair (.slice .str) (.pair (.int .i64) .unit)))),.ty (.int .i64),.ty (.int .i64)],boxes:=[.row [.acc .str]] }
abbrev shb59_0:Sh:={ n:=38,slots:=[0,5],pats:=[.ty (.slice (.pair .str (.pair (.slice .str) (.pair (.int .i64) .unit)))),.ptr 0 1 0],boxes:=[.row [.acc .str]] }
abbrev shr59_0:Sh:={ n:=38,slots:=[],pats:=[],boxes:=[.row [.acc .str]] }

def t59_0 (x0:(List (ByteArray×((List ByteArray)×(Int×Unit))))) (x2:(List (ByteArray×((List ByteArray)×(Int×Unit))))) (x3:Int) (x4:Int) (b0_0:(List ByteArray)):Tr (Out sh59_0.data shb59_0.data shr59_0.data) :=
  Tr.test ((!leF x3 x4:Bool))
    (Tr.test (decide ((0:Int) ≤ x4) && decide (x4 < (↑(List.length x2):Int)))
      (Tr.test ((Nat.ble (((2:Nat) * (List.length b0_0 + (1:Nat)) + (192:Nat)) * (16:Nat)) (281474976710656:Nat) && Nat.ble (List.length b0_0 + (1:Nat)) (281474976710656:Nat):Bool))
        (Tr.fin (.again ((x0,(x2,(x3,((wrap64 (x4 + (1:Int)):Int),())))),(((b0_0++[(List.getD x2 (Int.toNat x4) ({ data:={ toList:=[] } },[],(0:Int),())).1]:List ByteArray),()),()))))
        (Tr.stop))
      (Tr.stop))
    (Tr.fin (.brk ((x0,()),((b0_0,()),()))))

def s59_0 (d:sh59_0.data):Option (Out sh59_0.data shb59_0.data shr59_0.data):=(t59_0 d.1.1 d.1.2.1 d.1.2.2.1 d.1.2.2.2.1 d.2.1.1).val
def l59_0 (d:sh59_0.data):Option (shb59_0.data ⊕ shr59_0.data):=itr s59_0 rounds d
def b59_0 (d:sh59_0.data):shb59_0.data:=outB shb59_0.dflt (l59_0 d)
def lc59_0:LoopC:=lcB sh59_0 shb59_0 shr59_0 l59_0 b59_0

theorem wk59_0 (x0:(List (ByteArray×((List ByteArray)×(Int×Unit))))) (x2:(List (ByteArray×((List ByteArray)×(Int×Unit))))) (x3:Int) (x4:Int) (b0_0:(List ByteArray)):Walks (runBody (kf131 Go.Proofs.Tryz.prog).orc Go.Proofs.Tryz.prog 400 59 0 sh59_0 shb59_0 shr59_0 ((x0,x2,x3,x4,()),(b0_0,()),())) (t59_0 x0 x2 x3 x4 b0_0) [(bl 3 7,[2,4,6]),(bl 1 0,[2])] :=
  ⟨by kernel_rfl,by kernel_rfl,trivial⟩

theorem ok59_0_t (x0:(List (ByteArray×((List ByteArray)×(Int×Unit))))) (x2:(List (ByteArray×((List ByteArray)×(Int×Unit))))) (x3:Int) (x4:Int) (b0_0:(List ByteArray)):TrOk (BodyRuns Go.Proofs.Tryz.prog (kf131 Go.Proofs.Tryz.prog).orc 59 0 sh59_0 shb59_0 shr59_0 ((x0,x2,x3,x4,()),(b0_0,()),())) (t59_0 x0 x2 x3 x4 b0_0) :=
  Walks.ok (fun _ _ _=>BodyRuns.of) (wk59_0 x0 x2 x3 x4 b0_0) (by kernel_rfl)

theorem ok59_0:LoopOk Go.Proofs.Tryz.prog 59 0 lc59_0:=loopOk_ofB (sh:=sh59_0) (shB:=shb59_0) (shR:=shr59_0) kf131_ok.base (T:=fun (d:sh59_0.data)=>t59_0 d.1.1 d.1.2.1 d.1.2.2.1 d.1.2.2.2.1 d.2.1.1) (by kernel_rfl) rfl (fun (d:sh59_0.data)=>ok59_0_t d.1.1 d.1.2.1 d.1.2.2.1 d.1.2.2.2.1 d.2.1.1) (fun _=>rfl)
def kl59_0 (P:Go.Program):Known:=(kf131 P).loop 59 0 lc59_0
theorem kl59_0_ok:KnownOk Go.Proofs.Tryz.prog (kl59_0 Go.Proofs.Tryz.prog):=kf131_ok.loop ok59_0

/-! loop 0 of ductility/safety.checkItems[ductility/api.SafetyGate] -/

abbrev sh129_0:Sh:={ n:=25,slots:=[1,9,10,11],pats:=[.fn 130 [(0,1)],.ty (.slice (.pair .str (.pair (.slice .str) (.pair (.int .i64) .unit)))),.ty (.int .i64),.ty (.int .i64)],boxes:=[.row [.acc .str]] }
abbrev shb129_0:Sh:={ n:=25,slots:=[],pats:=[],boxes:=[.row [.acc .str]] }
abbrev shr129_0:Sh:={ n:=25,slots:=[4,5],pats:=[.ty (.int .i64),.ty (.int .i64)],boxes:=[.row [.acc .str]] }

def t129_0 (x1:(List (ByteArray×((List ByteArray)×(Int×Unit))))) (x2:Int) (x3:Int) (b0_0:(List ByteArray)):Tr (Out sh129_0.data shb129_0.data shr129_0.data) :=
  Tr.test ((!leF x2 x3:Bool))
    (Tr.test (decide ((0:Int) ≤ x3) && decide (x3 < (↑(List.length x1):Int)))
      (Tr.test (Option.isSome (f83 (b0_0,(x3,((5:Int),())))))
        (Tr.test (Option.isSome (f131 ((((List.getD x1 (Int.toNat x3) ({ data:={ toList:=[] } },[],(0:Int),())).1:ByteArray),(((List.getD x1 (Int.toNat x3) ({ data:={ toList:=[] } },[],(0:Int),())).2.1:List ByteArray),(((List.getD x1 (Int.toNat x3) ({ data:={ toList:=[] } },[],(0:Int),())).2.2.1:Int),()))),())))
          (let r0:=g83 (b0_0,(x3,((5:Int),())));
          let r1:=g131 ((((List.getD x1 (Int.toNat x3) ({ data:={ toList:=[] } },[],(0:Int),())).1:ByteArray),(((List.getD x1 (Int.toNat x3) ({ data:={ toList:=[] } },[],(0:Int),())).2.1:List ByteArray),(((List.getD x1 (Int.toNat x3) ({ data:={ toList:=[] } },[],(0:Int),())).2.2.1:Int),()))),());
          Tr.test (Option.isSome (f79 (([r0.1,r1.1]:List Int),())))
            (let r2:=g79 (([r0.1,r1.1]:List Int),());
            Tr.test ((!eqF r2.1 0:Bool))
              (Tr.fin (.ret ((x3,(r2.1,())),((b0_0,()),()))))
              (Tr.fin (.again ((x1,(x2,((wrap64 (x3 + (1:Int)):Int),()))),((b0_0,()),())))))
            (Tr.stop))
          (Tr.stop))
        (Tr.stop))
      (Tr.stop))
    (Tr.fin (.brk ((),((b0_0,()),()))))

def s129_0 (d:sh129_0.data):Option (Out sh129_0.data shb129_0.data shr129_0.data):=(t129_0 d.1.1 d.1.2.1 d.1.2.2.1 d.2.1.1).val
def l129_0 (d:sh129_0.data):Option (shb129_0.data ⊕ shr129_0.data):=itr s129_0 rounds d
def b129_0 (d:sh129_0.data):shb129_0.data:=outB shb129_0.dflt (l129_0 d)
def r129_0 (d:sh129_0.data):shr129_0.data:=outR shr129_0.dflt (l129_0 d)
def lc129_0:LoopC:=lcOf sh129_0 shb129_0 shr129_0 l129_0 b129_0 r129_0

theorem wk129_0 (x1:(List (ByteArray×((List ByteArray)×(Int×Unit))))) (x2:Int) (x3:Int) (b0_0:(List ByteArray)):Walks (runBody (kl59_0 Go.Proofs.Tryz.prog).orc Go.Proofs.Tryz.prog 400 129 0 sh129_0 shb129_0 shr129_0 ((x1,x2,x3,()),(b0_0,()),())) (t129_0 x1 x2 x3 b0_0) [(bl 6 63,[2,4,6,8,10,12]),(bl 6 31,[2,4,6,8,10,12]),(bl 1 0,[2])] :=
  ⟨by kernel_rfl,by kernel_rfl,by kernel_rfl,trivial⟩

theorem ok129_0_t (x1:(List (ByteArray×((List ByteArray)×(Int×Unit))))) (x2:Int) (x3:Int) (b0_0:(List ByteArray)):TrOk (BodyRuns Go.Proofs.Tryz.prog (kl59_0 Go.Proofs.Tryz.prog).orc 129 0 sh129_0 shb129_0 shr129_0 ((x1,x2,x3,()),(b0_0,()),())) (t129_0 x1 x2 x3 b0_0) :=
  Walks.ok (fun _ _ _=>BodyRuns.of) (wk129_0 x1 x2 x3 b0_0) (by kernel_rfl)

theorem ok129_0:LoopOk Go.Proofs.Tryz.prog 129 0 lc129_0:=loopOk_of (sh:=sh129_0) (shB:=shb129_0) (shR:=shr129_0) kl59_0_ok.base (T:=fun (d:sh129_0.data)=>t129_0 d.1.1 d.1.2.1 d.1.2.2.1 d.2.1.1) (by kernel_rfl) rfl (fun (d:sh129_0.data)=>ok129_0_t d.1.1 d.1.2.1 d.1.2.2.1 d.2.1.1) (fun _=>rfl)
def kl129_0 (P:Go.Program):Known:=(kl59_0 P).loop 129 0 lc129_0
theorem kl129_0_ok:KnownOk Go.Proofs.Tryz.prog (kl129_0 Go.Proofs.Tryz.prog):=kl59_0_ok.loop ok129_0

/-! ductility/safety.CheckGates -/

abbrev as59:List Ty:=[(.slice (.pair .str (.pair (.slice .str) (.pair (.int .i64) .unit))))]
abbrev rs59:List Ty:=[(.int .i64),(.int .i64)]

def t59 (x0:(List (ByteArray×((List ByteArray)×(Int×Unit))))):Tr (Tys.data rs59) :=
  Tr.test (Option.isSome (f80 ((eqF (↑(List.length x0):Int) (0:Int):Bool),((10:Int),()))))
    (Tr.test (Option.isSome (f80 (!leF (↑(List.length x0):Int) (6:Int),((8:Int),()))))
      (let r0:=g80 ((eqF (↑(List.length x0):Int) (0:Int):Bool),((10:Int),()));
      let r1:=g80 ((!leF (↑(List.length x0):Int) (6:Int):Bool),((8:Int),()));
      Tr.test (Option.isSome (f79 (([r0.1,r1.1]:List Int),())))
        (let r2:=g79 (([r0.1,r1.1]:List Int),());
        Tr.test ((!eqF r2.1 0:Bool))
          (Tr.fin (((0:Int),(r2.1,()))))
          (Tr.test (isBrk (l59_0 ((x0,(x0,((↑(List.length x0):Int),((0:Int),())))),((([]:List ByteArray),()),()))))
            (let r3:=b59_0 ((x0,(x0,((↑(List.length x0):Int),((0:Int),())))),((([]:List ByteArray),()),()));
            Tr.test (Option.isSome (l129_0 ((r3.1.1,((↑(List.length r3.1.1):Int),((0:Int),()))),((r3.2.1.1,()),()))))
              (Tr.test (isRet (l129_0 ((r3.1.1,((↑(List.length r3.1.1):Int),((0:Int),()))),((r3.2.1.1,()),()))))
                (let r4:=r129_0 ((r3.1.1,((↑(List.length r3.1.1):Int),((0:Int),()))),((r3.2.1.1,()),()));
                Tr.fin ((r4.1.1,(r4.1.2.1,()))))
                (Tr.fin (((0:Int),((0:Int),())))))
              (Tr.stop))
            (Tr.stop)))
        (Tr.stop))
      (Tr.stop))
    (Tr.stop)

def f59 (d:Tys.data as59):Option (Tys.data rs59):=(t59 d.1).val
def g59 (d:Tys.data as59):Tys.data rs59:=(f59 d).getD (Tys.dflt rs59)
def p59:PureC:=pcOf as59 rs59 f59 g59

theorem wk59 (x0:(List (ByteArray×((List ByteArray)×(Int×Unit))))):Walks (runPure (kl129_0 Go.Proofs.Tryz.prog).orc Go.Proofs.Tryz.prog 400 59 as59 rs59 (x0,())) (t59 x0) [(bl 4 15,[2,4,6,8]),(bl 7 119,[2,4,1,6,8,10,12,14]),(bl 7 55,[2,4,1,6,8,10,12,14])] :=
  ⟨by kernel_rfl,by kernel_rfl,by kernel_rfl,trivial⟩

theorem ok59_t (x0:(List (ByteArray×((List ByteArray)×(Int×Unit))))):TrOk (PureRuns Go.Proofs.Tryz.prog (kl129_0 Go.Proofs.Tryz.prog).orc 59 as59 rs59 (x0,())) (t59 x0) :=
  Walks.ok (fun _ _ _=>PureRuns.of) (wk59 x0) (by kernel_rfl)

theorem ok59:PureOk Go.Proofs.Tryz.prog 59 p59:=pureOk_of kl129_0_ok.base (T:=fun (d:Tys.data as59)=>t59 d.1) (by kernel_rfl) (fun (d:Tys.data as59)=>ok59_t d.1)
def kf59 (P:Go.Program):Known:=(kl129_0 P).func 59 p59
theorem kf59_ok:KnownOk Go.Proofs.Tryz.prog (kf59 Go.Proofs.Tryz.prog):=kl129_0_ok.func ok59

/-! loop 0 of slices.Index[[]ductility/api.SafetySign,ductility/api.SafetySign] -/

abbrev sh199_0:Sh:={ n:=19,slots:=[0,3,7,8],pats:=[.ty (.slice (.pair (.int .i64) (.pair .str (.pair .str .unit)))),.ptr 0 3 0,.ty (.int .i64),.ty (.int .i64)],boxes:=[.row [.ty (.int .i64),.ty .str,.ty .str]] }
abbrev shb199_0:Sh:={ n:=19,slots:=[],pats:=[],boxes:=[.row [.ty (.int .i64),.ty .str,.ty .str]] }
abbrev shr199_0:Sh:={ n:=19,slots:=[4],pats:=[.ty (.int .i64)],boxes:=[.row [.ty (.int .i64),.ty .str,.ty .str]] }

def t199_0 (x0:(List (Int×(ByteArray×(ByteArray×Unit))))) (x2:Int) (x3:Int) (b0_0:Int) (b0_1:ByteArray) (b0_2:ByteArray):Tr (Out sh199_0.data shb199_0.data shr199_0.data) :=
  Tr.test ((!leF x2 x3:Bool))
    (Tr.test (decide ((0:Int) ≤ x3) && decide (x3 < (↑(List.length x0):Int)))
      (Tr.test ((b0_0 == (List.getD x0 (Int.toNat x3) ((0:Int),{ data:={ toList:=[] } },{ data:={ toList:=[] } },())).1 && (strEq b0_1 (List.getD x0 (Int.toNat x3) ((0:Int),{ data:={ toList:=[] } },{ data:={ toList:=[] } },())).2.1 && (strEq b0_2 (List.getD x0 (Int.toNat x3) ((0:Int),{ data:={ toList:=[] } },{ data:={ toList:=[] } },())).2.2.1 && true)):Bool))
        (Tr.fin (.ret ((x3,()),((b0_0,(b0_1,(b0_2,()))),()))))
        (Tr.fin (.again ((x0,(x2,((wrap64 (x3 + (1:Int)):Int),()))),((b0_0,(b0_1,(b0_2,()))),())))))
      (Tr.stop))
    (Tr.fin (.brk ((),((b0_0,(b0_1,(b0_2,()))),()))))

def s199_0 (d:sh199_0.data):Option (Out sh199_0.data shb199_0.data shr199_0.data):=(t199_0 d.1.1 d.1.2.1 d.1.2.2.1 d.2.1.1 d.2.1.2.1 d.2.1.2.2.1).val
def l199_0 (d:sh199_0.data):Option (shb199_0.data ⊕ shr199_0.data):=itr s199_0 rounds d
def b199_0 (d:sh199_0.data):shb199_0.data:=outB shb199_0.dflt (l199_0 d)
def r199_0 (d:sh199_0.data):shr199_0.data:=outR shr199_0.dflt (l199_0 d)
def lc199_0:LoopC:=lcOf sh199_0 shb199_0 shr199_0 l199_0 b199_0 r199_0

theorem wk199_0 (x0:(List (Int×(ByteArray×(ByteArray×Unit))))) (x2:Int) (x3:Int) (b0_0:Int) (b0_1:ByteArray) (b0_2:ByteArray):Walks (runBody (kf59 Go.Proofs.Tryz.prog).orc Go.Proofs.Tryz.prog 400 199 0 sh199_0 shb199_0 shr199_0 ((x0,x2,x3,()),(b0_0,b0_1,b0_2,()),())) (t199_0 x0 x2 x3 b0_0 b0_1 b0_2) [(bl 3 7,[2,4,6]),(bl 3 3,[2,4,6]),(bl 1 0,[2])] :=
  ⟨by kernel_rfl,by kernel_rfl,by kernel_rfl,trivial⟩

theorem ok199_0_t (x0:(List (Int×(ByteArray×(ByteArray×Unit))))) (x2:Int) (x3:Int) (b0_0:Int) (b0_1:ByteArray) (b0_2:ByteArray):TrOk (BodyRuns Go.Proofs.Tryz.prog (kf59 Go.Proofs.Tryz.prog).orc 199 0 sh199_0 shb199_0 shr199_0 ((x0,x2,x3,()),(b0_0,b0_1,b0_2,()),())) (t199_0 x0 x2 x3 b0_0 b0_1 b0_2) :=
  Walks.ok (fun _ _ _=>BodyRuns.of) (wk199_0 x0 x2 x3 b0_0 b0_1 b0_2) (by kernel_rfl)

theorem ok199_0:LoopOk Go.Proofs.Tryz.prog 199 0 lc199_0:=loopOk_of (sh:=sh199_0) (shB:=shb199_0) (shR:=shr199_0) kf59_ok.base (T:=fun (d:sh199_0.data)=>t199_0 d.1.1 d.1.2.1 d.1.2.2.1 d.2.1.1 d.2.1.2.1 d.2.1.2.2.1) (by kernel_rfl) rfl (fun (d:sh199_0.data)=>ok199_0_t d.1.1 d.1.2.1 d.1.2.2.1 d.2.1.1 d.2.1.2.1 d.2.1.2.2.1) (fun _=>rfl)
def kl199_0 (P:Go.Program):Known:=(kf59 P).loop 199 0 lc199_0
theorem kl199_0_ok:KnownOk Go.Proofs.Tryz.prog (kl199_0 Go.Proofs.Tryz.prog):=kf59_ok.loop ok199_0

/-! slices.Index[[]ductility/api.SafetySign,ductility/api.SafetySign] -/

abbrev as199:List Ty:=[(.slice (.pair (.int .i64) (.pair .str (.pair .str .unit)))),(.pair (.int .i64) (.pair .str (.pair .str .unit)))]
abbrev rs199:List Ty:=[(.int .i64)]

def t199 (x0:(List (Int×(ByteArray×(ByteArray×Unit))))) (x1:Int) (x1':ByteArray) (x1'':ByteArray):Tr (Tys.data rs199) :=
  Tr.test (Option.isSome (l199_0 ((x0,((↑(List.length x0):Int),((0:Int),()))),((x1,(x1',(x1'',()))),()))))
    (Tr.test (isRet (l199_0 ((x0,((↑(List.length x0):Int),((0:Int),()))),((x1,(x1',(x1'',()))),()))))
      (let r0:=r199_0 ((x0,((↑(List.length x0):Int),((0:Int),()))),((x1,(x1',(x1'',()))),()));
      Tr.fin ((r0.1.1,())))
      (Tr.fin (((-1:Int),()))))
    (Tr.stop)

def f199 (d:Tys.data as199):Option (Tys.data rs199):=(t199 d.1 d.2.1.1 d.2.1.2.1 d.2.1.2.2.1).val
def g199 (d:Tys.data as199):Tys.data rs199:=(f199 d).getD (Tys.dflt rs199)
def p199:PureC:=pcOf as199 rs199 f199 g199

theorem wk199 (x0:(List (Int×(ByteArray×(ByteArray×Unit))))) (x1:Int) (x1':ByteArray) (x1'':ByteArray):Walks (runPure (kl199_0 Go.Proofs.Tryz.prog).orc Go.Proofs.Tryz.prog 400 199 as199 rs199 (x0,(x1,x1',x1'',()),())) (t199 x0 x1 x1' x1'') [(bl 2 3,[2,4]),(bl 2 1,[2,4])] :=
  ⟨by kernel_rfl,by kernel_rfl,trivial⟩

theorem ok199_t (x0:(List (Int×(ByteArray×(ByteArray×Unit))))) (x1:Int) (x1':ByteArray) (x1'':ByteArray):TrOk (PureRuns Go.Proofs.Tryz.prog (kl199_0 Go.Proofs.Tryz.prog).orc 199 as199 rs199 (x0,(x1,x1',x1'',()),())) (t199 x0 x1 x1' x1'') :=
  Walks.ok (fun _ _ _=>PureRuns.of) (wk199 x0 x1 x1' x1'') (by kernel_rfl)

theorem ok199:PureOk Go.Proofs.Tryz.prog 199 p199:=pureOk_of kl199_0_ok.base (T:=fun (d:Tys.data as199)=>t199 d.1 d.2.1.1 d.2.1.2.1 d.2.1.2.2.1) (by kernel_rfl) (fun (d:Tys.data as199)=>ok199_t d.1 d.2.1.1 d.2.1.2.1 d.2.1.2.2.1)
def kf199 (P:Go.Program):Known:=(kl199_0 P).func 199 p199
theorem kf199_ok:KnownOk Go.Proofs.Tryz.prog (kf199 Go.Proofs.Tryz.prog):=kl199_0_ok.func ok199

/-! slices.Contains[[]ductility/api.SafetySign,ductility/api.SafetySign] -/

abbrev as168:List Ty:=[(.slice (.pair (.int .i64) (.pair .str (.pair .str .unit)))),(.pair (.int .i64) (.pair .str (.pair .str .unit)))]
abbrev rs168:List Ty:=[.bool]

def t168 (x0:(List (Int×(ByteArray×(ByteArray×Unit))))) (x1:Int) (x1':ByteArray) (x1'':ByteArray):Tr (Tys.data rs168) :=
  Tr.test (Option.isSome (f199 (x0,((x1,(x1',(x1'',()))),()))))
    (let r0:=g199 (x0,((x1,(x1',(x1'',()))),()));
    Tr.fin (((leF (0:Int) r0.1:Bool),())))
    (Tr.stop)

def f168 (d:Tys.data as168):Option (Tys.data rs168):=(t168 d.1 d.2.1.1 d.2.1.2.1 d.2.1.2.2.1).val
def g168 (d:Tys.data as168):Tys.data rs168:=(f168 d).getD (Tys.dflt rs168)
def p168:PureC:=pcOf as168 rs168 f168 g168

theorem wk168 (x0:(List (Int×(ByteArray×(ByteArray×Unit))))) (x1:Int) (x1':ByteArray) (x1'':ByteArray):Walks (runPure (kf199 Go.Proofs.Tryz.prog).orc Go.Proofs.Tryz.prog 400 168 as168 rs168 (x0,(x1,x1',x1'',()),())) (t168 x0 x1 x1' x1'') [(bl 1 1,[2])] :=
  ⟨by kernel_rfl,trivial⟩

theorem ok168_t (x0:(List (Int×(ByteArray×(ByteArray×Unit))))) (x1:Int) (x1':ByteArray) (x1'':ByteArray):TrOk (PureRuns Go.Proofs.Tryz.prog (kf199 Go.Proofs.Tryz.prog).orc 168 as168 rs168 (x0,(x1,x1',x1'',()),())) (t168 x0 x1 x1' x1'') :=
  Walks.ok (fun _ _ _=>PureRuns.of) (wk168 x0 x1 x1' x1'') (by kernel_rfl)

theorem ok168:PureOk Go.Proofs.Tryz.prog 168 p168:=pureOk_of kf199_ok.base (T:=fun (d:Tys.data as168)=>t168 d.1 d.2.1.1 d.2.1.2.1 d.2.1.2.2.1) (by kernel_rfl) (fun (d:Tys.data as168)=>ok168_t d.1 d.2.1.1 d.2.1.2.1 d.2.1.2.2.1)
def kf168 (P:Go.Program):Known:=(kf199 P).func 168 p168
theorem kf168_ok:KnownOk Go.Proofs.Tryz.prog (kf168 Go.Proofs.Tryz.prog):=kf199_ok.func ok168

/-! loop 0 of ductility/safety.checkItems[ductility/api.SafetySign] -/

abbrev sh166_0:Sh:={ n:=25,slots:=[1,9,10,11],pats:=[.fn 167 [(0,1),(1,1)],.ty (.slice (.pair (.int .i64) (.pair .str (.pair .str .unit)))),.ty (.int .i64),.ty (.int .i64)],boxes:=[.row [.ty (.int .i64)],.row [.ty (.slice (.pair (.int .i64) (.pair .str (.pair .str .unit))))]] }
abbrev shb166_0:Sh:={ n:=25,slots:=[],pats:=[],boxes:=[.row [.ty (.int .i64)],.row [.ty (.slice (.pair (.int .i64) (.pair .str (.pair .str .unit))))]] }
abbrev shr166_0:Sh:={ n:=25,slots:=[4,5],pats:=[.ty (.int .i64),.ty (.int .i64)],boxes:=[.row [.ty (.int .i64)],.row [.ty (.slice (.pair (.int .i64) (.pair .str (.pair .str .unit))))]] }

def t166_0 (x1:(List (Int×(ByteArray×(ByteArray×Unit))))) (x2:Int) (x3:Int) (b0_0:Int) (b1_0:(List (Int×(ByteArray×(ByteArray×Unit))))):Tr (Out sh166_0.data shb166_0.data shr166_0.data) :=
  Tr.test ((!leF x2 x3:Bool))
    (Tr.test (decide ((0:Int) ≤ x3) && decide (x3 < (↑(List.length x1):Int)))
      (Tr.test (Option.isSome (f94 ((0:Int),((wrap64 (b0_0 - (1:Int)):Int),(([(List.getD x1 (Int.toNat x3) ((0:Int),{ data:={ toList:=[] } },{ data:={ toList:=[] } },())).1]:List Int),())))))
        (let r0:=g94 ((0:Int),((wrap64 (b0_0 - (1:Int)):Int),(([(List.getD x1 (Int.toNat x3) ((0:Int),{ data:={ toList:=[] } },{ data:={ toList:=[] } },())).1]:List Int),())));
        Tr.test (Option.isSome (f80 ((!r0.1:Bool),((6:Int),()))))
          (Tr.test (Option.isSome (f142 (((List.getD x1 (Int.toNat x3) ((0:Int),{ data:={ toList:=[] } },{ data:={ toList:=[] } },())).2.1:ByteArray),())))
            (let r1:=g142 (((List.getD x1 (Int.toNat x3) ((0:Int),{ data:={ toList:=[] } },{ data:={ toList:=[] } },())).2.1:ByteArray),());
            Tr.test ((!r1.1:Bool))
              (Tr.test (Option.isSome (f80 ((true:Bool),((4:Int),()))))
                (Tr.test ((decide ((0:Int) ≤ x3) && decide (x3 ≤ (↑(List.length b1_0):Int)):Bool))
                  (Tr.test (Option.isSome (f168 ((List.take (Int.toNat x3) b1_0:List (Int×ByteArray×ByteArray×PUnit)),((((List.getD x1 (Int.toNat x3) ((0:Int),{ data:={ toList:=[] } },{ data:={ toList:=[] } },())).1:Int),(((List.getD x1 (Int.toNat x3) ((0:Int),{ data:={ toList:=[] } },{ data:={ toList:=[] } },())).2.1:ByteArray),(((List.getD x1 (Int.toNat x3) ((0:Int),{ data:={ toList:=[] } },{ data:={ toList:=[] } },())).2.2.1:ByteArray),()))),()))))
                    (let r2:=g168 ((List.take (Int.toNat x3) b1_0:List (Int×ByteArray×ByteArray×PUnit)),((((List.getD x1 (Int.toNat x3) ((0:Int),{ data:={ toList:=[] } },{ data:={ toList:=[] } },())).1:Int),(((List.getD x1 (Int.toNat x3) ((0:Int),{ data:={ toList:=[] } },{ data:={ toList:=[] } },())).2.1:ByteArray),(((List.getD x1 (Int.toNat x3) ((0:Int),{ data:={ toList:=[] } },{ data:={ toList:=[] } },())).2.2.1:ByteArray),()))),()));
                    Tr.test (Option.isSome (f80 (r2.1,((23:Int),()))))
                      (let r3:=g80 ((!r0.1:Bool),((6:Int),()));
                      let r4:=g80 ((true:Bool),((4:Int),()));
                      let r5:=g80 (r2.1,((23:Int),()));
                      Tr.test (Option.isSome (f79 (([r3.1,r4.1,r5.1]:List Int),())))
                        (let r8:=g79 (([r3.1,r4.1,r5.1]:List Int),());
                        Tr.test ((!eqF r8.1 0:Bool))
                          (Tr.fin (.ret ((x3,(r8.1,())),((b0_0,()),((b1_0,()),())))))
                          (Tr.fin (.again ((x1,(x2,((wrap64 (x3 + (1:Int)):Int),()))),((b0_0,()),((b1_0,()),()))))))
                        (Tr.stop))
                      (Tr.stop))
                    (Tr.stop))
                  (Tr.stop))
                (Tr.stop))
              (Tr.test (Option.isSome (f142 (((List.getD x1 (Int.toNat x3) ((0:Int),{ data:={ toList:=[] } },{ data:={ toList:=[] } },())).2.2.1:ByteArray),())))
                (let r6:=g142 (((List.getD x1 (Int.toNat x3) ((0:Int),{ data:={ toList:=[] } },{ data:={ toList:=[] } },())).2.2.1:ByteArray),());
                Tr.test (Option.isSome (f80 ((!r6.1:Bool),((4:Int),()))))
                  (Tr.test ((decide ((0:Int) ≤ x3) && decide (x3 ≤ (↑(List.length b1_0):Int)):Bool))
                    (Tr.test (Option.isSome (f168 ((List.take (Int.toNat x3) b1_0:List (Int×ByteArray×ByteArray×PUnit)),((((List.getD x1 (Int.toNat x3) ((0:Int),{ data:={ toList:=[] } },{ data:={ toList:=[] } },())).1:Int),(((List.getD x1 (Int.toNat x3) ((0:Int),{ data:={ toList:=[] } },{ data:={ toList:=[] } },())).2.1:ByteArray),(((List.getD x1 (Int.toNat x3) ((0:Int),{ data:={ toList:=[] } },{ data:={ toList:=[] } },())).2.2.1:ByteArray),()))),()))))
                      (let r2:=g168 ((List.take (Int.toNat x3) b1_0:List (Int×ByteArray×ByteArray×PUnit)),((((List.getD x1 (Int.toNat x3) ((0:Int),{ data:={ toList:=[] } },{ data:={ toList:=[] } },())).1:Int),(((List.getD x1 (Int.toNat x3) ((0:Int),{ data:={ toList:=[] } },{ data:={ toList:=[] } },())).2.1:ByteArray),(((List.getD x1 (Int.toNat x3) ((0:Int),{ data:={ toList:=[] } },{ data:={ toList:=[] } },())).2.2.1:ByteArray),()))),()));
                      Tr.test (Option.isSome (f80 (r2.1,((23:Int),()))))
                        (let r3:=g80 ((!r0.1:Bool),((6:Int),()));
                        let r5:=g80 (r2.1,((23:Int),()));
                        let r7:=g80 ((!r6.1:Bool),((4:Int),()));
                        Tr.test (Option.isSome (f79 (([r3.1,r7.1,r5.1]:List Int),())))
                          (let r9:=g79 (([r3.1,r7.1,r5.1]:List Int),());
                          Tr.test ((!eqF r9.1 0:Bool))
                            (Tr.fin (.ret ((x3,(r9.1,())),((b0_0,()),((b1_0,()),())))))
                            (Tr.fin (.again ((x1,(x2,((wrap64 (x3 + (1:Int)):Int),()))),((b0_0,()),((b1_0,()),()))))))
                          (Tr.stop))
                        (Tr.stop))
                      (Tr.stop))
                    (Tr.stop))
                  (Tr.stop))
                (Tr.stop)))
            (Tr.stop))
          (Tr.stop))
        (Tr.stop))
      (Tr.stop))
    (Tr.fin (.brk ((),((b0_0,()),((b1_0,()),())))))

def s166_0 (d:sh166_0.data):Option (Out sh166_0.data shb166_0.data shr166_0.data):=(t166_0 d.1.1 d.1.2.1 d.1.2.2.1 d.2.1.1 d.2.2.1.1).val
def l166_0 (d:sh166_0.data):Option (shb166_0.data ⊕ shr166_0.data):=itr s166_0 rounds d
def b166_0 (d:sh166_0.data):shb166_0.data:=outB shb166_0.dflt (l166_0 d)
def r166_0 (d:sh166_0.data):shr166_0.data:=outR shr166_0.dflt (l166_0 d)
def lc166_0:LoopC:=lcOf sh166_0 shb166_0 shr166_0 l166_0 b166_0 r166_0

theorem wk166_0 (x1:(List (Int×(ByteArray×(ByteArray×Unit))))) (x2:Int) (x3:Int) (b0_0:Int) (b1_0:(List (Int×(ByteArray×(ByteArray×Unit))))):Walks (runBody (kf168 Go.Proofs.Tryz.prog).orc Go.Proofs.Tryz.prog 400 166 0 sh166_0 shb166_0 shr166_0 ((x1,x2,x3,()),(b0_0,()),(b1_0,()),())) (t166_0 x1 x2 x3 b0_0 b1_0) [(bl 12 4095,[2,4,6,8,10,12,14,14,14,14,14,16,18,20,22,24]),(bl 12 2047,[2,4,6,8,10,12,14,14,14,14,14,16,18,20,22,24]),(bl 13 8159,[2,4,6,8,10,12,16,16,14,16,16,16,18,20,22,24,26]),(bl 13 4063,[2,4,6,8,10,12,16,16,14,16,16,16,18,20,22,24,26]),(bl 1 0,[2])] :=
  ⟨by kernel_rfl,by kernel_rfl,by kernel_rfl,by kernel_rfl,by kernel_rfl,trivial⟩

theorem ok166_0_t (x1:(List (Int×(ByteArray×(ByteArray×Unit))))) (x2:Int) (x3:Int) (b0_0:Int) (b1_0:(List (Int×(ByteArray×(ByteArray×Unit))))):TrOk (BodyRuns Go.Proofs.Tryz.prog (kf168 Go.Proofs.Tryz.prog).orc 166 0 sh166_0 shb166_0 shr166_0 ((x1,x2,x3,()),(b0_0,()),(b1_0,()),())) (t166_0 x1 x2 x3 b0_0 b1_0) :=
  Walks.ok (fun _ _ _=>BodyRuns.of) (wk166_0 x1 x2 x3 b0_0 b1_0) (by kernel_rfl)

theorem ok166_0:LoopOk Go.Proofs.Tryz.prog 166 0 lc166_0:=loopOk_of (sh:=sh166_0) (shB:=shb166_0) (shR:=shr166_0) kf168_ok.base (T:=fun (d:sh166_0.data)=>t166_0 d.1.1 d.1.2.1 d.1.2.2.1 d.2.1.1 d.2.2.1.1) (by kernel_rfl) rfl (fun (d:sh166_0.data)=>ok166_0_t d.1.1 d.1.2.1 d.1.2.2.1 d.2.1.1 d.2.2.1.1) (fun _=>rfl)
def kl166_0 (P:Go.Program):Known:=(kf168 P).loop 166 0 lc166_0
theorem kl166_0_ok:KnownOk Go.Proofs.Tryz.prog (kl166_0 Go.Proofs.Tryz.prog):=kf168_ok.loop ok166_0

/-! ductility/safety.signedError -/

abbrev as132:List Ty:=[(.slice (.pair (.int .i64) (.pair .str (.pair .str .unit)))),(.int .i64)]
abbrev rs132:List Ty:=[(.int .i64)]

def t132 (x0:(List (Int×(ByteArray×(ByteArray×Unit))))) (x1:Int):Tr (Tys.data rs132) :=
  Tr.test ((!leF (↑(List.length x0):Int) (20:Int):Bool))
    (Tr.fin (((8:Int),())))
    (Tr.test (Option.isSome (l166_0 ((x0,((↑(List.length x0):Int),((0:Int),()))),((x1,()),((x0,()),())))))
      (Tr.test (isRet (l166_0 ((x0,((↑(List.length x0):Int),((0:Int),()))),((x1,()),((x0,()),())))))
        (let r0:=r166_0 ((x0,((↑(List.length x0):Int),((0:Int),()))),((x1,()),((x0,()),())));
        Tr.fin ((r0.1.2.1,())))
        (Tr.fin (((0:Int),()))))
      (Tr.stop))

def f132 (d:Tys.data as132):Option (Tys.data rs132):=(t132 d.1 d.2.1).val
def g132 (d:Tys.data as132):Tys.data rs132:=(f132 d).getD (Tys.dflt rs132)
def p132:PureC:=pcOf as132 rs132 f132 g132

theorem wk132 (x0:(List (Int×(ByteArray×(ByteArray×Unit))))) (x1:Int):Walks (runPure (kl166_0 Go.Proofs.Tryz.prog).orc Go.Proofs.Tryz.prog 400 132 as132 rs132 (x0,x1,())) (t132 x0 x1) [(bl 1 1,[2]),(bl 3 6,[2,4,6]),(bl 3 2,[2,4,6])] :=
  ⟨by kernel_rfl,by kernel_rfl,by kernel_rfl,trivial⟩

theorem ok132_t (x0:(List (Int×(ByteArray×(ByteArray×Unit))))) (x1:Int):TrOk (PureRuns Go.Proofs.Tryz.prog (kl166_0 Go.Proofs.Tryz.prog).orc 132 as132 rs132 (x0,x1,())) (t132 x0 x1) :=
  Walks.ok (fun _ _ _=>PureRuns.of) (wk132 x0 x1) (by kernel_rfl)

theorem ok132:PureOk Go.Proofs.Tryz.prog 132 p132:=pureOk_of kl166_0_ok.base (T:=fun (d:Tys.data as132)=>t132 d.1 d.2.1) (by kernel_rfl) (fun (d:Tys.data as132)=>ok132_t d.1 d.2.1)
def kf132 (P:Go.Program):Known:=(kl166_0 P).func 132 p132
theorem kf132_ok:KnownOk Go.Proofs.Tryz.prog (kf132 Go.Proofs.Tryz.prog):=kl166_0_ok.func ok132

/-! loop 0 of slices.IndexFunc[[]ductility/api.SafetySign,ductility/api.SafetySign] -/

abbrev sh200_0:Sh:={ n:=19,slots:=[0,1,7,8],pats:=[.ty (.slice (.pair (.int .i64) (.pair .str (.pair .str .unit)))),.fn 170 [(0,1),(1,1)],.ty (.int .i64),.ty (.int .i64)],boxes:=[.row [.ty (.int .i64)],.row [.ty .str]] }
abbrev shb200_0:Sh:={ n:=19,slots:=[],pats:=[],boxes:=[.row [.ty (.int .i64)],.row [.ty .str]] }
abbrev shr200_0:Sh:={ n:=19,slots:=[4],pats:=[.ty (.int .i64)],boxes:=[.row [.ty (.int .i64)],.row [.ty .str]] }

def t200_0 (x0:(List (Int×(ByteArray×(ByteArray×Unit))))) (x2:Int) (x3:Int) (b0_0:Int) (b1_0:ByteArray):Tr (Out sh200_0.data shb200_0.data shr200_0.data) :=
  Tr.test ((!leF x2 x3:Bool))
    (Tr.test (decide ((0:Int) ≤ x3) && decide (x3 < (↑(List.length x0):Int)))
      (Tr.test ((eqF (List.getD x0 (Int.toNat x3) ((0:Int),{ data:={ toList:=[] } },{ data:={ toList:=[] } },())).1 b0_0:Bool))
        (Tr.test ((strEq (List.getD x0 (Int.toNat x3) ((0:Int),{ data:={ toList:=[] } },{ data:={ toList:=[] } },())).2.2.1 b1_0:Bool))
          (Tr.fin (.ret ((x3,()),((b0_0,()),((b1_0,()),())))))
          (Tr.fin (.again ((x0,(x2,((wrap64 (x3 + (1:Int)):Int),()))),((b0_0,()),((b1_0,()),()))))))
        (Tr.fin (.again ((x0,(x2,((wrap64 (x3 + (1:Int)):Int),()))),((b0_0,()),((b1_0,()),()))))))
      (Tr.stop))
    (Tr.fin (.brk ((),((b0_0,()),((b1_0,()),())))))

def s200_0 (d:sh200_0.data):Option (Out sh200_0.data shb200_0.data shr200_0.data):=(t200_0 d.1.1 d.1.2.1 d.1.2.2.1 d.2.1.1 d.2.2.1.1).val
def l200_0 (d:sh200_0.data):Option (shb200_0.data ⊕ shr200_0.data):=itr s200_0 rounds d
def b200_0 (d:sh200_0.data):shb200_0.data:=outB shb200_0.dflt (l200_0 d)
def r200_0 (d:sh200_0.data):shr200_0.data:=outR shr200_0.dflt (l200_0 d)
def lc200_0:LoopC:=lcOf sh200_0 shb200_0 shr200_0 l200_0 b200_0 r200_0

theorem wk200_0 (x0:(List (Int×(ByteArray×(ByteArray×Unit))))) (x2:Int) (x3:Int) (b0_0:Int) (b1_0:ByteArray):Walks (runBody (kf132 Go.Proofs.Tryz.prog).orc Go.Proofs.Tryz.prog 400 200 0 sh200_0 shb200_0 shr200_0 ((x0,x2,x3,()),(b0_0,()),(b1_0,()),())) (t200_0 x0 x2 x3 b0_0 b1_0) [(bl 4 15,[2,4,4,4,4,4,6,8]),(bl 4 7,[2,4,4,4,4,4,6,8]),(bl 3 3,[0,2,2,2,2,2,4,6]),(bl 1 0,[2])] :=
  ⟨by kernel_rfl,by kernel_rfl,by kernel_rfl,by kernel_rfl,trivial⟩

theorem ok200_0_t (x0:(List (Int×(ByteArray×(ByteArray×Unit))))) (x2:Int) (x3:Int) (b0_0:Int) (b1_0:ByteArray):TrOk (BodyRuns Go.Proofs.Tryz.prog (kf132 Go.Proofs.Tryz.prog).orc 200 0 sh200_0 shb200_0 shr200_0 ((x0,x2,x3,()),(b0_0,()),(b1_0,()),())) (t200_0 x0 x2 x3 b0_0 b1_0) :=
  Walks.ok (fun _ _ _=>BodyRuns.of) (wk200_0 x0 x2 x3 b0_0 b1_0) (by kernel_rfl)

theorem ok200_0:LoopOk Go.Proofs.Tryz.prog 200 0 lc200_0:=loopOk_of (sh:=sh200_0) (shB:=shb200_0) (shR:=shr200_0) kf132_ok.base (T:=fun (d:sh200_0.data)=>t200_0 d.1.1 d.1.2.1 d.1.2.2.1 d.2.1.1 d.2.2.1.1) (by kernel_rfl) rfl (fun (d:sh200_0.data)=>ok200_0_t d.1.1 d.1.2.1 d.1.2.2.1 d.2.1.1 d.2.2.1.1) (fun _=>rfl)
def kl200_0 (P:Go.Program):Known:=(kf132 P).loop 200 0 lc200_0
theorem kl200_0_ok:KnownOk Go.Proofs.Tryz.prog (kl200_0 Go.Proofs.Tryz.prog):=kf132_ok.loop ok200_0

/-! loop 0 of ductility/safety.missingAt -/

abbrev sh133_0:Sh:={ n:=33,slots:=[2,4,7,15,16,17],pats:=[.ty (.slice (.pair (.int .i64) (.pair .str (.pair .str .unit)))),.ptr 0 1 0,.acc (.int .i64),.ty (.slice .str),.ty (.int .i64),.ty (.int .i64)],boxes:=[.row [.ty (.int .i64)]] }
abbrev shb133_0:Sh:={ n:=33,slots:=[7],pats:=[.acc (.int .i64)],boxes:=[.row [.ty (.int .i64)]] }
abbrev shr133_0:Sh:={ n:=33,slots:=[],pats:=[],boxes:=[.row [.ty (.int .i64)]] }

def t133_0 (x0:(List (Int×(ByteArray×(ByteArray×Unit))))) (x2:(List Int)) (x3:(List ByteArray)) (x4:Int) (x5:Int) (b0_0:Int):Tr (Out sh133_0.data shb133_0.data shr133_0.data) :=
  Tr.test ((!leF x4 x5:Bool))
    (Tr.test (decide ((0:Int) ≤ x5) && decide (x5 < (↑(List.length x3):Int)))
      (Tr.test (Option.isSome (l200_0 ((x0,((↑(List.length x0):Int),((0:Int),()))),((b0_0,()),(((List.getD x3 (Int.toNat x5) { data:={ toList:=[] } }:ByteArray),()),())))))
        (Tr.test (isRet (l200_0 ((x0,((↑(List.length x0):Int),((0:Int),()))),((b0_0,()),(((List.getD x3 (Int.toNat x5) { data:={ toList:=[] } }:ByteArray),()),())))))
          (let r0:=r200_0 ((x0,((↑(List.length x0):Int),((0:Int),()))),((b0_0,()),(((List.getD x3 (Int.toNat x5) { data:={ toList:=[] } }:ByteArray),()),())));
          Tr.test ((!leF (0:Int) r0.1.1:Bool))
            (Tr.test ((Nat.ble (((2:Nat) * (List.length x2 + (1:Nat)) + (192:Nat)) * (8:Nat)) (281474976710656:Nat) && Nat.ble (List.length x2 + (1:Nat)) (281474976710656:Nat):Bool))
              (Tr.fin (.again ((x0,((x2++[x5]:List Int),(x3,(x4,((wrap64 (x5 + (1:Int)):Int),()))))),((r0.2.1.1,()),()))))
              (Tr.stop))
            (Tr.fin (.again ((x0,(x2,(x3,(x4,((wrap64 (x5 + (1:Int)):Int),()))))),((r0.2.1.1,()),())))))
          (Tr.test ((Nat.ble (((2:Nat) * (List.length x2 + (1:Nat)) + (192:Nat)) * (8:Nat)) (281474976710656:Nat) && Nat.ble (List.length x2 + (1:Nat)) (281474976710656:Nat):Bool))
            (let r1:=b200_0 ((x0,((↑(List.length x0):Int),((0:Int),()))),((b0_0,()),(((List.getD x3 (Int.toNat x5) { data:={ toList:=[] } }:ByteArray),()),())));
            Tr.fin (.again ((x0,((x2++[x5]:List Int),(x3,(x4,((wrap64 (x5 + (1:Int)):Int),()))))),((r1.2.1.1,()),()))))
            (Tr.stop)))
        (Tr.stop))
      (Tr.stop))
    (Tr.fin (.brk ((x2,()),((b0_0,()),()))))

def s133_0 (d:sh133_0.data):Option (Out sh133_0.data shb133_0.data shr133_0.data):=(t133_0 d.1.1 d.1.2.1 d.1.2.2.1 d.1.2.2.2.1 d.1.2.2.2.2.1 d.2.1.1).val
def l133_0 (d:sh133_0.data):Option (shb133_0.data ⊕ shr133_0.data):=itr s133_0 rounds d
def b133_0 (d:sh133_0.data):shb133_0.data:=outB shb133_0.dflt (l133_0 d)
def lc133_0:LoopC:=lcB sh133_0 shb133_0 shr133_0 l133_0 b133_0

theorem wk133_0 (x0:(List (Int×(ByteArray×(ByteArray×Unit))))) (x2:(List Int)) (x3:(List ByteArray)) (x4:Int) (x5:Int) (b0_0:Int):Walks (runBody (kl200_0 Go.Proofs.Tryz.prog).orc Go.Proofs.Tryz.prog 400 133 0 sh133_0 shb133_0 shr133_0 ((x0,x2,x3,x4,x5,()),(b0_0,()),())) (t133_0 x0 x2 x3 x4 x5 b0_0) [(bl 6 63,[2,4,6,8,10,12]),(bl 5 15,[2,4,6,8,10]),(bl 5 23,[2,1,4,6,8,10]),(bl 1 0,[2])] :=
  ⟨by kernel_rfl,by kernel_rfl,by kernel_rfl,by kernel_rfl,trivial⟩

theorem ok133_0_t (x0:(List (Int×(ByteArray×(ByteArray×Unit))))) (x2:(List Int)) (x3:(List ByteArray)) (x4:Int) (x5:Int) (b0_0:Int):TrOk (BodyRuns Go.Proofs.Tryz.prog (kl200_0 Go.Proofs.Tryz.prog).orc 133 0 sh133_0 shb133_0 shr133_0 ((x0,x2,x3,x4,x5,()),(b0_0,()),())) (t133_0 x0 x2 x3 x4 x5 b0_0) :=
  Walks.ok (fun _ _ _=>BodyRuns.of) (wk133_0 x0 x2 x3 x4 x5 b0_0) (by kernel_rfl)

theorem ok133_0:LoopOk Go.Proofs.Tryz.prog 133 0 lc133_0:=loopOk_ofB (sh:=sh133_0) (shB:=shb133_0) (shR:=shr133_0) kl200_0_ok.base (T:=fun (d:sh133_0.data)=>t133_0 d.1.1 d.1.2.1 d.1.2.2.1 d.1.2.2.2.1 d.1.2.2.2.2.1 d.2.1.1) (by kernel_rfl) rfl (fun (d:sh133_0.data)=>ok133_0_t d.1.1 d.1.2.1 d.1.2.2.1 d.1.2.2.2.1 d.1.2.2.2.2.1 d.2.1.1) (fun _=>rfl)
def kl133_0 (P:Go.Program):Known:=(kl200_0 P).loop 133 0 lc133_0
theorem kl133_0_ok:KnownOk Go.Proofs.Tryz.prog (kl133_0 Go.Proofs.Tryz.prog):=kl200_0_ok.loop ok133_0

/-! ductility/safety.missingAt -/

abbrev as133:List Ty:=[(.slice (.pair .str (.pair (.slice .str) (.pair (.int .i64) .unit)))),(.int .i64),(.slice (.pair (.int .i64) (.pair .str (.pair .str .unit))))]
abbrev rs133:List Ty:=[(.slice (.int .i64))]

def t133 (x0:(List (ByteArray×((List ByteArray)×(Int×Unit))))) (x1:Int) (x2:(List (Int×(ByteArray×(ByteArray×Unit))))):Tr (Tys.data rs133) :=
  Tr.test ((decide ((0:Int) ≤ x1) && decide (x1 < (↑(List.length x0):Int)):Bool))
    (Tr.test (isBrk (l133_0 ((x2,(([]:List Int),(((List.getD x0 (Int.toNat x1) ({ data:={ toList:=[] } },[],(0:Int),())).2.1:List ByteArray),((↑(List.length (List.getD x0 (Int.toNat x1) ({ data:={ toList:=[] } },[],(0:Int),())).2.1):Int),((0:Int),()))))),((x1,()),()))))
      (let r0:=b133_0 ((x2,(([]:List Int),(((List.getD x0 (Int.toNat x1) ({ data:={ toList:=[] } },[],(0:Int),())).2.1:List ByteArray),((↑(List.length (List.getD x0 (Int.toNat x1) ({ data:={ toList:=[] } },[],(0:Int),())).2.1):Int),((0:Int),()))))),((x1,()),()));
      Tr.fin ((r0.1.1,())))
      (Tr.stop))
    (Tr.stop)

def f133 (d:Tys.data as133):Option (Tys.data rs133):=(t133 d.1 d.2.1 d.2.2.1).val
def g133 (d:Tys.data as133):Tys.data rs133:=(f133 d).getD (Tys.dflt rs133)
def p133:PureC:=pcOf as133 rs133 f133 g133

theorem wk133 (x0:(List (ByteArray×((List ByteArray)×(Int×Unit))))) (x1:Int) (x2:(List (Int×(ByteArray×(ByteArray×Unit))))):Walks (runPure (kl133_0 Go.Proofs.Tryz.prog).orc Go.Proofs.Tryz.prog 400 133 as133 rs133 (x0,x1,x2,())) (t133 x0 x1 x2) [(bl 2 3,[1,2,4])] :=
  ⟨by kernel_rfl,trivial⟩

theorem ok133_t (x0:(List (ByteArray×((List ByteArray)×(Int×Unit))))) (x1:Int) (x2:(List (Int×(ByteArray×(ByteArray×Unit))))):TrOk (PureRuns Go.Proofs.Tryz.prog (kl133_0 Go.Proofs.Tryz.prog).orc 133 as133 rs133 (x0,x1,x2,())) (t133 x0 x1 x2) :=
  Walks.ok (fun _ _ _=>PureRuns.of) (wk133 x0 x1 x2) (by kernel_rfl)

theorem ok133:PureOk Go.Proofs.Tryz.prog 133 p133:=pureOk_of kl133_0_ok.base (T:=fun (d:Tys.data as133)=>t133 d.1 d.2.1 d.2.2.1) (by kernel_rfl) (fun (d:Tys.data as133)=>ok133_t d.1 d.2.1 d.2.2.1)
def kf133 (P:Go.Program):Known:=(kl133_0 P).func 133 p133
theorem kf133_ok:KnownOk Go.Proofs.Tryz.prog (kf133 Go.Proofs.Tryz.prog):=kl133_0_ok.func ok133

/-! loop 0 of ductility/safety.personsAt -/

abbrev sh134_0:Sh:={ n:=25,slots:=[0,5,9,10,11],pats:=[.ty (.int .i64),.map 0,.ty (.slice (.pair (.int .i64) (.pair .str (.pair .str .unit)))),.ty (.int .i64),.ty (.int .i64)],boxes:=[.map .str .bool] }
abbrev shb134_0:Sh:={ n:=25,slots:=[5],pats:=[.map 0],boxes:=[.map .str .bool] }
abbrev shr134_0:Sh:={ n:=25,slots:=[],pats:=[],boxes:=[.map .str .bool] }

def t134_0 (x0:Int) (x2:(List (Int×(ByteArray×(ByteArray×Unit))))) (x3:Int) (x4:Int) (b0:(List (ByteArray×Bool))):Tr (Out sh134_0.data shb134_0.data shr134_0.data) :=
  Tr.test ((!leF x3 x4:Bool))
    (Tr.test (decide ((0:Int) ≤ x4) && decide (x4 < (↑(List.length x2):Int)))
      (Tr.test ((eqF (List.getD x2 (Int.toNat x4) ((0:Int),{ data:={ toList:=[] } },{ data:={ toList:=[] } },())).1 x0:Bool))
        (Tr.fin (.again ((x0,(x2,(x3,((wrap64 (x4 + (1:Int)):Int),())))),((mput b0 (List.getD x2 (Int.toNat x4) ((0:Int),{ data:={ toList:=[] } },{ data:={ toList:=[] } },())).2.1 true:List (Ty.data Ty.str×Ty.data Ty.bool)),()))))
        (Tr.fin (.again ((x0,(x2,(x3,((wrap64 (x4 + (1:Int)):Int),())))),(b0,())))))
      (Tr.stop))
    (Tr.fin (.brk ((),(b0,()))))

def s134_0 (d:sh134_0.data):Option (Out sh134_0.data shb134_0.data shr134_0.data):=(t134_0 d.1.1 d.1.2.1 d.1.2.2.1 d.1.2.2.2.1 d.2.1).val
def l134_0 (d:sh134_0.data):Option (shb134_0.data ⊕ shr134_0.data):=itr s134_0 rounds d
def b134_0 (d:sh134_0.data):shb134_0.data:=outB shb134_0.dflt (l134_0 d)
def lc134_0:LoopC:=lcB sh134_0 shb134_0 shr134_0 l134_0 b134_0

theorem wk134_0 (x0:Int) (x2:(List (Int×(ByteArray×(ByteArray×Unit))))) (x3:Int) (x4:Int) (b0:(List (ByteArray×Bool))):Walks (runBody (kf133 Go.Proofs.Tryz.prog).orc Go.Proofs.Tryz.prog 400 134 0 sh134_0 shb134_0 shr134_0 ((x0,x2,x3,x4,()),b0,())) (t134_0 x0 x2 x3 x4 b0) [(bl 3 7,[2,4,6]),(bl 3 3,[2,4,6]),(bl 1 0,[2])] :=
  ⟨by kernel_rfl,by kernel_rfl,by kernel_rfl,trivial⟩

theorem ok134_0_t (x0:Int) (x2:(List (Int×(ByteArray×(ByteArray×Unit))))) (x3:Int) (x4:Int) (b0:(List (ByteArray×Bool))):TrOk (BodyRuns Go.Proofs.Tryz.prog (kf133 Go.Proofs.Tryz.prog).orc 134 0 sh134_0 shb134_0 shr134_0 ((x0,x2,x3,x4,()),b0,())) (t134_0 x0 x2 x3 x4 b0) :=
  Walks.ok (fun _ _ _=>BodyRuns.of) (wk134_0 x0 x2 x3 x4 b0) (by kernel_rfl)

theorem ok134_0:LoopOk Go.Proofs.Tryz.prog 134 0 lc134_0:=loopOk_ofB (sh:=sh134_0) (shB:=shb134_0) (shR:=shr134_0) kf133_ok.base (T:=fun (d:sh134_0.data)=>t134_0 d.1.1 d.1.2.1 d.1.2.2.1 d.1.2.2.2.1 d.2.1) (by kernel_rfl) rfl (fun (d:sh134_0.data)=>ok134_0_t d.1.1 d.1.2.1 d.1.2.2.1 d.1.2.2.2.1 d.2.1) (fun _=>rfl)
def kl134_0 (P:Go.Program):Known:=(kf133 P).loop 134 0 lc134_0
theorem kl134_0_ok:KnownOk Go.Proofs.Tryz.prog (kl134_0 Go.Proofs.Tryz.prog):=kf133_ok.loop ok134_0

end Go.Vm.Mo
