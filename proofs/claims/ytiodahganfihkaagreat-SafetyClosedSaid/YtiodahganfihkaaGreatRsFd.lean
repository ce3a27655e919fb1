import Derived.Test.YtiodahganfihkaaGreatA4
import Derived.Test.YtiodahganfihkaaGreatA5
import Derived.KernelRfl
import Derived.Test.YtiodahganfihkaaGreatProg
import Derived.Test.YtiodahganfihkaaGreatRsFc
set_option linter.unusedVariables false
set_option linter.unusedSimpArgs false

namespace Go.Vm.Mo
open Go
set_option linter.unusedVariables false

/-! ductility/safety.isState -/

abbrev as91:List Ty:=[(.pair (.slice .str) (.pair (.slice (.pair .str (.pair (.pair (.slice (.int .i64)) (.pair (.slice (.int .i64)) .unit)) (.pair (.pair (.slice (.int .i64)) (.pair (.slice (.int .i64)) .unit)) .unit)))) (.pair (.slice (.pair (.slice (.int .i64)) (.pair (.slice (.int .i64)) .unit))) .unit))),(.int .i64)]
abbrev rs91:List Ty:=[.bool]

def t91 (x0:(List ByteArray)) (x0':(List (ByteArray×(((List Int)×((List Int)×Unit))×(((List Int)×((List Int)×Unit))×Unit))))) (x0'':(List ((List Int)×((List Int)×Unit)))) (x1:Int):Tr (Tys.data rs91) :=
  Tr.test ((decide ((↑(List.length x0):Int) < (0:Int)):Bool))
    (Tr.stop)
    (Tr.test (Option.isSome (f94 ((0:Int),((wrap64 (shlV Go.IntKind.i64 (1:Int) (↑(List.length x0):Int) - (1:Int)):Int),(([x1]:List Int),())))))
      (let r0:=g94 ((0:Int),((wrap64 (shlV Go.IntKind.i64 (1:Int) (↑(List.length x0):Int) - (1:Int)):Int),(([x1]:List Int),())));
      Tr.fin ((r0.1,())))
      (Tr.stop))

def f91 (d:Tys.data as91):Option (Tys.data rs91):=(t91 d.1.1 d.1.2.1 d.1.2.2.1 d.2.1).val
def g91 (d:Tys.data as91):Tys.data rs91:=(f91 d).getD (Tys.dflt rs91)
def p91:PureC:=pcOf as91 rs91 f91 g91

theorem wk91 (x0:(List ByteArray)) (x0':(List (ByteArray×(((List Int)×((List Int)×Unit))×(((List Int)×((List Int)×Unit))×Unit))))) (x0'':(List ((List Int)×((List Int)×Unit)))) (x1:Int):Walks (runPure (kf16 Go.Proofs.Tryz.prog).orc Go.Proofs.Tryz.prog 400 91 as91 rs91 ((x0,x0',x0'',()),x1,())) (t91 x0 x0' x0'' x1) [(bl 2 2,[2,4])] :=
  ⟨by kernel_rfl,trivial⟩

theorem ok91_t (x0:(List ByteArray)) (x0':(List (ByteArray×(((List Int)×((List Int)×Unit))×(((List Int)×((List Int)×Unit))×Unit))))) (x0'':(List ((List Int)×((List Int)×Unit)))) (x1:Int):TrOk (PureRuns Go.Proofs.Tryz.prog (kf16 Go.Proofs.Tryz.prog).orc 91 as91 rs91 ((x0,x0',x0'',()),x1,())) (t91 x0 x0' x0'' x1) :=
  Walks.ok (fun _ _ _=>PureRuns.of) (wk91 x0 x0' x0'' x1) (by kernel_rfl)

theorem ok91:PureOk Go.Proofs.Tryz.prog 91 p91:=pureOk_of kf16_ok.base (T:=fun (d:Tys.data as91)=>t91 d.1.1 d.1.2.1 d.1.2.2.1 d.2.1) (by kernel_rfl) (fun (d:Tys.data as91)=>ok91_t d.1.1 d.1.2.1 d.1.2.2.1 d.2.1)
def kf91 (P:Go.Program):Known:=(kf16 P).func 91 p91
theorem kf91_ok:KnownOk Go.Proofs.Tryz.prog (kf91 Go.Proofs.Tryz.prog):=kf16_ok.func ok91

/-! ductility/safety.CheckState -/

abbrev as18:List Ty:=[(.pair (.slice .str) (.pair (.slice (.pair .str (.pair (.pair (.slice (.int .i64)) (.pair (.slice (.int .i64)) .unit)) (.pair (.pair (.slice (.int .i64)) (.pair (.slice (.int .i64)) .unit)) .unit)))) (.pair (.slice (.pair (.slice (.int .i64)) (.pair (.slice (.int .i64)) .unit))) .unit))),(.int .i64)]
abbrev rs18:List Ty:=[(.int .i64)]

def t18 (x0:(List ByteArray)) (x0':(List (ByteArray×(((List Int)×((List Int)×Unit))×(((List Int)×((List Int)×Unit))×Unit))))) (x0'':(List ((List Int)×((List Int)×Unit)))) (x1:Int):Tr (Tys.data rs18) :=
  Tr.test (Option.isSome (f16 ((x0,(x0',(x0'',()))),())))
    (let r0:=g16 ((x0,(x0',(x0'',()))),());
    Tr.test ((!eqF r0.2.1 0:Bool))
      (Tr.fin ((r0.2.1,())))
      (Tr.test (Option.isSome (f91 ((x0,(x0',(x0'',()))),(x1,()))))
        (let r1:=g91 ((x0,(x0',(x0'',()))),(x1,()));
        Tr.test (Option.isSome (f80 ((!r1.1:Bool),((2:Int),()))))
          (let r2:=g80 ((!r1.1:Bool),((2:Int),()));
          Tr.fin ((r2.1,())))
          (Tr.stop))
        (Tr.stop)))
    (Tr.stop)

def f18 (d:Tys.data as18):Option (Tys.data rs18):=(t18 d.1.1 d.1.2.1 d.1.2.2.1 d.2.1).val
def g18 (d:Tys.data as18):Tys.data rs18:=(f18 d).getD (Tys.dflt rs18)
def p18:PureC:=pcOf as18 rs18 f18 g18

theorem wk18 (x0:(List ByteArray)) (x0':(List (ByteArray×(((List Int)×((List Int)×Unit))×(((List Int)×((List Int)×Unit))×Unit))))) (x0'':(List ((List Int)×((List Int)×Unit)))) (x1:Int):Walks (runPure (kf91 Go.Proofs.Tryz.prog).orc Go.Proofs.Tryz.prog 400 18 as18 rs18 ((x0,x0',x0'',()),x1,())) (t18 x0 x0' x0'' x1) [(bl 2 3,[2,4]),(bl 4 13,[2,4,6,8])] :=
  ⟨by kernel_rfl,by kernel_rfl,trivial⟩

theorem ok18_t (x0:(List ByteArray)) (x0':(List (ByteArray×(((List Int)×((List Int)×Unit))×(((List Int)×((List Int)×Unit))×Unit))))) (x0'':(List ((List Int)×((List Int)×Unit)))) (x1:Int):TrOk (PureRuns Go.Proofs.Tryz.prog (kf91 Go.Proofs.Tryz.prog).orc 18 as18 rs18 ((x0,x0',x0'',()),x1,())) (t18 x0 x0' x0'' x1) :=
  Walks.ok (fun _ _ _=>PureRuns.of) (wk18 x0 x0' x0'' x1) (by kernel_rfl)

theorem ok18:PureOk Go.Proofs.Tryz.prog 18 p18:=pureOk_of kf91_ok.base (T:=fun (d:Tys.data as18)=>t18 d.1.1 d.1.2.1 d.1.2.2.1 d.2.1) (by kernel_rfl) (fun (d:Tys.data as18)=>ok18_t d.1.1 d.1.2.1 d.1.2.2.1 d.2.1)
def kf18 (P:Go.Program):Known:=(kf91 P).func 18 p18
theorem kf18_ok:KnownOk Go.Proofs.Tryz.prog (kf18 Go.Proofs.Tryz.prog):=kf91_ok.func ok18

/-! ductility/safety.testOf -/

abbrev as146:List Ty:=[(.pair (.slice (.int .i64)) (.pair (.slice (.int .i64)) .unit))]
abbrev rs146:List Ty:=[(.pair (.int .u64) (.pair (.int .u64) .unit))]

def t146 (x0:(List Int)) (x0':(List Int)):Tr (Tys.data rs146) :=
  Tr.test (Option.isSome (f145 (x0,())))
    (Tr.test (Option.isSome (f145 (x0',())))
      (let r0:=g145 (x0,());
      let r1:=g145 (x0',());
      Tr.fin (((r0.1,(r1.1,())),())))
      (Tr.stop))
    (Tr.stop)

def f146 (d:Tys.data as146):Option (Tys.data rs146):=(t146 d.1.1 d.1.2.1).val
def g146 (d:Tys.data as146):Tys.data rs146:=(f146 d).getD (Tys.dflt rs146)
def p146:PureC:=pcOf as146 rs146 f146 g146

theorem wk146 (x0:(List Int)) (x0':(List Int)):Walks (runPure (kf18 Go.Proofs.Tryz.prog).orc Go.Proofs.Tryz.prog 400 146 as146 rs146 ((x0,x0',()),())) (t146 x0 x0') [(bl 2 3,[2,4])] :=
  ⟨by kernel_rfl,trivial⟩

theorem ok146_t (x0:(List Int)) (x0':(List Int)):TrOk (PureRuns Go.Proofs.Tryz.prog (kf18 Go.Proofs.Tryz.prog).orc 146 as146 rs146 ((x0,x0',()),())) (t146 x0 x0') :=
  Walks.ok (fun _ _ _=>PureRuns.of) (wk146 x0 x0') (by kernel_rfl)

theorem ok146:PureOk Go.Proofs.Tryz.prog 146 p146:=pureOk_of kf18_ok.base (T:=fun (d:Tys.data as146)=>t146 d.1.1 d.1.2.1) (by kernel_rfl) (fun (d:Tys.data as146)=>ok146_t d.1.1 d.1.2.1)
def kf146 (P:Go.Program):Known:=(kf18 P).func 146 p146
theorem kf146_ok:KnownOk Go.Proofs.Tryz.prog (kf146 Go.Proofs.Tryz.prog):=kf18_ok.func ok146

/-! loop 0 of ductility/safety.machineAt -/

abbrev sh92_0:Sh:={ n:=58,slots:=[1,2,4,8,21,22,23],pats:=[.ty (.int .i64),.ptr 0 3 0,.ptr 1 2 0,.ptr 2 2 0,.ty (.slice (.pair .str (.pair (.pair (.slice (.int .i64)) (.pair (.slice (.int .i64)) .unit)) (.pair (.pair (.slice (.int .i64)) (.pair (.slice (.int .i64)) .unit)) .unit)))),.ty (.int .i64),.ty (.int .i64)],boxes:=[.row [.ty (.slice .str),.ty (.slice (.pair .str (.pair (.pair (.slice (.int .i64)) (.pair (.slice (.int .i64)) .unit)) (.pair (.pair (.slice (.int .i64)) (.pair (.slice (.int .i64)) .unit)) .unit)))),.ty (.slice (.pair (.slice (.int .i64)) (.pair (.slice (.int .i64)) .unit)))],.row [.nil,.nil],.row [.acc (.pair (.pair (.int .u64) (.pair (.int .u64) .unit)) (.pair (.pair (.int .u64) (.pair (.int .u64) .unit)) .unit)),.nil]] }
abbrev shb92_0:Sh:={ n:=58,slots:=[1,2,4,8],pats:=[.ty (.int .i64),.ptr 0 3 0,.ptr 1 2 0,.ptr 2 2 0],boxes:=[.row [.ty (.slice .str),.ty (.slice (.pair .str (.pair (.pair (.slice (.int .i64)) (.pair (.slice (.int .i64)) .unit)) (.pair (.pair (.slice (.int .i64)) (.pair (.slice (.int .i64)) .unit)) .unit)))),.ty (.slice (.pair (.slice (.int .i64)) (.pair (.slice (.int .i64)) .unit)))],.row [.nil,.nil],.row [.acc (.pair (.pair (.int .u64) (.pair (.int .u64) .unit)) (.pair (.pair (.int .u64) (.pair (.int .u64) .unit)) .unit)),.nil]] }
abbrev shr92_0:Sh:={ n:=58,slots:=[],pats:=[],boxes:=[.row [.ty (.slice .str),.ty (.slice (.pair .str (.pair (.pair (.slice (.int .i64)) (.pair (.slice (.int .i64)) .unit)) (.pair (.pair (.slice (.int .i64)) (.pair (.slice (.int .i64)) .unit)) .unit)))),.ty (.slice (.pair (.slice (.int .i64)) (.pair (.slice (.int .i64)) .unit)))],.row [.nil,.nil],.row [.acc (.pair (.pair (.int .u64) (.pair (.int .u64) .unit)) (.pair (.pair (.int .u64) (.pair (.int .u64) .unit)) .unit)),.nil]] }

def t92_0 (x0:Int) (x4:(List (ByteArray×(((List Int)×((List Int)×Unit))×(((List Int)×((List Int)×Unit))×Unit))))) (x5:Int) (x6:Int) (b0_0:(List ByteArray)) (b0_1:(List (ByteArray×(((List Int)×((List Int)×Unit))×(((List Int)×((List Int)×Unit))×Unit))))) (b0_2:(List ((List Int)×((List Int)×Unit)))) (b2_0:(List ((Int×(Int×Unit))×((Int×(Int×Unit))×Unit)))):Tr (Out sh92_0.data shb92_0.data shr92_0.data) :=
  Tr.test ((!leF x5 x6:Bool))
    (Tr.test (decide ((0:Int) ≤ x6) && decide (x6 < (↑(List.length x4):Int)))
      (Tr.test (Option.isSome (f146 ((((List.getD x4 (Int.toNat x6) ({ data:={ toList:=[] } },([],[],()),([],[],()),())).2.1.1:List Int),(((List.getD x4 (Int.toNat x6) ({ data:={ toList:=[] } },([],[],()),([],[],()),())).2.1.2.1:List Int),())),())))
        (Tr.test (Option.isSome (f146 ((((List.getD x4 (Int.toNat x6) ({ data:={ toList:=[] } },([],[],()),([],[],()),())).2.2.1.1:List Int),(((List.getD x4 (Int.toNat x6) ({ data:={ toList:=[] } },([],[],()),([],[],()),())).2.2.1.2.1:List Int),())),())))
          (Tr.test ((Nat.ble (((2:Nat) * (List.length b2_0 + (1:Nat)) + (192:Nat)) * (32:Nat)) (281474976710656:Nat) && Nat.ble (List.length b2_0 + (1:Nat)) (281474976710656:Nat):Bool))
            (let r0:=g146 ((((List.getD x4 (Int.toNat x6) ({ data:={ toList:=[] } },([],[],()),([],[],()),())).2.1.1:List Int),(((List.getD x4 (Int.toNat x6) ({ data:={ toList:=[] } },([],[],()),([],[],()),())).2.1.2.1:List Int),())),());
            let r1:=g146 ((((List.getD x4 (Int.toNat x6) ({ data:={ toList:=[] } },([],[],()),([],[],()),())).2.2.1.1:List Int),(((List.getD x4 (Int.toNat x6) ({ data:={ toList:=[] } },([],[],()),([],[],()),())).2.2.1.2.1:List Int),())),());
            Tr.fin (.again ((x0,(x4,(x5,((wrap64 (x6 + (1:Int)):Int),())))),((b0_0,(b0_1,(b0_2,()))),((),(((b2_0++[((r0.1.1,r0.1.2.1,()),(r1.1.1,r1.1.2.1,()),())]:List ((Int×Int×PUnit)×(Int×Int×PUnit)×PUnit)),()),()))))))
            (Tr.stop))
          (Tr.stop))
        (Tr.stop))
      (Tr.stop))
    (Tr.fin (.brk ((x0,()),((b0_0,(b0_1,(b0_2,()))),((),((b2_0,()),()))))))

def s92_0 (d:sh92_0.data):Option (Out sh92_0.data shb92_0.data shr92_0.data):=(t92_0 d.1.1 d.1.2.1 d.1.2.2.1 d.1.2.2.2.1 d.2.1.1 d.2.1.2.1 d.2.1.2.2.1 d.2.2.2.1.1).val
def l92_0 (d:sh92_0.data):Option (shb92_0.data ⊕ shr92_0.data):=itr s92_0 rounds d
def b92_0 (d:sh92_0.data):shb92_0.data:=outB shb92_0.dflt (l92_0 d)
def lc92_0:LoopC:=lcB sh92_0 shb92_0 shr92_0 l92_0 b92_0

theorem wk92_0 (x0:Int) (x4:(List (ByteArray×(((List Int)×((List Int)×Unit))×(((List Int)×((List Int)×Unit))×Unit))))) (x5:Int) (x6:Int) (b0_0:(List ByteArray)) (b0_1:(List (ByteArray×(((List Int)×((List Int)×Unit))×(((List Int)×((List Int)×Unit))×Unit))))) (b0_2:(List ((List Int)×((List Int)×Unit)))) (b2_0:(List ((Int×(Int×Unit))×((Int×(Int×Unit))×Unit)))):Walks (runBody (kf146 Go.Proofs.Tryz.prog).orc Go.Proofs.Tryz.prog 400 92 0 sh92_0 shb92_0 shr92_0 ((x0,x4,x5,x6,()),(b0_0,b0_1,b0_2,()),(),(b2_0,()),())) (t92_0 x0 x4 x5 x6 b0_0 b0_1 b0_2 b2_0) [(bl 5 31,[2,4,6,8,10]),(bl 1 0,[2])] :=
  ⟨by kernel_rfl,by kernel_rfl,trivial⟩

theorem ok92_0_t (x0:Int) (x4:(List (ByteArray×(((List Int)×((List Int)×Unit))×(((List Int)×((List Int)×Unit))×Unit))))) (x5:Int) (x6:Int) (b0_0:(List ByteArray)) (b0_1:(List (ByteArray×(((List Int)×((List Int)×Unit))×(((List Int)×((List Int)×Unit))×Unit))))) (b0_2:(List ((List Int)×((List Int)×Unit)))) (b2_0:(List ((Int×(Int×Unit))×((Int×(Int×Unit))×Unit)))):TrOk (BodyRuns Go.Proofs.Tryz.prog (kf146 Go.Proofs.Tryz.prog).orc 92 0 sh92_0 shb92_0 shr92_0 ((x0,x4,x5,x6,()),(b0_0,b0_1,b0_2,()),(),(b2_0,()),())) (t92_0 x0 x4 x5 x6 b0_0 b0_1 b0_2 b2_0) :=
  Walks.ok (fun _ _ _=>BodyRuns.of) (wk92_0 x0 x4 x5 x6 b0_0 b0_1 b0_2 b2_0) (by kernel_rfl)

theorem ok92_0:LoopOk Go.Proofs.Tryz.prog 92 0 lc92_0:=loopOk_ofB (sh:=sh92_0) (shB:=shb92_0) (shR:=shr92_0) kf146_ok.base (T:=fun (d:sh92_0.data)=>t92_0 d.1.1 d.1.2.1 d.1.2.2.1 d.1.2.2.2.1 d.2.1.1 d.2.1.2.1 d.2.1.2.2.1 d.2.2.2.1.1) (by kernel_rfl) rfl (fun (d:sh92_0.data)=>ok92_0_t d.1.1 d.1.2.1 d.1.2.2.1 d.1.2.2.2.1 d.2.1.1 d.2.1.2.1 d.2.1.2.2.1 d.2.2.2.1.1) (fun _=>rfl)
def kl92_0 (P:Go.Program):Known:=(kf146 P).loop 92 0 lc92_0
theorem kl92_0_ok:KnownOk Go.Proofs.Tryz.prog (kl92_0 Go.Proofs.Tryz.prog):=kf146_ok.loop ok92_0

/-! loop 2 of ductility/safety.machineAt -/

abbrev sh92_2:Sh:={ n:=58,slots:=[1,4,8,41,42,43],pats:=[.ty (.int .i64),.ptr 0 2 0,.ptr 1 2 0,.ty (.slice (.pair (.slice (.int .i64)) (.pair (.slice (.int .i64)) .unit))),.ty (.int .i64),.ty (.int .i64)],boxes:=[.row [.nil,.nil],.row [.acc (.pair (.pair (.int .u64) (.pair (.int .u64) .unit)) (.pair (.pair (.int .u64) (.pair (.int .u64) .unit)) .unit)),.acc (.pair (.int .u64) (.pair (.int .u64) .unit))]] }
abbrev shb92_2:Sh:={ n:=58,slots:=[1,4,8],pats:=[.ty (.int .i64),.ptr 0 2 0,.ptr 1 2 0],boxes:=[.row [.nil,.nil],.row [.acc (.pair (.pair (.int .u64) (.pair (.int .u64) .unit)) (.pair (.pair (.int .u64) (.pair (.int .u64) .unit)) .unit)),.acc (.pair (.int .u64) (.pair (.int .u64) .unit))]] }
abbrev shr92_2:Sh:={ n:=58,slots:=[],pats:=[],boxes:=[.row [.nil,.nil],.row [.acc (.pair (.pair (.int .u64) (.pair (.int .u64) .unit)) (.pair (.pair (.int .u64) (.pair (.int .u64) .unit)) .unit)),.acc (.pair (.int .u64) (.pair (.int .u64) .unit))]] }

def t92_2 (x0:Int) (x3:(List ((List Int)×((List Int)×Unit)))) (x4:Int) (x5:Int) (b1_0:(List ((Int×(Int×Unit))×((Int×(Int×Unit))×Unit)))) (b1_1:(List (Int×(Int×Unit)))):Tr (Out sh92_2.data shb92_2.data shr92_2.data) :=
  Tr.test ((!leF x4 x5:Bool))
    (Tr.test (decide ((0:Int) ≤ x5) && decide (x5 < (↑(List.length x3):Int)))
      (Tr.test (Option.isSome (f146 ((((List.getD x3 (Int.toNat x5) ([],[],())).1:List Int),(((List.getD x3 (Int.toNat x5) ([],[],())).2.1:List Int),())),())))
        (Tr.test ((Nat.ble (((2:Nat) * (List.length b1_1 + (1:Nat)) + (192:Nat)) * (16:Nat)) (281474976710656:Nat) && Nat.ble (List.length b1_1 + (1:Nat)) (281474976710656:Nat):Bool))
          (let r0:=g146 ((((List.getD x3 (Int.toNat x5) ([],[],())).1:List Int),(((List.getD x3 (Int.toNat x5) ([],[],())).2.1:List Int),())),());
          Tr.fin (.again ((x0,(x3,(x4,((wrap64 (x5 + (1:Int)):Int),())))),((),((b1_0,((b1_1++[(r0.1.1,r0.1.2.1,())]:List (Int×Int×PUnit)),())),())))))
          (Tr.stop))
        (Tr.stop))
      (Tr.stop))
    (Tr.fin (.brk ((x0,()),((),((b1_0,(b1_1,())),())))))

def s92_2 (d:sh92_2.data):Option (Out sh92_2.data shb92_2.data shr92_2.data):=(t92_2 d.1.1 d.1.2.1 d.1.2.2.1 d.1.2.2.2.1 d.2.2.1.1 d.2.2.1.2.1).val
def l92_2 (d:sh92_2.data):Option (shb92_2.data ⊕ shr92_2.data):=itr s92_2 rounds d
def b92_2 (d:sh92_2.data):shb92_2.data:=outB shb92_2.dflt (l92_2 d)
def lc92_2:LoopC:=lcB sh92_2 shb92_2 shr92_2 l92_2 b92_2

theorem wk92_2 (x0:Int) (x3:(List ((List Int)×((List Int)×Unit)))) (x4:Int) (x5:Int) (b1_0:(List ((Int×(Int×Unit))×((Int×(Int×Unit))×Unit)))) (b1_1:(List (Int×(Int×Unit)))):Walks (runBody (kl92_0 Go.Proofs.Tryz.prog).orc Go.Proofs.Tryz.prog 400 92 2 sh92_2 shb92_2 shr92_2 ((x0,x3,x4,x5,()),(),(b1_0,b1_1,()),())) (t92_2 x0 x3 x4 x5 b1_0 b1_1) [(bl 4 15,[2,4,6,8]),(bl 1 0,[2])] :=
  ⟨by kernel_rfl,by kernel_rfl,trivial⟩

theorem ok92_2_t (x0:Int) (x3:(List ((List Int)×((List Int)×Unit)))) (x4:Int) (x5:Int) (b1_0:(List ((Int×(Int×Unit))×((Int×(Int×Unit))×Unit)))) (b1_1:(List (Int×(Int×Unit)))):TrOk (BodyRuns Go.Proofs.Tryz.prog (kl92_0 Go.Proofs.Tryz.prog).orc 92 2 sh92_2 shb92_2 shr92_2 ((x0,x3,x4,x5,()),(),(b1_0,b1_1,()),())) (t92_2 x0 x3 x4 x5 b1_0 b1_1) :=
  Walks.ok (fun _ _ _=>BodyRuns.of) (wk92_2 x0 x3 x4 x5 b1_0 b1_1) (by kernel_rfl)

theorem ok92_2:LoopOk Go.Proofs.Tryz.prog 92 2 lc92_2:=loopOk_ofB (sh:=sh92_2) (shB:=shb92_2) (shR:=shr92_2) kl92_0_ok.base (T:=fun (d:sh92_2.data)=>t92_2 d.1.1 d.1.2.1 d.1.2.2.1 d.1.2.2.2.1 d.2.2.1.1 d.2.2.1.2.1) (by kernel_rfl) rfl (fun (d:sh92_2.data)=>ok92_2_t d.1.1 d.1.2.1 d.1.2.2.1 d.1.2.2.2.1 d.2.2.1.1 d.2.2.1.2.1) (fun _=>rfl)
def kl92_2 (P:Go.Program):Known:=(kl92_0 P).loop 92 2 lc92_2
theorem kl92_2_ok:KnownOk Go.Proofs.Tryz.prog (kl92_2 Go.Proofs.Tryz.prog):=kl92_0_ok.loop ok92_2

/-! ductility/safety.machineAt -/

abbrev as92:List Ty:=[(.pair (.slice .str) (.pair (.slice (.pair .str (.pair (.pair (.slice (.int .i64)) (.pair (.slice (.int .i64)) .unit)) (.pair (.pair (.slice (.int .i64)) (.pair (.slice (.int .i64)) .unit)) .unit)))) (.pair (.slice (.pair (.slice (.int .i64)) (.pair (.slice (.int .i64)) .unit))) .unit))),(.int .i64)]
abbrev rs92:List Ty:=[(.pair (.slice (.pair (.pair (.int .u64) (.pair (.int .u64) .unit)) (.pair (.pair (.int .u64) (.pair (.int .u64) .unit)) .unit))) (.pair (.slice (.pair (.int .u64) (.pair (.int .u64) .unit))) .unit)),(.int .u64),(.int .i64)]

def t92 (x0:(List ByteArray)) (x0':(List (ByteArray×(((List Int)×((List Int)×Unit))×(((List Int)×((List Int)×Unit))×Unit))))) (x0'':(List ((List Int)×((List Int)×Unit)))) (x1:Int):Tr (Tys.data rs92) :=
  Tr.test (Option.isSome (f18 ((x0,(x0',(x0'',()))),(x1,()))))
    (let r0:=g18 ((x0,(x0',(x0'',()))),(x1,()));
    Tr.test ((!eqF r0.1 0:Bool))
      (Tr.fin (((([]:List ((Int×Int×PUnit)×(Int×Int×PUnit)×PUnit)),(([]:List (Int×Int×PUnit)),())),((0:Int),(r0.1,())))))
      (Tr.test (isBrk (l92_0 ((x1,(x0',((↑(List.length x0'):Int),((0:Int),())))),((x0,(x0',(x0'',()))),((),((([]:List ((Int×Int×PUnit)×(Int×Int×PUnit)×PUnit)),()),()))))))
        (let r1:=b92_0 ((x1,(x0',((↑(List.length x0'):Int),((0:Int),())))),((x0,(x0',(x0'',()))),((),((([]:List ((Int×Int×PUnit)×(Int×Int×PUnit)×PUnit)),()),()))));
        Tr.test (isBrk (l92_2 ((r1.1.1,(r1.2.1.2.2.1,((↑(List.length r1.2.1.2.2.1):Int),((0:Int),())))),((),(((r1.2.2.2.1.1:List ((Int×Int×PUnit)×(Int×Int×PUnit)×PUnit)),(([]:List (Int×Int×PUnit)),())),())))))
          (let r2:=b92_2 ((r1.1.1,(r1.2.1.2.2.1,((↑(List.length r1.2.1.2.2.1):Int),((0:Int),())))),((),(((r1.2.2.2.1.1:List ((Int×Int×PUnit)×(Int×Int×PUnit)×PUnit)),(([]:List (Int×Int×PUnit)),())),())));
          Tr.fin ((((r2.2.2.1.1:List ((Int×Int×PUnit)×(Int×Int×PUnit)×PUnit)),(r2.2.2.1.2.1,())),((Go.IntKind.wrap Go.IntKind.u64 r2.1.1:Int),((0:Int),())))))
          (Tr.stop))
        (Tr.stop)))
    (Tr.stop)

def f92 (d:Tys.data as92):Option (Tys.data rs92):=(t92 d.1.1 d.1.2.1 d.1.2.2.1 d.2.1).val
def g92 (d:Tys.data as92):Tys.data rs92:=(f92 d).getD (Tys.dflt rs92)
def p92:PureC:=pcOf as92 rs92 f92 g92

theorem wk92 (x0:(List ByteArray)) (x0':(List (ByteArray×(((List Int)×((List Int)×Unit))×(((List Int)×((List Int)×Unit))×Unit))))) (x0'':(List ((List Int)×((List Int)×Unit)))) (x1:Int):Walks (runPure (kl92_2 Go.Proofs.Tryz.prog).orc Go.Proofs.Tryz.prog 400 92 as92 rs92 ((x0,x0',x0'',()),x1,())) (t92 x0 x0' x0'' x1) [(bl 2 3,[2,4]),(bl 4 13,[1,2,1,4,6,8])] :=
  ⟨by kernel_rfl,by kernel_rfl,trivial⟩

theorem ok92_t (x0:(List ByteArray)) (x0':(List (ByteArray×(((List Int)×((List Int)×Unit))×(((List Int)×((List Int)×Unit))×Unit))))) (x0'':(List ((List Int)×((List Int)×Unit)))) (x1:Int):TrOk (PureRuns Go.Proofs.Tryz.prog (kl92_2 Go.Proofs.Tryz.prog).orc 92 as92 rs92 ((x0,x0',x0'',()),x1,())) (t92 x0 x0' x0'' x1) :=
  Walks.ok (fun _ _ _=>PureRuns.of) (wk92 x0 x0' x0'' x1) (by kernel_rfl)

theorem ok92:PureOk Go.Proofs.Tryz.prog 92 p92:=pureOk_of kl92_2_ok.base (T:=fun (d:Tys.data as92)=>t92 d.1.1 d.1.2.1 d.1.2.2.1 d.2.1) (by kernel_rfl) (fun (d:Tys.data as92)=>ok92_t d.1.1 d.1.2.1 d.1.2.2.1 d.2.1)
def kf92 (P:Go.Program):Known:=(kl92_2 P).func 92 p92
theorem kf92_ok:KnownOk Go.Proofs.Tryz.prog (kf92 Go.Proofs.Tryz.prog):=kl92_2_ok.func ok92

/-! loop 0 of slices.Index[[]int,int] -/

abbrev sh159_0:Sh:={ n:=19,slots:=[0,1,7,8],pats:=[.ty (.slice (.int .i64)),.ty (.int .i64),.ty (.int .i64),.ty (.int .i64)],boxes:=[] }
abbrev shb159_0:Sh:={ n:=19,slots:=[],pats:=[],boxes:=[] }
abbrev shr159_0:Sh:={ n:=19,slots:=[4],pats:=[.ty (.int .i64)],boxes:=[] }

def t159_0 (x0:(List Int)) (x1:Int) (x2:Int) (x3:Int):Tr (Out sh159_0.data shb159_0.data shr159_0.data) :=
  Tr.test ((!leF x2 x3:Bool))
    (Tr.test (decide ((0:Int) ≤ x3) && decide (x3 < (↑(List.length x0):Int)))
      (Tr.test ((eqF x1 (List.getD x0 (Int.toNat x3) (0:Int)):Bool))
        (Tr.fin (.ret ((x3,()),())))
        (Tr.fin (.again ((x0,(x1,(x2,((wrap64 (x3 + (1:Int)):Int),())))),()))))
      (Tr.stop))
    (Tr.fin (.brk ((),())))

def s159_0 (d:sh159_0.data):Option (Out sh159_0.data shb159_0.data shr159_0.data):=(t159_0 d.1.1 d.1.2.1 d.1.2.2.1 d.1.2.2.2.1).val
def l159_0 (d:sh159_0.data):Option (shb159_0.data ⊕ shr159_0.data):=itr s159_0 rounds d
def b159_0 (d:sh159_0.data):shb159_0.data:=outB shb159_0.dflt (l159_0 d)
def r159_0 (d:sh159_0.data):shr159_0.data:=outR shr159_0.dflt (l159_0 d)
def lc159_0:LoopC:=lcOf sh159_0 shb159_0 shr159_0 l159_0 b159_0 r159_0

theorem wk159_0 (x0:(List Int)) (x1:Int) (x2:Int) (x3:Int):Walks (runBody (kf92 Go.Proofs.Tryz.prog).orc Go.Proofs.Tryz.prog 400 159 0 sh159_0 shb159_0 shr159_0 ((x0,x1,x2,x3,()),())) (t159_0 x0 x1 x2 x3) [(bl 3 7,[2,4,6]),(bl 3 3,[2,4,6]),(bl 1 0,[2])] :=
  ⟨by kernel_rfl,by kernel_rfl,by kernel_rfl,trivial⟩

theorem ok159_0_t (x0:(List Int)) (x1:Int) (x2:Int) (x3:Int):TrOk (BodyRuns Go.Proofs.Tryz.prog (kf92 Go.Proofs.Tryz.prog).orc 159 0 sh159_0 shb159_0 shr159_0 ((x0,x1,x2,x3,()),())) (t159_0 x0 x1 x2 x3) :=
  Walks.ok (fun _ _ _=>BodyRuns.of) (wk159_0 x0 x1 x2 x3) (by kernel_rfl)

theorem ok159_0:LoopOk Go.Proofs.Tryz.prog 159 0 lc159_0:=loopOk_of (sh:=sh159_0) (shB:=shb159_0) (shR:=shr159_0) kf92_ok.base (T:=fun (d:sh159_0.data)=>t159_0 d.1.1 d.1.2.1 d.1.2.2.1 d.1.2.2.2.1) (by kernel_rfl) rfl (fun (d:sh159_0.data)=>ok159_0_t d.1.1 d.1.2.1 d.1.2.2.1 d.1.2.2.2.1) (fun _=>rfl)
def kl159_0 (P:Go.Program):Known:=(kf92 P).loop 159 0 lc159_0
theorem kl159_0_ok:KnownOk Go.Proofs.Tryz.prog (kl159_0 Go.Proofs.Tryz.prog):=kf92_ok.loop ok159_0

/-! slices.Index[[]int,int] -/

abbrev as159:List Ty:=[(.slice (.int .i64)),(.int .i64)]
abbrev rs159:List Ty:=[(.int .i64)]

def t159 (x0:(List Int)) (x1:Int):Tr (Tys.data rs159) :=
  Tr.test (Option.isSome (l159_0 ((x0,(x1,((↑(List.length x0):Int),((0:Int),())))),())))
    (Tr.test (isRet (l159_0 ((x0,(x1,((↑(List.length x0):Int),((0:Int),())))),())))
      (let r0:=r159_0 ((x0,(x1,((↑(List.length x0):Int),((0:Int),())))),());
      Tr.fin ((r0.1.1,())))
      (Tr.fin (((-1:Int),()))))
    (Tr.stop)

def f159 (d:Tys.data as159):Option (Tys.data rs159):=(t159 d.1 d.2.1).val
def g159 (d:Tys.data as159):Tys.data rs159:=(f159 d).getD (Tys.dflt rs159)
def p159:PureC:=pcOf as159 rs159 f159 g159

theorem wk159 (x0:(List Int)) (x1:Int):Walks (runPure (kl159_0 Go.Proofs.Tryz.prog).orc Go.Proofs.Tryz.prog 400 159 as159 rs159 (x0,x1,())) (t159 x0 x1) [(bl 2 3,[2,4]),(bl 2 1,[2,4])] :=
  ⟨by kernel_rfl,by kernel_rfl,trivial⟩

theorem ok159_t (x0:(List Int)) (x1:Int):TrOk (PureRuns Go.Proofs.Tryz.prog (kl159_0 Go.Proofs.Tryz.prog).orc 159 as159 rs159 (x0,x1,())) (t159 x0 x1) :=
  Walks.ok (fun _ _ _=>PureRuns.of) (wk159 x0 x1) (by kernel_rfl)

theorem ok159:PureOk Go.Proofs.Tryz.prog 159 p159:=pureOk_of kl159_0_ok.base (T:=fun (d:Tys.data as159)=>t159 d.1 d.2.1) (by kernel_rfl) (fun (d:Tys.data as159)=>ok159_t d.1 d.2.1)
def kf159 (P:Go.Program):Known:=(kl159_0 P).func 159 p159
theorem kf159_ok:KnownOk Go.Proofs.Tryz.prog (kf159 Go.Proofs.Tryz.prog):=kl159_0_ok.func ok159

/-! slices.Contains[[]int,int] -/

abbrev as113:List Ty:=[(.slice (.int .i64)),(.int .i64)]
abbrev rs113:List Ty:=[.bool]

def t113 (x0:(List Int)) (x1:Int):Tr (Tys.data rs113) :=
  Tr.test (Option.isSome (f159 (x0,(x1,()))))
    (let r0:=g159 (x0,(x1,()));
    Tr.fin (((leF (0:Int) r0.1:Bool),())))
    (Tr.stop)

def f113 (d:Tys.data as113):Option (Tys.data rs113):=(t113 d.1 d.2.1).val
def g113 (d:Tys.data as113):Tys.data rs113:=(f113 d).getD (Tys.dflt rs113)
def p113:PureC:=pcOf as113 rs113 f113 g113

theorem wk113 (x0:(List Int)) (x1:Int):Walks (runPure (kf159 Go.Proofs.Tryz.prog).orc Go.Proofs.Tryz.prog 400 113 as113 rs113 (x0,x1,())) (t113 x0 x1) [(bl 1 1,[2])] :=
  ⟨by kernel_rfl,trivial⟩

theorem ok113_t (x0:(List Int)) (x1:Int):TrOk (PureRuns Go.Proofs.Tryz.prog (kf159 Go.Proofs.Tryz.prog).orc 113 as113 rs113 (x0,x1,())) (t113 x0 x1) :=
  Walks.ok (fun _ _ _=>PureRuns.of) (wk113 x0 x1) (by kernel_rfl)

theorem ok113:PureOk Go.Proofs.Tryz.prog 113 p113:=pureOk_of kf159_ok.base (T:=fun (d:Tys.data as113)=>t113 d.1 d.2.1) (by kernel_rfl) (fun (d:Tys.data as113)=>ok113_t d.1 d.2.1)
def kf113 (P:Go.Program):Known:=(kf159 P).func 113 p113
theorem kf113_ok:KnownOk Go.Proofs.Tryz.prog (kf113 Go.Proofs.Tryz.prog):=kf159_ok.func ok113

/-! (ductility/safety.flags).pass -/

abbrev as148:List Ty:=[(.int .u64),(.pair (.int .u64) (.pair (.int .u64) .unit))]
abbrev rs148:List Ty:=[.bool]

def t148 (x0:Int) (x1:Int) (x1':Int):Tr (Tys.data rs148) :=
  Tr.test ((andV Go.IntKind.u64 x0 x1 == x1:Bool))
    (Tr.fin ((andV Go.IntKind.u64 x0 x1' == (0:Int),())))
    (Tr.fin ((false,())))

def f148 (d:Tys.data as148):Option (Tys.data rs148):=(t148 d.1 d.2.1.1 d.2.1.2.1).val
def g148 (d:Tys.data as148):Tys.data rs148:=(f148 d).getD (Tys.dflt rs148)
def p148:PureC:=pcOf as148 rs148 f148 g148

theorem wk148 (x0:Int) (x1:Int) (x1':Int):Walks (runPure (kf113 Go.Proofs.Tryz.prog).orc Go.Proofs.Tryz.prog 400 148 as148 rs148 (x0,(x1,x1',()),())) (t148 x0 x1 x1') [(bl 1 1,[2,2,2,2,2,2]),(bl 1 0,[2,2,2,2,2,2])] :=
  ⟨by kernel_rfl,by kernel_rfl,trivial⟩

theorem ok148_t (x0:Int) (x1:Int) (x1':Int):TrOk (PureRuns Go.Proofs.Tryz.prog (kf113 Go.Proofs.Tryz.prog).orc 148 as148 rs148 (x0,(x1,x1',()),())) (t148 x0 x1 x1') :=
  Walks.ok (fun _ _ _=>PureRuns.of) (wk148 x0 x1 x1') (by kernel_rfl)

theorem ok148:PureOk Go.Proofs.Tryz.prog 148 p148:=pureOk_of kf113_ok.base (T:=fun (d:Tys.data as148)=>t148 d.1 d.2.1.1 d.2.1.2.1) (by kernel_rfl) (fun (d:Tys.data as148)=>ok148_t d.1 d.2.1.1 d.2.1.2.1)
def kf148 (P:Go.Program):Known:=(kf113 P).func 148 p148
theorem kf148_ok:KnownOk Go.Proofs.Tryz.prog (kf148 Go.Proofs.Tryz.prog):=kf113_ok.func ok148

/-! loop 0 of slices.IndexFunc[[]ductility/safety.test,ductility/safety.test] -/

abbrev sh197_0:Sh:={ n:=19,slots:=[0,1,7,8],pats:=[.ty (.slice (.pair (.int .u64) (.pair (.int .u64) .unit))),.mth 148 (.int .u64),.ty (.int .i64),.ty (.int .i64)],boxes:=[] }
abbrev shb197_0:Sh:={ n:=19,slots:=[],pats:=[],boxes:=[] }
abbrev shr197_0:Sh:={ n:=19,slots:=[4],pats:=[.ty (.int .i64)],boxes:=[] }

def t197_0 (x0:(List (Int×(Int×Unit)))) (x1:Int) (x2:Int) (x3:Int):Tr (Out sh197_0.data shb197_0.data shr197_0.data) :=
  Tr.test ((!leF x2 x3:Bool))
    (Tr.test (decide ((0:Int) ≤ x3) && decide (x3 < (↑(List.length x0):Int)))
      (Tr.test (Option.isSome (f148 (x1,((((List.getD x0 (Int.toNat x3) ((0:Int),(0:Int),())).1:Int),(((List.getD x0 (Int.toNat x3) ((0:Int),(0:Int),())).2.1:Int),())),()))))
        (let r0:=g148 (x1,((((List.getD x0 (Int.toNat x3) ((0:Int),(0:Int),())).1:Int),(((List.getD x0 (Int.toNat x3) ((0:Int),(0:Int),())).2.1:Int),())),()));
        Tr.test (r0.1)
          (Tr.fin (.ret ((x3,()),())))
          (Tr.fin (.again ((x0,(x1,(x2,((wrap64 (x3 + (1:Int)):Int),())))),()))))
        (Tr.stop))
      (Tr.stop))
    (Tr.fin (.brk ((),())))

def s197_0 (d:sh197_0.data):Option (Out sh197_0.data shb197_0.data shr197_0.data):=(t197_0 d.1.1 d.1.2.1 d.1.2.2.1 d.1.2.2.2.1).val
def l197_0 (d:sh197_0.data):Option (shb197_0.data ⊕ shr197_0.data):=itr s197_0 rounds d
def b197_0 (d:sh197_0.data):shb197_0.data:=outB shb197_0.dflt (l197_0 d)
def r197_0 (d:sh197_0.data):shr197_0.data:=outR shr197_0.dflt (l197_0 d)
def lc197_0:LoopC:=lcOf sh197_0 shb197_0 shr197_0 l197_0 b197_0 r197_0

theorem wk197_0 (x0:(List (Int×(Int×Unit)))) (x1:Int) (x2:Int) (x3:Int):Walks (runBody (kf148 Go.Proofs.Tryz.prog).orc Go.Proofs.Tryz.prog 400 197 0 sh197_0 shb197_0 shr197_0 ((x0,x1,x2,x3,()),())) (t197_0 x0 x1 x2 x3) [(bl 4 15,[2,4,6,8]),(bl 4 7,[2,4,6,8]),(bl 1 0,[2])] :=
  ⟨by kernel_rfl,by kernel_rfl,by kernel_rfl,trivial⟩

theorem ok197_0_t (x0:(List (Int×(Int×Unit)))) (x1:Int) (x2:Int) (x3:Int):TrOk (BodyRuns Go.Proofs.Tryz.prog (kf148 Go.Proofs.Tryz.prog).orc 197 0 sh197_0 shb197_0 shr197_0 ((x0,x1,x2,x3,()),())) (t197_0 x0 x1 x2 x3) :=
  Walks.ok (fun _ _ _=>BodyRuns.of) (wk197_0 x0 x1 x2 x3) (by kernel_rfl)

theorem ok197_0:LoopOk Go.Proofs.Tryz.prog 197 0 lc197_0:=loopOk_of (sh:=sh197_0) (shB:=shb197_0) (shR:=shr197_0) kf148_ok.base (T:=fun (d:sh197_0.data)=>t197_0 d.1.1 d.1.2.1 d.1.2.2.1 d.1.2.2.2.1) (by kernel_rfl) rfl (fun (d:sh197_0.data)=>ok197_0_t d.1.1 d.1.2.1 d.1.2.2.1 d.1.2.2.2.1) (fun _=>rfl)
def kl197_0 (P:Go.Program):Known:=(kf148 P).loop 197 0 lc197_0
theorem kl197_0_ok:KnownOk Go.Proofs.Tryz.prog (kl197_0 Go.Proofs.Tryz.prog):=kf148_ok.loop ok197_0

/-! (ductility/safety.flags).passOne -/

abbrev as104:List Ty:=[(.int .u64),(.slice (.pair (.int .u64) (.pair (.int .u64) .unit)))]
abbrev rs104:List Ty:=[.bool]

def t104 (x0:Int) (x1:(List (Int×(Int×Unit)))):Tr (Tys.data rs104) :=
  Tr.test (Option.isSome (l197_0 ((x1,(x0,((↑(List.length x1):Int),((0:Int),())))),())))
    (Tr.test (isRet (l197_0 ((x1,(x0,((↑(List.length x1):Int),((0:Int),())))),())))
      (let r0:=r197_0 ((x1,(x0,((↑(List.length x1):Int),((0:Int),())))),());
      Tr.fin (((leF (0:Int) r0.1.1:Bool),())))
      (Tr.fin (((false:Bool),()))))
    (Tr.stop)

def f104 (d:Tys.data as104):Option (Tys.data rs104):=(t104 d.1 d.2.1).val
def g104 (d:Tys.data as104):Tys.data rs104:=(f104 d).getD (Tys.dflt rs104)
def p104:PureC:=pcOf as104 rs104 f104 g104

theorem wk104 (x0:Int) (x1:(List (Int×(Int×Unit)))):Walks (runPure (kl197_0 Go.Proofs.Tryz.prog).orc Go.Proofs.Tryz.prog 400 104 as104 rs104 (x0,x1,())) (t104 x0 x1) [(bl 2 3,[2,4]),(bl 2 1,[2,4])] :=
  ⟨by kernel_rfl,by kernel_rfl,trivial⟩

theorem ok104_t (x0:Int) (x1:(List (Int×(Int×Unit)))):TrOk (PureRuns Go.Proofs.Tryz.prog (kl197_0 Go.Proofs.Tryz.prog).orc 104 as104 rs104 (x0,x1,())) (t104 x0 x1) :=
  Walks.ok (fun _ _ _=>PureRuns.of) (wk104 x0 x1) (by kernel_rfl)

theorem ok104:PureOk Go.Proofs.Tryz.prog 104 p104:=pureOk_of kl197_0_ok.base (T:=fun (d:Tys.data as104)=>t104 d.1 d.2.1) (by kernel_rfl) (fun (d:Tys.data as104)=>ok104_t d.1 d.2.1)
def kf104 (P:Go.Program):Known:=(kl197_0 P).func 104 p104
theorem kf104_ok:KnownOk Go.Proofs.Tryz.prog (kf104 Go.Proofs.Tryz.prog):=kl197_0_ok.func ok104

/-! (ductility/safety.flags).changed -/

abbrev as149:List Ty:=[(.int .u64),(.pair (.int .u64) (.pair (.int .u64) .unit))]
abbrev rs149:List Ty:=[(.int .u64)]

def t149 (x0:Int) (x1:Int) (x1':Int):Tr (Tys.data rs149) :=
  Tr.fin (((orV Go.IntKind.u64 (andNotV Go.IntKind.u64 x0 x1') x1:Int),()))

def f149 (d:Tys.data as149):Option (Tys.data rs149):=(t149 d.1 d.2.1.1 d.2.1.2.1).val
def g149 (d:Tys.data as149):Tys.data rs149:=(f149 d).getD (Tys.dflt rs149)
def p149:PureC:=pcOf as149 rs149 f149 g149

theorem wk149 (x0:Int) (x1:Int) (x1':Int):Walks (runPure (kf104 Go.Proofs.Tryz.prog).orc Go.Proofs.Tryz.prog 400 149 as149 rs149 (x0,(x1,x1',()),())) (t149 x0 x1 x1') [(bl 0 0,[])] :=
  ⟨by kernel_rfl,trivial⟩

theorem ok149_t (x0:Int) (x1:Int) (x1':Int):TrOk (PureRuns Go.Proofs.Tryz.prog (kf104 Go.Proofs.Tryz.prog).orc 149 as149 rs149 (x0,(x1,x1',()),())) (t149 x0 x1 x1') :=
  Walks.ok (fun _ _ _=>PureRuns.of) (wk149 x0 x1 x1') (by kernel_rfl)

theorem ok149:PureOk Go.Proofs.Tryz.prog 149 p149:=pureOk_of kf104_ok.base (T:=fun (d:Tys.data as149)=>t149 d.1 d.2.1.1 d.2.1.2.1) (by kernel_rfl) (fun (d:Tys.data as149)=>ok149_t d.1 d.2.1.1 d.2.1.2.1)
def kf149 (P:Go.Program):Known:=(kf104 P).func 149 p149
theorem kf149_ok:KnownOk Go.Proofs.Tryz.prog (kf149 Go.Proofs.Tryz.prog):=kf104_ok.func ok149

theorem sc115_0:sameRf Go.Proofs.Tryz.prog 115 0 = true:=sameRf_ok (by kernel_rfl)

/-! loop 0 of (ductility/safety.machine).next$1 -/

abbrev sh147_0 (P:Go.Program):Sh:={ n:=29,slots:=[0,2,7,8,9],pats:=[.yld 0,.ptr 1 1 0,.ty (.slice (.pair (.pair (.int .u64) (.pair (.int .u64) .unit)) (.pair (.pair (.int .u64) (.pair (.int .u64) .unit)) .unit))),.ty (.int .i64),.ty (.int .i64)],boxes:=[.lp (lpOf P 115 0 .ready none 23 [5,6] 2) [.ptr 3 1 0,.ptr 4 1 0],.row [.ty (.int .u64)],.dfr,.row [.ty (.slice (.int .i64))],.row [.ty (.int .i64)]] }
abbrev shb147_0 (P:Go.Program):Sh:={ n:=29,slots:=[],pats:=[],boxes:=[.lp (lpOf P 115 0 .ready none 23 [5,6] 2) [.ptr 3 1 0,.ptr 4 1 0],.row [.ty (.int .u64)],.dfr,.row [.ty (.slice (.int .i64))],.row [.ty (.int .i64)]] }
abbrev shr147_0 (P:Go.Program):Sh:={ n:=29,slots:=[],pats:=[],boxes:=[.lp (lpOf P 115 0 .done (some none) 23 [5,6] 2) [.ptr 3 1 0,.ptr 4 1 0],.row [.ty (.int .u64)],.dfr,.row [.ty (.slice (.int .i64))],.row [.ty (.int .i64)]] }

abbrev dt147_0:Type:=(List ((Int×Int×PUnit)×(Int×Int×PUnit)×PUnit)×Int×Int×PUnit)×PUnit×(Int×PUnit)×(List Int×PUnit)×(Int×PUnit)×PUnit
abbrev db147_0:Type:=PUnit×PUnit×(Int×PUnit)×(List Int×PUnit)×(Int×PUnit)×PUnit
abbrev dr147_0:Type:=PUnit×PUnit×(Int×PUnit)×(List Int×PUnit)×(Int×PUnit)×PUnit

def t147_0 (x2:(List ((Int×(Int×Unit))×((Int×(Int×Unit))×Unit)))) (x3:Int) (x4:Int) (b1_0:Int) (b3_0:(List Int)) (b4_0:Int):Tr (Out dt147_0 db147_0 dr147_0) :=
  Tr.test ((!leF x3 x4:Bool))
    (Tr.test (decide ((0:Int) ≤ x4) && decide (x4 < (↑(List.length x2):Int)))
      (Tr.test (Option.isSome (f148 (b1_0,((((List.getD x2 (Int.toNat x4) (((0:Int),(0:Int),()),((0:Int),(0:Int),()),())).1.1:Int),(((List.getD x2 (Int.toNat x4) (((0:Int),(0:Int),()),((0:Int),(0:Int),()),())).1.2.1:Int),())),()))))
        (let r0:=g148 (b1_0,((((List.getD x2 (Int.toNat x4) (((0:Int),(0:Int),()),((0:Int),(0:Int),()),())).1.1:Int),(((List.getD x2 (Int.toNat x4) (((0:Int),(0:Int),()),((0:Int),(0:Int),()),())).1.2.1:Int),())),()));
        Tr.test (r0.1)
          (Tr.test (Option.isSome (f149 (b1_0,((((List.getD x2 (Int.toNat x4) (((0:Int),(0:Int),()),((0:Int),(0:Int),()),())).2.1.1:Int),(((List.getD x2 (Int.toNat x4) (((0:Int),(0:Int),()),((0:Int),(0:Int),()),())).2.1.2.1:Int),())),()))))
            (let r1:=g149 (b1_0,((((List.getD x2 (Int.toNat x4) (((0:Int),(0:Int),()),((0:Int),(0:Int),()),())).2.1.1:Int),(((List.getD x2 (Int.toNat x4) (((0:Int),(0:Int),()),((0:Int),(0:Int),()),())).2.1.2.1:Int),())),()));
            Tr.test (Option.isSome (f113 (b3_0,((Go.IntKind.wrap Go.IntKind.i64 r1.1:Int),()))))
              (let r2:=g113 (b3_0,((Go.IntKind.wrap Go.IntKind.i64 r1.1:Int),()));
              Tr.test ((!r2.1:Bool))
                (Tr.fin (.ret ((),((),((b1_0,()),((b3_0,()),(((21:Int),()),())))))))
                (Tr.fin (.again ((x2,(x3,((wrap64 (x4 + (1:Int)):Int),()))),((),((b1_0,()),((b3_0,()),((b4_0,()),()))))))))
              (Tr.stop))
            (Tr.stop))
          (Tr.fin (.again ((x2,(x3,((wrap64 (x4 + (1:Int)):Int),()))),((),((b1_0,()),((b3_0,()),((b4_0,()),()))))))))
        (Tr.stop))
      (Tr.stop))
    (Tr.fin (.brk ((),((),((b1_0,()),((b3_0,()),((b4_0,()),())))))))

def s147_0 (d:dt147_0):Option (Out dt147_0 db147_0 dr147_0):=(t147_0 d.1.1 d.1.2.1 d.1.2.2.1 d.2.2.1.1 d.2.2.2.1.1 d.2.2.2.2.1.1).val
def l147_0 (d:dt147_0):Option (db147_0 ⊕ dr147_0):=itr s147_0 rounds d
def b147_0 (d:dt147_0):db147_0:=outB (((),((),(((0:Int),()),((([]:List Int),()),(((0:Int),()),())))))) (l147_0 d)
def r147_0 (d:dt147_0):dr147_0:=outR (((),((),(((0:Int),()),((([]:List Int),()),(((0:Int),()),())))))) (l147_0 d)
def lc147_0 (P:Go.Program):LoopC:=lcOf (sh147_0 P) (shb147_0 P) (shr147_0 P) l147_0 b147_0 r147_0

theorem e147_0_0 (x2:(List ((Int×(Int×Unit))×((Int×(Int×Unit))×Unit)))) (x3:Int) (x4:Int) (b1_0:Int) (b3_0:(List Int)) (b4_0:Int):runBody (kf149 Go.Proofs.Tryz.prog).orc Go.Proofs.Tryz.prog 400 147 0 (sh147_0 Go.Proofs.Tryz.prog) (shb147_0 Go.Proofs.Tryz.prog) (shr147_0 Go.Proofs.Tryz.prog) ((x2,x3,x4,()),(),(b1_0,()),(b3_0,()),(b4_0,()),()) [tt,tt,tt,tt,tt,tt,tt,tt,tt,tt,tt,tt,tt,tt,tt,tt,tt,tt] =
    (let r0:=g148 (b1_0,((((List.getD x2 (Int.toNat x4) (((0:Int),(0:Int),()),((0:Int),(0:Int),()),())).1.1:Int),(((List.getD x2 (Int.toNat x4) (((0:Int),(0:Int),()),((0:Int),(0:Int),()),())).1.2.1:Int),())),()));let r1:=g149 (b1_0,((((List.getD x2 (Int.toNat x4) (((0:Int),(0:Int),()),((0:Int),(0:Int),()),())).2.1.1:Int),(((List.getD x2 (Int.toNat x4) (((0:Int),(0:Int),()),((0:Int),(0:Int),()),())).2.1.2.1:Int),())),()));let r2:=g113 (b3_0,((Go.IntKind.wrap Go.IntKind.i64 r1.1:Int),())); some (.ret ((),((),((b1_0,()),((b3_0,()),(((21:Int),()),()))))),[(sameRf Go.Proofs.Tryz.prog (nat_lit 115) (nat_lit 0),true),(true,true),(r0.1,true),(r0.1,true),(!r2.1,true),(Option.isSome (f113 (b3_0,((Go.IntKind.wrap Go.IntKind.i64 r1.1:Int),()))),true),(r0.1,true),(Option.isSome (f149 (b1_0,((((List.getD x2 (Int.toNat x4) (((0:Int),(0:Int),()),((0:Int),(0:Int),()),())).2.1.1:Int),(((List.getD x2 (Int.toNat x4) (((0:Int),(0:Int),()),((0:Int),(0:Int),()),())).2.1.2.1:Int),())),()))),true),(r0.1,true),(true,true),(r0.1,true),(r0.1,true),(r0.1,true),(r0.1,true),(r0.1,true),(Option.isSome (f148 (b1_0,((((List.getD x2 (Int.toNat x4) (((0:Int),(0:Int),()),((0:Int),(0:Int),()),())).1.1:Int),(((List.getD x2 (Int.toNat x4) (((0:Int),(0:Int),()),((0:Int),(0:Int),()),())).1.2.1:Int),())),()))),true),(true,true),(decide ((0:Int) ≤ x4) && decide (x4 < (↑(List.length x2):Int)),true),(!leF x3 x4,true)])):=by kernel_rfl
theorem e147_0_1 (x2:(List ((Int×(Int×Unit))×((Int×(Int×Unit))×Unit)))) (x3:Int) (x4:Int) (b1_0:Int) (b3_0:(List Int)) (b4_0:Int):runBody (kf149 Go.Proofs.Tryz.prog).orc Go.Proofs.Tryz.prog 400 147 0 (sh147_0 Go.Proofs.Tryz.prog) (shb147_0 Go.Proofs.Tryz.prog) (shr147_0 Go.Proofs.Tryz.prog) ((x2,x3,x4,()),(),(b1_0,()),(b3_0,()),(b4_0,()),()) [tt,tt,tt,tt,tt,tt,tt,tt,tt,tt,tt,tt,tt,tt,ff,tt,tt,ff] =
    (let r0:=g148 (b1_0,((((List.getD x2 (Int.toNat x4) (((0:Int),(0:Int),()),((0:Int),(0:Int),()),())).1.1:Int),(((List.getD x2 (Int.toNat x4) (((0:Int),(0:Int),()),((0:Int),(0:Int),()),())).1.2.1:Int),())),()));let r1:=g149 (b1_0,((((List.getD x2 (Int.toNat x4) (((0:Int),(0:Int),()),((0:Int),(0:Int),()),())).2.1.1:Int),(((List.getD x2 (Int.toNat x4) (((0:Int),(0:Int),()),((0:Int),(0:Int),()),())).2.1.2.1:Int),())),()));let r2:=g113 (b3_0,((Go.IntKind.wrap Go.IntKind.i64 r1.1:Int),())); some (.again ((x2,(x3,((wrap64 (x4 + (1:Int)):Int),()))),((),((b1_0,()),((b3_0,()),((b4_0,()),()))))),[(sameRf Go.Proofs.Tryz.prog (nat_lit 115) (nat_lit 0),true),(false,false),(r0.1,true),(r0.1,true),(!r2.1,false),(Option.isSome (f113 (b3_0,((Go.IntKind.wrap Go.IntKind.i64 r1.1:Int),()))),true),(r0.1,true),(Option.isSome (f149 (b1_0,((((List.getD x2 (Int.toNat x4) (((0:Int),(0:Int),()),((0:Int),(0:Int),()),())).2.1.1:Int),(((List.getD x2 (Int.toNat x4) (((0:Int),(0:Int),()),((0:Int),(0:Int),()),())).2.1.2.1:Int),())),()))),true),(r0.1,true),(true,true),(r0.1,true),(r0.1,true),(r0.1,true),(r0.1,true),(r0.1,true),(Option.isSome (f148 (b1_0,((((List.getD x2 (Int.toNat x4) (((0:Int),(0:Int),()),((0:Int),(0:Int),()),())).1.1:Int),(((List.getD x2 (Int.toNat x4) (((0:Int),(0:Int),()),((0:Int),(0:Int),()),())).1.2.1:Int),())),()))),true),(true,true),(decide ((0:Int) ≤ x4) && decide (x4 < (↑(List.length x2):Int)),true),(!leF x3 x4,true)])):=by kernel_rfl
theorem e147_0_2 (x2:(List ((Int×(Int×Unit))×((Int×(Int×Unit))×Unit)))) (x3:Int) (x4:Int) (b1_0:Int) (b3_0:(List Int)) (b4_0:Int):runBody (kf149 Go.Proofs.Tryz.prog).orc Go.Proofs.Tryz.prog 400 147 0 (sh147_0 Go.Proofs.Tryz.prog) (shb147_0 Go.Proofs.Tryz.prog) (shr147_0 Go.Proofs.Tryz.prog) ((x2,x3,x4,()),(),(b1_0,()),(b3_0,()),(b4_0,()),()) [tt,tt,tt,tt,ff,ff,ff,ff,ff,ff,ff,ff,ff,ff] =
    (let r0:=g148 (b1_0,((((List.getD x2 (Int.toNat x4) (((0:Int),(0:Int),()),((0:Int),(0:Int),()),())).1.1:Int),(((List.getD x2 (Int.toNat x4) (((0:Int),(0:Int),()),((0:Int),(0:Int),()),())).1.2.1:Int),())),())); some (.again ((x2,(x3,((wrap64 (x4 + (1:Int)):Int),()))),((),((b1_0,()),((b3_0,()),((b4_0,()),()))))),[(sameRf Go.Proofs.Tryz.prog (nat_lit 115) (nat_lit 0),true),(false,false),(r0.1,false),(r0.1,false),(r0.1,false),(r0.1,false),(r0.1,false),(r0.1,false),(r0.1,false),(r0.1,false),(r0.1,false),(Option.isSome (f148 (b1_0,((((List.getD x2 (Int.toNat x4) (((0:Int),(0:Int),()),((0:Int),(0:Int),()),())).1.1:Int),(((List.getD x2 (Int.toNat x4) (((0:Int),(0:Int),()),((0:Int),(0:Int),()),())).1.2.1:Int),())),()))),true),(true,true),(decide ((0:Int) ≤ x4) && decide (x4 < (↑(List.length x2):Int)),true),(!leF x3 x4,true)])):=by kernel_rfl
theorem e147_0_4 (x2:(List ((Int×(Int×Unit))×((Int×(Int×Unit))×Unit)))) (x3:Int) (x4:Int) (b1_0:Int) (b3_0:(List Int)) (b4_0:Int):runBody (kf149 Go.Proofs.Tryz.prog).orc Go.Proofs.Tryz.prog 400 147 0 (sh147_0 Go.Proofs.Tryz.prog) (shb147_0 Go.Proofs.Tryz.prog) (shr147_0 Go.Proofs.Tryz.prog) ((x2,x3,x4,()),(),(b1_0,()),(b3_0,()),(b4_0,()),()) [ff] =
    (some (.brk ((),((),((b1_0,()),((b3_0,()),((b4_0,()),()))))),[(sameRf Go.Proofs.Tryz.prog (nat_lit 115) (nat_lit 0),true),(!leF x3 x4,false)])):=by kernel_rfl

theorem ok147_0_t (x2:(List ((Int×(Int×Unit))×((Int×(Int×Unit))×Unit)))) (x3:Int) (x4:Int) (b1_0:Int) (b3_0:(List Int)) (b4_0:Int):TrOk (BodyRuns Go.Proofs.Tryz.prog (kf149 Go.Proofs.Tryz.prog).orc 147 0 (sh147_0 Go.Proofs.Tryz.prog) (shb147_0 Go.Proofs.Tryz.prog) (shr147_0 Go.Proofs.Tryz.prog) ((x2,x3,x4,()),(),(b1_0,()),(b3_0,()),(b4_0,()),())) (t147_0 x2 x3 x4 b1_0 b3_0 b4_0) :=
  TrOk.ofTest (fun h0=>TrOk.ofTest (fun h1=>TrOk.ofTest (fun h3=>TrOk.ofTest (fun h4=>TrOk.ofTest (fun h11=>TrOk.ofTest (fun h13=>TrOk.ofTest (fun h14=>TrOk.ofFin (BodyRuns.of (e147_0_0 x2 x3 x4 b1_0 b3_0 b4_0) (ac (sc115_0) (ac rfl (ac h4 (ac h4 (ac h14 (ac h13 (ac h4 (ac h11 (ac h4 (ac rfl (ac h4 (ac h4 (ac h4 (ac h4 (ac h4 (ac h3 (ac rfl (ac h1 (ac h0 All.nil))))))))))))))))))))) (fun h14=>TrOk.ofFin (BodyRuns.of (e147_0_1 x2 x3 x4 b1_0 b3_0 b4_0) (ac (sc115_0) (ac rfl (ac h4 (ac h4 (ac h14 (ac h13 (ac h4 (ac h11 (ac h4 (ac rfl (ac h4 (ac h4 (ac h4 (ac h4 (ac h4 (ac h3 (ac rfl (ac h1 (ac h0 All.nil)))))))))))))))))))))) (fun h13=>TrOk.ofStop)) (fun h11=>TrOk.ofStop)) (fun h4=>TrOk.ofFin (BodyRuns.of (e147_0_2 x2 x3 x4 b1_0 b3_0 b4_0) (ac (sc115_0) (ac rfl (ac h4 (ac h4 (ac h4 (ac h4 (ac h4 (ac h4 (ac h4 (ac h4 (ac h4 (ac h3 (ac rfl (ac h1 (ac h0 All.nil)))))))))))))))))) (fun h3=>TrOk.ofStop)) (fun h1=>TrOk.ofStop)) (fun h0=>TrOk.ofFin (BodyRuns.of (e147_0_4 x2 x3 x4 b1_0 b3_0 b4_0) (ac (sc115_0) (ac h0 All.nil))))

theorem ok147_0:LoopOk Go.Proofs.Tryz.prog 147 0 (lc147_0 Go.Proofs.Tryz.prog):=loopOk_of (sh:=(sh147_0 Go.Proofs.Tryz.prog)) (shB:=(shb147_0 Go.Proofs.Tryz.prog)) (shR:=(shr147_0 Go.Proofs.Tryz.prog)) kf149_ok.base (T:=fun (d:dt147_0)=>t147_0 d.1.1 d.1.2.1 d.1.2.2.1 d.2.2.1.1 d.2.2.2.1.1 d.2.2.2.2.1.1) (by kernel_rfl) rfl (fun (d:dt147_0)=>ok147_0_t d.1.1 d.1.2.1 d.1.2.2.1 d.2.2.1.1 d.2.2.2.1.1 d.2.2.2.2.1.1) (fun _=>rfl)
def kl147_0 (P:Go.Program):Known:=(kf149 P).loop 147 0 (lc147_0 P)
theorem kl147_0_ok:KnownOk Go.Proofs.Tryz.prog (kl147_0 Go.Proofs.Tryz.prog):=kf149_ok.loop ok147_0

end Go.Vm.Mo
