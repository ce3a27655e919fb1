import Derived.Test.YtiodahganfihkaaGreatA4
import Derived.Test.YtiodahganfihkaaGreatA5
import Derived.KernelRfl
import Derived.Test.YtiodahganfihkaaGreatProg
import Derived.Test.YtiodahganfihkaaGreatRsFa
set_option linter.unusedVariables false
set_option linter.unusedSimpArgs false

namespace Go.Vm.Mo
open Go
set_option linter.unusedVariables false

/-! loop 2 of ductility/ductilityref09.Copy -/

abbrev sh17_2:Sh:={ n:=62,slots:=[1,2,3,5],pats:=[.ptr 0 3 0,.ptr 1 3 0,.ptr 2 3 0,.ty (.int .i64)],boxes:=[.row [.ty (.slice .str),.ty (.slice (.pair .str (.pair (.pair (.slice (.int .i64)) (.pair (.slice (.int .i64)) .unit)) (.pair (.pair (.slice (.int .i64)) (.pair (.slice (.int .i64)) .unit)) .unit)))),.ty (.slice (.pair (.slice (.int .i64)) (.pair (.slice (.int .i64)) .unit)))],.row [.nil,.nil,.nil],.row [.ty (.slice .str),.acc (.pair .str (.pair (.pair (.slice (.int .i64)) (.pair (.slice (.int .i64)) .unit)) (.pair (.pair (.slice (.int .i64)) (.pair (.slice (.int .i64)) .unit)) .unit))),.acc (.pair (.slice (.int .i64)) (.pair (.slice (.int .i64)) .unit))]] }
abbrev shb17_2:Sh:={ n:=62,slots:=[2,3],pats:=[.ptr 1 3 0,.ptr 2 3 0],boxes:=[.row [.ty (.slice .str),.ty (.slice (.pair .str (.pair (.pair (.slice (.int .i64)) (.pair (.slice (.int .i64)) .unit)) (.pair (.pair (.slice (.int .i64)) (.pair (.slice (.int .i64)) .unit)) .unit)))),.ty (.slice (.pair (.slice (.int .i64)) (.pair (.slice (.int .i64)) .unit)))],.row [.nil,.nil,.nil],.row [.ty (.slice .str),.acc (.pair .str (.pair (.pair (.slice (.int .i64)) (.pair (.slice (.int .i64)) .unit)) (.pair (.pair (.slice (.int .i64)) (.pair (.slice (.int .i64)) .unit)) .unit))),.acc (.pair (.slice (.int .i64)) (.pair (.slice (.int .i64)) .unit))]] }
abbrev shr17_2:Sh:={ n:=62,slots:=[],pats:=[],boxes:=[.row [.ty (.slice .str),.ty (.slice (.pair .str (.pair (.pair (.slice (.int .i64)) (.pair (.slice (.int .i64)) .unit)) (.pair (.pair (.slice (.int .i64)) (.pair (.slice (.int .i64)) .unit)) .unit)))),.ty (.slice (.pair (.slice (.int .i64)) (.pair (.slice (.int .i64)) .unit)))],.row [.nil,.nil,.nil],.row [.ty (.slice .str),.acc (.pair .str (.pair (.pair (.slice (.int .i64)) (.pair (.slice (.int .i64)) .unit)) (.pair (.pair (.slice (.int .i64)) (.pair (.slice (.int .i64)) .unit)) .unit))),.acc (.pair (.slice (.int .i64)) (.pair (.slice (.int .i64)) .unit))]] }

def t17_2 (x3:Int) (b0_0:(List ByteArray)) (b0_1:(List (ByteArray×(((List Int)×((List Int)×Unit))×(((List Int)×((List Int)×Unit))×Unit))))) (b0_2:(List ((List Int)×((List Int)×Unit)))) (b2_0:(List ByteArray)) (b2_1:(List (ByteArray×(((List Int)×((List Int)×Unit))×(((List Int)×((List Int)×Unit))×Unit))))) (b2_2:(List ((List Int)×((List Int)×Unit)))):Tr (Out sh17_2.data shb17_2.data shr17_2.data) :=
  Tr.test ((!leF (↑(List.length b0_2):Int) x3:Bool))
    (Tr.test (decide ((0:Int) ≤ x3) && decide (x3 < (↑(List.length b0_2):Int)))
      (Tr.test (Option.isSome (f90 ((((List.getD b0_2 (Int.toNat x3) ([],[],())).1:List Int),(((List.getD b0_2 (Int.toNat x3) ([],[],())).2.1:List Int),())),())))
        (Tr.test ((Nat.ble (((2:Nat) * (List.length b2_2 + (1:Nat)) + (192:Nat)) * (48:Nat)) (281474976710656:Nat) && Nat.ble (List.length b2_2 + (1:Nat)) (281474976710656:Nat):Bool))
          (let r0:=g90 ((((List.getD b0_2 (Int.toNat x3) ([],[],())).1:List Int),(((List.getD b0_2 (Int.toNat x3) ([],[],())).2.1:List Int),())),());
          Tr.fin (.again (((wrap64 (x3 + (1:Int)):Int),()),((b0_0,(b0_1,(b0_2,()))),((),((b2_0,(b2_1,((b2_2++[(r0.1.1,r0.1.2.1,())]:List (List Int×List Int×PUnit)),()))),()))))))
          (Tr.stop))
        (Tr.stop))
      (Tr.stop))
    (Tr.fin (.brk ((),((b0_0,(b0_1,(b0_2,()))),((),((b2_0,(b2_1,(b2_2,()))),()))))))

def s17_2 (d:sh17_2.data):Option (Out sh17_2.data shb17_2.data shr17_2.data):=(t17_2 d.1.1 d.2.1.1 d.2.1.2.1 d.2.1.2.2.1 d.2.2.2.1.1 d.2.2.2.1.2.1 d.2.2.2.1.2.2.1).val
def l17_2 (d:sh17_2.data):Option (shb17_2.data ⊕ shr17_2.data):=itr s17_2 rounds d
def b17_2 (d:sh17_2.data):shb17_2.data:=outB shb17_2.dflt (l17_2 d)
def lc17_2:LoopC:=lcB sh17_2 shb17_2 shr17_2 l17_2 b17_2

theorem wk17_2 (x3:Int) (b0_0:(List ByteArray)) (b0_1:(List (ByteArray×(((List Int)×((List Int)×Unit))×(((List Int)×((List Int)×Unit))×Unit))))) (b0_2:(List ((List Int)×((List Int)×Unit)))) (b2_0:(List ByteArray)) (b2_1:(List (ByteArray×(((List Int)×((List Int)×Unit))×(((List Int)×((List Int)×Unit))×Unit))))) (b2_2:(List ((List Int)×((List Int)×Unit)))):Walks (runBody (kl17_0 Go.Proofs.Tryz.prog).orc Go.Proofs.Tryz.prog 400 17 2 sh17_2 shb17_2 shr17_2 ((x3,()),(b0_0,b0_1,b0_2,()),(),(b2_0,b2_1,b2_2,()),())) (t17_2 x3 b0_0 b0_1 b0_2 b2_0 b2_1 b2_2) [(bl 4 15,[2,4,6,8]),(bl 1 0,[2])] :=
  ⟨by kernel_rfl,by kernel_rfl,trivial⟩

theorem ok17_2_t (x3:Int) (b0_0:(List ByteArray)) (b0_1:(List (ByteArray×(((List Int)×((List Int)×Unit))×(((List Int)×((List Int)×Unit))×Unit))))) (b0_2:(List ((List Int)×((List Int)×Unit)))) (b2_0:(List ByteArray)) (b2_1:(List (ByteArray×(((List Int)×((List Int)×Unit))×(((List Int)×((List Int)×Unit))×Unit))))) (b2_2:(List ((List Int)×((List Int)×Unit)))):TrOk (BodyRuns Go.Proofs.Tryz.prog (kl17_0 Go.Proofs.Tryz.prog).orc 17 2 sh17_2 shb17_2 shr17_2 ((x3,()),(b0_0,b0_1,b0_2,()),(),(b2_0,b2_1,b2_2,()),())) (t17_2 x3 b0_0 b0_1 b0_2 b2_0 b2_1 b2_2) :=
  Walks.ok (fun _ _ _=>BodyRuns.of) (wk17_2 x3 b0_0 b0_1 b0_2 b2_0 b2_1 b2_2) (by kernel_rfl)

theorem ok17_2:LoopOk Go.Proofs.Tryz.prog 17 2 lc17_2:=loopOk_ofB (sh:=sh17_2) (shB:=shb17_2) (shR:=shr17_2) kl17_0_ok.base (T:=fun (d:sh17_2.data)=>t17_2 d.1.1 d.2.1.1 d.2.1.2.1 d.2.1.2.2.1 d.2.2.2.1.1 d.2.2.2.1.2.1 d.2.2.2.1.2.2.1) (by kernel_rfl) rfl (fun (d:sh17_2.data)=>ok17_2_t d.1.1 d.2.1.1 d.2.1.2.1 d.2.1.2.2.1 d.2.2.2.1.1 d.2.2.2.1.2.1 d.2.2.2.1.2.2.1) (fun _=>rfl)
def kl17_2 (P:Go.Program):Known:=(kl17_0 P).loop 17 2 lc17_2
theorem kl17_2_ok:KnownOk Go.Proofs.Tryz.prog (kl17_2 Go.Proofs.Tryz.prog):=kl17_0_ok.loop ok17_2

/-! ductility/ductilityref09.Copy -/

abbrev as17:List Ty:=[(.pair (.slice .str) (.pair (.slice (.pair .str (.pair (.pair (.slice (.int .i64)) (.pair (.slice (.int .i64)) .unit)) (.pair (.pair (.slice (.int .i64)) (.pair (.slice (.int .i64)) .unit)) .unit)))) (.pair (.slice (.pair (.slice (.int .i64)) (.pair (.slice (.int .i64)) .unit))) .unit)))]
abbrev rs17:List Ty:=[(.pair (.slice .str) (.pair (.slice (.pair .str (.pair (.pair (.slice (.int .i64)) (.pair (.slice (.int .i64)) .unit)) (.pair (.pair (.slice (.int .i64)) (.pair (.slice (.int .i64)) .unit)) .unit)))) (.pair (.slice (.pair (.slice (.int .i64)) (.pair (.slice (.int .i64)) .unit))) .unit)))]

def t17 (x0:(List ByteArray)) (x0':(List (ByteArray×(((List Int)×((List Int)×Unit))×(((List Int)×((List Int)×Unit))×Unit))))) (x0'':(List ((List Int)×((List Int)×Unit)))):Tr (Tys.data rs17) :=
  Tr.test (Option.isSome (f89 (x0,())))
    (let r0:=g89 (x0,());
    Tr.test (isBrk (l17_0 (((0:Int),()),((x0,(x0',(x0'',()))),((),((r0.1,(([]:List (ByteArray×(List Int×List Int×PUnit)×(List Int×List Int×PUnit)×PUnit)),())),()))))))
      (let r1:=b17_0 (((0:Int),()),((x0,(x0',(x0'',()))),((),((r0.1,(([]:List (ByteArray×(List Int×List Int×PUnit)×(List Int×List Int×PUnit)×PUnit)),())),()))));
      Tr.test (isBrk (l17_2 (((0:Int),()),((r1.2.1.1,((r1.2.1.2.1:List (ByteArray×(List Int×List Int×PUnit)×(List Int×List Int×PUnit)×PUnit)),(r1.2.1.2.2.1,()))),((),((r1.2.2.2.1.1,((r1.2.2.2.1.2.1:List (ByteArray×(List Int×List Int×PUnit)×(List Int×List Int×PUnit)×PUnit)),(([]:List (List Int×List Int×PUnit)),()))),()))))))
        (let r2:=b17_2 (((0:Int),()),((r1.2.1.1,((r1.2.1.2.1:List (ByteArray×(List Int×List Int×PUnit)×(List Int×List Int×PUnit)×PUnit)),(r1.2.1.2.2.1,()))),((),((r1.2.2.2.1.1,((r1.2.2.2.1.2.1:List (ByteArray×(List Int×List Int×PUnit)×(List Int×List Int×PUnit)×PUnit)),(([]:List (List Int×List Int×PUnit)),()))),()))));
        Tr.fin (((r2.2.2.2.1.1,((r2.2.2.2.1.2.1:List (ByteArray×(List Int×List Int×PUnit)×(List Int×List Int×PUnit)×PUnit)),(r2.2.2.2.1.2.2.1,()))),())))
        (Tr.stop))
      (Tr.stop))
    (Tr.stop)

def f17 (d:Tys.data as17):Option (Tys.data rs17):=(t17 d.1.1 d.1.2.1 d.1.2.2.1).val
def g17 (d:Tys.data as17):Tys.data rs17:=(f17 d).getD (Tys.dflt rs17)
def p17:PureC:=pcOf as17 rs17 f17 g17

theorem wk17 (x0:(List ByteArray)) (x0':(List (ByteArray×(((List Int)×((List Int)×Unit))×(((List Int)×((List Int)×Unit))×Unit))))) (x0'':(List ((List Int)×((List Int)×Unit)))):Walks (runPure (kl17_2 Go.Proofs.Tryz.prog).orc Go.Proofs.Tryz.prog 400 17 as17 rs17 ((x0,x0',x0'',()),())) (t17 x0 x0' x0'') [(bl 3 7,[1,2,1,4,6])] :=
  ⟨by kernel_rfl,trivial⟩

theorem ok17_t (x0:(List ByteArray)) (x0':(List (ByteArray×(((List Int)×((List Int)×Unit))×(((List Int)×((List Int)×Unit))×Unit))))) (x0'':(List ((List Int)×((List Int)×Unit)))):TrOk (PureRuns Go.Proofs.Tryz.prog (kl17_2 Go.Proofs.Tryz.prog).orc 17 as17 rs17 ((x0,x0',x0'',()),())) (t17 x0 x0' x0'') :=
  Walks.ok (fun _ _ _=>PureRuns.of) (wk17 x0 x0' x0'') (by kernel_rfl)

theorem ok17:PureOk Go.Proofs.Tryz.prog 17 p17:=pureOk_of kl17_2_ok.base (T:=fun (d:Tys.data as17)=>t17 d.1.1 d.1.2.1 d.1.2.2.1) (by kernel_rfl) (fun (d:Tys.data as17)=>ok17_t d.1.1 d.1.2.1 d.1.2.2.1)
def kf17 (P:Go.Program):Known:=(kl17_2 P).func 17 p17
theorem kf17_ok:KnownOk Go.Proofs.Tryz.prog (kf17 Go.Proofs.Tryz.prog):=kl17_2_ok.func ok17

/-! ductility/safety.when -/

abbrev as80:List Ty:=[.bool,(.int .i64)]
abbrev rs80:List Ty:=[(.int .i64)]

def t80 (x0:Bool) (x1:Int):Tr (Tys.data rs80) :=
  Tr.test (x0)
    (Tr.fin ((x1,())))
    (Tr.fin (((0:Int),())))

def f80 (d:Tys.data as80):Option (Tys.data rs80):=(t80 d.1 d.2.1).val
def g80 (d:Tys.data as80):Tys.data rs80:=(f80 d).getD (Tys.dflt rs80)
def p80:PureC:=pcOf as80 rs80 f80 g80

theorem wk80 (x0:Bool) (x1:Int):Walks (runPure (kf17 Go.Proofs.Tryz.prog).orc Go.Proofs.Tryz.prog 400 80 as80 rs80 (x0,x1,())) (t80 x0 x1) [(bl 1 1,[2]),(bl 1 0,[2])] :=
  ⟨by kernel_rfl,by kernel_rfl,trivial⟩

theorem ok80_t (x0:Bool) (x1:Int):TrOk (PureRuns Go.Proofs.Tryz.prog (kf17 Go.Proofs.Tryz.prog).orc 80 as80 rs80 (x0,x1,())) (t80 x0 x1) :=
  Walks.ok (fun _ _ _=>PureRuns.of) (wk80 x0 x1) (by kernel_rfl)

theorem ok80:PureOk Go.Proofs.Tryz.prog 80 p80:=pureOk_of kf17_ok.base (T:=fun (d:Tys.data as80)=>t80 d.1 d.2.1) (by kernel_rfl) (fun (d:Tys.data as80)=>ok80_t d.1 d.2.1)
def kf80 (P:Go.Program):Known:=(kf17 P).func 80 p80
theorem kf80_ok:KnownOk Go.Proofs.Tryz.prog (kf80 Go.Proofs.Tryz.prog):=kf17_ok.func ok80

/-! loop 0 of ductility/safety.firstOf -/

abbrev sh79_0:Sh:={ n:=15,slots:=[5,6,7],pats:=[.ty (.slice (.int .i64)),.ty (.int .i64),.ty (.int .i64)],boxes:=[] }
abbrev shb79_0:Sh:={ n:=15,slots:=[],pats:=[],boxes:=[] }
abbrev shr79_0:Sh:={ n:=15,slots:=[2],pats:=[.ty (.int .i64)],boxes:=[] }

def t79_0 (x0:(List Int)) (x1:Int) (x2:Int):Tr (Out sh79_0.data shb79_0.data shr79_0.data) :=
  Tr.test ((!leF x1 x2:Bool))
    (Tr.test (decide ((0:Int) ≤ x2) && decide (x2 < (↑(List.length x0):Int)))
      (Tr.test ((!eqF (List.getD x0 (Int.toNat x2) (0:Int)) (0:Int):Bool))
        (Tr.fin (.ret (((List.getD x0 (Int.toNat x2) (0:Int):Int),()),())))
        (Tr.fin (.again ((x0,(x1,((wrap64 (x2 + (1:Int)):Int),()))),()))))
      (Tr.stop))
    (Tr.fin (.brk ((),())))

def s79_0 (d:sh79_0.data):Option (Out sh79_0.data shb79_0.data shr79_0.data):=(t79_0 d.1.1 d.1.2.1 d.1.2.2.1).val
def l79_0 (d:sh79_0.data):Option (shb79_0.data ⊕ shr79_0.data):=itr s79_0 rounds d
def b79_0 (d:sh79_0.data):shb79_0.data:=outB shb79_0.dflt (l79_0 d)
def r79_0 (d:sh79_0.data):shr79_0.data:=outR shr79_0.dflt (l79_0 d)
def lc79_0:LoopC:=lcOf sh79_0 shb79_0 shr79_0 l79_0 b79_0 r79_0

theorem wk79_0 (x0:(List Int)) (x1:Int) (x2:Int):Walks (runBody (kf80 Go.Proofs.Tryz.prog).orc Go.Proofs.Tryz.prog 400 79 0 sh79_0 shb79_0 shr79_0 ((x0,x1,x2,()),())) (t79_0 x0 x1 x2) [(bl 3 7,[2,4,6]),(bl 3 3,[2,4,6]),(bl 1 0,[2])] :=
  ⟨by kernel_rfl,by kernel_rfl,by kernel_rfl,trivial⟩

theorem ok79_0_t (x0:(List Int)) (x1:Int) (x2:Int):TrOk (BodyRuns Go.Proofs.Tryz.prog (kf80 Go.Proofs.Tryz.prog).orc 79 0 sh79_0 shb79_0 shr79_0 ((x0,x1,x2,()),())) (t79_0 x0 x1 x2) :=
  Walks.ok (fun _ _ _=>BodyRuns.of) (wk79_0 x0 x1 x2) (by kernel_rfl)

theorem ok79_0:LoopOk Go.Proofs.Tryz.prog 79 0 lc79_0:=loopOk_of (sh:=sh79_0) (shB:=shb79_0) (shR:=shr79_0) kf80_ok.base (T:=fun (d:sh79_0.data)=>t79_0 d.1.1 d.1.2.1 d.1.2.2.1) (by kernel_rfl) rfl (fun (d:sh79_0.data)=>ok79_0_t d.1.1 d.1.2.1 d.1.2.2.1) (fun _=>rfl)
def kl79_0 (P:Go.Program):Known:=(kf80 P).loop 79 0 lc79_0
theorem kl79_0_ok:KnownOk Go.Proofs.Tryz.prog (kl79_0 Go.Proofs.Tryz.prog):=kf80_ok.loop ok79_0

/-! ductility/safety.firstOf -/

abbrev as79:List Ty:=[(.slice (.int .i64))]
abbrev rs79:List Ty:=[(.int .i64)]

def t79 (x0:(List Int)):Tr (Tys.data rs79) :=
  Tr.test (Option.isSome (l79_0 ((x0,((↑(List.length x0):Int),((0:Int),()))),())))
    (Tr.test (isRet (l79_0 ((x0,((↑(List.length x0):Int),((0:Int),()))),())))
      (let r0:=r79_0 ((x0,((↑(List.length x0):Int),((0:Int),()))),());
      Tr.fin ((r0.1.1,())))
      (Tr.fin (((0:Int),()))))
    (Tr.stop)

def f79 (d:Tys.data as79):Option (Tys.data rs79):=(t79 d.1).val
def g79 (d:Tys.data as79):Tys.data rs79:=(f79 d).getD (Tys.dflt rs79)
def p79:PureC:=pcOf as79 rs79 f79 g79

theorem wk79 (x0:(List Int)):Walks (runPure (kl79_0 Go.Proofs.Tryz.prog).orc Go.Proofs.Tryz.prog 400 79 as79 rs79 (x0,())) (t79 x0) [(bl 2 3,[2,4]),(bl 2 1,[2,4])] :=
  ⟨by kernel_rfl,by kernel_rfl,trivial⟩

theorem ok79_t (x0:(List Int)):TrOk (PureRuns Go.Proofs.Tryz.prog (kl79_0 Go.Proofs.Tryz.prog).orc 79 as79 rs79 (x0,())) (t79 x0) :=
  Walks.ok (fun _ _ _=>PureRuns.of) (wk79 x0) (by kernel_rfl)

theorem ok79:PureOk Go.Proofs.Tryz.prog 79 p79:=pureOk_of kl79_0_ok.base (T:=fun (d:Tys.data as79)=>t79 d.1) (by kernel_rfl) (fun (d:Tys.data as79)=>ok79_t d.1)
def kf79 (P:Go.Program):Known:=(kl79_0 P).func 79 p79
theorem kf79_ok:KnownOk Go.Proofs.Tryz.prog (kf79 Go.Proofs.Tryz.prog):=kl79_0_ok.func ok79

/-! ductility/safety.isLetter -/

abbrev as182:List Ty:=[(.int .u8)]
abbrev rs182:List Ty:=[.bool]

def t182 (x0:Int):Tr (Tys.data rs182) :=
  Tr.test ((decide ((97:Int) ≤ x0):Bool))
    (Tr.test (decide (x0 ≤ (122:Int)))
      (Tr.fin (((true:Bool),())))
      (Tr.test ((decide ((65:Int) ≤ x0):Bool))
        (Tr.fin (((decide (x0 ≤ (90:Int)):Bool),())))
        (Tr.fin (((false:Bool),())))))
    (Tr.test (decide ((65:Int) ≤ x0))
      (Tr.fin (((decide (x0 ≤ (90:Int)):Bool),())))
      (Tr.fin (((false:Bool),()))))

def f182 (d:Tys.data as182):Option (Tys.data rs182):=(t182 d.1).val
def g182 (d:Tys.data as182):Tys.data rs182:=(f182 d).getD (Tys.dflt rs182)
def p182:PureC:=pcOf as182 rs182 f182 g182

theorem wk182 (x0:Int):Walks (runPure (kf79 Go.Proofs.Tryz.prog).orc Go.Proofs.Tryz.prog 400 182 as182 rs182 (x0,())) (t182 x0) [(bl 2 3,[2,2,2,2,2,4,4,4]),(bl 3 5,[4,2,4,2,2,4,4,4,6,6,6]),(bl 3 1,[4,2,4,2,2,4,4,4,6,6,6]),(bl 2 2,[0,2,0,2,2,0,0,0,4,4,4]),(bl 2 0,[0,2,0,2,2,0,0,0,4,4,4])] :=
  ⟨by kernel_rfl,by kernel_rfl,by kernel_rfl,by kernel_rfl,by kernel_rfl,trivial⟩

theorem ok182_t (x0:Int):TrOk (PureRuns Go.Proofs.Tryz.prog (kf79 Go.Proofs.Tryz.prog).orc 182 as182 rs182 (x0,())) (t182 x0) :=
  Walks.ok (fun _ _ _=>PureRuns.of) (wk182 x0) (by kernel_rfl)

theorem ok182:PureOk Go.Proofs.Tryz.prog 182 p182:=pureOk_of kf79_ok.base (T:=fun (d:Tys.data as182)=>t182 d.1) (by kernel_rfl) (fun (d:Tys.data as182)=>ok182_t d.1)
def kf182 (P:Go.Program):Known:=(kf79 P).func 182 p182
theorem kf182_ok:KnownOk Go.Proofs.Tryz.prog (kf182 Go.Proofs.Tryz.prog):=kf79_ok.func ok182

/-! ductility/safety.isDigit -/

abbrev as183:List Ty:=[(.int .u8)]
abbrev rs183:List Ty:=[.bool]

def t183 (x0:Int):Tr (Tys.data rs183) :=
  Tr.test ((decide ((48:Int) ≤ x0):Bool))
    (Tr.fin ((decide (x0 ≤ (57:Int)),())))
    (Tr.fin ((false,())))

def f183 (d:Tys.data as183):Option (Tys.data rs183):=(t183 d.1).val
def g183 (d:Tys.data as183):Tys.data rs183:=(f183 d).getD (Tys.dflt rs183)
def p183:PureC:=pcOf as183 rs183 f183 g183

theorem wk183 (x0:Int):Walks (runPure (kf182 Go.Proofs.Tryz.prog).orc Go.Proofs.Tryz.prog 400 183 as183 rs183 (x0,())) (t183 x0) [(bl 1 1,[2,2,2]),(bl 1 0,[2,2,2])] :=
  ⟨by kernel_rfl,by kernel_rfl,trivial⟩

theorem ok183_t (x0:Int):TrOk (PureRuns Go.Proofs.Tryz.prog (kf182 Go.Proofs.Tryz.prog).orc 183 as183 rs183 (x0,())) (t183 x0) :=
  Walks.ok (fun _ _ _=>PureRuns.of) (wk183 x0) (by kernel_rfl)

theorem ok183:PureOk Go.Proofs.Tryz.prog 183 p183:=pureOk_of kf182_ok.base (T:=fun (d:Tys.data as183)=>t183 d.1) (by kernel_rfl) (fun (d:Tys.data as183)=>ok183_t d.1)
def kf183 (P:Go.Program):Known:=(kf182 P).func 183 p183
theorem kf183_ok:KnownOk Go.Proofs.Tryz.prog (kf183 Go.Proofs.Tryz.prog):=kf182_ok.func ok183

/-! loop 0 of ductility/safety.isName -/

abbrev sh142_0:Sh:={ n:=39,slots:=[20,21,22],pats:=[.ty (.slice (.int .u8)),.ty (.int .i64),.ty (.int .i64)],boxes:=[] }
abbrev shb142_0:Sh:={ n:=39,slots:=[],pats:=[],boxes:=[] }
abbrev shr142_0:Sh:={ n:=39,slots:=[2],pats:=[.ty .bool],boxes:=[] }

def t142_0 (x0:(List Int)) (x1:Int) (x2:Int):Tr (Out sh142_0.data shb142_0.data shr142_0.data) :=
  Tr.test ((!leF x1 x2:Bool))
    (Tr.test (decide ((0:Int) ≤ x2) && decide (x2 < (↑(List.length x0):Int)))
      (Tr.test (Option.isSome (f182 ((List.getD x0 (Int.toNat x2) (0:Int):Int),())))
        (let r0:=g182 ((List.getD x0 (Int.toNat x2) (0:Int):Int),());
        Tr.test ((!r0.1:Bool))
          (Tr.test (Option.isSome (f183 ((List.getD x0 (Int.toNat x2) (0:Int):Int),())))
            (let r1:=g183 ((List.getD x0 (Int.toNat x2) (0:Int):Int),());
            Tr.test ((!r1.1:Bool))
              (Tr.test ((!List.getD x0 (Int.toNat x2) (0:Int) == (45:Int):Bool))
                (Tr.fin (.ret (((false:Bool),()),())))
                (Tr.fin (.again ((x0,(x1,((wrap64 (x2 + (1:Int)):Int),()))),()))))
              (Tr.fin (.again ((x0,(x1,((wrap64 (x2 + (1:Int)):Int),()))),()))))
            (Tr.stop))
          (Tr.fin (.again ((x0,(x1,((wrap64 (x2 + (1:Int)):Int),()))),()))))
        (Tr.stop))
      (Tr.stop))
    (Tr.fin (.brk ((),())))

def s142_0 (d:sh142_0.data):Option (Out sh142_0.data shb142_0.data shr142_0.data):=(t142_0 d.1.1 d.1.2.1 d.1.2.2.1).val
def l142_0 (d:sh142_0.data):Option (shb142_0.data ⊕ shr142_0.data):=itr s142_0 rounds d
def b142_0 (d:sh142_0.data):shb142_0.data:=outB shb142_0.dflt (l142_0 d)
def r142_0 (d:sh142_0.data):shr142_0.data:=outR shr142_0.dflt (l142_0 d)
def lc142_0:LoopC:=lcOf sh142_0 shb142_0 shr142_0 l142_0 b142_0 r142_0

theorem wk142_0 (x0:(List Int)) (x1:Int) (x2:Int):Walks (runBody (kf183 Go.Proofs.Tryz.prog).orc Go.Proofs.Tryz.prog 400 142 0 sh142_0 shb142_0 shr142_0 ((x0,x1,x2,()),())) (t142_0 x0 x1 x2) [(bl 7 127,[2,4,4,4,8,8,6,8,8,10,12,14]),(bl 7 63,[2,4,4,4,8,8,6,8,8,10,12,14]),(bl 6 31,[0,2,2,2,6,6,4,6,6,8,10,12]),(bl 4 7,[0,0,0,0,2,2,2,2,4,6,8]),(bl 1 0,[2])] :=
  ⟨by kernel_rfl,by kernel_rfl,by kernel_rfl,by kernel_rfl,by kernel_rfl,trivial⟩

theorem ok142_0_t (x0:(List Int)) (x1:Int) (x2:Int):TrOk (BodyRuns Go.Proofs.Tryz.prog (kf183 Go.Proofs.Tryz.prog).orc 142 0 sh142_0 shb142_0 shr142_0 ((x0,x1,x2,()),())) (t142_0 x0 x1 x2) :=
  Walks.ok (fun _ _ _=>BodyRuns.of) (wk142_0 x0 x1 x2) (by kernel_rfl)

theorem ok142_0:LoopOk Go.Proofs.Tryz.prog 142 0 lc142_0:=loopOk_of (sh:=sh142_0) (shB:=shb142_0) (shR:=shr142_0) kf183_ok.base (T:=fun (d:sh142_0.data)=>t142_0 d.1.1 d.1.2.1 d.1.2.2.1) (by kernel_rfl) rfl (fun (d:sh142_0.data)=>ok142_0_t d.1.1 d.1.2.1 d.1.2.2.1) (fun _=>rfl)
def kl142_0 (P:Go.Program):Known:=(kf183 P).loop 142 0 lc142_0
theorem kl142_0_ok:KnownOk Go.Proofs.Tryz.prog (kl142_0 Go.Proofs.Tryz.prog):=kf183_ok.loop ok142_0

/-! ductility/safety.isName -/

abbrev as142:List Ty:=[.str]
abbrev rs142:List Ty:=[.bool]

def t142 (x0:ByteArray):Tr (Tys.data rs142) :=
  Tr.test ((eqF (↑(ByteArray.size x0):Int) (0:Int):Bool))
    (Tr.fin ((false,())))
    (Tr.test (!leF (↑(ByteArray.size x0):Int) (12:Int))
      (Tr.fin (((false:Bool),())))
      (Tr.test ((true && decide ((0:Int) < (↑(ByteArray.size x0):Int)):Bool))
        (Tr.test (Option.isSome (f182 ((↑(List.getD x0.data.toList (Int.toNat (0:Int)) (0:UInt8)).toBitVec.toFin.1:Int),())))
          (let r0:=g182 ((↑(List.getD x0.data.toList (Int.toNat (0:Int)) (0:UInt8)).toBitVec.toFin.1:Int),());
          Tr.test ((!r0.1:Bool))
            (Tr.fin (((false:Bool),())))
            (Tr.test (Option.isSome (l142_0 (((bytesOf x0:List Int),((↑(List.length (bytesOf x0)):Int),((0:Int),()))),())))
              (Tr.test (isRet (l142_0 (((bytesOf x0:List Int),((↑(List.length (bytesOf x0)):Int),((0:Int),()))),())))
                (let r1:=r142_0 (((bytesOf x0:List Int),((↑(List.length (bytesOf x0)):Int),((0:Int),()))),());
                Tr.fin ((r1.1.1,())))
                (Tr.fin (((true:Bool),()))))
              (Tr.stop)))
          (Tr.stop))
        (Tr.stop)))

def f142 (d:Tys.data as142):Option (Tys.data rs142):=(t142 d.1).val
def g142 (d:Tys.data as142):Tys.data rs142:=(f142 d).getD (Tys.dflt rs142)
def p142:PureC:=pcOf as142 rs142 f142 g142

theorem wk142 (x0:ByteArray):Walks (runPure (kl142_0 Go.Proofs.Tryz.prog).orc Go.Proofs.Tryz.prog 400 142 as142 rs142 (x0,())) (t142 x0) [(bl 1 1,[1,1,1,1,1,1,2,2,2,2]),(bl 2 2,[1,2,2,2,2,2,4,4,4,4]),(bl 5 28,[2,8,8,4,8,6,8,8,10,10,10,10]),(bl 7 108,[2,4,6,12,12,8,12,10,12,12,14,14,14,14]),(bl 7 44,[2,4,6,12,12,8,12,10,12,12,14,14,14,14])] :=
  ⟨by kernel_rfl,by kernel_rfl,by kernel_rfl,by kernel_rfl,by kernel_rfl,trivial⟩

theorem ok142_t (x0:ByteArray):TrOk (PureRuns Go.Proofs.Tryz.prog (kl142_0 Go.Proofs.Tryz.prog).orc 142 as142 rs142 (x0,())) (t142 x0) :=
  Walks.ok (fun _ _ _=>PureRuns.of) (wk142 x0) (by kernel_rfl)

theorem ok142:PureOk Go.Proofs.Tryz.prog 142 p142:=pureOk_of kl142_0_ok.base (T:=fun (d:Tys.data as142)=>t142 d.1) (by kernel_rfl) (fun (d:Tys.data as142)=>ok142_t d.1)
def kf142 (P:Go.Program):Known:=(kl142_0 P).func 142 p142
theorem kf142_ok:KnownOk Go.Proofs.Tryz.prog (kf142 Go.Proofs.Tryz.prog):=kl142_0_ok.func ok142

/-! loop 0 of slices.Index[[]string,string] -/

abbrev sh184_0:Sh:={ n:=19,slots:=[0,1,7,8],pats:=[.ty (.slice .str),.ty .str,.ty (.int .i64),.ty (.int .i64)],boxes:=[] }
abbrev shb184_0:Sh:={ n:=19,slots:=[],pats:=[],boxes:=[] }
abbrev shr184_0:Sh:={ n:=19,slots:=[4],pats:=[.ty (.int .i64)],boxes:=[] }

def t184_0 (x0:(List ByteArray)) (x1:ByteArray) (x2:Int) (x3:Int):Tr (Out sh184_0.data shb184_0.data shr184_0.data) :=
  Tr.test ((!leF x2 x3:Bool))
    (Tr.test (decide ((0:Int) ≤ x3) && decide (x3 < (↑(List.length x0):Int)))
      (Tr.test ((strEq x1 (List.getD x0 (Int.toNat x3) { data:={ toList:=[] } }):Bool))
        (Tr.fin (.ret ((x3,()),())))
        (Tr.fin (.again ((x0,(x1,(x2,((wrap64 (x3 + (1:Int)):Int),())))),()))))
      (Tr.stop))
    (Tr.fin (.brk ((),())))

def s184_0 (d:sh184_0.data):Option (Out sh184_0.data shb184_0.data shr184_0.data):=(t184_0 d.1.1 d.1.2.1 d.1.2.2.1 d.1.2.2.2.1).val
def l184_0 (d:sh184_0.data):Option (shb184_0.data ⊕ shr184_0.data):=itr s184_0 rounds d
def b184_0 (d:sh184_0.data):shb184_0.data:=outB shb184_0.dflt (l184_0 d)
def r184_0 (d:sh184_0.data):shr184_0.data:=outR shr184_0.dflt (l184_0 d)
def lc184_0:LoopC:=lcOf sh184_0 shb184_0 shr184_0 l184_0 b184_0 r184_0

theorem wk184_0 (x0:(List ByteArray)) (x1:ByteArray) (x2:Int) (x3:Int):Walks (runBody (kf142 Go.Proofs.Tryz.prog).orc Go.Proofs.Tryz.prog 400 184 0 sh184_0 shb184_0 shr184_0 ((x0,x1,x2,x3,()),())) (t184_0 x0 x1 x2 x3) [(bl 3 7,[2,4,6]),(bl 3 3,[2,4,6]),(bl 1 0,[2])] :=
  ⟨by kernel_rfl,by kernel_rfl,by kernel_rfl,trivial⟩

theorem ok184_0_t (x0:(List ByteArray)) (x1:ByteArray) (x2:Int) (x3:Int):TrOk (BodyRuns Go.Proofs.Tryz.prog (kf142 Go.Proofs.Tryz.prog).orc 184 0 sh184_0 shb184_0 shr184_0 ((x0,x1,x2,x3,()),())) (t184_0 x0 x1 x2 x3) :=
  Walks.ok (fun _ _ _=>BodyRuns.of) (wk184_0 x0 x1 x2 x3) (by kernel_rfl)

theorem ok184_0:LoopOk Go.Proofs.Tryz.prog 184 0 lc184_0:=loopOk_of (sh:=sh184_0) (shB:=shb184_0) (shR:=shr184_0) kf142_ok.base (T:=fun (d:sh184_0.data)=>t184_0 d.1.1 d.1.2.1 d.1.2.2.1 d.1.2.2.2.1) (by kernel_rfl) rfl (fun (d:sh184_0.data)=>ok184_0_t d.1.1 d.1.2.1 d.1.2.2.1 d.1.2.2.2.1) (fun _=>rfl)
def kl184_0 (P:Go.Program):Known:=(kf142 P).loop 184 0 lc184_0
theorem kl184_0_ok:KnownOk Go.Proofs.Tryz.prog (kl184_0 Go.Proofs.Tryz.prog):=kf142_ok.loop ok184_0

/-! slices.Index[[]string,string] -/

abbrev as184:List Ty:=[(.slice .str),.str]
abbrev rs184:List Ty:=[(.int .i64)]

def t184 (x0:(List ByteArray)) (x1:ByteArray):Tr (Tys.data rs184) :=
  Tr.test (Option.isSome (l184_0 ((x0,(x1,((↑(List.length x0):Int),((0:Int),())))),())))
    (Tr.test (isRet (l184_0 ((x0,(x1,((↑(List.length x0):Int),((0:Int),())))),())))
      (let r0:=r184_0 ((x0,(x1,((↑(List.length x0):Int),((0:Int),())))),());
      Tr.fin ((r0.1.1,())))
      (Tr.fin (((-1:Int),()))))
    (Tr.stop)

def f184 (d:Tys.data as184):Option (Tys.data rs184):=(t184 d.1 d.2.1).val
def g184 (d:Tys.data as184):Tys.data rs184:=(f184 d).getD (Tys.dflt rs184)
def p184:PureC:=pcOf as184 rs184 f184 g184

theorem wk184 (x0:(List ByteArray)) (x1:ByteArray):Walks (runPure (kl184_0 Go.Proofs.Tryz.prog).orc Go.Proofs.Tryz.prog 400 184 as184 rs184 (x0,x1,())) (t184 x0 x1) [(bl 2 3,[2,4]),(bl 2 1,[2,4])] :=
  ⟨by kernel_rfl,by kernel_rfl,trivial⟩

theorem ok184_t (x0:(List ByteArray)) (x1:ByteArray):TrOk (PureRuns Go.Proofs.Tryz.prog (kl184_0 Go.Proofs.Tryz.prog).orc 184 as184 rs184 (x0,x1,())) (t184 x0 x1) :=
  Walks.ok (fun _ _ _=>PureRuns.of) (wk184 x0 x1) (by kernel_rfl)

theorem ok184:PureOk Go.Proofs.Tryz.prog 184 p184:=pureOk_of kl184_0_ok.base (T:=fun (d:Tys.data as184)=>t184 d.1 d.2.1) (by kernel_rfl) (fun (d:Tys.data as184)=>ok184_t d.1 d.2.1)
def kf184 (P:Go.Program):Known:=(kl184_0 P).func 184 p184
theorem kf184_ok:KnownOk Go.Proofs.Tryz.prog (kf184 Go.Proofs.Tryz.prog):=kl184_0_ok.func ok184

/-! slices.Contains[[]string,string] -/

abbrev as143:List Ty:=[(.slice .str),.str]
abbrev rs143:List Ty:=[.bool]

def t143 (x0:(List ByteArray)) (x1:ByteArray):Tr (Tys.data rs143) :=
  Tr.test (Option.isSome (f184 (x0,(x1,()))))
    (let r0:=g184 (x0,(x1,()));
    Tr.fin (((leF (0:Int) r0.1:Bool),())))
    (Tr.stop)

def f143 (d:Tys.data as143):Option (Tys.data rs143):=(t143 d.1 d.2.1).val
def g143 (d:Tys.data as143):Tys.data rs143:=(f143 d).getD (Tys.dflt rs143)
def p143:PureC:=pcOf as143 rs143 f143 g143

theorem wk143 (x0:(List ByteArray)) (x1:ByteArray):Walks (runPure (kf184 Go.Proofs.Tryz.prog).orc Go.Proofs.Tryz.prog 400 143 as143 rs143 (x0,x1,())) (t143 x0 x1) [(bl 1 1,[2])] :=
  ⟨by kernel_rfl,trivial⟩

theorem ok143_t (x0:(List ByteArray)) (x1:ByteArray):TrOk (PureRuns Go.Proofs.Tryz.prog (kf184 Go.Proofs.Tryz.prog).orc 143 as143 rs143 (x0,x1,())) (t143 x0 x1) :=
  Walks.ok (fun _ _ _=>PureRuns.of) (wk143 x0 x1) (by kernel_rfl)

theorem ok143:PureOk Go.Proofs.Tryz.prog 143 p143:=pureOk_of kf184_ok.base (T:=fun (d:Tys.data as143)=>t143 d.1 d.2.1) (by kernel_rfl) (fun (d:Tys.data as143)=>ok143_t d.1 d.2.1)
def kf143 (P:Go.Program):Known:=(kf184 P).func 143 p143
theorem kf143_ok:KnownOk Go.Proofs.Tryz.prog (kf143 Go.Proofs.Tryz.prog):=kf184_ok.func ok143

/-! ductility/safety.nameError -/

abbrev as83:List Ty:=[(.slice .str),(.int .i64),(.int .i64)]
abbrev rs83:List Ty:=[(.int .i64)]

def t83 (x0:(List ByteArray)) (x1:Int) (x2:Int):Tr (Tys.data rs83) :=
  Tr.test ((decide ((0:Int) ≤ x1) && decide (x1 < (↑(List.length x0):Int)):Bool))
    (Tr.test (Option.isSome (f142 ((List.getD x0 (Int.toNat x1) { data:={ toList:=[] } }:ByteArray),())))
      (let r0:=g142 ((List.getD x0 (Int.toNat x1) { data:={ toList:=[] } }:ByteArray),());
      Tr.test (Option.isSome (f80 ((!r0.1:Bool),((4:Int),()))))
        (Tr.test ((decide ((0:Int) ≤ x1) && decide (x1 ≤ (↑(List.length x0):Int)):Bool))
          (Tr.test (Option.isSome (f143 ((List.take (Int.toNat x1) x0:List ByteArray),((List.getD x0 (Int.toNat x1) { data:={ toList:=[] } }:ByteArray),()))))
            (let r2:=g143 ((List.take (Int.toNat x1) x0:List ByteArray),((List.getD x0 (Int.toNat x1) { data:={ toList:=[] } }:ByteArray),()));
            Tr.test (Option.isSome (f80 (r2.1,(x2,()))))
              (let r1:=g80 ((!r0.1:Bool),((4:Int),()));
              let r3:=g80 (r2.1,(x2,()));
              Tr.test (Option.isSome (f79 (([r1.1,r3.1]:List Int),())))
                (let r4:=g79 (([r1.1,r3.1]:List Int),());
                Tr.fin ((r4.1,())))
                (Tr.stop))
              (Tr.stop))
            (Tr.stop))
          (Tr.stop))
        (Tr.stop))
      (Tr.stop))
    (Tr.stop)

def f83 (d:Tys.data as83):Option (Tys.data rs83):=(t83 d.1 d.2.1 d.2.2.1).val
def g83 (d:Tys.data as83):Tys.data rs83:=(f83 d).getD (Tys.dflt rs83)
def p83:PureC:=pcOf as83 rs83 f83 g83

theorem wk83 (x0:(List ByteArray)) (x1:Int) (x2:Int):Walks (runPure (kf143 Go.Proofs.Tryz.prog).orc Go.Proofs.Tryz.prog 400 83 as83 rs83 (x0,x1,x2,())) (t83 x0 x1 x2) [(bl 7 127,[2,4,6,14,8,10,12,14])] :=
  ⟨by kernel_rfl,trivial⟩

theorem ok83_t (x0:(List ByteArray)) (x1:Int) (x2:Int):TrOk (PureRuns Go.Proofs.Tryz.prog (kf143 Go.Proofs.Tryz.prog).orc 83 as83 rs83 (x0,x1,x2,())) (t83 x0 x1 x2) :=
  Walks.ok (fun _ _ _=>PureRuns.of) (wk83 x0 x1 x2) (by kernel_rfl)

theorem ok83:PureOk Go.Proofs.Tryz.prog 83 p83:=pureOk_of kf143_ok.base (T:=fun (d:Tys.data as83)=>t83 d.1 d.2.1 d.2.2.1) (by kernel_rfl) (fun (d:Tys.data as83)=>ok83_t d.1 d.2.1 d.2.2.1)
def kf83 (P:Go.Program):Known:=(kf143 P).func 83 p83
theorem kf83_ok:KnownOk Go.Proofs.Tryz.prog (kf83 Go.Proofs.Tryz.prog):=kf143_ok.func ok83

/-! loop 0 of ductility/safety.checkItems[int] -/

abbrev sh111_0:Sh:={ n:=25,slots:=[1,9,10,11],pats:=[.fn 185 [(0,1),(1,1)],.ty (.slice (.int .i64)),.ty (.int .i64),.ty (.int .i64)],boxes:=[.row [.ty (.int .i64)],.row [.ty (.slice (.int .i64))]] }
abbrev shb111_0:Sh:={ n:=25,slots:=[],pats:=[],boxes:=[.row [.ty (.int .i64)],.row [.ty (.slice (.int .i64))]] }
abbrev shr111_0:Sh:={ n:=25,slots:=[4,5],pats:=[.ty (.int .i64),.ty (.int .i64)],boxes:=[.row [.ty (.int .i64)],.row [.ty (.slice (.int .i64))]] }

def t111_0 (x1:(List Int)) (x2:Int) (x3:Int) (b0_0:Int) (b1_0:(List Int)):Tr (Out sh111_0.data shb111_0.data shr111_0.data) :=
  Tr.test ((!leF x2 x3:Bool))
    (Tr.test (decide ((0:Int) ≤ x3) && decide (x3 < (↑(List.length x1):Int)))
      (Tr.test (Option.isSome (f94 ((0:Int),((wrap64 (b0_0 - (1:Int)):Int),(([List.getD x1 (Int.toNat x3) (0:Int)]:List Int),())))))
        (let r0:=g94 ((0:Int),((wrap64 (b0_0 - (1:Int)):Int),(([List.getD x1 (Int.toNat x3) (0:Int)]:List Int),())));
        Tr.test (Option.isSome (f80 ((!r0.1:Bool),((6:Int),()))))
          (Tr.test ((!leF x3 0:Bool))
            (Tr.test ((decide ((0:Int) ≤ wrap64 (x3 - (1:Int))) && decide (wrap64 (x3 - (1:Int)) < (↑(List.length b1_0):Int)):Bool))
              (Tr.test (Option.isSome (f80 ((leF (List.getD x1 (Int.toNat x3) (0:Int)) (List.getD b1_0 (Int.toNat (wrap64 (x3 - (1:Int)))) (0:Int)):Bool),((9:Int),()))))
                (let r1:=g80 ((!r0.1:Bool),((6:Int),()));
                let r2:=g80 ((leF (List.getD x1 (Int.toNat x3) (0:Int)) (List.getD b1_0 (Int.toNat (wrap64 (x3 - (1:Int)))) (0:Int)):Bool),((9:Int),()));
                Tr.test (Option.isSome (f79 (([r1.1,r2.1]:List Int),())))
                  (let r4:=g79 (([r1.1,r2.1]:List Int),());
                  Tr.test ((!eqF r4.1 0:Bool))
                    (Tr.fin (.ret ((x3,(r4.1,())),((b0_0,()),((b1_0,()),())))))
                    (Tr.fin (.again ((x1,(x2,((wrap64 (x3 + (1:Int)):Int),()))),((b0_0,()),((b1_0,()),()))))))
                  (Tr.stop))
                (Tr.stop))
              (Tr.stop))
            (Tr.test (Option.isSome (f80 ((false:Bool),((9:Int),()))))
              (let r1:=g80 ((!r0.1:Bool),((6:Int),()));
              let r3:=g80 ((false:Bool),((9:Int),()));
              Tr.test (Option.isSome (f79 (([r1.1,r3.1]:List Int),())))
                (let r5:=g79 (([r1.1,r3.1]:List Int),());
                Tr.test ((!eqF r5.1 0:Bool))
                  (Tr.fin (.ret ((x3,(r5.1,())),((b0_0,()),((b1_0,()),())))))
                  (Tr.fin (.again ((x1,(x2,((wrap64 (x3 + (1:Int)):Int),()))),((b0_0,()),((b1_0,()),()))))))
                (Tr.stop))
              (Tr.stop)))
          (Tr.stop))
        (Tr.stop))
      (Tr.stop))
    (Tr.fin (.brk ((),((b0_0,()),((b1_0,()),())))))

def s111_0 (d:sh111_0.data):Option (Out sh111_0.data shb111_0.data shr111_0.data):=(t111_0 d.1.1 d.1.2.1 d.1.2.2.1 d.2.1.1 d.2.2.1.1).val
def l111_0 (d:sh111_0.data):Option (shb111_0.data ⊕ shr111_0.data):=itr s111_0 rounds d
def b111_0 (d:sh111_0.data):shb111_0.data:=outB shb111_0.dflt (l111_0 d)
def r111_0 (d:sh111_0.data):shr111_0.data:=outR shr111_0.dflt (l111_0 d)
def lc111_0:LoopC:=lcOf sh111_0 shb111_0 shr111_0 l111_0 b111_0 r111_0

theorem wk111_0 (x1:(List Int)) (x2:Int) (x3:Int) (b0_0:Int) (b1_0:(List Int)):Walks (runBody (kf83 Go.Proofs.Tryz.prog).orc Go.Proofs.Tryz.prog 400 111 0 sh111_0 shb111_0 shr111_0 ((x1,x2,x3,()),(b0_0,()),(b1_0,()),())) (t111_0 x1 x2 x3 b0_0 b1_0) [(bl 9 511,[2,4,6,10,10,10,8,10,10,10,10,10,12,14,16,18]),(bl 9 255,[2,4,6,10,10,10,8,10,10,10,10,10,12,14,16,18]),(bl 8 239,[2,4,6,8,8,8,8,8,8,8,8,10,12,14,16]),(bl 8 111,[2,4,6,8,8,8,8,8,8,8,8,10,12,14,16]),(bl 1 0,[2])] :=
  ⟨by kernel_rfl,by kernel_rfl,by kernel_rfl,by kernel_rfl,by kernel_rfl,trivial⟩

theorem ok111_0_t (x1:(List Int)) (x2:Int) (x3:Int) (b0_0:Int) (b1_0:(List Int)):TrOk (BodyRuns Go.Proofs.Tryz.prog (kf83 Go.Proofs.Tryz.prog).orc 111 0 sh111_0 shb111_0 shr111_0 ((x1,x2,x3,()),(b0_0,()),(b1_0,()),())) (t111_0 x1 x2 x3 b0_0 b1_0) :=
  Walks.ok (fun _ _ _=>BodyRuns.of) (wk111_0 x1 x2 x3 b0_0 b1_0) (by kernel_rfl)

theorem ok111_0:LoopOk Go.Proofs.Tryz.prog 111 0 lc111_0:=loopOk_of (sh:=sh111_0) (shB:=shb111_0) (shR:=shr111_0) kf83_ok.base (T:=fun (d:sh111_0.data)=>t111_0 d.1.1 d.1.2.1 d.1.2.2.1 d.2.1.1 d.2.2.1.1) (by kernel_rfl) rfl (fun (d:sh111_0.data)=>ok111_0_t d.1.1 d.1.2.1 d.1.2.2.1 d.2.1.1 d.2.2.1.1) (fun _=>rfl)
def kl111_0 (P:Go.Program):Known:=(kf83 P).loop 111 0 lc111_0
theorem kl111_0_ok:KnownOk Go.Proofs.Tryz.prog (kl111_0 Go.Proofs.Tryz.prog):=kf83_ok.loop ok111_0

/-! ductility/safety.indexesError -/

abbrev as144:List Ty:=[(.slice (.int .i64)),(.int .i64)]
abbrev rs144:List Ty:=[(.int .i64)]

def t144 (x0:(List Int)) (x1:Int):Tr (Tys.data rs144) :=
  Tr.test (Option.isSome (l111_0 ((x0,((↑(List.length x0):Int),((0:Int),()))),((x1,()),((x0,()),())))))
    (Tr.test (isRet (l111_0 ((x0,((↑(List.length x0):Int),((0:Int),()))),((x1,()),((x0,()),())))))
      (let r0:=r111_0 ((x0,((↑(List.length x0):Int),((0:Int),()))),((x1,()),((x0,()),())));
      Tr.fin ((r0.1.2.1,())))
      (Tr.fin (((0:Int),()))))
    (Tr.stop)

def f144 (d:Tys.data as144):Option (Tys.data rs144):=(t144 d.1 d.2.1).val
def g144 (d:Tys.data as144):Tys.data rs144:=(f144 d).getD (Tys.dflt rs144)
def p144:PureC:=pcOf as144 rs144 f144 g144

theorem wk144 (x0:(List Int)) (x1:Int):Walks (runPure (kl111_0 Go.Proofs.Tryz.prog).orc Go.Proofs.Tryz.prog 400 144 as144 rs144 (x0,x1,())) (t144 x0 x1) [(bl 2 3,[2,4]),(bl 2 1,[2,4])] :=
  ⟨by kernel_rfl,by kernel_rfl,trivial⟩

theorem ok144_t (x0:(List Int)) (x1:Int):TrOk (PureRuns Go.Proofs.Tryz.prog (kl111_0 Go.Proofs.Tryz.prog).orc 144 as144 rs144 (x0,x1,())) (t144 x0 x1) :=
  Walks.ok (fun _ _ _=>PureRuns.of) (wk144 x0 x1) (by kernel_rfl)

theorem ok144:PureOk Go.Proofs.Tryz.prog 144 p144:=pureOk_of kl111_0_ok.base (T:=fun (d:Tys.data as144)=>t144 d.1 d.2.1) (by kernel_rfl) (fun (d:Tys.data as144)=>ok144_t d.1 d.2.1)
def kf144 (P:Go.Program):Known:=(kl111_0 P).func 144 p144
theorem kf144_ok:KnownOk Go.Proofs.Tryz.prog (kf144 Go.Proofs.Tryz.prog):=kl111_0_ok.func ok144

/-! loop 0 of ductility/safety.flagsOf -/

abbrev sh145_0:Sh:={ n:=18,slots:=[3,6,7,8],pats:=[.ty (.int .u64),.ty (.slice (.int .i64)),.ty (.int .i64),.ty (.int .i64)],boxes:=[] }
abbrev shb145_0:Sh:={ n:=18,slots:=[3],pats:=[.ty (.int .u64)],boxes:=[] }
abbrev shr145_0:Sh:={ n:=18,slots:=[],pats:=[],boxes:=[] }

def t145_0 (x0:Int) (x1:(List Int)) (x2:Int) (x3:Int):Tr (Out sh145_0.data shb145_0.data shr145_0.data) :=
  Tr.test ((!leF x2 x3:Bool))
    (Tr.test (decide ((0:Int) ≤ x3) && decide (x3 < (↑(List.length x1):Int)))
      (Tr.test ((decide (List.getD x1 (Int.toNat x3) (0:Int) < (0:Int)):Bool))
        (Tr.stop)
        (Tr.fin (.again (((orV Go.IntKind.u64 x0 (shlV Go.IntKind.u64 (1:Int) (List.getD x1 (Int.toNat x3) (0:Int))):Int),(x1,(x2,((wrap64 (x3 + (1:Int)):Int),())))),()))))
      (Tr.stop))
    (Tr.fin (.brk ((x0,()),())))

def s145_0 (d:sh145_0.data):Option (Out sh145_0.data shb145_0.data shr145_0.data):=(t145_0 d.1.1 d.1.2.1 d.1.2.2.1 d.1.2.2.2.1).val
def l145_0 (d:sh145_0.data):Option (shb145_0.data ⊕ shr145_0.data):=itr s145_0 rounds d
def b145_0 (d:sh145_0.data):shb145_0.data:=outB shb145_0.dflt (l145_0 d)
def lc145_0:LoopC:=lcB sh145_0 shb145_0 shr145_0 l145_0 b145_0

theorem wk145_0 (x0:Int) (x1:(List Int)) (x2:Int) (x3:Int):Walks (runBody (kf144 Go.Proofs.Tryz.prog).orc Go.Proofs.Tryz.prog 400 145 0 sh145_0 shb145_0 shr145_0 ((x0,x1,x2,x3,()),())) (t145_0 x0 x1 x2 x3) [(bl 3 3,[2,4,6]),(bl 1 0,[2])] :=
  ⟨by kernel_rfl,by kernel_rfl,trivial⟩

theorem ok145_0_t (x0:Int) (x1:(List Int)) (x2:Int) (x3:Int):TrOk (BodyRuns Go.Proofs.Tryz.prog (kf144 Go.Proofs.Tryz.prog).orc 145 0 sh145_0 shb145_0 shr145_0 ((x0,x1,x2,x3,()),())) (t145_0 x0 x1 x2 x3) :=
  Walks.ok (fun _ _ _=>BodyRuns.of) (wk145_0 x0 x1 x2 x3) (by kernel_rfl)

theorem ok145_0:LoopOk Go.Proofs.Tryz.prog 145 0 lc145_0:=loopOk_ofB (sh:=sh145_0) (shB:=shb145_0) (shR:=shr145_0) kf144_ok.base (T:=fun (d:sh145_0.data)=>t145_0 d.1.1 d.1.2.1 d.1.2.2.1 d.1.2.2.2.1) (by kernel_rfl) rfl (fun (d:sh145_0.data)=>ok145_0_t d.1.1 d.1.2.1 d.1.2.2.1 d.1.2.2.2.1) (fun _=>rfl)
def kl145_0 (P:Go.Program):Known:=(kf144 P).loop 145 0 lc145_0
theorem kl145_0_ok:KnownOk Go.Proofs.Tryz.prog (kl145_0 Go.Proofs.Tryz.prog):=kf144_ok.loop ok145_0

/-! ductility/safety.flagsOf -/

abbrev as145:List Ty:=[(.slice (.int .i64))]
abbrev rs145:List Ty:=[(.int .u64)]

def t145 (x0:(List Int)):Tr (Tys.data rs145) :=
  Tr.test (isBrk (l145_0 (((0:Int),(x0,((↑(List.length x0):Int),((0:Int),())))),())))
    (let r0:=b145_0 (((0:Int),(x0,((↑(List.length x0):Int),((0:Int),())))),());
    Tr.fin ((r0.1.1,())))
    (Tr.stop)

def f145 (d:Tys.data as145):Option (Tys.data rs145):=(t145 d.1).val
def g145 (d:Tys.data as145):Tys.data rs145:=(f145 d).getD (Tys.dflt rs145)
def p145:PureC:=pcOf as145 rs145 f145 g145

theorem wk145 (x0:(List Int)):Walks (runPure (kl145_0 Go.Proofs.Tryz.prog).orc Go.Proofs.Tryz.prog 400 145 as145 rs145 (x0,())) (t145 x0) [(bl 1 1,[1,2])] :=
  ⟨by kernel_rfl,trivial⟩

theorem ok145_t (x0:(List Int)):TrOk (PureRuns Go.Proofs.Tryz.prog (kl145_0 Go.Proofs.Tryz.prog).orc 145 as145 rs145 (x0,())) (t145 x0) :=
  Walks.ok (fun _ _ _=>PureRuns.of) (wk145 x0) (by kernel_rfl)

theorem ok145:PureOk Go.Proofs.Tryz.prog 145 p145:=pureOk_of kl145_0_ok.base (T:=fun (d:Tys.data as145)=>t145 d.1) (by kernel_rfl) (fun (d:Tys.data as145)=>ok145_t d.1)
def kf145 (P:Go.Program):Known:=(kl145_0 P).func 145 p145
theorem kf145_ok:KnownOk Go.Proofs.Tryz.prog (kf145 Go.Proofs.Tryz.prog):=kl145_0_ok.func ok145

/-! ductility/safety.testError -/

abbrev as86:List Ty:=[(.pair (.slice (.int .i64)) (.pair (.slice (.int .i64)) .unit)),(.int .i64)]
abbrev rs86:List Ty:=[(.int .i64)]

def t86 (x0:(List Int)) (x0':(List Int)) (x1:Int):Tr (Tys.data rs86) :=
  Tr.test (Option.isSome (f144 (x0,(x1,()))))
    (Tr.test (Option.isSome (f144 (x0',(x1,()))))
      (let r0:=g144 (x0,(x1,()));
      let r1:=g144 (x0',(x1,()));
      Tr.test (Option.isSome (f79 (([r0.1,r1.1]:List Int),())))
        (let r2:=g79 (([r0.1,r1.1]:List Int),());
        Tr.test ((!eqF r2.1 0:Bool))
          (Tr.fin ((r2.1,())))
          (Tr.test (Option.isSome (f145 (x0,())))
            (Tr.test (Option.isSome (f145 (x0',())))
              (let r3:=g145 (x0,());
              let r4:=g145 (x0',());
              Tr.test (Option.isSome (f80 ((!andV Go.IntKind.u64 r3.1 r4.1 == (0:Int):Bool),((13:Int),()))))
                (let r5:=g80 ((!andV Go.IntKind.u64 r3.1 r4.1 == (0:Int):Bool),((13:Int),()));
                Tr.fin ((r5.1,())))
                (Tr.stop))
              (Tr.stop))
            (Tr.stop)))
        (Tr.stop))
      (Tr.stop))
    (Tr.stop)

def f86 (d:Tys.data as86):Option (Tys.data rs86):=(t86 d.1.1 d.1.2.1 d.2.1).val
def g86 (d:Tys.data as86):Tys.data rs86:=(f86 d).getD (Tys.dflt rs86)
def p86:PureC:=pcOf as86 rs86 f86 g86

theorem wk86 (x0:(List Int)) (x0':(List Int)) (x1:Int):Walks (runPure (kf145 Go.Proofs.Tryz.prog).orc Go.Proofs.Tryz.prog 400 86 as86 rs86 ((x0,x0',()),x1,())) (t86 x0 x0' x1) [(bl 4 15,[2,4,6,8]),(bl 7 119,[2,4,6,8,10,12,14])] :=
  ⟨by kernel_rfl,by kernel_rfl,trivial⟩

theorem ok86_t (x0:(List Int)) (x0':(List Int)) (x1:Int):TrOk (PureRuns Go.Proofs.Tryz.prog (kf145 Go.Proofs.Tryz.prog).orc 86 as86 rs86 ((x0,x0',()),x1,())) (t86 x0 x0' x1) :=
  Walks.ok (fun _ _ _=>PureRuns.of) (wk86 x0 x0' x1) (by kernel_rfl)

theorem ok86:PureOk Go.Proofs.Tryz.prog 86 p86:=pureOk_of kf145_ok.base (T:=fun (d:Tys.data as86)=>t86 d.1.1 d.1.2.1 d.2.1) (by kernel_rfl) (fun (d:Tys.data as86)=>ok86_t d.1.1 d.1.2.1 d.2.1)
def kf86 (P:Go.Program):Known:=(kf145 P).func 86 p86
theorem kf86_ok:KnownOk Go.Proofs.Tryz.prog (kf86 Go.Proofs.Tryz.prog):=kf145_ok.func ok86

end Go.Vm.Mo
