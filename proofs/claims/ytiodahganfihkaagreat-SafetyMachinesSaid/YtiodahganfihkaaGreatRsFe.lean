import Derived.Test.YtiodahganfihkaaGreatA4
import Derived.Test.YtiodahganfihkaaGreatA5
import Derived.KernelRfl
import Derived.Test.YtiodahganfihkaaGreatProg
import Derived.Test.YtiodahganfihkaaGreatRsFd
set_option linter.unusedVariables false
set_option linter.unusedSimpArgs false

namespace Go.Vm.Mo
open Go
set_option linter.unusedVariables false

/-! loop 2 of ductility/safety.machineAt -/

abbrev sh92_2:Sh:={ n:=58,slots:=[1,4,8,41,42,43],pats:=[.ty (.int .i64),.ptr 0 2 0,.ptr 1 2 0,.ty (.slice (.pair (.slice (.int .i64)) (.pair (.slice (.int .i64)) .unit))),.ty (.int .i64),.ty (.int .i64)],boxes:=[.row [.nil,.nil],.row [.acc (.pair (.pair (.int .u64) (.pair (.int .u64) .unit)) (.pair (.pair (.int .u64) (.pair (.int .u64) .unit)) .unit)),.acc (.pair (.int .u64) (.pair (.int .u64) .unit))]] }
abbrev shb92_2:Sh:={ n:=58,slots:=[1,4,8],pats:=[.ty (.int .i64),.ptr 0 2 0,.ptr 1 2 0],boxes:=[.row [.nil,.nil],.row [.acc (.pair (.pair (.int .u64) (.pair (.int .u64) .unit)) (.pair (.pair (.int .u64) (.pair (.int .u64) .unit)) .unit)),.acc (.pair (.int .u64) (.pair (.int .u64) .unit))]] }
abbrev shr92_2:Sh:={ n:=58,slots:=[],pats:=[],boxes:=[.row [.nil,.nil],.row [.acc (.pair (.pair (.int .u64) (.pair (.int .u64) .unit)) (.pair (.pair (.int .u64) (.pair (.int .u64) .unit)) .unit)),.acc (.pair (.int .u64) (.pair (.int .u64) .unit))]] }

def t92_2 (x0:Int) (x3:(List ((List Int)×((List Int)×Unit)))) (x4:Int) (x5:Int) (b1_0:(List ((Int×(Int×Unit))×((Int×(Int×Unit))×Unit)))) (b1_1:(List (Int×(Int×Unit)))):Tr (Out sh92_2.data shb92_2.data shr92_2.data) :=
  Tr.test ((!leF x4 x5:Bool))
    (Tr.test (decide ((0:Int) ≤ x5) && decide (x5 < (↑(List.length x3):Int)))
      (Tr.test (Option.isSome (f146 ((((List.getD x3 (Int.toNat x5) ([],[],())).1:List Int),(((List.getD x3 (Int.toNat x5) ([],[],())).2.1:List Int),())),())))
        (Tr.test ((Nat.ble (((2:Nat) * (List.length b1_1 + (1:Nat)) + (192:Nat)) * (16:Nat)) (281474976710656:Nat) && Nat.ble (List.length b1_1 + (1:Nat)) (281474976710656:Nat):Bool))
          (let r0:=g146 ((((List.getD x3 (Int.toNat x5) ([],[],())).1:List Int),(((List.getD x3 (Int.toNat x5) ([],[],())).2.1:List Int),())),());
          Tr.fin (.again ((x0,(x3,(x4,((wrap64 (x5 + (1:Int)):Int),())))),((),((b1_0,((b1_1++[(r0.1.1,r0.1.2.1,())]:List (Int×Int×PUnit)),())),())))))
          (Tr.stop))
        (Tr.stop))
      (Tr.stop))
    (Tr.fin (.brk ((x0,()),((),((b1_0,(b1_1,())),())))))

def s92_2 (d:sh92_2.data):Option (Out sh92_2.data shb92_2.data shr92_2.data):=(t92_2 d.1.1 d.1.2.1 d.1.2.2.1 d.1.2.2.2.1 d.2.2.1.1 d.2.2.1.2.1).val
def l92_2 (d:sh92_2.data):Option (shb92_2.data ⊕ shr92_2.data):=itr s92_2 rounds d
def b92_2 (d:sh92_2.data):shb92_2.data:=outB shb92_2.dflt (l92_2 d)
def lc92_2:LoopC:=lcB sh92_2 shb92_2 shr92_2 l92_2 b92_2

theorem wk92_2 (x0:Int) (x3:(List ((List Int)×((List Int)×Unit)))) (x4:Int) (x5:Int) (b1_0:(List ((Int×(Int×Unit))×((Int×(Int×Unit))×Unit)))) (b1_1:(List (Int×(Int×Unit)))):Walks (runBody (kl92_0 Go.Proofs.Tryz.prog).orc Go.Proofs.Tryz.prog 400 92 2 sh92_2 shb92_2 shr92_2 ((x0,x3,x4,x5,()),(),(b1_0,b1_1,()),())) (t92_2 x0 x3 x4 x5 b1_0 b1_1) [(bl 4 15,[2,4,6,8]),(bl 1 0,[2])] :=
  ⟨by kernel_rfl,by kernel_rfl,trivial⟩

theorem ok92_2_t (x0:Int) (x3:(List ((List Int)×((List Int)×Unit)))) (x4:Int) (x5:Int) (b1_0:(List ((Int×(Int×Unit))×((Int×(Int×Unit))×Unit)))) (b1_1:(List (Int×(Int×Unit)))):TrOk (BodyRuns Go.Proofs.Tryz.prog (kl92_0 Go.Proofs.Tryz.prog).orc 92 2 sh92_2 shb92_2 shr92_2 ((x0,x3,x4,x5,()),(),(b1_0,b1_1,()),())) (t92_2 x0 x3 x4 x5 b1_0 b1_1) :=
  Walks.ok (fun _ _ _=>BodyRuns.of) (wk92_2 x0 x3 x4 x5 b1_0 b1_1) (by kernel_rfl)

theorem ok92_2:LoopOk Go.Proofs.Tryz.prog 92 2 lc92_2:=loopOk_ofB (sh:=sh92_2) (shB:=shb92_2) (shR:=shr92_2) kl92_0_ok.base (T:=fun (d:sh92_2.data)=>t92_2 d.1.1 d.1.2.1 d.1.2.2.1 d.1.2.2.2.1 d.2.2.1.1 d.2.2.1.2.1) (by kernel_rfl) rfl (fun (d:sh92_2.data)=>ok92_2_t d.1.1 d.1.2.1 d.1.2.2.1 d.1.2.2.2.1 d.2.2.1.1 d.2.2.1.2.1) (fun _=>rfl)
def kl92_2 (P:Go.Program):Known:=(kl92_0 P).loop 92 2 lc92_2
theorem kl92_2_ok:KnownOk Go.Proofs.Tryz.prog (kl92_2 Go.Proofs.Tryz.prog):=kl92_0_ok.loop ok92_2

/-! ductility/safety.machineAt -/

abbrev as92:List Ty:=[(.pair (.slice .str) (.pair (.slice (.pair .str (.pair (.pair (.slice (.int .i64)) (.pair (.slice (.int .i64)) .unit)) (.pair (.pair (.slice (.int .i64)) (.pair (.slice (.int .i64)) .unit)) .unit)))) (.pair (.slice (.pair (.slice (.int .i64)) (.pair (.slice (.int .i64)) .unit))) .unit))),(.int .i64)]
abbrev rs92:List Ty:=[(.pair (.slice (.pair (.pair (.int .u64) (.pair (.int .u64) .unit)) (.pair (.pair (.int .u64) (.pair (.int .u64) .unit)) .unit))) (.pair (.slice (.pair (.int .u64) (.pair (.int .u64) .unit))) .unit)),(.int .u64),(.int .i64)]

def t92 (x0:(List ByteArray)) (x0':(List (ByteArray×(((List Int)×((List Int)×Unit))×(((List Int)×((List Int)×Unit))×Unit))))) (x0'':(List ((List Int)×((List Int)×Unit)))) (x1:Int):Tr (Tys.data rs92) :=
  Tr.test (Option.isSome (f18 ((x0,(x0',(x0'',()))),(x1,()))))
    (let r0:=g18 ((x0,(x0',(x0'',()))),(x1,()));
    Tr.test ((!eqF r0.1 0:Bool))
      (Tr.fin (((([]:List ((Int×Int×PUnit)×(Int×Int×PUnit)×PUnit)),(([]:List (Int×Int×PUnit)),())),((0:Int),(r0.1,())))))
      (Tr.test (isBrk (l92_0 ((x1,(x0',((↑(List.length x0'):Int),((0:Int),())))),((x0,(x0',(x0'',()))),((),((([]:List ((Int×Int×PUnit)×(Int×Int×PUnit)×PUnit)),()),()))))))
        (let r1:=b92_0 ((x1,(x0',((↑(List.length x0'):Int),((0:Int),())))),((x0,(x0',(x0'',()))),((),((([]:List ((Int×Int×PUnit)×(Int×Int×PUnit)×PUnit)),()),()))));
        Tr.test (isBrk (l92_2 ((r1.1.1,(r1.2.1.2.2.1,((↑(List.length r1.2.1.2.2.1):Int),((0:Int),())))),((),(((r1.2.2.2.1.1:List ((Int×Int×PUnit)×(Int×Int×PUnit)×PUnit)),(([]:List (Int×Int×PUnit)),())),())))))
          (let r2:=b92_2 ((r1.1.1,(r1.2.1.2.2.1,((↑(List.length r1.2.1.2.2.1):Int),((0:Int),())))),((),(((r1.2.2.2.1.1:List ((Int×Int×PUnit)×(Int×Int×PUnit)×PUnit)),(([]:List (Int×Int×PUnit)),())),())));
          Tr.fin ((((r2.2.2.1.1:List ((Int×Int×PUnit)×(Int×Int×PUnit)×PUnit)),(r2.2.2.1.2.1,())),((Go.IntKind.wrap Go.IntKind.u64 r2.1.1:Int),((0:Int),())))))
          (Tr.stop))
        (Tr.stop)))
    (Tr.stop)

def f92 (d:Tys.data as92):Option (Tys.data rs92):=(t92 d.1.1 d.1.2.1 d.1.2.2.1 d.2.1).val
def g92 (d:Tys.data as92):Tys.data rs92:=(f92 d).getD (Tys.dflt rs92)
def p92:PureC:=pcOf as92 rs92 f92 g92

theorem wk92 (x0:(List ByteArray)) (x0':(List (ByteArray×(((List Int)×((List Int)×Unit))×(((List Int)×((List Int)×Unit))×Unit))))) (x0'':(List ((List Int)×((List Int)×Unit)))) (x1:Int):Walks (runPure (kl92_2 Go.Proofs.Tryz.prog).orc Go.Proofs.Tryz.prog 400 92 as92 rs92 ((x0,x0',x0'',()),x1,())) (t92 x0 x0' x0'' x1) [(bl 2 3,[2,4]),(bl 4 13,[1,2,1,4,6,8])] :=
  ⟨by kernel_rfl,by kernel_rfl,trivial⟩

theorem ok92_t (x0:(List ByteArray)) (x0':(List (ByteArray×(((List Int)×((List Int)×Unit))×(((List Int)×((List Int)×Unit))×Unit))))) (x0'':(List ((List Int)×((List Int)×Unit)))) (x1:Int):TrOk (PureRuns Go.Proofs.Tryz.prog (kl92_2 Go.Proofs.Tryz.prog).orc 92 as92 rs92 ((x0,x0',x0'',()),x1,())) (t92 x0 x0' x0'' x1) :=
  Walks.ok (fun _ _ _=>PureRuns.of) (wk92 x0 x0' x0'' x1) (by kernel_rfl)

theorem ok92:PureOk Go.Proofs.Tryz.prog 92 p92:=pureOk_of kl92_2_ok.base (T:=fun (d:Tys.data as92)=>t92 d.1.1 d.1.2.1 d.1.2.2.1 d.2.1) (by kernel_rfl) (fun (d:Tys.data as92)=>ok92_t d.1.1 d.1.2.1 d.1.2.2.1 d.2.1)
def kf92 (P:Go.Program):Known:=(kl92_2 P).func 92 p92
theorem kf92_ok:KnownOk Go.Proofs.Tryz.prog (kf92 Go.Proofs.Tryz.prog):=kl92_2_ok.func ok92

/-! (ductility/safety.flags).pass -/

abbrev as148:List Ty:=[(.int .u64),(.pair (.int .u64) (.pair (.int .u64) .unit))]
abbrev rs148:List Ty:=[.bool]

def t148 (x0:Int) (x1:Int) (x1':Int):Tr (Tys.data rs148) :=
  Tr.test ((andV Go.IntKind.u64 x0 x1 == x1:Bool))
    (Tr.fin ((andV Go.IntKind.u64 x0 x1' == (0:Int),())))
    (Tr.fin ((false,())))

def f148 (d:Tys.data as148):Option (Tys.data rs148):=(t148 d.1 d.2.1.1 d.2.1.2.1).val
def g148 (d:Tys.data as148):Tys.data rs148:=(f148 d).getD (Tys.dflt rs148)
def p148:PureC:=pcOf as148 rs148 f148 g148

theorem wk148 (x0:Int) (x1:Int) (x1':Int):Walks (runPure (kf92 Go.Proofs.Tryz.prog).orc Go.Proofs.Tryz.prog 400 148 as148 rs148 (x0,(x1,x1',()),())) (t148 x0 x1 x1') [(bl 1 1,[2,2,2,2,2,2]),(bl 1 0,[2,2,2,2,2,2])] :=
  ⟨by kernel_rfl,by kernel_rfl,trivial⟩

theorem ok148_t (x0:Int) (x1:Int) (x1':Int):TrOk (PureRuns Go.Proofs.Tryz.prog (kf92 Go.Proofs.Tryz.prog).orc 148 as148 rs148 (x0,(x1,x1',()),())) (t148 x0 x1 x1') :=
  Walks.ok (fun _ _ _=>PureRuns.of) (wk148 x0 x1 x1') (by kernel_rfl)

theorem ok148:PureOk Go.Proofs.Tryz.prog 148 p148:=pureOk_of kf92_ok.base (T:=fun (d:Tys.data as148)=>t148 d.1 d.2.1.1 d.2.1.2.1) (by kernel_rfl) (fun (d:Tys.data as148)=>ok148_t d.1 d.2.1.1 d.2.1.2.1)
def kf148 (P:Go.Program):Known:=(kf92 P).func 148 p148
theorem kf148_ok:KnownOk Go.Proofs.Tryz.prog (kf148 Go.Proofs.Tryz.prog):=kf92_ok.func ok148

/-! (ductility/safety.flags).changed -/

abbrev as149:List Ty:=[(.int .u64),(.pair (.int .u64) (.pair (.int .u64) .unit))]
abbrev rs149:List Ty:=[(.int .u64)]

def t149 (x0:Int) (x1:Int) (x1':Int):Tr (Tys.data rs149) :=
  Tr.fin (((orV Go.IntKind.u64 (andNotV Go.IntKind.u64 x0 x1') x1:Int),()))

def f149 (d:Tys.data as149):Option (Tys.data rs149):=(t149 d.1 d.2.1.1 d.2.1.2.1).val
def g149 (d:Tys.data as149):Tys.data rs149:=(f149 d).getD (Tys.dflt rs149)
def p149:PureC:=pcOf as149 rs149 f149 g149

theorem wk149 (x0:Int) (x1:Int) (x1':Int):Walks (runPure (kf148 Go.Proofs.Tryz.prog).orc Go.Proofs.Tryz.prog 400 149 as149 rs149 (x0,(x1,x1',()),())) (t149 x0 x1 x1') [(bl 0 0,[])] :=
  ⟨by kernel_rfl,trivial⟩

theorem ok149_t (x0:Int) (x1:Int) (x1':Int):TrOk (PureRuns Go.Proofs.Tryz.prog (kf148 Go.Proofs.Tryz.prog).orc 149 as149 rs149 (x0,(x1,x1',()),())) (t149 x0 x1 x1') :=
  Walks.ok (fun _ _ _=>PureRuns.of) (wk149 x0 x1 x1') (by kernel_rfl)

theorem ok149:PureOk Go.Proofs.Tryz.prog 149 p149:=pureOk_of kf148_ok.base (T:=fun (d:Tys.data as149)=>t149 d.1 d.2.1.1 d.2.1.2.1) (by kernel_rfl) (fun (d:Tys.data as149)=>ok149_t d.1 d.2.1.1 d.2.1.2.1)
def kf149 (P:Go.Program):Known:=(kf148 P).func 149 p149
theorem kf149_ok:KnownOk Go.Proofs.Tryz.prog (kf149 Go.Proofs.Tryz.prog):=kf148_ok.func ok149

theorem sc19_0:sameRf Go.Proofs.Tryz.prog 19 0 = true:=sameRf_ok (by kernel_rfl)

/-! loop 0 of (ductility/safety.machine).next$1 -/

abbrev sh147_0 (P:Go.Program):Sh:={ n:=29,slots:=[0,2,7,8,9],pats:=[.yld 0,.ptr 1 1 0,.ty (.slice (.pair (.pair (.int .u64) (.pair (.int .u64) .unit)) (.pair (.pair (.int .u64) (.pair (.int .u64) .unit)) .unit))),.ty (.int .i64),.ty (.int .i64)],boxes:=[.lp (lpOf P 19 0 .ready none 31 [9] 2) [.ptr 3 1 0],.row [.ty (.int .u64)],.dfr,.row [.acc (.int .i64)]] }
abbrev shb147_0 (P:Go.Program):Sh:={ n:=29,slots:=[],pats:=[],boxes:=[.lp (lpOf P 19 0 .ready none 31 [9] 2) [.ptr 3 1 0],.row [.ty (.int .u64)],.dfr,.row [.acc (.int .i64)]] }
abbrev shr147_0 (P:Go.Program):Sh:={ n:=29,slots:=[],pats:=[],boxes:=[.lp (lpOf P 19 0 .ready none 31 [9] 2) [.ptr 3 1 0],.row [.ty (.int .u64)],.dfr,.row [.acc (.int .i64)]] }

abbrev dt147_0:Type:=(List ((Int×Int×PUnit)×(Int×Int×PUnit)×PUnit)×Int×Int×PUnit)×PUnit×(Int×PUnit)×(List Int×PUnit)×PUnit
abbrev db147_0:Type:=PUnit×PUnit×(Int×PUnit)×(List Int×PUnit)×PUnit
abbrev dr147_0:Type:=PUnit×PUnit×(Int×PUnit)×(List Int×PUnit)×PUnit

def t147_0 (x2:(List ((Int×(Int×Unit))×((Int×(Int×Unit))×Unit)))) (x3:Int) (x4:Int) (b1_0:Int) (b3_0:(List Int)):Tr (Out dt147_0 db147_0 dr147_0) :=
  Tr.test ((!leF x3 x4:Bool))
    (Tr.test (decide ((0:Int) ≤ x4) && decide (x4 < (↑(List.length x2):Int)))
      (Tr.test (Option.isSome (f148 (b1_0,((((List.getD x2 (Int.toNat x4) (((0:Int),(0:Int),()),((0:Int),(0:Int),()),())).1.1:Int),(((List.getD x2 (Int.toNat x4) (((0:Int),(0:Int),()),((0:Int),(0:Int),()),())).1.2.1:Int),())),()))))
        (let r0:=g148 (b1_0,((((List.getD x2 (Int.toNat x4) (((0:Int),(0:Int),()),((0:Int),(0:Int),()),())).1.1:Int),(((List.getD x2 (Int.toNat x4) (((0:Int),(0:Int),()),((0:Int),(0:Int),()),())).1.2.1:Int),())),()));
        Tr.test (r0.1)
          (Tr.test (Option.isSome (f149 (b1_0,((((List.getD x2 (Int.toNat x4) (((0:Int),(0:Int),()),((0:Int),(0:Int),()),())).2.1.1:Int),(((List.getD x2 (Int.toNat x4) (((0:Int),(0:Int),()),((0:Int),(0:Int),()),())).2.1.2.1:Int),())),()))))
            (Tr.test ((Nat.ble (((2:Nat) * (List.length b3_0 + (1:Nat)) + (192:Nat)) * (8:Nat)) (281474976710656:Nat) && Nat.ble (List.length b3_0 + (1:Nat)) (281474976710656:Nat):Bool))
              (Tr.fin (.again ((x2,(x3,((wrap64 (x4 + (1:Int)):Int),()))),((),((b1_0,()),(((b3_0++[x4]:List Int),()),()))))))
              (Tr.stop))
            (Tr.stop))
          (Tr.fin (.again ((x2,(x3,((wrap64 (x4 + (1:Int)):Int),()))),((),((b1_0,()),((b3_0,()),())))))))
        (Tr.stop))
      (Tr.stop))
    (Tr.fin (.brk ((),((),((b1_0,()),((b3_0,()),()))))))

def s147_0 (d:dt147_0):Option (Out dt147_0 db147_0 dr147_0):=(t147_0 d.1.1 d.1.2.1 d.1.2.2.1 d.2.2.1.1 d.2.2.2.1.1).val
def l147_0 (d:dt147_0):Option (db147_0 ⊕ dr147_0):=itr s147_0 rounds d
def b147_0 (d:dt147_0):db147_0:=outB (((),((),(((0:Int),()),((([]:List Int),()),()))))) (l147_0 d)
def lc147_0 (P:Go.Program):LoopC:=lcB (sh147_0 P) (shb147_0 P) (shr147_0 P) l147_0 b147_0

theorem e147_0_0 (x2:(List ((Int×(Int×Unit))×((Int×(Int×Unit))×Unit)))) (x3:Int) (x4:Int) (b1_0:Int) (b3_0:(List Int)):runBody (kf149 Go.Proofs.Tryz.prog).orc Go.Proofs.Tryz.prog 400 147 0 (sh147_0 Go.Proofs.Tryz.prog) (shb147_0 Go.Proofs.Tryz.prog) (shr147_0 Go.Proofs.Tryz.prog) ((x2,x3,x4,()),(),(b1_0,()),(b3_0,()),()) [tt,tt,tt,tt,tt,tt,tt,tt,tt,tt,tt,tt,tt,tt,tt,tt,ff] =
    (let r0:=g148 (b1_0,((((List.getD x2 (Int.toNat x4) (((0:Int),(0:Int),()),((0:Int),(0:Int),()),())).1.1:Int),(((List.getD x2 (Int.toNat x4) (((0:Int),(0:Int),()),((0:Int),(0:Int),()),())).1.2.1:Int),())),())); some (.again ((x2,(x3,((wrap64 (x4 + (1:Int)):Int),()))),((),((b1_0,()),(((b3_0++[x4]:List Int),()),())))),[(sameRf Go.Proofs.Tryz.prog (nat_lit 19) (nat_lit 0),true),(false,false),(r0.1,true),(r0.1,true),(Nat.ble (((2:Nat) * (List.length b3_0 + (1:Nat)) + (192:Nat)) * (8:Nat)) (281474976710656:Nat) && Nat.ble (List.length b3_0 + (1:Nat)) (281474976710656:Nat),true),(r0.1,true),(Option.isSome (f149 (b1_0,((((List.getD x2 (Int.toNat x4) (((0:Int),(0:Int),()),((0:Int),(0:Int),()),())).2.1.1:Int),(((List.getD x2 (Int.toNat x4) (((0:Int),(0:Int),()),((0:Int),(0:Int),()),())).2.1.2.1:Int),())),()))),true),(r0.1,true),(true,true),(r0.1,true),(r0.1,true),(r0.1,true),(r0.1,true),(r0.1,true),(Option.isSome (f148 (b1_0,((((List.getD x2 (Int.toNat x4) (((0:Int),(0:Int),()),((0:Int),(0:Int),()),())).1.1:Int),(((List.getD x2 (Int.toNat x4) (((0:Int),(0:Int),()),((0:Int),(0:Int),()),())).1.2.1:Int),())),()))),true),(true,true),(decide ((0:Int) ≤ x4) && decide (x4 < (↑(List.length x2):Int)),true),(!leF x3 x4,true)])):=by kernel_rfl
theorem e147_0_2 (x2:(List ((Int×(Int×Unit))×((Int×(Int×Unit))×Unit)))) (x3:Int) (x4:Int) (b1_0:Int) (b3_0:(List Int)):runBody (kf149 Go.Proofs.Tryz.prog).orc Go.Proofs.Tryz.prog 400 147 0 (sh147_0 Go.Proofs.Tryz.prog) (shb147_0 Go.Proofs.Tryz.prog) (shr147_0 Go.Proofs.Tryz.prog) ((x2,x3,x4,()),(),(b1_0,()),(b3_0,()),()) [tt,tt,tt,tt,ff,ff,ff,ff,ff,ff,ff,ff,ff,ff] =
    (let r0:=g148 (b1_0,((((List.getD x2 (Int.toNat x4) (((0:Int),(0:Int),()),((0:Int),(0:Int),()),())).1.1:Int),(((List.getD x2 (Int.toNat x4) (((0:Int),(0:Int),()),((0:Int),(0:Int),()),())).1.2.1:Int),())),())); some (.again ((x2,(x3,((wrap64 (x4 + (1:Int)):Int),()))),((),((b1_0,()),((b3_0,()),())))),[(sameRf Go.Proofs.Tryz.prog (nat_lit 19) (nat_lit 0),true),(false,false),(r0.1,false),(r0.1,false),(r0.1,false),(r0.1,false),(r0.1,false),(r0.1,false),(r0.1,false),(r0.1,false),(r0.1,false),(Option.isSome (f148 (b1_0,((((List.getD x2 (Int.toNat x4) (((0:Int),(0:Int),()),((0:Int),(0:Int),()),())).1.1:Int),(((List.getD x2 (Int.toNat x4) (((0:Int),(0:Int),()),((0:Int),(0:Int),()),())).1.2.1:Int),())),()))),true),(true,true),(decide ((0:Int) ≤ x4) && decide (x4 < (↑(List.length x2):Int)),true),(!leF x3 x4,true)])):=by kernel_rfl
theorem e147_0_4 (x2:(List ((Int×(Int×Unit))×((Int×(Int×Unit))×Unit)))) (x3:Int) (x4:Int) (b1_0:Int) (b3_0:(List Int)):runBody (kf149 Go.Proofs.Tryz.prog).orc Go.Proofs.Tryz.prog 400 147 0 (sh147_0 Go.Proofs.Tryz.prog) (shb147_0 Go.Proofs.Tryz.prog) (shr147_0 Go.Proofs.Tryz.prog) ((x2,x3,x4,()),(),(b1_0,()),(b3_0,()),()) [ff] =
    (some (.brk ((),((),((b1_0,()),((b3_0,()),())))),[(sameRf Go.Proofs.Tryz.prog (nat_lit 19) (nat_lit 0),true),(!leF x3 x4,false)])):=by kernel_rfl

theorem ok147_0_t (x2:(List ((Int×(Int×Unit))×((Int×(Int×Unit))×Unit)))) (x3:Int) (x4:Int) (b1_0:Int) (b3_0:(List Int)):TrOk (BodyRuns Go.Proofs.Tryz.prog (kf149 Go.Proofs.Tryz.prog).orc 147 0 (sh147_0 Go.Proofs.Tryz.prog) (shb147_0 Go.Proofs.Tryz.prog) (shr147_0 Go.Proofs.Tryz.prog) ((x2,x3,x4,()),(),(b1_0,()),(b3_0,()),())) (t147_0 x2 x3 x4 b1_0 b3_0) :=
  TrOk.ofTest (fun h0=>TrOk.ofTest (fun h1=>TrOk.ofTest (fun h3=>TrOk.ofTest (fun h4=>TrOk.ofTest (fun h11=>TrOk.ofTest (fun h13=>TrOk.ofFin (BodyRuns.of (e147_0_0 x2 x3 x4 b1_0 b3_0) (ac (sc19_0) (ac rfl (ac h4 (ac h4 (ac h13 (ac h4 (ac h11 (ac h4 (ac rfl (ac h4 (ac h4 (ac h4 (ac h4 (ac h4 (ac h3 (ac rfl (ac h1 (ac h0 All.nil)))))))))))))))))))) (fun h13=>TrOk.ofStop)) (fun h11=>TrOk.ofStop)) (fun h4=>TrOk.ofFin (BodyRuns.of (e147_0_2 x2 x3 x4 b1_0 b3_0) (ac (sc19_0) (ac rfl (ac h4 (ac h4 (ac h4 (ac h4 (ac h4 (ac h4 (ac h4 (ac h4 (ac h4 (ac h3 (ac rfl (ac h1 (ac h0 All.nil)))))))))))))))))) (fun h3=>TrOk.ofStop)) (fun h1=>TrOk.ofStop)) (fun h0=>TrOk.ofFin (BodyRuns.of (e147_0_4 x2 x3 x4 b1_0 b3_0) (ac (sc19_0) (ac h0 All.nil))))

theorem ok147_0:LoopOk Go.Proofs.Tryz.prog 147 0 (lc147_0 Go.Proofs.Tryz.prog):=loopOk_ofB (sh:=(sh147_0 Go.Proofs.Tryz.prog)) (shB:=(shb147_0 Go.Proofs.Tryz.prog)) (shR:=(shr147_0 Go.Proofs.Tryz.prog)) kf149_ok.base (T:=fun (d:dt147_0)=>t147_0 d.1.1 d.1.2.1 d.1.2.2.1 d.2.2.1.1 d.2.2.2.1.1) (by kernel_rfl) rfl (fun (d:dt147_0)=>ok147_0_t d.1.1 d.1.2.1 d.1.2.2.1 d.2.2.1.1 d.2.2.2.1.1) (fun _=>rfl)
def kl147_0 (P:Go.Program):Known:=(kf149 P).loop 147 0 (lc147_0 P)
theorem kl147_0_ok:KnownOk Go.Proofs.Tryz.prog (kl147_0 Go.Proofs.Tryz.prog):=kf149_ok.loop ok147_0

/-! ductility/safety.ActionsFrom -/

abbrev as19:List Ty:=[(.pair (.slice .str) (.pair (.slice (.pair .str (.pair (.pair (.slice (.int .i64)) (.pair (.slice (.int .i64)) .unit)) (.pair (.pair (.slice (.int .i64)) (.pair (.slice (.int .i64)) .unit)) .unit)))) (.pair (.slice (.pair (.slice (.int .i64)) (.pair (.slice (.int .i64)) .unit))) .unit))),(.int .i64)]
abbrev rs19:List Ty:=[(.slice (.int .i64)),(.int .i64)]

def t19 (x0:(List ByteArray)) (x0':(List (ByteArray×(((List Int)×((List Int)×Unit))×(((List Int)×((List Int)×Unit))×Unit))))) (x0'':(List ((List Int)×((List Int)×Unit)))) (x1:Int):Tr (Tys.data rs19) :=
  Tr.test (Option.isSome (f92 ((x0,(x0',(x0'',()))),(x1,()))))
    (let r0:=g92 ((x0,(x0',(x0'',()))),(x1,()));
    Tr.test ((!eqF r0.2.2.1 0:Bool))
      (Tr.fin ((([]:List Int),(r0.2.2.1,()))))
      (Tr.test (isBrk (l147_0 (((r0.1.1:List ((Int×Int×PUnit)×(Int×Int×PUnit)×PUnit)),((↑(List.length r0.1.1):Int),((0:Int),()))),((),((r0.2.1,()),((([]:List Int),()),()))))))
        (let r1:=b147_0 (((r0.1.1:List ((Int×Int×PUnit)×(Int×Int×PUnit)×PUnit)),((↑(List.length r0.1.1):Int),((0:Int),()))),((),((r0.2.1,()),((([]:List Int),()),()))));
        Tr.fin ((r1.2.2.2.1.1,((0:Int),()))))
        (Tr.stop)))
    (Tr.stop)

def f19 (d:Tys.data as19):Option (Tys.data rs19):=(t19 d.1.1 d.1.2.1 d.1.2.2.1 d.2.1).val
def g19 (d:Tys.data as19):Tys.data rs19:=(f19 d).getD (Tys.dflt rs19)
def p19:PureC:=pcOf as19 rs19 f19 g19

theorem e19_0 (x0:(List ByteArray)) (x0':(List (ByteArray×(((List Int)×((List Int)×Unit))×(((List Int)×((List Int)×Unit))×Unit))))) (x0'':(List ((List Int)×((List Int)×Unit)))) (x1:Int):runPure (kl147_0 Go.Proofs.Tryz.prog).orc Go.Proofs.Tryz.prog 400 19 as19 rs19 ((x0,x0',x0'',()),x1,()) [tt,tt] =
    (let r0:=g92 ((x0,(x0',(x0'',()))),(x1,())); some ((([]:List Int),(r0.2.2.1,())),[(!eqF r0.2.2.1 0,true),(Option.isSome (f92 ((x0,(x0',(x0'',()))),(x1,()))),true)])):=by kernel_rfl
theorem e19_1 (x0:(List ByteArray)) (x0':(List (ByteArray×(((List Int)×((List Int)×Unit))×(((List Int)×((List Int)×Unit))×Unit))))) (x0'':(List ((List Int)×((List Int)×Unit)))) (x1:Int):runPure (kl147_0 Go.Proofs.Tryz.prog).orc Go.Proofs.Tryz.prog 400 19 as19 rs19 ((x0,x0',x0'',()),x1,()) [tt,ff,tt,tt,tt] =
    (let r0:=g92 ((x0,(x0',(x0'',()))),(x1,()));let r1:=b147_0 (((r0.1.1:List ((Int×Int×PUnit)×(Int×Int×PUnit)×PUnit)),((↑(List.length r0.1.1):Int),((0:Int),()))),((),((r0.2.1,()),((([]:List Int),()),())))); some ((r1.2.2.2.1.1,((0:Int),())),[(true,true),(isBrk (l147_0 (((r0.1.1:List ((Int×Int×PUnit)×(Int×Int×PUnit)×PUnit)),((↑(List.length r0.1.1):Int),((0:Int),()))),((),((r0.2.1,()),((([]:List Int),()),()))))),true),(sameRf Go.Proofs.Tryz.prog (nat_lit 19) (nat_lit 0),true),(!eqF r0.2.2.1 0,false),(Option.isSome (f92 ((x0,(x0',(x0'',()))),(x1,()))),true)])):=by kernel_rfl

theorem ok19_t (x0:(List ByteArray)) (x0':(List (ByteArray×(((List Int)×((List Int)×Unit))×(((List Int)×((List Int)×Unit))×Unit))))) (x0'':(List ((List Int)×((List Int)×Unit)))) (x1:Int):TrOk (PureRuns Go.Proofs.Tryz.prog (kl147_0 Go.Proofs.Tryz.prog).orc 19 as19 rs19 ((x0,x0',x0'',()),x1,())) (t19 x0 x0' x0'' x1) :=
  TrOk.ofTest (fun h0=>TrOk.ofTest (fun h1=>TrOk.ofFin (PureRuns.of (e19_0 x0 x0' x0'' x1) (ac h1 (ac h0 All.nil)))) (fun h1=>TrOk.ofTest (fun h3=>TrOk.ofFin (PureRuns.of (e19_1 x0 x0' x0'' x1) (ac rfl (ac h3 (ac (sc19_0) (ac h1 (ac h0 All.nil))))))) (fun h3=>TrOk.ofStop))) (fun h0=>TrOk.ofStop)

theorem ok19:PureOk Go.Proofs.Tryz.prog 19 p19:=pureOk_of kl147_0_ok.base (T:=fun (d:Tys.data as19)=>t19 d.1.1 d.1.2.1 d.1.2.2.1 d.2.1) (by kernel_rfl) (fun (d:Tys.data as19)=>ok19_t d.1.1 d.1.2.1 d.1.2.2.1 d.2.1)
def kf19 (P:Go.Program):Known:=(kl147_0 P).func 19 p19
theorem kf19_ok:KnownOk Go.Proofs.Tryz.prog (kf19 Go.Proofs.Tryz.prog):=kl147_0_ok.func ok19

theorem sc20_0:sameRf Go.Proofs.Tryz.prog 20 0 = true:=sameRf_ok (by kernel_rfl)

/-! loop 0 of (ductility/safety.machine).next$1 -/

abbrev sh147_0_1 (P:Go.Program):Sh:={ n:=29,slots:=[0,2,7,8,9],pats:=[.yld 0,.ptr 1 1 0,.ty (.slice (.pair (.pair (.int .u64) (.pair (.int .u64) .unit)) (.pair (.pair (.int .u64) (.pair (.int .u64) .unit)) .unit))),.ty (.int .i64),.ty (.int .i64)],boxes:=[.lp (lpOf P 20 0 .ready none 45 [5,6,7] 2) [.ptr 3 1 0,.ptr 4 1 0,.ptr 5 1 0],.row [.ty (.int .u64)],.dfr,.row [.ty (.int .i64)],.row [.ty (.int .i64)],.row [.ty (.int .i64)]] }
abbrev shb147_0_1 (P:Go.Program):Sh:={ n:=29,slots:=[],pats:=[],boxes:=[.lp (lpOf P 20 0 .ready none 45 [5,6,7] 2) [.ptr 3 1 0,.ptr 4 1 0,.ptr 5 1 0],.row [.ty (.int .u64)],.dfr,.row [.ty (.int .i64)],.row [.ty (.int .i64)],.row [.ty (.int .i64)]] }
abbrev shr147_0_1 (P:Go.Program):Sh:={ n:=29,slots:=[],pats:=[],boxes:=[.lp (lpOf P 20 0 .done (some none) 45 [5,6,7] 2) [.ptr 3 1 0,.ptr 4 1 0,.ptr 5 1 0],.row [.ty (.int .u64)],.dfr,.row [.ty (.int .i64)],.row [.ty (.int .i64)],.row [.ty (.int .i64)]] }

abbrev dt147_0_1:Type:=(List ((Int×Int×PUnit)×(Int×Int×PUnit)×PUnit)×Int×Int×PUnit)×PUnit×(Int×PUnit)×(Int×PUnit)×(Int×PUnit)×(Int×PUnit)×PUnit
abbrev db147_0_1:Type:=PUnit×PUnit×(Int×PUnit)×(Int×PUnit)×(Int×PUnit)×(Int×PUnit)×PUnit
abbrev dr147_0_1:Type:=PUnit×PUnit×(Int×PUnit)×(Int×PUnit)×(Int×PUnit)×(Int×PUnit)×PUnit

def t147_0_1 (x2:(List ((Int×(Int×Unit))×((Int×(Int×Unit))×Unit)))) (x3:Int) (x4:Int) (b1_0:Int) (b3_0:Int) (b4_0:Int) (b5_0:Int):Tr (Out dt147_0_1 db147_0_1 dr147_0_1) :=
  Tr.test ((!leF x3 x4:Bool))
    (Tr.test (decide ((0:Int) ≤ x4) && decide (x4 < (↑(List.length x2):Int)))
      (Tr.test (Option.isSome (f148 (b1_0,((((List.getD x2 (Int.toNat x4) (((0:Int),(0:Int),()),((0:Int),(0:Int),()),())).1.1:Int),(((List.getD x2 (Int.toNat x4) (((0:Int),(0:Int),()),((0:Int),(0:Int),()),())).1.2.1:Int),())),()))))
        (let r0:=g148 (b1_0,((((List.getD x2 (Int.toNat x4) (((0:Int),(0:Int),()),((0:Int),(0:Int),()),())).1.1:Int),(((List.getD x2 (Int.toNat x4) (((0:Int),(0:Int),()),((0:Int),(0:Int),()),())).1.2.1:Int),())),()));
        Tr.test (r0.1)
          (Tr.test (Option.isSome (f149 (b1_0,((((List.getD x2 (Int.toNat x4) (((0:Int),(0:Int),()),((0:Int),(0:Int),()),())).2.1.1:Int),(((List.getD x2 (Int.toNat x4) (((0:Int),(0:Int),()),((0:Int),(0:Int),()),())).2.1.2.1:Int),())),()))))
            (Tr.test ((eqF x4 b3_0:Bool))
              (let r1:=g149 (b1_0,((((List.getD x2 (Int.toNat x4) (((0:Int),(0:Int),()),((0:Int),(0:Int),()),())).2.1.1:Int),(((List.getD x2 (Int.toNat x4) (((0:Int),(0:Int),()),((0:Int),(0:Int),()),())).2.1.2.1:Int),())),()));
              Tr.fin (.ret ((),((),((b1_0,()),((b3_0,()),(((Go.IntKind.wrap Go.IntKind.i64 r1.1:Int),()),(((0:Int),()),()))))))))
              (Tr.fin (.again ((x2,(x3,((wrap64 (x4 + (1:Int)):Int),()))),((),((b1_0,()),((b3_0,()),((b4_0,()),((b5_0,()),())))))))))
            (Tr.stop))
          (Tr.fin (.again ((x2,(x3,((wrap64 (x4 + (1:Int)):Int),()))),((),((b1_0,()),((b3_0,()),((b4_0,()),((b5_0,()),())))))))))
        (Tr.stop))
      (Tr.stop))
    (Tr.fin (.brk ((),((),((b1_0,()),((b3_0,()),((b4_0,()),((b5_0,()),()))))))))

def s147_0_1 (d:dt147_0_1):Option (Out dt147_0_1 db147_0_1 dr147_0_1):=(t147_0_1 d.1.1 d.1.2.1 d.1.2.2.1 d.2.2.1.1 d.2.2.2.1.1 d.2.2.2.2.1.1 d.2.2.2.2.2.1.1).val
def l147_0_1 (d:dt147_0_1):Option (db147_0_1 ⊕ dr147_0_1):=itr s147_0_1 rounds d
def b147_0_1 (d:dt147_0_1):db147_0_1:=outB (((),((),(((0:Int),()),(((0:Int),()),(((0:Int),()),(((0:Int),()),()))))))) (l147_0_1 d)
def r147_0_1 (d:dt147_0_1):dr147_0_1:=outR (((),((),(((0:Int),()),(((0:Int),()),(((0:Int),()),(((0:Int),()),()))))))) (l147_0_1 d)
def lc147_0_1 (P:Go.Program):LoopC:=lcOf (sh147_0_1 P) (shb147_0_1 P) (shr147_0_1 P) l147_0_1 b147_0_1 r147_0_1

theorem e147_0_1_0 (x2:(List ((Int×(Int×Unit))×((Int×(Int×Unit))×Unit)))) (x3:Int) (x4:Int) (b1_0:Int) (b3_0:Int) (b4_0:Int) (b5_0:Int):runBody (kf19 Go.Proofs.Tryz.prog).orc Go.Proofs.Tryz.prog 400 147 0 (sh147_0_1 Go.Proofs.Tryz.prog) (shb147_0_1 Go.Proofs.Tryz.prog) (shr147_0_1 Go.Proofs.Tryz.prog) ((x2,x3,x4,()),(),(b1_0,()),(b3_0,()),(b4_0,()),(b5_0,()),()) [tt,tt,tt,tt,tt,tt,tt,tt,tt,tt,tt,tt,tt,tt,tt,tt,tt] =
    (let r0:=g148 (b1_0,((((List.getD x2 (Int.toNat x4) (((0:Int),(0:Int),()),((0:Int),(0:Int),()),())).1.1:Int),(((List.getD x2 (Int.toNat x4) (((0:Int),(0:Int),()),((0:Int),(0:Int),()),())).1.2.1:Int),())),()));let r1:=g149 (b1_0,((((List.getD x2 (Int.toNat x4) (((0:Int),(0:Int),()),((0:Int),(0:Int),()),())).2.1.1:Int),(((List.getD x2 (Int.toNat x4) (((0:Int),(0:Int),()),((0:Int),(0:Int),()),())).2.1.2.1:Int),())),())); some (.ret ((),((),((b1_0,()),((b3_0,()),(((Go.IntKind.wrap Go.IntKind.i64 r1.1:Int),()),(((0:Int),()),())))))),[(sameRf Go.Proofs.Tryz.prog (nat_lit 20) (nat_lit 0),true),(true,true),(r0.1,true),(r0.1,true),(eqF x4 b3_0,true),(r0.1,true),(Option.isSome (f149 (b1_0,((((List.getD x2 (Int.toNat x4) (((0:Int),(0:Int),()),((0:Int),(0:Int),()),())).2.1.1:Int),(((List.getD x2 (Int.toNat x4) (((0:Int),(0:Int),()),((0:Int),(0:Int),()),())).2.1.2.1:Int),())),()))),true),(r0.1,true),(true,true),(r0.1,true),(r0.1,true),(r0.1,true),(r0.1,true),(r0.1,true),(Option.isSome (f148 (b1_0,((((List.getD x2 (Int.toNat x4) (((0:Int),(0:Int),()),((0:Int),(0:Int),()),())).1.1:Int),(((List.getD x2 (Int.toNat x4) (((0:Int),(0:Int),()),((0:Int),(0:Int),()),())).1.2.1:Int),())),()))),true),(true,true),(decide ((0:Int) ≤ x4) && decide (x4 < (↑(List.length x2):Int)),true),(!leF x3 x4,true)])):=by kernel_rfl
theorem e147_0_1_1 (x2:(List ((Int×(Int×Unit))×((Int×(Int×Unit))×Unit)))) (x3:Int) (x4:Int) (b1_0:Int) (b3_0:Int) (b4_0:Int) (b5_0:Int):runBody (kf19 Go.Proofs.Tryz.prog).orc Go.Proofs.Tryz.prog 400 147 0 (sh147_0_1 Go.Proofs.Tryz.prog) (shb147_0_1 Go.Proofs.Tryz.prog) (shr147_0_1 Go.Proofs.Tryz.prog) ((x2,x3,x4,()),(),(b1_0,()),(b3_0,()),(b4_0,()),(b5_0,()),()) [tt,tt,tt,tt,tt,tt,tt,tt,tt,tt,tt,tt,tt,ff,tt,tt,ff] =
    (let r0:=g148 (b1_0,((((List.getD x2 (Int.toNat x4) (((0:Int),(0:Int),()),((0:Int),(0:Int),()),())).1.1:Int),(((List.getD x2 (Int.toNat x4) (((0:Int),(0:Int),()),((0:Int),(0:Int),()),())).1.2.1:Int),())),())); some (.again ((x2,(x3,((wrap64 (x4 + (1:Int)):Int),()))),((),((b1_0,()),((b3_0,()),((b4_0,()),((b5_0,()),())))))),[(sameRf Go.Proofs.Tryz.prog (nat_lit 20) (nat_lit 0),true),(false,false),(r0.1,true),(r0.1,true),(eqF x4 b3_0,false),(r0.1,true),(Option.isSome (f149 (b1_0,((((List.getD x2 (Int.toNat x4) (((0:Int),(0:Int),()),((0:Int),(0:Int),()),())).2.1.1:Int),(((List.getD x2 (Int.toNat x4) (((0:Int),(0:Int),()),((0:Int),(0:Int),()),())).2.1.2.1:Int),())),()))),true),(r0.1,true),(true,true),(r0.1,true),(r0.1,true),(r0.1,true),(r0.1,true),(r0.1,true),(Option.isSome (f148 (b1_0,((((List.getD x2 (Int.toNat x4) (((0:Int),(0:Int),()),((0:Int),(0:Int),()),())).1.1:Int),(((List.getD x2 (Int.toNat x4) (((0:Int),(0:Int),()),((0:Int),(0:Int),()),())).1.2.1:Int),())),()))),true),(true,true),(decide ((0:Int) ≤ x4) && decide (x4 < (↑(List.length x2):Int)),true),(!leF x3 x4,true)])):=by kernel_rfl
theorem e147_0_1_2 (x2:(List ((Int×(Int×Unit))×((Int×(Int×Unit))×Unit)))) (x3:Int) (x4:Int) (b1_0:Int) (b3_0:Int) (b4_0:Int) (b5_0:Int):runBody (kf19 Go.Proofs.Tryz.prog).orc Go.Proofs.Tryz.prog 400 147 0 (sh147_0_1 Go.Proofs.Tryz.prog) (shb147_0_1 Go.Proofs.Tryz.prog) (shr147_0_1 Go.Proofs.Tryz.prog) ((x2,x3,x4,()),(),(b1_0,()),(b3_0,()),(b4_0,()),(b5_0,()),()) [tt,tt,tt,tt,ff,ff,ff,ff,ff,ff,ff,ff,ff,ff] =
    (let r0:=g148 (b1_0,((((List.getD x2 (Int.toNat x4) (((0:Int),(0:Int),()),((0:Int),(0:Int),()),())).1.1:Int),(((List.getD x2 (Int.toNat x4) (((0:Int),(0:Int),()),((0:Int),(0:Int),()),())).1.2.1:Int),())),())); some (.again ((x2,(x3,((wrap64 (x4 + (1:Int)):Int),()))),((),((b1_0,()),((b3_0,()),((b4_0,()),((b5_0,()),())))))),[(sameRf Go.Proofs.Tryz.prog (nat_lit 20) (nat_lit 0),true),(false,false),(r0.1,false),(r0.1,false),(r0.1,false),(r0.1,false),(r0.1,false),(r0.1,false),(r0.1,false),(r0.1,false),(r0.1,false),(Option.isSome (f148 (b1_0,((((List.getD x2 (Int.toNat x4) (((0:Int),(0:Int),()),((0:Int),(0:Int),()),())).1.1:Int),(((List.getD x2 (Int.toNat x4) (((0:Int),(0:Int),()),((0:Int),(0:Int),()),())).1.2.1:Int),())),()))),true),(true,true),(decide ((0:Int) ≤ x4) && decide (x4 < (↑(List.length x2):Int)),true),(!leF x3 x4,true)])):=by kernel_rfl
theorem e147_0_1_4 (x2:(List ((Int×(Int×Unit))×((Int×(Int×Unit))×Unit)))) (x3:Int) (x4:Int) (b1_0:Int) (b3_0:Int) (b4_0:Int) (b5_0:Int):runBody (kf19 Go.Proofs.Tryz.prog).orc Go.Proofs.Tryz.prog 400 147 0 (sh147_0_1 Go.Proofs.Tryz.prog) (shb147_0_1 Go.Proofs.Tryz.prog) (shr147_0_1 Go.Proofs.Tryz.prog) ((x2,x3,x4,()),(),(b1_0,()),(b3_0,()),(b4_0,()),(b5_0,()),()) [ff] =
    (some (.brk ((),((),((b1_0,()),((b3_0,()),((b4_0,()),((b5_0,()),())))))),[(sameRf Go.Proofs.Tryz.prog (nat_lit 20) (nat_lit 0),true),(!leF x3 x4,false)])):=by kernel_rfl

theorem ok147_0_1_t (x2:(List ((Int×(Int×Unit))×((Int×(Int×Unit))×Unit)))) (x3:Int) (x4:Int) (b1_0:Int) (b3_0:Int) (b4_0:Int) (b5_0:Int):TrOk (BodyRuns Go.Proofs.Tryz.prog (kf19 Go.Proofs.Tryz.prog).orc 147 0 (sh147_0_1 Go.Proofs.Tryz.prog) (shb147_0_1 Go.Proofs.Tryz.prog) (shr147_0_1 Go.Proofs.Tryz.prog) ((x2,x3,x4,()),(),(b1_0,()),(b3_0,()),(b4_0,()),(b5_0,()),())) (t147_0_1 x2 x3 x4 b1_0 b3_0 b4_0 b5_0) :=
  TrOk.ofTest (fun h0=>TrOk.ofTest (fun h1=>TrOk.ofTest (fun h3=>TrOk.ofTest (fun h4=>TrOk.ofTest (fun h11=>TrOk.ofTest (fun h13=>TrOk.ofFin (BodyRuns.of (e147_0_1_0 x2 x3 x4 b1_0 b3_0 b4_0 b5_0) (ac (sc20_0) (ac rfl (ac h4 (ac h4 (ac h13 (ac h4 (ac h11 (ac h4 (ac rfl (ac h4 (ac h4 (ac h4 (ac h4 (ac h4 (ac h3 (ac rfl (ac h1 (ac h0 All.nil)))))))))))))))))))) (fun h13=>TrOk.ofFin (BodyRuns.of (e147_0_1_1 x2 x3 x4 b1_0 b3_0 b4_0 b5_0) (ac (sc20_0) (ac rfl (ac h4 (ac h4 (ac h13 (ac h4 (ac h11 (ac h4 (ac rfl (ac h4 (ac h4 (ac h4 (ac h4 (ac h4 (ac h3 (ac rfl (ac h1 (ac h0 All.nil))))))))))))))))))))) (fun h11=>TrOk.ofStop)) (fun h4=>TrOk.ofFin (BodyRuns.of (e147_0_1_2 x2 x3 x4 b1_0 b3_0 b4_0 b5_0) (ac (sc20_0) (ac rfl (ac h4 (ac h4 (ac h4 (ac h4 (ac h4 (ac h4 (ac h4 (ac h4 (ac h4 (ac h3 (ac rfl (ac h1 (ac h0 All.nil)))))))))))))))))) (fun h3=>TrOk.ofStop)) (fun h1=>TrOk.ofStop)) (fun h0=>TrOk.ofFin (BodyRuns.of (e147_0_1_4 x2 x3 x4 b1_0 b3_0 b4_0 b5_0) (ac (sc20_0) (ac h0 All.nil))))

theorem ok147_0_1:LoopOk Go.Proofs.Tryz.prog 147 0 (lc147_0_1 Go.Proofs.Tryz.prog):=loopOk_of (sh:=(sh147_0_1 Go.Proofs.Tryz.prog)) (shB:=(shb147_0_1 Go.Proofs.Tryz.prog)) (shR:=(shr147_0_1 Go.Proofs.Tryz.prog)) kf19_ok.base (T:=fun (d:dt147_0_1)=>t147_0_1 d.1.1 d.1.2.1 d.1.2.2.1 d.2.2.1.1 d.2.2.2.1.1 d.2.2.2.2.1.1 d.2.2.2.2.2.1.1) (by kernel_rfl) rfl (fun (d:dt147_0_1)=>ok147_0_1_t d.1.1 d.1.2.1 d.1.2.2.1 d.2.2.1.1 d.2.2.2.1.1 d.2.2.2.2.1.1 d.2.2.2.2.2.1.1) (fun _=>rfl)
def kl147_0_1 (P:Go.Program):Known:=(kf19 P).loop 147 0 (lc147_0_1 P)
theorem kl147_0_1_ok:KnownOk Go.Proofs.Tryz.prog (kl147_0_1 Go.Proofs.Tryz.prog):=kf19_ok.loop ok147_0_1

/-! ductility/safety.NextBy -/

abbrev as20:List Ty:=[(.pair (.slice .str) (.pair (.slice (.pair .str (.pair (.pair (.slice (.int .i64)) (.pair (.slice (.int .i64)) .unit)) (.pair (.pair (.slice (.int .i64)) (.pair (.slice (.int .i64)) .unit)) .unit)))) (.pair (.slice (.pair (.slice (.int .i64)) (.pair (.slice (.int .i64)) .unit))) .unit))),(.int .i64),(.int .i64)]
abbrev rs20:List Ty:=[(.int .i64),(.int .i64)]

def t20 (x0:(List ByteArray)) (x0':(List (ByteArray×(((List Int)×((List Int)×Unit))×(((List Int)×((List Int)×Unit))×Unit))))) (x0'':(List ((List Int)×((List Int)×Unit)))) (x1:Int) (x2:Int):Tr (Tys.data rs20) :=
  Tr.test (Option.isSome (f92 ((x0,(x0',(x0'',()))),(x1,()))))
    (Tr.test (Option.isSome (f94 ((0:Int),((wrap64 ((↑(List.length x0'):Int) - (1:Int)):Int),(([x2]:List Int),())))))
      (let r1:=g94 ((0:Int),((wrap64 ((↑(List.length x0'):Int) - (1:Int)):Int),(([x2]:List Int),())));
      Tr.test (Option.isSome (f80 ((!r1.1:Bool),((6:Int),()))))
        (let r0:=g92 ((x0,(x0',(x0'',()))),(x1,()));
        let r2:=g80 ((!r1.1:Bool),((6:Int),()));
        Tr.test (Option.isSome (f79 (([r0.2.2.1,r2.1]:List Int),())))
          (let r3:=g79 (([r0.2.2.1,r2.1]:List Int),());
          Tr.test ((!eqF r3.1 0:Bool))
            (Tr.fin (((0:Int),(r3.1,()))))
            (Tr.test (Option.isSome (l147_0_1 (((r0.1.1:List ((Int×Int×PUnit)×(Int×Int×PUnit)×PUnit)),((↑(List.length r0.1.1):Int),((0:Int),()))),((),((r0.2.1,()),((x2,()),(((0:Int),()),(((0:Int),()),()))))))))
              (Tr.test (isRet (l147_0_1 (((r0.1.1:List ((Int×Int×PUnit)×(Int×Int×PUnit)×PUnit)),((↑(List.length r0.1.1):Int),((0:Int),()))),((),((r0.2.1,()),((x2,()),(((0:Int),()),(((0:Int),()),()))))))))
                (let r4:=r147_0_1 (((r0.1.1:List ((Int×Int×PUnit)×(Int×Int×PUnit)×PUnit)),((↑(List.length r0.1.1):Int),((0:Int),()))),((),((r0.2.1,()),((x2,()),(((0:Int),()),(((0:Int),()),()))))));
                Tr.fin ((r4.2.2.2.2.1.1,(r4.2.2.2.2.2.1.1,()))))
                (Tr.fin (((0:Int),((20:Int),())))))
              (Tr.stop)))
          (Tr.stop))
        (Tr.stop))
      (Tr.stop))
    (Tr.stop)

def f20 (d:Tys.data as20):Option (Tys.data rs20):=(t20 d.1.1 d.1.2.1 d.1.2.2.1 d.2.1 d.2.2.1).val
def g20 (d:Tys.data as20):Tys.data rs20:=(f20 d).getD (Tys.dflt rs20)
def p20:PureC:=pcOf as20 rs20 f20 g20

theorem e20_0 (x0:(List ByteArray)) (x0':(List (ByteArray×(((List Int)×((List Int)×Unit))×(((List Int)×((List Int)×Unit))×Unit))))) (x0'':(List ((List Int)×((List Int)×Unit)))) (x1:Int) (x2:Int):runPure (kl147_0_1 Go.Proofs.Tryz.prog).orc Go.Proofs.Tryz.prog 400 20 as20 rs20 ((x0,x0',x0'',()),x1,x2,()) [tt,tt,tt,tt,tt] =
    (let r1:=g94 ((0:Int),((wrap64 ((↑(List.length x0'):Int) - (1:Int)):Int),(([x2]:List Int),())));let r0:=g92 ((x0,(x0',(x0'',()))),(x1,()));let r2:=g80 (!r1.1,((6:Int),()));let r3:=g79 (([r0.2.2.1,r2.1]:List Int),()); some (((0:Int),(r3.1,())),[(!eqF r3.1 0,true),(Option.isSome (f79 (([r0.2.2.1,r2.1]:List Int),())),true),(Option.isSome (f80 (!r1.1,((6:Int),()))),true),(Option.isSome (f94 ((0:Int),((wrap64 ((↑(List.length x0'):Int) - (1:Int)):Int),(([x2]:List Int),())))),true),(Option.isSome (f92 ((x0,(x0',(x0'',()))),(x1,()))),true)])):=by kernel_rfl
theorem e20_1 (x0:(List ByteArray)) (x0':(List (ByteArray×(((List Int)×((List Int)×Unit))×(((List Int)×((List Int)×Unit))×Unit))))) (x0'':(List ((List Int)×((List Int)×Unit)))) (x1:Int) (x2:Int):runPure (kl147_0_1 Go.Proofs.Tryz.prog).orc Go.Proofs.Tryz.prog 400 20 as20 rs20 ((x0,x0',x0'',()),x1,x2,()) [tt,tt,tt,tt,ff,tt,tt,tt] =
    (let r1:=g94 ((0:Int),((wrap64 ((↑(List.length x0'):Int) - (1:Int)):Int),(([x2]:List Int),())));let r0:=g92 ((x0,(x0',(x0'',()))),(x1,()));let r2:=g80 (!r1.1,((6:Int),()));let r3:=g79 (([r0.2.2.1,r2.1]:List Int),());let r4:=r147_0_1 (((r0.1.1:List ((Int×Int×PUnit)×(Int×Int×PUnit)×PUnit)),((↑(List.length r0.1.1):Int),((0:Int),()))),((),((r0.2.1,()),((x2,()),(((0:Int),()),(((0:Int),()),())))))); some ((r4.2.2.2.2.1.1,(r4.2.2.2.2.2.1.1,())),[(isRet (l147_0_1 (((r0.1.1:List ((Int×Int×PUnit)×(Int×Int×PUnit)×PUnit)),((↑(List.length r0.1.1):Int),((0:Int),()))),((),((r0.2.1,()),((x2,()),(((0:Int),()),(((0:Int),()),()))))))),true),(Option.isSome (l147_0_1 (((r0.1.1:List ((Int×Int×PUnit)×(Int×Int×PUnit)×PUnit)),((↑(List.length r0.1.1):Int),((0:Int),()))),((),((r0.2.1,()),((x2,()),(((0:Int),()),(((0:Int),()),()))))))),true),(sameRf Go.Proofs.Tryz.prog (nat_lit 20) (nat_lit 0),true),(!eqF r3.1 0,false),(Option.isSome (f79 (([r0.2.2.1,r2.1]:List Int),())),true),(Option.isSome (f80 (!r1.1,((6:Int),()))),true),(Option.isSome (f94 ((0:Int),((wrap64 ((↑(List.length x0'):Int) - (1:Int)):Int),(([x2]:List Int),())))),true),(Option.isSome (f92 ((x0,(x0',(x0'',()))),(x1,()))),true)])):=by kernel_rfl
theorem e20_2 (x0:(List ByteArray)) (x0':(List (ByteArray×(((List Int)×((List Int)×Unit))×(((List Int)×((List Int)×Unit))×Unit))))) (x0'':(List ((List Int)×((List Int)×Unit)))) (x1:Int) (x2:Int):runPure (kl147_0_1 Go.Proofs.Tryz.prog).orc Go.Proofs.Tryz.prog 400 20 as20 rs20 ((x0,x0',x0'',()),x1,x2,()) [tt,tt,tt,tt,ff,tt,tt,ff] =
    (let r1:=g94 ((0:Int),((wrap64 ((↑(List.length x0'):Int) - (1:Int)):Int),(([x2]:List Int),())));let r0:=g92 ((x0,(x0',(x0'',()))),(x1,()));let r2:=g80 (!r1.1,((6:Int),()));let r3:=g79 (([r0.2.2.1,r2.1]:List Int),()); some (((0:Int),((20:Int),())),[(isRet (l147_0_1 (((r0.1.1:List ((Int×Int×PUnit)×(Int×Int×PUnit)×PUnit)),((↑(List.length r0.1.1):Int),((0:Int),()))),((),((r0.2.1,()),((x2,()),(((0:Int),()),(((0:Int),()),()))))))),false),(Option.isSome (l147_0_1 (((r0.1.1:List ((Int×Int×PUnit)×(Int×Int×PUnit)×PUnit)),((↑(List.length r0.1.1):Int),((0:Int),()))),((),((r0.2.1,()),((x2,()),(((0:Int),()),(((0:Int),()),()))))))),true),(sameRf Go.Proofs.Tryz.prog (nat_lit 20) (nat_lit 0),true),(!eqF r3.1 0,false),(Option.isSome (f79 (([r0.2.2.1,r2.1]:List Int),())),true),(Option.isSome (f80 (!r1.1,((6:Int),()))),true),(Option.isSome (f94 ((0:Int),((wrap64 ((↑(List.length x0'):Int) - (1:Int)):Int),(([x2]:List Int),())))),true),(Option.isSome (f92 ((x0,(x0',(x0'',()))),(x1,()))),true)])):=by kernel_rfl

theorem ok20_t (x0:(List ByteArray)) (x0':(List (ByteArray×(((List Int)×((List Int)×Unit))×(((List Int)×((List Int)×Unit))×Unit))))) (x0'':(List ((List Int)×((List Int)×Unit)))) (x1:Int) (x2:Int):TrOk (PureRuns Go.Proofs.Tryz.prog (kl147_0_1 Go.Proofs.Tryz.prog).orc 20 as20 rs20 ((x0,x0',x0'',()),x1,x2,())) (t20 x0 x0' x0'' x1 x2) :=
  TrOk.ofTest (fun h0=>TrOk.ofTest (fun h1=>TrOk.ofTest (fun h2=>TrOk.ofTest (fun h3=>TrOk.ofTest (fun h4=>TrOk.ofFin (PureRuns.of (e20_0 x0 x0' x0'' x1 x2) (ac h4 (ac h3 (ac h2 (ac h1 (ac h0 All.nil))))))) (fun h4=>TrOk.ofTest (fun h6=>TrOk.ofTest (fun h7=>TrOk.ofFin (PureRuns.of (e20_1 x0 x0' x0'' x1 x2) (ac h7 (ac h6 (ac (sc20_0) (ac h4 (ac h3 (ac h2 (ac h1 (ac h0 All.nil)))))))))) (fun h7=>TrOk.ofFin (PureRuns.of (e20_2 x0 x0' x0'' x1 x2) (ac h7 (ac h6 (ac (sc20_0) (ac h4 (ac h3 (ac h2 (ac h1 (ac h0 All.nil))))))))))) (fun h6=>TrOk.ofStop))) (fun h3=>TrOk.ofStop)) (fun h2=>TrOk.ofStop)) (fun h1=>TrOk.ofStop)) (fun h0=>TrOk.ofStop)

theorem ok20:PureOk Go.Proofs.Tryz.prog 20 p20:=pureOk_of kl147_0_1_ok.base (T:=fun (d:Tys.data as20)=>t20 d.1.1 d.1.2.1 d.1.2.2.1 d.2.1 d.2.2.1) (by kernel_rfl) (fun (d:Tys.data as20)=>ok20_t d.1.1 d.1.2.1 d.1.2.2.1 d.2.1 d.2.2.1)
def kf20 (P:Go.Program):Known:=(kl147_0_1 P).func 20 p20
theorem kf20_ok:KnownOk Go.Proofs.Tryz.prog (kf20 Go.Proofs.Tryz.prog):=kl147_0_1_ok.func ok20

end Go.Vm.Mo
