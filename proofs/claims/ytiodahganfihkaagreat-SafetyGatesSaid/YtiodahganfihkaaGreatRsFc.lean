import Derived.Test.YtiodahganfihkaaGreatA4
import Derived.KernelRfl
import Derived.Test.YtiodahganfihkaaGreatProg
import Derived.Test.YtiodahganfihkaaGreatRsFb
set_option linter.unusedVariables false
set_option linter.unusedSimpArgs false

namespace Go.Vm.Mo
open Go
set_option linter.unusedVariables false

/-! loop 0 of ductility/ductilitybase.HasText -/

abbrev sh96_0:Sh:={ n:=18,slots:=[0,1,5],pats:=[.ty (.slice .str),.ty .str,.ty (.int .i64)],boxes:=[] }
abbrev shb96_0:Sh:={ n:=18,slots:=[],pats:=[],boxes:=[] }
abbrev shr96_0:Sh:={ n:=18,slots:=[4],pats:=[.ty .bool],boxes:=[] }

def t96_0 (x0:(List ByteArray)) (x1:ByteArray) (x2:Int):Tr (Out sh96_0.data shb96_0.data shr96_0.data) :=
  Tr.test ((!leF (↑(List.length x0):Int) x2:Bool))
    (Tr.test (decide ((0:Int) ≤ x2) && decide (x2 < (↑(List.length x0):Int)))
      (Tr.test ((strEq (List.getD x0 (Int.toNat x2) { data:={ toList:=[] } }) x1:Bool))
        (Tr.fin (.ret (((true:Bool),()),())))
        (Tr.fin (.again ((x0,(x1,((wrap64 (x2 + (1:Int)):Int),()))),()))))
      (Tr.stop))
    (Tr.fin (.brk ((),())))

def s96_0 (d:sh96_0.data):Option (Out sh96_0.data shb96_0.data shr96_0.data):=(t96_0 d.1.1 d.1.2.1 d.1.2.2.1).val
def l96_0 (d:sh96_0.data):Option (shb96_0.data ⊕ shr96_0.data):=itr s96_0 rounds d
def b96_0 (d:sh96_0.data):shb96_0.data:=outB shb96_0.dflt (l96_0 d)
def r96_0 (d:sh96_0.data):shr96_0.data:=outR shr96_0.dflt (l96_0 d)
def lc96_0:LoopC:=lcOf sh96_0 shb96_0 shr96_0 l96_0 b96_0 r96_0

theorem wk96_0 (x0:(List ByteArray)) (x1:ByteArray) (x2:Int):Walks (runBody (kf95 Go.Proofs.Tryz.prog).orc Go.Proofs.Tryz.prog 400 96 0 sh96_0 shb96_0 shr96_0 ((x0,x1,x2,()),())) (t96_0 x0 x1 x2) [(bl 3 7,[2,4,6]),(bl 3 3,[2,4,6]),(bl 1 0,[2])] :=
  ⟨by kernel_rfl,by kernel_rfl,by kernel_rfl,trivial⟩

theorem ok96_0_t (x0:(List ByteArray)) (x1:ByteArray) (x2:Int):TrOk (BodyRuns Go.Proofs.Tryz.prog (kf95 Go.Proofs.Tryz.prog).orc 96 0 sh96_0 shb96_0 shr96_0 ((x0,x1,x2,()),())) (t96_0 x0 x1 x2) :=
  Walks.ok (fun _ _ _=>BodyRuns.of) (wk96_0 x0 x1 x2) (by kernel_rfl)

theorem ok96_0:LoopOk Go.Proofs.Tryz.prog 96 0 lc96_0:=loopOk_of (sh:=sh96_0) (shB:=shb96_0) (shR:=shr96_0) kf95_ok.base (T:=fun (d:sh96_0.data)=>t96_0 d.1.1 d.1.2.1 d.1.2.2.1) (by kernel_rfl) rfl (fun (d:sh96_0.data)=>ok96_0_t d.1.1 d.1.2.1 d.1.2.2.1) (fun _=>rfl)
def kl96_0 (P:Go.Program):Known:=(kf95 P).loop 96 0 lc96_0
theorem kl96_0_ok:KnownOk Go.Proofs.Tryz.prog (kl96_0 Go.Proofs.Tryz.prog):=kf95_ok.loop ok96_0

/-! ductility/ductilitybase.HasText -/

abbrev as96:List Ty:=[(.slice .str),.str]
abbrev rs96:List Ty:=[.bool]

def t96 (x0:(List ByteArray)) (x1:ByteArray):Tr (Tys.data rs96) :=
  Tr.test (Option.isSome (l96_0 ((x0,(x1,((0:Int),()))),())))
    (Tr.test (isRet (l96_0 ((x0,(x1,((0:Int),()))),())))
      (let r0:=r96_0 ((x0,(x1,((0:Int),()))),());
      Tr.fin ((r0.1.1,())))
      (Tr.fin (((false:Bool),()))))
    (Tr.stop)

def f96 (d:Tys.data as96):Option (Tys.data rs96):=(t96 d.1 d.2.1).val
def g96 (d:Tys.data as96):Tys.data rs96:=(f96 d).getD (Tys.dflt rs96)
def p96:PureC:=pcOf as96 rs96 f96 g96

theorem wk96 (x0:(List ByteArray)) (x1:ByteArray):Walks (runPure (kl96_0 Go.Proofs.Tryz.prog).orc Go.Proofs.Tryz.prog 400 96 as96 rs96 (x0,x1,())) (t96 x0 x1) [(bl 2 3,[2,4]),(bl 2 1,[2,4])] :=
  ⟨by kernel_rfl,by kernel_rfl,trivial⟩

theorem ok96_t (x0:(List ByteArray)) (x1:ByteArray):TrOk (PureRuns Go.Proofs.Tryz.prog (kl96_0 Go.Proofs.Tryz.prog).orc 96 as96 rs96 (x0,x1,())) (t96 x0 x1) :=
  Walks.ok (fun _ _ _=>PureRuns.of) (wk96 x0 x1) (by kernel_rfl)

theorem ok96:PureOk Go.Proofs.Tryz.prog 96 p96:=pureOk_of kl96_0_ok.base (T:=fun (d:Tys.data as96)=>t96 d.1 d.2.1) (by kernel_rfl) (fun (d:Tys.data as96)=>ok96_t d.1 d.2.1)
def kf96 (P:Go.Program):Known:=(kl96_0 P).func 96 p96
theorem kf96_ok:KnownOk Go.Proofs.Tryz.prog (kf96 Go.Proofs.Tryz.prog):=kl96_0_ok.func ok96

/-! ductility/ductilitybase.Within -/

abbrev as25:List Ty:=[(.int .i64),(.int .i64),(.int .i64)]
abbrev rs25:List Ty:=[.bool]

def t25 (x0:Int) (x1:Int) (x2:Int):Tr (Tys.data rs25) :=
  Tr.test ((leF x1 x0:Bool))
    (Tr.fin ((leF x0 x2,())))
    (Tr.fin ((false,())))

def f25 (d:Tys.data as25):Option (Tys.data rs25):=(t25 d.1 d.2.1 d.2.2.1).val
def g25 (d:Tys.data as25):Tys.data rs25:=(f25 d).getD (Tys.dflt rs25)
def p25:PureC:=pcOf as25 rs25 f25 g25

theorem wk25 (x0:Int) (x1:Int) (x2:Int):Walks (runPure (kf96 Go.Proofs.Tryz.prog).orc Go.Proofs.Tryz.prog 400 25 as25 rs25 (x0,x1,x2,())) (t25 x0 x1 x2) [(bl 1 1,[2,2,2,2]),(bl 1 0,[2,2,2,2])] :=
  ⟨by kernel_rfl,by kernel_rfl,trivial⟩

theorem ok25_t (x0:Int) (x1:Int) (x2:Int):TrOk (PureRuns Go.Proofs.Tryz.prog (kf96 Go.Proofs.Tryz.prog).orc 25 as25 rs25 (x0,x1,x2,())) (t25 x0 x1 x2) :=
  Walks.ok (fun _ _ _=>PureRuns.of) (wk25 x0 x1 x2) (by kernel_rfl)

theorem ok25:PureOk Go.Proofs.Tryz.prog 25 p25:=pureOk_of kf96_ok.base (T:=fun (d:Tys.data as25)=>t25 d.1 d.2.1 d.2.2.1) (by kernel_rfl) (fun (d:Tys.data as25)=>ok25_t d.1 d.2.1 d.2.2.1)
def kf25 (P:Go.Program):Known:=(kf96 P).func 25 p25
theorem kf25_ok:KnownOk Go.Proofs.Tryz.prog (kf25 Go.Proofs.Tryz.prog):=kf96_ok.func ok25

/-! loop 2 of ductility/ductilityref09.CheckGates -/

abbrev sh64_2:Sh:={ n:=98,slots:=[0,4,5],pats:=[.ty (.slice (.pair .str (.pair (.slice .str) (.pair (.int .i64) .unit)))),.ty (.int .i64),.ty (.int .i64)],boxes:=[] }
abbrev shb64_2:Sh:={ n:=98,slots:=[0,4],pats:=[.ty (.slice (.pair .str (.pair (.slice .str) (.pair (.int .i64) .unit)))),.ty (.int .i64)],boxes:=[] }
abbrev shr64_2:Sh:={ n:=98,slots:=[2,3],pats:=[.ty (.int .i64),.ty (.int .i64)],boxes:=[] }

def t64_2 (x0:(List (ByteArray×((List ByteArray)×(Int×Unit))))) (x1:Int) (x2:Int):Tr (Out sh64_2.data shb64_2.data shr64_2.data) :=
  Tr.test ((!leF x1 x2:Bool))
    (Tr.test (decide ((0:Int) ≤ x2) && decide (x2 < (↑(List.length x0):Int)))
      (Tr.test ((decide ((0:Int) ≤ x1) && decide (x1 < (↑(List.length x0):Int)):Bool))
        (Tr.test ((strEq (List.getD x0 (Int.toNat x2) ({ data:={ toList:=[] } },[],(0:Int),())).1 (List.getD x0 (Int.toNat x1) ({ data:={ toList:=[] } },[],(0:Int),())).1:Bool))
          (Tr.fin (.ret ((x1,((5:Int),())),())))
          (Tr.fin (.again ((x0,(x1,((wrap64 (x2 + (1:Int)):Int),()))),()))))
        (Tr.stop))
      (Tr.stop))
    (Tr.fin (.brk ((x0,(x1,())),())))

def s64_2 (d:sh64_2.data):Option (Out sh64_2.data shb64_2.data shr64_2.data):=(t64_2 d.1.1 d.1.2.1 d.1.2.2.1).val
def l64_2 (d:sh64_2.data):Option (shb64_2.data ⊕ shr64_2.data):=itr s64_2 rounds d
def b64_2 (d:sh64_2.data):shb64_2.data:=outB shb64_2.dflt (l64_2 d)
def r64_2 (d:sh64_2.data):shr64_2.data:=outR shr64_2.dflt (l64_2 d)
def lc64_2:LoopC:=lcOf sh64_2 shb64_2 shr64_2 l64_2 b64_2 r64_2

theorem wk64_2 (x0:(List (ByteArray×((List ByteArray)×(Int×Unit))))) (x1:Int) (x2:Int):Walks (runBody (kf25 Go.Proofs.Tryz.prog).orc Go.Proofs.Tryz.prog 400 64 2 sh64_2 shb64_2 shr64_2 ((x0,x1,x2,()),())) (t64_2 x0 x1 x2) [(bl 4 15,[2,4,6,8]),(bl 4 7,[2,4,6,8]),(bl 1 0,[2])] :=
  ⟨by kernel_rfl,by kernel_rfl,by kernel_rfl,trivial⟩

theorem ok64_2_t (x0:(List (ByteArray×((List ByteArray)×(Int×Unit))))) (x1:Int) (x2:Int):TrOk (BodyRuns Go.Proofs.Tryz.prog (kf25 Go.Proofs.Tryz.prog).orc 64 2 sh64_2 shb64_2 shr64_2 ((x0,x1,x2,()),())) (t64_2 x0 x1 x2) :=
  Walks.ok (fun _ _ _=>BodyRuns.of) (wk64_2 x0 x1 x2) (by kernel_rfl)

theorem ok64_2:LoopOk Go.Proofs.Tryz.prog 64 2 lc64_2:=loopOk_of (sh:=sh64_2) (shB:=shb64_2) (shR:=shr64_2) kf25_ok.base (T:=fun (d:sh64_2.data)=>t64_2 d.1.1 d.1.2.1 d.1.2.2.1) (by kernel_rfl) rfl (fun (d:sh64_2.data)=>ok64_2_t d.1.1 d.1.2.1 d.1.2.2.1) (fun _=>rfl)
def kl64_2 (P:Go.Program):Known:=(kf25 P).loop 64 2 lc64_2
theorem kl64_2_ok:KnownOk Go.Proofs.Tryz.prog (kl64_2 Go.Proofs.Tryz.prog):=kf25_ok.loop ok64_2

/-! loop 4 of ductility/ductilityref09.CheckGates -/

abbrev sh64_4:Sh:={ n:=98,slots:=[0,4,6],pats:=[.ty (.slice (.pair .str (.pair (.slice .str) (.pair (.int .i64) .unit)))),.ty (.int .i64),.ty (.int .i64)],boxes:=[] }
abbrev shb64_4:Sh:={ n:=98,slots:=[0,4],pats:=[.ty (.slice (.pair .str (.pair (.slice .str) (.pair (.int .i64) .unit)))),.ty (.int .i64)],boxes:=[] }
abbrev shr64_4:Sh:={ n:=98,slots:=[2,3],pats:=[.ty (.int .i64),.ty (.int .i64)],boxes:=[] }

def t64_4 (x0:(List (ByteArray×((List ByteArray)×(Int×Unit))))) (x1:Int) (x2:Int):Tr (Out sh64_4.data shb64_4.data shr64_4.data) :=
  Tr.test ((decide ((0:Int) ≤ x1) && decide (x1 < (↑(List.length x0):Int)):Bool))
    (Tr.test (!leF (↑(List.length (List.getD x0 (Int.toNat x1) ({ data:={ toList:=[] } },[],(0:Int),())).2.1):Int) x2)
      (Tr.test ((decide ((0:Int) ≤ x2) && decide (x2 < (↑(List.length (List.getD x0 (Int.toNat x1) ({ data:={ toList:=[] } },[],(0:Int),())).2.1):Int)):Bool))
        (Tr.test (Option.isSome (f95 ((List.getD (List.getD x0 (Int.toNat x1) ({ data:={ toList:=[] } },[],(0:Int),())).2.1 (Int.toNat x2) { data:={ toList:=[] } }:ByteArray),())))
          (let r0:=g95 ((List.getD (List.getD x0 (Int.toNat x1) ({ data:={ toList:=[] } },[],(0:Int),())).2.1 (Int.toNat x2) { data:={ toList:=[] } }:ByteArray),());
          Tr.test ((!r0.1:Bool))
            (Tr.fin (.ret ((x1,((4:Int),())),())))
            (Tr.test ((decide ((0:Int) ≤ x2) && decide (x2 ≤ (↑(List.length (List.getD x0 (Int.toNat x1) ({ data:={ toList:=[] } },[],(0:Int),())).2.1):Int)):Bool))
              (Tr.test (Option.isSome (f96 ((List.take (Int.toNat x2) (List.getD x0 (Int.toNat x1) ({ data:={ toList:=[] } },[],(0:Int),())).2.1:List ByteArray),((List.getD (List.getD x0 (Int.toNat x1) ({ data:={ toList:=[] } },[],(0:Int),())).2.1 (Int.toNat x2) { data:={ toList:=[] } }:ByteArray),()))))
                (let r1:=g96 ((List.take (Int.toNat x2) (List.getD x0 (Int.toNat x1) ({ data:={ toList:=[] } },[],(0:Int),())).2.1:List ByteArray),((List.getD (List.getD x0 (Int.toNat x1) ({ data:={ toList:=[] } },[],(0:Int),())).2.1 (Int.toNat x2) { data:={ toList:=[] } }:ByteArray),()));
                Tr.test (r1.1)
                  (Tr.fin (.ret ((x1,((23:Int),())),())))
                  (Tr.fin (.again ((x0,(x1,((wrap64 (x2 + (1:Int)):Int),()))),()))))
                (Tr.stop))
              (Tr.stop)))
          (Tr.stop))
        (Tr.stop))
      (Tr.fin (.brk ((x0,(x1,())),()))))
    (Tr.stop)

def s64_4 (d:sh64_4.data):Option (Out sh64_4.data shb64_4.data shr64_4.data):=(t64_4 d.1.1 d.1.2.1 d.1.2.2.1).val
def l64_4 (d:sh64_4.data):Option (shb64_4.data ⊕ shr64_4.data):=itr s64_4 rounds d
def b64_4 (d:sh64_4.data):shb64_4.data:=outB shb64_4.dflt (l64_4 d)
def r64_4 (d:sh64_4.data):shr64_4.data:=outR shr64_4.dflt (l64_4 d)
def lc64_4:LoopC:=lcOf sh64_4 shb64_4 shr64_4 l64_4 b64_4 r64_4

theorem wk64_4 (x0:(List (ByteArray×((List ByteArray)×(Int×Unit))))) (x1:Int) (x2:Int):Walks (runBody (kl64_2 Go.Proofs.Tryz.prog).orc Go.Proofs.Tryz.prog 400 64 4 sh64_4 shb64_4 shr64_4 ((x0,x1,x2,()),())) (t64_4 x0 x1 x2) [(bl 5 31,[2,4,6,10,8,10]),(bl 8 239,[2,4,12,16,6,16,8,10,12,16,14,16]),(bl 8 111,[2,4,12,16,6,16,8,10,12,16,14,16]),(bl 2 1,[2,4])] :=
  ⟨by kernel_rfl,by kernel_rfl,by kernel_rfl,by kernel_rfl,trivial⟩

theorem ok64_4_t (x0:(List (ByteArray×((List ByteArray)×(Int×Unit))))) (x1:Int) (x2:Int):TrOk (BodyRuns Go.Proofs.Tryz.prog (kl64_2 Go.Proofs.Tryz.prog).orc 64 4 sh64_4 shb64_4 shr64_4 ((x0,x1,x2,()),())) (t64_4 x0 x1 x2) :=
  Walks.ok (fun _ _ _=>BodyRuns.of) (wk64_4 x0 x1 x2) (by kernel_rfl)

theorem ok64_4:LoopOk Go.Proofs.Tryz.prog 64 4 lc64_4:=loopOk_of (sh:=sh64_4) (shB:=shb64_4) (shR:=shr64_4) kl64_2_ok.base (T:=fun (d:sh64_4.data)=>t64_4 d.1.1 d.1.2.1 d.1.2.2.1) (by kernel_rfl) rfl (fun (d:sh64_4.data)=>ok64_4_t d.1.1 d.1.2.1 d.1.2.2.1) (fun _=>rfl)
def kl64_4 (P:Go.Program):Known:=(kl64_2 P).loop 64 4 lc64_4
theorem kl64_4_ok:KnownOk Go.Proofs.Tryz.prog (kl64_4 Go.Proofs.Tryz.prog):=kl64_2_ok.loop ok64_4

/-! loop 0 of ductility/ductilityref09.CheckGates -/

abbrev sh64_0:Sh:={ n:=98,slots:=[0,4],pats:=[.ty (.slice (.pair .str (.pair (.slice .str) (.pair (.int .i64) .unit)))),.ty (.int .i64)],boxes:=[] }
abbrev shb64_0:Sh:={ n:=98,slots:=[],pats:=[],boxes:=[] }
abbrev shr64_0:Sh:={ n:=98,slots:=[2,3],pats:=[.ty (.int .i64),.ty (.int .i64)],boxes:=[] }

def t64_0 (x0:(List (ByteArray×((List ByteArray)×(Int×Unit))))) (x1:Int):Tr (Out sh64_0.data shb64_0.data shr64_0.data) :=
  Tr.test ((!leF (↑(List.length x0):Int) x1:Bool))
    (Tr.test (decide ((0:Int) ≤ x1) && decide (x1 < (↑(List.length x0):Int)))
      (Tr.test (Option.isSome (f95 (((List.getD x0 (Int.toNat x1) ({ data:={ toList:=[] } },[],(0:Int),())).1:ByteArray),())))
        (let r0:=g95 (((List.getD x0 (Int.toNat x1) ({ data:={ toList:=[] } },[],(0:Int),())).1:ByteArray),());
        Tr.test ((!r0.1:Bool))
          (Tr.fin (.ret ((x1,((4:Int),())),())))
          (Tr.test (Option.isSome (l64_2 ((x0,(x1,((0:Int),()))),())))
            (Tr.test (isRet (l64_2 ((x0,(x1,((0:Int),()))),())))
              (let r1:=r64_2 ((x0,(x1,((0:Int),()))),());
              Tr.fin (.ret ((r1.1.1,(r1.1.2.1,())),())))
              (let r2:=b64_2 ((x0,(x1,((0:Int),()))),());
              Tr.test ((decide ((0:Int) ≤ r2.1.2.1) && decide (r2.1.2.1 < (↑(List.length r2.1.1):Int)):Bool))
                (Tr.test ((!leF (↑(List.length (List.getD r2.1.1 (Int.toNat r2.1.2.1) ({ data:={ toList:=[] } },[],(0:Int),())).2.1):Int) (4:Int):Bool))
                  (Tr.fin (.ret ((r2.1.2.1,((8:Int),())),())))
                  (Tr.test (Option.isSome (l64_4 ((r2.1.1,(r2.1.2.1,((0:Int),()))),())))
                    (Tr.test (isRet (l64_4 ((r2.1.1,(r2.1.2.1,((0:Int),()))),())))
                      (let r3:=r64_4 ((r2.1.1,(r2.1.2.1,((0:Int),()))),());
                      Tr.fin (.ret ((r3.1.1,(r3.1.2.1,())),())))
                      (let r4:=b64_4 ((r2.1.1,(r2.1.2.1,((0:Int),()))),());
                      Tr.test ((decide ((0:Int) ≤ r4.1.2.1) && decide (r4.1.2.1 < (↑(List.length r4.1.1):Int)):Bool))
                        (Tr.test (Option.isSome (f25 (((List.getD r4.1.1 (Int.toNat r4.1.2.1) ({ data:={ toList:=[] } },[],(0:Int),())).2.2.1:Int),((0:Int),((20:Int),())))))
                          (let r5:=g25 (((List.getD r4.1.1 (Int.toNat r4.1.2.1) ({ data:={ toList:=[] } },[],(0:Int),())).2.2.1:Int),((0:Int),((20:Int),())));
                          Tr.test ((!r5.1:Bool))
                            (Tr.fin (.ret ((r4.1.2.1,((2:Int),())),())))
                            (Tr.fin (.again ((r4.1.1,((wrap64 (r4.1.2.1 + (1:Int)):Int),())),()))))
                          (Tr.stop))
                        (Tr.stop)))
                    (Tr.stop)))
                (Tr.stop)))
            (Tr.stop)))
        (Tr.stop))
      (Tr.stop))
    (Tr.fin (.brk ((),())))

def s64_0 (d:sh64_0.data):Option (Out sh64_0.data shb64_0.data shr64_0.data):=(t64_0 d.1.1 d.1.2.1).val
def l64_0 (d:sh64_0.data):Option (shb64_0.data ⊕ shr64_0.data):=itr s64_0 rounds d
def b64_0 (d:sh64_0.data):shb64_0.data:=outB shb64_0.dflt (l64_0 d)
def r64_0 (d:sh64_0.data):shr64_0.data:=outR shr64_0.dflt (l64_0 d)
def lc64_0:LoopC:=lcOf sh64_0 shb64_0 shr64_0 l64_0 b64_0 r64_0

theorem wk64_0 (x0:(List (ByteArray×((List ByteArray)×(Int×Unit))))) (x1:Int):Walks (runBody (kl64_4 Go.Proofs.Tryz.prog).orc Go.Proofs.Tryz.prog 400 64 0 sh64_0 shb64_0 shr64_0 ((x0,x1,()),())) (t64_0 x0 x1) [(bl 4 15,[2,4,6,8]),(bl 6 55,[2,4,6,8,10,12]),(bl 8 215,[2,4,6,8,10,12,14,16]),(bl 10 855,[2,4,6,8,10,12,14,16,18,20]),(bl 13 7511,[2,4,6,8,10,12,14,16,18,20,22,24,26]),(bl 13 3415,[2,4,6,8,10,12,14,16,18,20,22,24,26]),(bl 1 0,[2])] :=
  ⟨by kernel_rfl,by kernel_rfl,by kernel_rfl,by kernel_rfl,by kernel_rfl,by kernel_rfl,by kernel_rfl,trivial⟩

theorem ok64_0_t (x0:(List (ByteArray×((List ByteArray)×(Int×Unit))))) (x1:Int):TrOk (BodyRuns Go.Proofs.Tryz.prog (kl64_4 Go.Proofs.Tryz.prog).orc 64 0 sh64_0 shb64_0 shr64_0 ((x0,x1,()),())) (t64_0 x0 x1) :=
  Walks.ok (fun _ _ _=>BodyRuns.of) (wk64_0 x0 x1) (by kernel_rfl)

theorem ok64_0:LoopOk Go.Proofs.Tryz.prog 64 0 lc64_0:=loopOk_of (sh:=sh64_0) (shB:=shb64_0) (shR:=shr64_0) kl64_4_ok.base (T:=fun (d:sh64_0.data)=>t64_0 d.1.1 d.1.2.1) (by kernel_rfl) rfl (fun (d:sh64_0.data)=>ok64_0_t d.1.1 d.1.2.1) (fun _=>rfl)
def kl64_0 (P:Go.Program):Known:=(kl64_4 P).loop 64 0 lc64_0
theorem kl64_0_ok:KnownOk Go.Proofs.Tryz.prog (kl64_0 Go.Proofs.Tryz.prog):=kl64_4_ok.loop ok64_0

/-! ductility/ductilityref09.CheckGates -/

abbrev as64:List Ty:=[(.slice (.pair .str (.pair (.slice .str) (.pair (.int .i64) .unit))))]
abbrev rs64:List Ty:=[(.int .i64),(.int .i64)]

def t64 (x0:(List (ByteArray×((List ByteArray)×(Int×Unit))))):Tr (Tys.data rs64) :=
  Tr.test ((eqF (↑(List.length x0):Int) (0:Int):Bool))
    (Tr.fin (((0:Int),((10:Int),()))))
    (Tr.test (!leF (↑(List.length x0):Int) (6:Int))
      (Tr.fin (((0:Int),((8:Int),()))))
      (Tr.test (Option.isSome (l64_0 ((x0,((0:Int),())),())))
        (Tr.test (isRet (l64_0 ((x0,((0:Int),())),())))
          (let r0:=r64_0 ((x0,((0:Int),())),());
          Tr.fin ((r0.1.1,(r0.1.2.1,()))))
          (Tr.fin (((0:Int),((0:Int),())))))
        (Tr.stop)))

def f64 (d:Tys.data as64):Option (Tys.data rs64):=(t64 d.1).val
def g64 (d:Tys.data as64):Tys.data rs64:=(f64 d).getD (Tys.dflt rs64)
def p64:PureC:=pcOf as64 rs64 f64 g64

theorem wk64 (x0:(List (ByteArray×((List ByteArray)×(Int×Unit))))):Walks (runPure (kl64_0 Go.Proofs.Tryz.prog).orc Go.Proofs.Tryz.prog 400 64 as64 rs64 (x0,())) (t64 x0) [(bl 1 1,[2]),(bl 2 2,[2,4]),(bl 4 12,[2,4,6,8]),(bl 4 4,[2,4,6,8])] :=
  ⟨by kernel_rfl,by kernel_rfl,by kernel_rfl,by kernel_rfl,trivial⟩

theorem ok64_t (x0:(List (ByteArray×((List ByteArray)×(Int×Unit))))):TrOk (PureRuns Go.Proofs.Tryz.prog (kl64_0 Go.Proofs.Tryz.prog).orc 64 as64 rs64 (x0,())) (t64 x0) :=
  Walks.ok (fun _ _ _=>PureRuns.of) (wk64 x0) (by kernel_rfl)

theorem ok64:PureOk Go.Proofs.Tryz.prog 64 p64:=pureOk_of kl64_0_ok.base (T:=fun (d:Tys.data as64)=>t64 d.1) (by kernel_rfl) (fun (d:Tys.data as64)=>ok64_t d.1)
def kf64 (P:Go.Program):Known:=(kl64_0 P).func 64 p64
theorem kf64_ok:KnownOk Go.Proofs.Tryz.prog (kf64 Go.Proofs.Tryz.prog):=kl64_0_ok.func ok64

/-! loop 2 of ductility/ductilityref09.SignsErr -/

abbrev sh65_2:Sh:={ n:=55,slots:=[0,1,5,6],pats:=[.ty (.int .i64),.ty (.slice (.pair (.int .i64) (.pair .str (.pair .str .unit)))),.ty (.int .i64),.ty (.int .i64)],boxes:=[] }
abbrev shb65_2:Sh:={ n:=55,slots:=[0,1,5],pats:=[.ty (.int .i64),.ty (.slice (.pair (.int .i64) (.pair .str (.pair .str .unit)))),.ty (.int .i64)],boxes:=[] }
abbrev shr65_2:Sh:={ n:=55,slots:=[4],pats:=[.ty (.int .i64)],boxes:=[] }

def t65_2 (x0:Int) (x1:(List (Int×(ByteArray×(ByteArray×Unit))))) (x2:Int) (x3:Int):Tr (Out sh65_2.data shb65_2.data shr65_2.data) :=
  Tr.test ((!leF x2 x3:Bool))
    (Tr.test (decide ((0:Int) ≤ x3) && decide (x3 < (↑(List.length x1):Int)))
      (Tr.test ((decide ((0:Int) ≤ x2) && decide (x2 < (↑(List.length x1):Int)):Bool))
        (Tr.test (((List.getD x1 (Int.toNat x3) ((0:Int),{ data:={ toList:=[] } },{ data:={ toList:=[] } },())).1 == (List.getD x1 (Int.toNat x2) ((0:Int),{ data:={ toList:=[] } },{ data:={ toList:=[] } },())).1 && (strEq (List.getD x1 (Int.toNat x3) ((0:Int),{ data:={ toList:=[] } },{ data:={ toList:=[] } },())).2.1 (List.getD x1 (Int.toNat x2) ((0:Int),{ data:={ toList:=[] } },{ data:={ toList:=[] } },())).2.1 && (strEq (List.getD x1 (Int.toNat x3) ((0:Int),{ data:={ toList:=[] } },{ data:={ toList:=[] } },())).2.2.1 (List.getD x1 (Int.toNat x2) ((0:Int),{ data:={ toList:=[] } },{ data:={ toList:=[] } },())).2.2.1 && true)):Bool))
          (Tr.fin (.ret (((23:Int),()),())))
          (Tr.fin (.again ((x0,(x1,(x2,((wrap64 (x3 + (1:Int)):Int),())))),()))))
        (Tr.stop))
      (Tr.stop))
    (Tr.fin (.brk ((x0,(x1,(x2,()))),())))

def s65_2 (d:sh65_2.data):Option (Out sh65_2.data shb65_2.data shr65_2.data):=(t65_2 d.1.1 d.1.2.1 d.1.2.2.1 d.1.2.2.2.1).val
def l65_2 (d:sh65_2.data):Option (shb65_2.data ⊕ shr65_2.data):=itr s65_2 rounds d
def b65_2 (d:sh65_2.data):shb65_2.data:=outB shb65_2.dflt (l65_2 d)
def r65_2 (d:sh65_2.data):shr65_2.data:=outR shr65_2.dflt (l65_2 d)
def lc65_2:LoopC:=lcOf sh65_2 shb65_2 shr65_2 l65_2 b65_2 r65_2

theorem wk65_2 (x0:Int) (x1:(List (Int×(ByteArray×(ByteArray×Unit))))) (x2:Int) (x3:Int):Walks (runBody (kf64 Go.Proofs.Tryz.prog).orc Go.Proofs.Tryz.prog 400 65 2 sh65_2 shb65_2 shr65_2 ((x0,x1,x2,x3,()),())) (t65_2 x0 x1 x2 x3) [(bl 4 15,[2,4,6,8]),(bl 4 7,[2,4,6,8]),(bl 1 0,[2])] :=
  ⟨by kernel_rfl,by kernel_rfl,by kernel_rfl,trivial⟩

theorem ok65_2_t (x0:Int) (x1:(List (Int×(ByteArray×(ByteArray×Unit))))) (x2:Int) (x3:Int):TrOk (BodyRuns Go.Proofs.Tryz.prog (kf64 Go.Proofs.Tryz.prog).orc 65 2 sh65_2 shb65_2 shr65_2 ((x0,x1,x2,x3,()),())) (t65_2 x0 x1 x2 x3) :=
  Walks.ok (fun _ _ _=>BodyRuns.of) (wk65_2 x0 x1 x2 x3) (by kernel_rfl)

theorem ok65_2:LoopOk Go.Proofs.Tryz.prog 65 2 lc65_2:=loopOk_of (sh:=sh65_2) (shB:=shb65_2) (shR:=shr65_2) kf64_ok.base (T:=fun (d:sh65_2.data)=>t65_2 d.1.1 d.1.2.1 d.1.2.2.1 d.1.2.2.2.1) (by kernel_rfl) rfl (fun (d:sh65_2.data)=>ok65_2_t d.1.1 d.1.2.1 d.1.2.2.1 d.1.2.2.2.1) (fun _=>rfl)
def kl65_2 (P:Go.Program):Known:=(kf64 P).loop 65 2 lc65_2
theorem kl65_2_ok:KnownOk Go.Proofs.Tryz.prog (kl65_2 Go.Proofs.Tryz.prog):=kf64_ok.loop ok65_2

/-! loop 0 of ductility/ductilityref09.SignsErr -/

abbrev sh65_0:Sh:={ n:=55,slots:=[0,1,5],pats:=[.ty (.int .i64),.ty (.slice (.pair (.int .i64) (.pair .str (.pair .str .unit)))),.ty (.int .i64)],boxes:=[] }
abbrev shb65_0:Sh:={ n:=55,slots:=[],pats:=[],boxes:=[] }
abbrev shr65_0:Sh:={ n:=55,slots:=[4],pats:=[.ty (.int .i64)],boxes:=[] }

def t65_0 (x0:Int) (x1:(List (Int×(ByteArray×(ByteArray×Unit))))) (x2:Int):Tr (Out sh65_0.data shb65_0.data shr65_0.data) :=
  Tr.test ((!leF (↑(List.length x1):Int) x2:Bool))
    (Tr.test (decide ((0:Int) ≤ x2) && decide (x2 < (↑(List.length x1):Int)))
      (Tr.test (Option.isSome (f25 (((List.getD x1 (Int.toNat x2) ((0:Int),{ data:={ toList:=[] } },{ data:={ toList:=[] } },())).1:Int),((0:Int),((wrap64 (x0 - (1:Int)):Int),())))))
        (let r0:=g25 (((List.getD x1 (Int.toNat x2) ((0:Int),{ data:={ toList:=[] } },{ data:={ toList:=[] } },())).1:Int),((0:Int),((wrap64 (x0 - (1:Int)):Int),())));
        Tr.test ((!r0.1:Bool))
          (Tr.fin (.ret (((6:Int),()),())))
          (Tr.test (Option.isSome (f95 (((List.getD x1 (Int.toNat x2) ((0:Int),{ data:={ toList:=[] } },{ data:={ toList:=[] } },())).2.1:ByteArray),())))
            (let r1:=g95 (((List.getD x1 (Int.toNat x2) ((0:Int),{ data:={ toList:=[] } },{ data:={ toList:=[] } },())).2.1:ByteArray),());
            Tr.test ((!r1.1:Bool))
              (Tr.fin (.ret (((4:Int),()),())))
              (Tr.test (Option.isSome (f95 (((List.getD x1 (Int.toNat x2) ((0:Int),{ data:={ toList:=[] } },{ data:={ toList:=[] } },())).2.2.1:ByteArray),())))
                (let r2:=g95 (((List.getD x1 (Int.toNat x2) ((0:Int),{ data:={ toList:=[] } },{ data:={ toList:=[] } },())).2.2.1:ByteArray),());
                Tr.test ((!r2.1:Bool))
                  (Tr.fin (.ret (((4:Int),()),())))
                  (Tr.test (Option.isSome (l65_2 ((x0,(x1,(x2,((0:Int),())))),())))
                    (Tr.test (isRet (l65_2 ((x0,(x1,(x2,((0:Int),())))),())))
                      (let r3:=r65_2 ((x0,(x1,(x2,((0:Int),())))),());
                      Tr.fin (.ret ((r3.1.1,()),())))
                      (let r4:=b65_2 ((x0,(x1,(x2,((0:Int),())))),());
                      Tr.fin (.again ((r4.1.1,(r4.1.2.1,((wrap64 (r4.1.2.2.1 + (1:Int)):Int),()))),()))))
                    (Tr.stop)))
                (Tr.stop)))
            (Tr.stop)))
        (Tr.stop))
      (Tr.stop))
    (Tr.fin (.brk ((),())))

def s65_0 (d:sh65_0.data):Option (Out sh65_0.data shb65_0.data shr65_0.data):=(t65_0 d.1.1 d.1.2.1 d.1.2.2.1).val
def l65_0 (d:sh65_0.data):Option (shb65_0.data ⊕ shr65_0.data):=itr s65_0 rounds d
def b65_0 (d:sh65_0.data):shb65_0.data:=outB shb65_0.dflt (l65_0 d)
def r65_0 (d:sh65_0.data):shr65_0.data:=outR shr65_0.dflt (l65_0 d)
def lc65_0:LoopC:=lcOf sh65_0 shb65_0 shr65_0 l65_0 b65_0 r65_0

theorem wk65_0 (x0:Int) (x1:(List (Int×(ByteArray×(ByteArray×Unit))))) (x2:Int):Walks (runBody (kl65_2 Go.Proofs.Tryz.prog).orc Go.Proofs.Tryz.prog 400 65 0 sh65_0 shb65_0 shr65_0 ((x0,x1,x2,()),())) (t65_0 x0 x1 x2) [(bl 4 15,[2,4,6,8]),(bl 6 55,[1,2,2,2,2,2,2,2,2,4,10,6,8,10,12]),(bl 8 215,[2,6,6,4,6,6,6,14,6,6,6,8,14,10,12,14,16]),(bl 10 855,[2,4,6,10,10,8,10,10,10,18,10,10,10,12,18,14,16,18,20]),(bl 10 343,[2,4,6,10,10,8,10,10,10,18,10,10,10,12,18,14,16,18,20]),(bl 1 0,[2])] :=
  ⟨by kernel_rfl,by kernel_rfl,by kernel_rfl,by kernel_rfl,by kernel_rfl,by kernel_rfl,trivial⟩

theorem ok65_0_t (x0:Int) (x1:(List (Int×(ByteArray×(ByteArray×Unit))))) (x2:Int):TrOk (BodyRuns Go.Proofs.Tryz.prog (kl65_2 Go.Proofs.Tryz.prog).orc 65 0 sh65_0 shb65_0 shr65_0 ((x0,x1,x2,()),())) (t65_0 x0 x1 x2) :=
  Walks.ok (fun _ _ _=>BodyRuns.of) (wk65_0 x0 x1 x2) (by kernel_rfl)

theorem ok65_0:LoopOk Go.Proofs.Tryz.prog 65 0 lc65_0:=loopOk_of (sh:=sh65_0) (shB:=shb65_0) (shR:=shr65_0) kl65_2_ok.base (T:=fun (d:sh65_0.data)=>t65_0 d.1.1 d.1.2.1 d.1.2.2.1) (by kernel_rfl) rfl (fun (d:sh65_0.data)=>ok65_0_t d.1.1 d.1.2.1 d.1.2.2.1) (fun _=>rfl)
def kl65_0 (P:Go.Program):Known:=(kl65_2 P).loop 65 0 lc65_0
theorem kl65_0_ok:KnownOk Go.Proofs.Tryz.prog (kl65_0 Go.Proofs.Tryz.prog):=kl65_2_ok.loop ok65_0

/-! ductility/ductilityref09.SignsErr -/

abbrev as65:List Ty:=[(.int .i64),(.slice (.pair (.int .i64) (.pair .str (.pair .str .unit))))]
abbrev rs65:List Ty:=[(.int .i64)]

def t65 (x0:Int) (x1:(List (Int×(ByteArray×(ByteArray×Unit))))):Tr (Tys.data rs65) :=
  Tr.test ((!leF (↑(List.length x1):Int) (20:Int):Bool))
    (Tr.fin (((8:Int),())))
    (Tr.test (Option.isSome (l65_0 ((x0,(x1,((0:Int),()))),())))
      (Tr.test (isRet (l65_0 ((x0,(x1,((0:Int),()))),())))
        (let r0:=r65_0 ((x0,(x1,((0:Int),()))),());
        Tr.fin ((r0.1.1,())))
        (Tr.fin (((0:Int),()))))
      (Tr.stop))

def f65 (d:Tys.data as65):Option (Tys.data rs65):=(t65 d.1 d.2.1).val
def g65 (d:Tys.data as65):Tys.data rs65:=(f65 d).getD (Tys.dflt rs65)
def p65:PureC:=pcOf as65 rs65 f65 g65

theorem wk65 (x0:Int) (x1:(List (Int×(ByteArray×(ByteArray×Unit))))):Walks (runPure (kl65_0 Go.Proofs.Tryz.prog).orc Go.Proofs.Tryz.prog 400 65 as65 rs65 (x0,x1,())) (t65 x0 x1) [(bl 1 1,[2]),(bl 3 6,[2,4,6]),(bl 3 2,[2,4,6])] :=
  ⟨by kernel_rfl,by kernel_rfl,by kernel_rfl,trivial⟩

theorem ok65_t (x0:Int) (x1:(List (Int×(ByteArray×(ByteArray×Unit))))):TrOk (PureRuns Go.Proofs.Tryz.prog (kl65_0 Go.Proofs.Tryz.prog).orc 65 as65 rs65 (x0,x1,())) (t65 x0 x1) :=
  Walks.ok (fun _ _ _=>PureRuns.of) (wk65 x0 x1) (by kernel_rfl)

theorem ok65:PureOk Go.Proofs.Tryz.prog 65 p65:=pureOk_of kl65_0_ok.base (T:=fun (d:Tys.data as65)=>t65 d.1 d.2.1) (by kernel_rfl) (fun (d:Tys.data as65)=>ok65_t d.1 d.2.1)
def kf65 (P:Go.Program):Known:=(kl65_0 P).func 65 p65
theorem kf65_ok:KnownOk Go.Proofs.Tryz.prog (kf65 Go.Proofs.Tryz.prog):=kl65_0_ok.func ok65

/-! loop 2 of ductility/ductilityref09.Missing -/

abbrev sh66_2:Sh:={ n:=60,slots:=[0,1,2,7,8,9,10],pats:=[.ty (.slice (.pair .str (.pair (.slice .str) (.pair (.int .i64) .unit)))),.ty (.int .i64),.ty (.slice (.pair (.int .i64) (.pair .str (.pair .str .unit)))),.nil,.ty (.int .i64),.ty .bool,.ty (.int .i64)],boxes:=[] }
abbrev shb66_2:Sh:={ n:=60,slots:=[0,1,2,7,8,9],pats:=[.ty (.slice (.pair .str (.pair (.slice .str) (.pair (.int .i64) .unit)))),.ty (.int .i64),.ty (.slice (.pair (.int .i64) (.pair .str (.pair .str .unit)))),.nil,.ty (.int .i64),.ty .bool],boxes:=[] }
abbrev shr66_2:Sh:={ n:=60,slots:=[],pats:=[],boxes:=[] }

def t66_2 (x0:(List (ByteArray×((List ByteArray)×(Int×Unit))))) (x1:Int) (x2:(List (Int×(ByteArray×(ByteArray×Unit))))) (x4:Int) (x5:Bool) (x6:Int):Tr (Out sh66_2.data shb66_2.data shr66_2.data) :=
  Tr.test ((!leF (↑(List.length x2):Int) x6:Bool))
    (Tr.test (x5)
      (Tr.fin (.again ((x0,(x1,(x2,(x4,((true:Bool),((wrap64 (x6 + (1:Int)):Int),())))))),())))
      (Tr.test ((decide ((0:Int) ≤ x6) && decide (x6 < (↑(List.length x2):Int)):Bool))
        (Tr.test ((eqF (List.getD x2 (Int.toNat x6) ((0:Int),{ data:={ toList:=[] } },{ data:={ toList:=[] } },())).1 x1:Bool))
          (Tr.test ((decide ((0:Int) ≤ x1) && decide (x1 < (↑(List.length x0):Int)):Bool))
            (Tr.test ((decide ((0:Int) ≤ x4) && decide (x4 < (↑(List.length (List.getD x0 (Int.toNat x1) ({ data:={ toList:=[] } },[],(0:Int),())).2.1):Int)):Bool))
              (Tr.fin (.again ((x0,(x1,(x2,(x4,((strEq (List.getD x2 (Int.toNat x6) ((0:Int),{ data:={ toList:=[] } },{ data:={ toList:=[] } },())).2.2.1 (List.getD (List.getD x0 (Int.toNat x1) ({ data:={ toList:=[] } },[],(0:Int),())).2.1 (Int.toNat x4) { data:={ toList:=[] } }):Bool),((wrap64 (x6 + (1:Int)):Int),())))))),())))
              (Tr.stop))
            (Tr.stop))
          (Tr.fin (.again ((x0,(x1,(x2,(x4,((false:Bool),((wrap64 (x6 + (1:Int)):Int),())))))),()))))
        (Tr.stop)))
    (Tr.fin (.brk ((x0,(x1,(x2,(x4,(x5,()))))),())))

def s66_2 (d:sh66_2.data):Option (Out sh66_2.data shb66_2.data shr66_2.data):=(t66_2 d.1.1 d.1.2.1 d.1.2.2.1 d.1.2.2.2.1 d.1.2.2.2.2.1 d.1.2.2.2.2.2.1).val
def l66_2 (d:sh66_2.data):Option (shb66_2.data ⊕ shr66_2.data):=itr s66_2 rounds d
def b66_2 (d:sh66_2.data):shb66_2.data:=outB shb66_2.dflt (l66_2 d)
def lc66_2:LoopC:=lcB sh66_2 shb66_2 shr66_2 l66_2 b66_2

theorem wk66_2 (x0:(List (ByteArray×((List ByteArray)×(Int×Unit))))) (x1:Int) (x2:(List (Int×(ByteArray×(ByteArray×Unit))))) (x4:Int) (x5:Bool) (x6:Int):Walks (runBody (kf65 Go.Proofs.Tryz.prog).orc Go.Proofs.Tryz.prog 400 66 2 sh66_2 shb66_2 shr66_2 ((x0,x1,x2,x4,x5,x6,()),())) (t66_2 x0 x1 x2 x4 x5 x6) [(bl 2 3,[2,2,2,2,2,2,2,2,2,2,4]),(bl 6 61,[10,6,10,6,6,2,6,6,6,6,4,6,6,6,6,6,8,6,6,6,10,10,10,10,10,8,10,10,10,12]),(bl 4 5,[6,2,6,2,2,2,2,2,2,2,2,2,2,2,2,2,2,6,6,6,6,6,4,6,6,6,8]),(bl 1 0,[2])] :=
  ⟨by kernel_rfl,by kernel_rfl,by kernel_rfl,by kernel_rfl,trivial⟩

theorem ok66_2_t (x0:(List (ByteArray×((List ByteArray)×(Int×Unit))))) (x1:Int) (x2:(List (Int×(ByteArray×(ByteArray×Unit))))) (x4:Int) (x5:Bool) (x6:Int):TrOk (BodyRuns Go.Proofs.Tryz.prog (kf65 Go.Proofs.Tryz.prog).orc 66 2 sh66_2 shb66_2 shr66_2 ((x0,x1,x2,x4,x5,x6,()),())) (t66_2 x0 x1 x2 x4 x5 x6) :=
  Walks.ok (fun _ _ _=>BodyRuns.of) (wk66_2 x0 x1 x2 x4 x5 x6) (by kernel_rfl)

theorem ok66_2:LoopOk Go.Proofs.Tryz.prog 66 2 lc66_2:=loopOk_ofB (sh:=sh66_2) (shB:=shb66_2) (shR:=shr66_2) kf65_ok.base (T:=fun (d:sh66_2.data)=>t66_2 d.1.1 d.1.2.1 d.1.2.2.1 d.1.2.2.2.1 d.1.2.2.2.2.1 d.1.2.2.2.2.2.1) (by kernel_rfl) rfl (fun (d:sh66_2.data)=>ok66_2_t d.1.1 d.1.2.1 d.1.2.2.1 d.1.2.2.2.1 d.1.2.2.2.2.1 d.1.2.2.2.2.2.1) (fun _=>rfl)
def kl66_2 (P:Go.Program):Known:=(kf65 P).loop 66 2 lc66_2
theorem kl66_2_ok:KnownOk Go.Proofs.Tryz.prog (kl66_2 Go.Proofs.Tryz.prog):=kf65_ok.loop ok66_2

/-! loop 2 of ductility/ductilityref09.Missing -/

abbrev sh66_2_1:Sh:={ n:=60,slots:=[0,1,2,7,8,9,10],pats:=[.ty (.slice (.pair .str (.pair (.slice .str) (.pair (.int .i64) .unit)))),.ty (.int .i64),.ty (.slice (.pair (.int .i64) (.pair .str (.pair .str .unit)))),.acc (.int .i64),.ty (.int .i64),.ty .bool,.ty (.int .i64)],boxes:=[] }
abbrev shb66_2_1:Sh:={ n:=60,slots:=[0,1,2,7,8,9],pats:=[.ty (.slice (.pair .str (.pair (.slice .str) (.pair (.int .i64) .unit)))),.ty (.int .i64),.ty (.slice (.pair (.int .i64) (.pair .str (.pair .str .unit)))),.acc (.int .i64),.ty (.int .i64),.ty .bool],boxes:=[] }
abbrev shr66_2_1:Sh:={ n:=60,slots:=[],pats:=[],boxes:=[] }

def t66_2_1 (x0:(List (ByteArray×((List ByteArray)×(Int×Unit))))) (x1:Int) (x2:(List (Int×(ByteArray×(ByteArray×Unit))))) (x3:(List Int)) (x4:Int) (x5:Bool) (x6:Int):Tr (Out sh66_2_1.data shb66_2_1.data shr66_2_1.data) :=
  Tr.test ((!leF (↑(List.length x2):Int) x6:Bool))
    (Tr.test (x5)
      (Tr.fin (.again ((x0,(x1,(x2,(x3,(x4,((true:Bool),((wrap64 (x6 + (1:Int)):Int),()))))))),())))
      (Tr.test ((decide ((0:Int) ≤ x6) && decide (x6 < (↑(List.length x2):Int)):Bool))
        (Tr.test ((eqF (List.getD x2 (Int.toNat x6) ((0:Int),{ data:={ toList:=[] } },{ data:={ toList:=[] } },())).1 x1:Bool))
          (Tr.test ((decide ((0:Int) ≤ x1) && decide (x1 < (↑(List.length x0):Int)):Bool))
            (Tr.test ((decide ((0:Int) ≤ x4) && decide (x4 < (↑(List.length (List.getD x0 (Int.toNat x1) ({ data:={ toList:=[] } },[],(0:Int),())).2.1):Int)):Bool))
              (Tr.fin (.again ((x0,(x1,(x2,(x3,(x4,((strEq (List.getD x2 (Int.toNat x6) ((0:Int),{ data:={ toList:=[] } },{ data:={ toList:=[] } },())).2.2.1 (List.getD (List.getD x0 (Int.toNat x1) ({ data:={ toList:=[] } },[],(0:Int),())).2.1 (Int.toNat x4) { data:={ toList:=[] } }):Bool),((wrap64 (x6 + (1:Int)):Int),()))))))),())))
              (Tr.stop))
            (Tr.stop))
          (Tr.fin (.again ((x0,(x1,(x2,(x3,(x4,((false:Bool),((wrap64 (x6 + (1:Int)):Int),()))))))),()))))
        (Tr.stop)))
    (Tr.fin (.brk ((x0,(x1,(x2,(x3,(x4,(x5,())))))),())))

def s66_2_1 (d:sh66_2_1.data):Option (Out sh66_2_1.data shb66_2_1.data shr66_2_1.data):=(t66_2_1 d.1.1 d.1.2.1 d.1.2.2.1 d.1.2.2.2.1 d.1.2.2.2.2.1 d.1.2.2.2.2.2.1 d.1.2.2.2.2.2.2.1).val
def l66_2_1 (d:sh66_2_1.data):Option (shb66_2_1.data ⊕ shr66_2_1.data):=itr s66_2_1 rounds d
def b66_2_1 (d:sh66_2_1.data):shb66_2_1.data:=outB shb66_2_1.dflt (l66_2_1 d)
def lc66_2_1:LoopC:=lcB sh66_2_1 shb66_2_1 shr66_2_1 l66_2_1 b66_2_1

theorem wk66_2_1 (x0:(List (ByteArray×((List ByteArray)×(Int×Unit))))) (x1:Int) (x2:(List (Int×(ByteArray×(ByteArray×Unit))))) (x3:(List Int)) (x4:Int) (x5:Bool) (x6:Int):Walks (runBody (kl66_2 Go.Proofs.Tryz.prog).orc Go.Proofs.Tryz.prog 400 66 2 sh66_2_1 shb66_2_1 shr66_2_1 ((x0,x1,x2,x3,x4,x5,x6,()),())) (t66_2_1 x0 x1 x2 x3 x4 x5 x6) [(bl 2 3,[2,2,2,2,2,2,2,2,2,2,4]),(bl 6 61,[10,6,10,6,6,2,6,6,6,6,4,6,6,6,6,6,8,6,6,6,10,10,10,10,10,8,10,10,10,12]),(bl 4 5,[6,2,6,2,2,2,2,2,2,2,2,2,2,2,2,2,2,6,6,6,6,6,4,6,6,6,8]),(bl 1 0,[2])] :=
  ⟨by kernel_rfl,by kernel_rfl,by kernel_rfl,by kernel_rfl,trivial⟩

theorem ok66_2_1_t (x0:(List (ByteArray×((List ByteArray)×(Int×Unit))))) (x1:Int) (x2:(List (Int×(ByteArray×(ByteArray×Unit))))) (x3:(List Int)) (x4:Int) (x5:Bool) (x6:Int):TrOk (BodyRuns Go.Proofs.Tryz.prog (kl66_2 Go.Proofs.Tryz.prog).orc 66 2 sh66_2_1 shb66_2_1 shr66_2_1 ((x0,x1,x2,x3,x4,x5,x6,()),())) (t66_2_1 x0 x1 x2 x3 x4 x5 x6) :=
  Walks.ok (fun _ _ _=>BodyRuns.of) (wk66_2_1 x0 x1 x2 x3 x4 x5 x6) (by kernel_rfl)

theorem ok66_2_1:LoopOk Go.Proofs.Tryz.prog 66 2 lc66_2_1:=loopOk_ofB (sh:=sh66_2_1) (shB:=shb66_2_1) (shR:=shr66_2_1) kl66_2_ok.base (T:=fun (d:sh66_2_1.data)=>t66_2_1 d.1.1 d.1.2.1 d.1.2.2.1 d.1.2.2.2.1 d.1.2.2.2.2.1 d.1.2.2.2.2.2.1 d.1.2.2.2.2.2.2.1) (by kernel_rfl) rfl (fun (d:sh66_2_1.data)=>ok66_2_1_t d.1.1 d.1.2.1 d.1.2.2.1 d.1.2.2.2.1 d.1.2.2.2.2.1 d.1.2.2.2.2.2.1 d.1.2.2.2.2.2.2.1) (fun _=>rfl)
def kl66_2_1 (P:Go.Program):Known:=(kl66_2 P).loop 66 2 lc66_2_1
theorem kl66_2_1_ok:KnownOk Go.Proofs.Tryz.prog (kl66_2_1 Go.Proofs.Tryz.prog):=kl66_2_ok.loop ok66_2_1

/-! loop 0 of ductility/ductilityref09.Missing -/

abbrev sh66_0:Sh:={ n:=60,slots:=[0,1,2,7,8],pats:=[.ty (.slice (.pair .str (.pair (.slice .str) (.pair (.int .i64) .unit)))),.ty (.int .i64),.ty (.slice (.pair (.int .i64) (.pair .str (.pair .str .unit)))),.acc (.int .i64),.ty (.int .i64)],boxes:=[] }
abbrev shb66_0:Sh:={ n:=60,slots:=[7],pats:=[.acc (.int .i64)],boxes:=[] }
abbrev shr66_0:Sh:={ n:=60,slots:=[],pats:=[],boxes:=[] }

def t66_0 (x0:(List (ByteArray×((List ByteArray)×(Int×Unit))))) (x1:Int) (x2:(List (Int×(ByteArray×(ByteArray×Unit))))) (x3:(List Int)) (x4:Int):Tr (Out sh66_0.data shb66_0.data shr66_0.data) :=
  Tr.test ((decide ((0:Int) ≤ x1) && decide (x1 < (↑(List.length x0):Int)):Bool))
    (Tr.test (!leF (↑(List.length (List.getD x0 (Int.toNat x1) ({ data:={ toList:=[] } },[],(0:Int),())).2.1):Int) x4)
      (Tr.test (isBrk (l66_2_1 ((x0,(x1,(x2,(x3,(x4,((false:Bool),((0:Int),()))))))),())))
        (let r0:=b66_2_1 ((x0,(x1,(x2,(x3,(x4,((false:Bool),((0:Int),()))))))),());
        Tr.test ((!r0.1.2.2.2.2.2.1:Bool))
          (Tr.test ((Nat.ble (((2:Nat) * (List.length r0.1.2.2.2.1 + (1:Nat)) + (192:Nat)) * (8:Nat)) (281474976710656:Nat) && Nat.ble (List.length r0.1.2.2.2.1 + (1:Nat)) (281474976710656:Nat):Bool))
            (Tr.fin (.again ((r0.1.1,(r0.1.2.1,(r0.1.2.2.1,((r0.1.2.2.2.1++[r0.1.2.2.2.2.1]:List Int),((wrap64 (r0.1.2.2.2.2.1 + (1:Int)):Int),()))))),())))
            (Tr.stop))
          (Tr.fin (.again ((r0.1.1,(r0.1.2.1,(r0.1.2.2.1,(r0.1.2.2.2.1,((wrap64 (r0.1.2.2.2.2.1 + (1:Int)):Int),()))))),()))))
        (Tr.stop))
      (Tr.fin (.brk ((x3,()),()))))
    (Tr.stop)

def s66_0 (d:sh66_0.data):Option (Out sh66_0.data shb66_0.data shr66_0.data):=(t66_0 d.1.1 d.1.2.1 d.1.2.2.1 d.1.2.2.2.1 d.1.2.2.2.2.1).val
def l66_0 (d:sh66_0.data):Option (shb66_0.data ⊕ shr66_0.data):=itr s66_0 rounds d
def b66_0 (d:sh66_0.data):shb66_0.data:=outB shb66_0.dflt (l66_0 d)
def lc66_0:LoopC:=lcB sh66_0 shb66_0 shr66_0 l66_0 b66_0

theorem wk66_0 (x0:(List (ByteArray×((List ByteArray)×(Int×Unit))))) (x1:Int) (x2:(List (Int×(ByteArray×(ByteArray×Unit))))) (x3:(List Int)) (x4:Int):Walks (runBody (kl66_2_1 Go.Proofs.Tryz.prog).orc Go.Proofs.Tryz.prog 400 66 0 sh66_0 shb66_0 shr66_0 ((x0,x1,x2,x3,x4,()),())) (t66_0 x0 x1 x2 x3 x4) [(bl 5 31,[2,4,1,6,8,10]),(bl 4 7,[2,1,4,6,8]),(bl 2 1,[2,4])] :=
  ⟨by kernel_rfl,by kernel_rfl,by kernel_rfl,trivial⟩

theorem ok66_0_t (x0:(List (ByteArray×((List ByteArray)×(Int×Unit))))) (x1:Int) (x2:(List (Int×(ByteArray×(ByteArray×Unit))))) (x3:(List Int)) (x4:Int):TrOk (BodyRuns Go.Proofs.Tryz.prog (kl66_2_1 Go.Proofs.Tryz.prog).orc 66 0 sh66_0 shb66_0 shr66_0 ((x0,x1,x2,x3,x4,()),())) (t66_0 x0 x1 x2 x3 x4) :=
  Walks.ok (fun _ _ _=>BodyRuns.of) (wk66_0 x0 x1 x2 x3 x4) (by kernel_rfl)

theorem ok66_0:LoopOk Go.Proofs.Tryz.prog 66 0 lc66_0:=loopOk_ofB (sh:=sh66_0) (shB:=shb66_0) (shR:=shr66_0) kl66_2_1_ok.base (T:=fun (d:sh66_0.data)=>t66_0 d.1.1 d.1.2.1 d.1.2.2.1 d.1.2.2.2.1 d.1.2.2.2.2.1) (by kernel_rfl) rfl (fun (d:sh66_0.data)=>ok66_0_t d.1.1 d.1.2.1 d.1.2.2.1 d.1.2.2.2.1 d.1.2.2.2.2.1) (fun _=>rfl)
def kl66_0 (P:Go.Program):Known:=(kl66_2_1 P).loop 66 0 lc66_0
theorem kl66_0_ok:KnownOk Go.Proofs.Tryz.prog (kl66_0 Go.Proofs.Tryz.prog):=kl66_2_1_ok.loop ok66_0

/-! ductility/ductilityref09.Missing -/

abbrev as66:List Ty:=[(.slice (.pair .str (.pair (.slice .str) (.pair (.int .i64) .unit)))),(.int .i64),(.slice (.pair (.int .i64) (.pair .str (.pair .str .unit))))]
abbrev rs66:List Ty:=[(.slice (.int .i64))]

def t66 (x0:(List (ByteArray×((List ByteArray)×(Int×Unit))))) (x1:Int) (x2:(List (Int×(ByteArray×(ByteArray×Unit))))):Tr (Tys.data rs66) :=
  Tr.test (isBrk (l66_0 ((x0,(x1,(x2,(([]:List Int),((0:Int),()))))),())))
    (let r0:=b66_0 ((x0,(x1,(x2,(([]:List Int),((0:Int),()))))),());
    Tr.fin ((r0.1.1,())))
    (Tr.stop)

def f66 (d:Tys.data as66):Option (Tys.data rs66):=(t66 d.1 d.2.1 d.2.2.1).val
def g66 (d:Tys.data as66):Tys.data rs66:=(f66 d).getD (Tys.dflt rs66)
def p66:PureC:=pcOf as66 rs66 f66 g66

theorem wk66 (x0:(List (ByteArray×((List ByteArray)×(Int×Unit))))) (x1:Int) (x2:(List (Int×(ByteArray×(ByteArray×Unit))))):Walks (runPure (kl66_0 Go.Proofs.Tryz.prog).orc Go.Proofs.Tryz.prog 400 66 as66 rs66 (x0,x1,x2,())) (t66 x0 x1 x2) [(bl 1 1,[1,2])] :=
  ⟨by kernel_rfl,trivial⟩

theorem ok66_t (x0:(List (ByteArray×((List ByteArray)×(Int×Unit))))) (x1:Int) (x2:(List (Int×(ByteArray×(ByteArray×Unit))))):TrOk (PureRuns Go.Proofs.Tryz.prog (kl66_0 Go.Proofs.Tryz.prog).orc 66 as66 rs66 (x0,x1,x2,())) (t66 x0 x1 x2) :=
  Walks.ok (fun _ _ _=>PureRuns.of) (wk66 x0 x1 x2) (by kernel_rfl)

theorem ok66:PureOk Go.Proofs.Tryz.prog 66 p66:=pureOk_of kl66_0_ok.base (T:=fun (d:Tys.data as66)=>t66 d.1 d.2.1 d.2.2.1) (by kernel_rfl) (fun (d:Tys.data as66)=>ok66_t d.1 d.2.1 d.2.2.1)
def kf66 (P:Go.Program):Known:=(kl66_0 P).func 66 p66
theorem kf66_ok:KnownOk Go.Proofs.Tryz.prog (kf66 Go.Proofs.Tryz.prog):=kl66_0_ok.func ok66

/-! loop 0 of ductility/ductilitybase.Ints -/

abbrev sh23_0:Sh:={ n:=26,slots:=[0,1,5],pats:=[.ty (.slice (.int .i64)),.ty (.slice (.int .i64)),.ty (.int .i64)],boxes:=[] }
abbrev shb23_0:Sh:={ n:=26,slots:=[],pats:=[],boxes:=[] }
abbrev shr23_0:Sh:={ n:=26,slots:=[4],pats:=[.ty .bool],boxes:=[] }

def t23_0 (x0:(List Int)) (x1:(List Int)) (x2:Int):Tr (Out sh23_0.data shb23_0.data shr23_0.data) :=
  Tr.test ((!leF (↑(List.length x0):Int) x2:Bool))
    (Tr.test (decide ((0:Int) ≤ x2) && decide (x2 < (↑(List.length x0):Int)))
      (Tr.test ((decide ((0:Int) ≤ x2) && decide (x2 < (↑(List.length x1):Int)):Bool))
        (Tr.test ((!eqF (List.getD x0 (Int.toNat x2) (0:Int)) (List.getD x1 (Int.toNat x2) (0:Int)):Bool))
          (Tr.fin (.ret (((false:Bool),()),())))
          (Tr.fin (.again ((x0,(x1,((wrap64 (x2 + (1:Int)):Int),()))),()))))
        (Tr.stop))
      (Tr.stop))
    (Tr.fin (.brk ((),())))

def s23_0 (d:sh23_0.data):Option (Out sh23_0.data shb23_0.data shr23_0.data):=(t23_0 d.1.1 d.1.2.1 d.1.2.2.1).val
def l23_0 (d:sh23_0.data):Option (shb23_0.data ⊕ shr23_0.data):=itr s23_0 rounds d
def b23_0 (d:sh23_0.data):shb23_0.data:=outB shb23_0.dflt (l23_0 d)
def r23_0 (d:sh23_0.data):shr23_0.data:=outR shr23_0.dflt (l23_0 d)
def lc23_0:LoopC:=lcOf sh23_0 shb23_0 shr23_0 l23_0 b23_0 r23_0

theorem wk23_0 (x0:(List Int)) (x1:(List Int)) (x2:Int):Walks (runBody (kf66 Go.Proofs.Tryz.prog).orc Go.Proofs.Tryz.prog 400 23 0 sh23_0 shb23_0 shr23_0 ((x0,x1,x2,()),())) (t23_0 x0 x1 x2) [(bl 4 15,[2,4,6,8]),(bl 4 7,[2,4,6,8]),(bl 1 0,[2])] :=
  ⟨by kernel_rfl,by kernel_rfl,by kernel_rfl,trivial⟩

theorem ok23_0_t (x0:(List Int)) (x1:(List Int)) (x2:Int):TrOk (BodyRuns Go.Proofs.Tryz.prog (kf66 Go.Proofs.Tryz.prog).orc 23 0 sh23_0 shb23_0 shr23_0 ((x0,x1,x2,()),())) (t23_0 x0 x1 x2) :=
  Walks.ok (fun _ _ _=>BodyRuns.of) (wk23_0 x0 x1 x2) (by kernel_rfl)

theorem ok23_0:LoopOk Go.Proofs.Tryz.prog 23 0 lc23_0:=loopOk_of (sh:=sh23_0) (shB:=shb23_0) (shR:=shr23_0) kf66_ok.base (T:=fun (d:sh23_0.data)=>t23_0 d.1.1 d.1.2.1 d.1.2.2.1) (by kernel_rfl) rfl (fun (d:sh23_0.data)=>ok23_0_t d.1.1 d.1.2.1 d.1.2.2.1) (fun _=>rfl)
def kl23_0 (P:Go.Program):Known:=(kf66 P).loop 23 0 lc23_0
theorem kl23_0_ok:KnownOk Go.Proofs.Tryz.prog (kl23_0 Go.Proofs.Tryz.prog):=kf66_ok.loop ok23_0

/-! ductility/ductilitybase.Ints -/

abbrev as23:List Ty:=[(.slice (.int .i64)),(.slice (.int .i64))]
abbrev rs23:List Ty:=[.bool]

def t23 (x0:(List Int)) (x1:(List Int)):Tr (Tys.data rs23) :=
  Tr.test ((!eqF (↑(List.length x0):Int) (↑(List.length x1):Int):Bool))
    (Tr.fin ((false,())))
    (Tr.test (Option.isSome (l23_0 ((x0,(x1,((0:Int),()))),())))
      (Tr.test (isRet (l23_0 ((x0,(x1,((0:Int),()))),())))
        (let r0:=r23_0 ((x0,(x1,((0:Int),()))),());
        Tr.fin ((r0.1.1,())))
        (Tr.fin (((true:Bool),()))))
      (Tr.stop))

def f23 (d:Tys.data as23):Option (Tys.data rs23):=(t23 d.1 d.2.1).val
def g23 (d:Tys.data as23):Tys.data rs23:=(f23 d).getD (Tys.dflt rs23)
def p23:PureC:=pcOf as23 rs23 f23 g23

theorem wk23 (x0:(List Int)) (x1:(List Int)):Walks (runPure (kl23_0 Go.Proofs.Tryz.prog).orc Go.Proofs.Tryz.prog 400 23 as23 rs23 (x0,x1,())) (t23 x0 x1) [(bl 1 1,[2]),(bl 3 6,[2,4,6]),(bl 3 2,[2,4,6])] :=
  ⟨by kernel_rfl,by kernel_rfl,by kernel_rfl,trivial⟩

theorem ok23_t (x0:(List Int)) (x1:(List Int)):TrOk (PureRuns Go.Proofs.Tryz.prog (kl23_0 Go.Proofs.Tryz.prog).orc 23 as23 rs23 (x0,x1,())) (t23 x0 x1) :=
  Walks.ok (fun _ _ _=>PureRuns.of) (wk23 x0 x1) (by kernel_rfl)

theorem ok23:PureOk Go.Proofs.Tryz.prog 23 p23:=pureOk_of kl23_0_ok.base (T:=fun (d:Tys.data as23)=>t23 d.1 d.2.1) (by kernel_rfl) (fun (d:Tys.data as23)=>ok23_t d.1 d.2.1)
def kf23 (P:Go.Program):Known:=(kl23_0 P).func 23 p23
theorem kf23_ok:KnownOk Go.Proofs.Tryz.prog (kf23 Go.Proofs.Tryz.prog):=kl23_0_ok.func ok23

/-! loop 0 of ductility/ductilityref09.Persons -/

abbrev sh69_0:Sh:={ n:=40,slots:=[0,1,5,6],pats:=[.ty (.int .i64),.ty (.slice (.pair (.int .i64) (.pair .str (.pair .str .unit)))),.acc .str,.ty (.int .i64)],boxes:=[] }
abbrev shb69_0:Sh:={ n:=40,slots:=[5],pats:=[.acc .str],boxes:=[] }
abbrev shr69_0:Sh:={ n:=40,slots:=[],pats:=[],boxes:=[] }

def t69_0 (x0:Int) (x1:(List (Int×(ByteArray×(ByteArray×Unit))))) (x2:(List ByteArray)) (x3:Int):Tr (Out sh69_0.data shb69_0.data shr69_0.data) :=
  Tr.test ((!leF (↑(List.length x1):Int) x3:Bool))
    (Tr.test (decide ((0:Int) ≤ x3) && decide (x3 < (↑(List.length x1):Int)))
      (Tr.test ((eqF (List.getD x1 (Int.toNat x3) ((0:Int),{ data:={ toList:=[] } },{ data:={ toList:=[] } },())).1 x0:Bool))
        (Tr.test (Option.isSome (f96 (x2,(((List.getD x1 (Int.toNat x3) ((0:Int),{ data:={ toList:=[] } },{ data:={ toList:=[] } },())).2.1:ByteArray),()))))
          (let r0:=g96 (x2,(((List.getD x1 (Int.toNat x3) ((0:Int),{ data:={ toList:=[] } },{ data:={ toList:=[] } },())).2.1:ByteArray),()));
          Tr.test ((!r0.1:Bool))
            (Tr.test ((Nat.ble (((2:Nat) * (List.length x2 + (1:Nat)) + (192:Nat)) * (16:Nat)) (281474976710656:Nat) && Nat.ble (List.length x2 + (1:Nat)) (281474976710656:Nat):Bool))
              (Tr.fin (.again ((x0,(x1,((x2++[(List.getD x1 (Int.toNat x3) ((0:Int),{ data:={ toList:=[] } },{ data:={ toList:=[] } },())).2.1]:List ByteArray),((wrap64 (x3 + (1:Int)):Int),())))),())))
              (Tr.stop))
            (Tr.fin (.again ((x0,(x1,(x2,((wrap64 (x3 + (1:Int)):Int),())))),()))))
          (Tr.stop))
        (Tr.fin (.again ((x0,(x1,(x2,((wrap64 (x3 + (1:Int)):Int),())))),()))))
      (Tr.stop))
    (Tr.fin (.brk ((x2,()),())))

def s69_0 (d:sh69_0.data):Option (Out sh69_0.data shb69_0.data shr69_0.data):=(t69_0 d.1.1 d.1.2.1 d.1.2.2.1 d.1.2.2.2.1).val
def l69_0 (d:sh69_0.data):Option (shb69_0.data ⊕ shr69_0.data):=itr s69_0 rounds d
def b69_0 (d:sh69_0.data):shb69_0.data:=outB shb69_0.dflt (l69_0 d)
def lc69_0:LoopC:=lcB sh69_0 shb69_0 shr69_0 l69_0 b69_0

theorem wk69_0 (x0:Int) (x1:(List (Int×(ByteArray×(ByteArray×Unit))))) (x2:(List ByteArray)) (x3:Int):Walks (runBody (kf23 Go.Proofs.Tryz.prog).orc Go.Proofs.Tryz.prog 400 69 0 sh69_0 shb69_0 shr69_0 ((x0,x1,x2,x3,()),())) (t69_0 x0 x1 x2 x3) [(bl 6 63,[2,10,4,8,8,6,8,8,8,10,8,8,8,8,10,12]),(bl 5 15,[2,6,6,4,6,6,6,8,6,6,6,6,8,10]),(bl 3 3,[0,2,2,2,2,2,2,2,2,2,4,6]),(bl 1 0,[2])] :=
  ⟨by kernel_rfl,by kernel_rfl,by kernel_rfl,by kernel_rfl,trivial⟩

theorem ok69_0_t (x0:Int) (x1:(List (Int×(ByteArray×(ByteArray×Unit))))) (x2:(List ByteArray)) (x3:Int):TrOk (BodyRuns Go.Proofs.Tryz.prog (kf23 Go.Proofs.Tryz.prog).orc 69 0 sh69_0 shb69_0 shr69_0 ((x0,x1,x2,x3,()),())) (t69_0 x0 x1 x2 x3) :=
  Walks.ok (fun _ _ _=>BodyRuns.of) (wk69_0 x0 x1 x2 x3) (by kernel_rfl)

theorem ok69_0:LoopOk Go.Proofs.Tryz.prog 69 0 lc69_0:=loopOk_ofB (sh:=sh69_0) (shB:=shb69_0) (shR:=shr69_0) kf23_ok.base (T:=fun (d:sh69_0.data)=>t69_0 d.1.1 d.1.2.1 d.1.2.2.1 d.1.2.2.2.1) (by kernel_rfl) rfl (fun (d:sh69_0.data)=>ok69_0_t d.1.1 d.1.2.1 d.1.2.2.1 d.1.2.2.2.1) (fun _=>rfl)
def kl69_0 (P:Go.Program):Known:=(kf23 P).loop 69 0 lc69_0
theorem kl69_0_ok:KnownOk Go.Proofs.Tryz.prog (kl69_0 Go.Proofs.Tryz.prog):=kf23_ok.loop ok69_0

/-! ductility/ductilityref09.Persons -/

abbrev as69:List Ty:=[(.int .i64),(.slice (.pair (.int .i64) (.pair .str (.pair .str .unit))))]
abbrev rs69:List Ty:=[(.int .i64)]

def t69 (x0:Int) (x1:(List (Int×(ByteArray×(ByteArray×Unit))))):Tr (Tys.data rs69) :=
  Tr.test (isBrk (l69_0 ((x0,(x1,(([]:List ByteArray),((0:Int),())))),())))
    (let r0:=b69_0 ((x0,(x1,(([]:List ByteArray),((0:Int),())))),());
    Tr.fin (((↑(List.length r0.1.1):Int),())))
    (Tr.stop)

def f69 (d:Tys.data as69):Option (Tys.data rs69):=(t69 d.1 d.2.1).val
def g69 (d:Tys.data as69):Tys.data rs69:=(f69 d).getD (Tys.dflt rs69)
def p69:PureC:=pcOf as69 rs69 f69 g69

theorem wk69 (x0:Int) (x1:(List (Int×(ByteArray×(ByteArray×Unit))))):Walks (runPure (kl69_0 Go.Proofs.Tryz.prog).orc Go.Proofs.Tryz.prog 400 69 as69 rs69 (x0,x1,())) (t69 x0 x1) [(bl 1 1,[1,2])] :=
  ⟨by kernel_rfl,trivial⟩

theorem ok69_t (x0:Int) (x1:(List (Int×(ByteArray×(ByteArray×Unit))))):TrOk (PureRuns Go.Proofs.Tryz.prog (kl69_0 Go.Proofs.Tryz.prog).orc 69 as69 rs69 (x0,x1,())) (t69 x0 x1) :=
  Walks.ok (fun _ _ _=>PureRuns.of) (wk69 x0 x1) (by kernel_rfl)

theorem ok69:PureOk Go.Proofs.Tryz.prog 69 p69:=pureOk_of kl69_0_ok.base (T:=fun (d:Tys.data as69)=>t69 d.1 d.2.1) (by kernel_rfl) (fun (d:Tys.data as69)=>ok69_t d.1 d.2.1)
def kf69 (P:Go.Program):Known:=(kl69_0 P).func 69 p69
theorem kf69_ok:KnownOk Go.Proofs.Tryz.prog (kf69 Go.Proofs.Tryz.prog):=kl69_0_ok.func ok69

/-! loop 0 of ductility/ductilityref09.Level -/

abbrev sh67_0:Sh:={ n:=32,slots:=[0,1,5],pats:=[.ty (.slice (.pair .str (.pair (.slice .str) (.pair (.int .i64) .unit)))),.ty (.slice (.pair (.int .i64) (.pair .str (.pair .str .unit)))),.ty (.int .i64)],boxes:=[] }
abbrev shb67_0:Sh:={ n:=32,slots:=[0],pats:=[.ty (.slice (.pair .str (.pair (.slice .str) (.pair (.int .i64) .unit))))],boxes:=[] }
abbrev shr67_0:Sh:={ n:=32,slots:=[4],pats:=[.ty (.int .i64)],boxes:=[] }

def t67_0 (x0:(List (ByteArray×((List ByteArray)×(Int×Unit))))) (x1:(List (Int×(ByteArray×(ByteArray×Unit))))) (x2:Int):Tr (Out sh67_0.data shb67_0.data shr67_0.data) :=
  Tr.test ((!leF (↑(List.length x0):Int) x2:Bool))
    (Tr.test (Option.isSome (f66 (x0,(x2,(x1,())))))
      (let r0:=g66 (x0,(x2,(x1,())));
      Tr.test ((!leF (↑(List.length r0.1):Int) (0:Int):Bool))
        (Tr.fin (.ret ((x2,()),())))
        (Tr.test (Option.isSome (f69 (x2,(x1,()))))
          (Tr.test ((decide ((0:Int) ≤ x2) && decide (x2 < (↑(List.length x0):Int)):Bool))
            (let r1:=g69 (x2,(x1,()));
            Tr.test ((!leF (List.getD x0 (Int.toNat x2) ({ data:={ toList:=[] } },[],(0:Int),())).2.2.1 r1.1:Bool))
              (Tr.fin (.ret ((x2,()),())))
              (Tr.fin (.again ((x0,(x1,((wrap64 (x2 + (1:Int)):Int),()))),()))))
            (Tr.stop))
          (Tr.stop)))
      (Tr.stop))
    (Tr.fin (.brk ((x0,()),())))

def s67_0 (d:sh67_0.data):Option (Out sh67_0.data shb67_0.data shr67_0.data):=(t67_0 d.1.1 d.1.2.1 d.1.2.2.1).val
def l67_0 (d:sh67_0.data):Option (shb67_0.data ⊕ shr67_0.data):=itr s67_0 rounds d
def b67_0 (d:sh67_0.data):shb67_0.data:=outB shb67_0.dflt (l67_0 d)
def r67_0 (d:sh67_0.data):shr67_0.data:=outR shr67_0.dflt (l67_0 d)
def lc67_0:LoopC:=lcOf sh67_0 shb67_0 shr67_0 l67_0 b67_0 r67_0

theorem wk67_0 (x0:(List (ByteArray×((List ByteArray)×(Int×Unit))))) (x1:(List (Int×(ByteArray×(ByteArray×Unit))))) (x2:Int):Walks (runBody (kf69 Go.Proofs.Tryz.prog).orc Go.Proofs.Tryz.prog 400 67 0 sh67_0 shb67_0 shr67_0 ((x0,x1,x2,()),())) (t67_0 x0 x1 x2) [(bl 3 7,[1,2,2,2,2,2,2,2,2,2,2,4,6]),(bl 6 59,[2,8,8,8,8,4,8,8,8,6,8,8,8,10,12]),(bl 6 27,[2,8,8,8,8,4,8,8,8,6,8,8,8,10,12]),(bl 1 0,[2])] :=
  ⟨by kernel_rfl,by kernel_rfl,by kernel_rfl,by kernel_rfl,trivial⟩

theorem ok67_0_t (x0:(List (ByteArray×((List ByteArray)×(Int×Unit))))) (x1:(List (Int×(ByteArray×(ByteArray×Unit))))) (x2:Int):TrOk (BodyRuns Go.Proofs.Tryz.prog (kf69 Go.Proofs.Tryz.prog).orc 67 0 sh67_0 shb67_0 shr67_0 ((x0,x1,x2,()),())) (t67_0 x0 x1 x2) :=
  Walks.ok (fun _ _ _=>BodyRuns.of) (wk67_0 x0 x1 x2) (by kernel_rfl)

theorem ok67_0:LoopOk Go.Proofs.Tryz.prog 67 0 lc67_0:=loopOk_of (sh:=sh67_0) (shB:=shb67_0) (shR:=shr67_0) kf69_ok.base (T:=fun (d:sh67_0.data)=>t67_0 d.1.1 d.1.2.1 d.1.2.2.1) (by kernel_rfl) rfl (fun (d:sh67_0.data)=>ok67_0_t d.1.1 d.1.2.1 d.1.2.2.1) (fun _=>rfl)
def kl67_0 (P:Go.Program):Known:=(kf69 P).loop 67 0 lc67_0
theorem kl67_0_ok:KnownOk Go.Proofs.Tryz.prog (kl67_0 Go.Proofs.Tryz.prog):=kf69_ok.loop ok67_0

/-! ductility/ductilityref09.Level -/

abbrev as67:List Ty:=[(.slice (.pair .str (.pair (.slice .str) (.pair (.int .i64) .unit)))),(.slice (.pair (.int .i64) (.pair .str (.pair .str .unit))))]
abbrev rs67:List Ty:=[(.int .i64)]

def t67 (x0:(List (ByteArray×((List ByteArray)×(Int×Unit))))) (x1:(List (Int×(ByteArray×(ByteArray×Unit))))):Tr (Tys.data rs67) :=
  Tr.test (Option.isSome (l67_0 ((x0,(x1,((0:Int),()))),())))
    (Tr.test (isRet (l67_0 ((x0,(x1,((0:Int),()))),())))
      (let r0:=r67_0 ((x0,(x1,((0:Int),()))),());
      Tr.fin ((r0.1.1,())))
      (let r1:=b67_0 ((x0,(x1,((0:Int),()))),());
      Tr.fin (((↑(List.length r1.1.1):Int),()))))
    (Tr.stop)

def f67 (d:Tys.data as67):Option (Tys.data rs67):=(t67 d.1 d.2.1).val
def g67 (d:Tys.data as67):Tys.data rs67:=(f67 d).getD (Tys.dflt rs67)
def p67:PureC:=pcOf as67 rs67 f67 g67

theorem wk67 (x0:(List (ByteArray×((List ByteArray)×(Int×Unit))))) (x1:(List (Int×(ByteArray×(ByteArray×Unit))))):Walks (runPure (kl67_0 Go.Proofs.Tryz.prog).orc Go.Proofs.Tryz.prog 400 67 as67 rs67 (x0,x1,())) (t67 x0 x1) [(bl 2 3,[2,4]),(bl 2 1,[2,4])] :=
  ⟨by kernel_rfl,by kernel_rfl,trivial⟩

theorem ok67_t (x0:(List (ByteArray×((List ByteArray)×(Int×Unit))))) (x1:(List (Int×(ByteArray×(ByteArray×Unit))))):TrOk (PureRuns Go.Proofs.Tryz.prog (kl67_0 Go.Proofs.Tryz.prog).orc 67 as67 rs67 (x0,x1,())) (t67 x0 x1) :=
  Walks.ok (fun _ _ _=>PureRuns.of) (wk67 x0 x1) (by kernel_rfl)

theorem ok67:PureOk Go.Proofs.Tryz.prog 67 p67:=pureOk_of kl67_0_ok.base (T:=fun (d:Tys.data as67)=>t67 d.1 d.2.1) (by kernel_rfl) (fun (d:Tys.data as67)=>ok67_t d.1 d.2.1)
def kf67 (P:Go.Program):Known:=(kl67_0 P).func 67 p67
theorem kf67_ok:KnownOk Go.Proofs.Tryz.prog (kf67 Go.Proofs.Tryz.prog):=kl67_0_ok.func ok67

end Go.Vm.Mo
