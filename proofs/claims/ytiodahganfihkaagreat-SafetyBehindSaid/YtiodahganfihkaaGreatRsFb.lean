import Derived.Test.YtiodahganfihkaaGreatA4
import Derived.KernelRfl
import Derived.Test.YtiodahganfihkaaGreatProg
import Derived.Test.YtiodahganfihkaaGreatRsFa
set_option linter.unusedVariables false
set_option linter.unusedSimpArgs false

namespace Go.Vm.Mo
open Go
set_option linter.unusedVariables false

/-! loop 0 of ductility/ductilityref09.CheckGates -/

abbrev sh64_0:Sh:={ n:=98,slots:=[0,4],pats:=[.ty (.slice (.pair .str (.pair (.slice .str) (.pair (.int .i64) .unit)))),.ty (.int .i64)],boxes:=[] }
abbrev shb64_0:Sh:={ n:=98,slots:=[],pats:=[],boxes:=[] }
abbrev shr64_0:Sh:={ n:=98,slots:=[2,3],pats:=[.ty (.int .i64),.ty (.int .i64)],boxes:=[] }

def t64_0 (x0:(List (ByteArray×((List ByteArray)×(Int×Unit))))) (x1:Int):Tr (Out sh64_0.data shb64_0.data shr64_0.data) :=
  Tr.test ((!leF (↑(List.length x0):Int) x1:Bool))
    (Tr.test (decide ((0:Int) ≤ x1) && decide (x1 < (↑(List.length x0):Int)))
      (Tr.test (Option.isSome (f95 (((List.getD x0 (Int.toNat x1) ({ data:={ toList:=[] } },[],(0:Int),())).1:ByteArray),())))
        (let r0:=g95 (((List.getD x0 (Int.toNat x1) ({ data:={ toList:=[] } },[],(0:Int),())).1:ByteArray),());
        Tr.test ((!r0.1:Bool))
          (Tr.fin (.ret ((x1,((4:Int),())),())))
          (Tr.test (Option.isSome (l64_2 ((x0,(x1,((0:Int),()))),())))
            (Tr.test (isRet (l64_2 ((x0,(x1,((0:Int),()))),())))
              (let r1:=r64_2 ((x0,(x1,((0:Int),()))),());
              Tr.fin (.ret ((r1.1.1,(r1.1.2.1,())),())))
              (let r2:=b64_2 ((x0,(x1,((0:Int),()))),());
              Tr.test ((decide ((0:Int) ≤ r2.1.2.1) && decide (r2.1.2.1 < (↑(List.length r2.1.1):Int)):Bool))
                (Tr.test ((!leF (↑(List.length (List.getD r2.1.1 (Int.toNat r2.1.2.1) ({ data:={ toList:=[] } },[],(0:Int),())).2.1):Int) (4:Int):Bool))
                  (Tr.fin (.ret ((r2.1.2.1,((8:Int),())),())))
                  (Tr.test (Option.isSome (l64_4 ((r2.1.1,(r2.1.2.1,((0:Int),()))),())))
                    (Tr.test (isRet (l64_4 ((r2.1.1,(r2.1.2.1,((0:Int),()))),())))
                      (let r3:=r64_4 ((r2.1.1,(r2.1.2.1,((0:Int),()))),());
                      Tr.fin (.ret ((r3.1.1,(r3.1.2.1,())),())))
                      (let r4:=b64_4 ((r2.1.1,(r2.1.2.1,((0:Int),()))),());
                      Tr.test ((decide ((0:Int) ≤ r4.1.2.1) && decide (r4.1.2.1 < (↑(List.length r4.1.1):Int)):Bool))
                        (Tr.test (Option.isSome (f25 (((List.getD r4.1.1 (Int.toNat r4.1.2.1) ({ data:={ toList:=[] } },[],(0:Int),())).2.2.1:Int),((0:Int),((20:Int),())))))
                          (let r5:=g25 (((List.getD r4.1.1 (Int.toNat r4.1.2.1) ({ data:={ toList:=[] } },[],(0:Int),())).2.2.1:Int),((0:Int),((20:Int),())));
                          Tr.test ((!r5.1:Bool))
                            (Tr.fin (.ret ((r4.1.2.1,((2:Int),())),())))
                            (Tr.fin (.again ((r4.1.1,((wrap64 (r4.1.2.1 + (1:Int)):Int),())),()))))
                          (Tr.stop))
                        (Tr.stop)))
                    (Tr.stop)))
                (Tr.stop)))
            (Tr.stop)))
        (Tr.stop))
      (Tr.stop))
    (Tr.fin (.brk ((),())))

def s64_0 (d:sh64_0.data):Option (Out sh64_0.data shb64_0.data shr64_0.data):=(t64_0 d.1.1 d.1.2.1).val
def l64_0 (d:sh64_0.data):Option (shb64_0.data ⊕ shr64_0.data):=itr s64_0 rounds d
def b64_0 (d:sh64_0.data):shb64_0.data:=outB shb64_0.dflt (l64_0 d)
def r64_0 (d:sh64_0.data):shr64_0.data:=outR shr64_0.dflt (l64_0 d)
def lc64_0:LoopC:=lcOf sh64_0 shb64_0 shr64_0 l64_0 b64_0 r64_0

theorem wk64_0 (x0:(List (ByteArray×((List ByteArray)×(Int×Unit))))) (x1:Int):Walks (runBody (kl64_4 Go.Proofs.Tryz.prog).orc Go.Proofs.Tryz.prog 400 64 0 sh64_0 shb64_0 shr64_0 ((x0,x1,()),())) (t64_0 x0 x1) [(bl 4 15,[2,4,6,8]),(bl 6 55,[2,4,6,8,10,12]),(bl 8 215,[2,4,6,8,10,12,14,16]),(bl 10 855,[2,4,6,8,10,12,14,16,18,20]),(bl 13 7511,[2,4,6,8,10,12,14,16,18,20,22,24,26]),(bl 13 3415,[2,4,6,8,10,12,14,16,18,20,22,24,26]),(bl 1 0,[2])] :=
  ⟨by kernel_rfl,by kernel_rfl,by kernel_rfl,by kernel_rfl,by kernel_rfl,by kernel_rfl,by kernel_rfl,trivial⟩

theorem ok64_0_t (x0:(List (ByteArray×((List ByteArray)×(Int×Unit))))) (x1:Int):TrOk (BodyRuns Go.Proofs.Tryz.prog (kl64_4 Go.Proofs.Tryz.prog).orc 64 0 sh64_0 shb64_0 shr64_0 ((x0,x1,()),())) (t64_0 x0 x1) :=
  Walks.ok (fun _ _ _=>BodyRuns.of) (wk64_0 x0 x1) (by kernel_rfl)

theorem ok64_0:LoopOk Go.Proofs.Tryz.prog 64 0 lc64_0:=loopOk_of (sh:=sh64_0) (shB:=shb64_0) (shR:=shr64_0) kl64_4_ok.base (T:=fun (d:sh64_0.data)=>t64_0 d.1.1 d.1.2.1) (by kernel_rfl) rfl (fun (d:sh64_0.data)=>ok64_0_t d.1.1 d.1.2.1) (fun _=>rfl)
def kl64_0 (P:Go.Program):Known:=(kl64_4 P).loop 64 0 lc64_0
theorem kl64_0_ok:KnownOk Go.Proofs.Tryz.prog (kl64_0 Go.Proofs.Tryz.prog):=kl64_4_ok.loop ok64_0

/-! ductility/ductilityref09.CheckGates -/

abbrev as64:List Ty:=[(.slice (.pair .str (.pair (.slice .str) (.pair (.int .i64) .unit))))]
abbrev rs64:List Ty:=[(.int .i64),(.int .i64)]

def t64 (x0:(List (ByteArray×((List ByteArray)×(Int×Unit))))):Tr (Tys.data rs64) :=
  Tr.test ((eqF (↑(List.length x0):Int) (0:Int):Bool))
    (Tr.fin (((0:Int),((10:Int),()))))
    (Tr.test (!leF (↑(List.length x0):Int) (6:Int))
      (Tr.fin (((0:Int),((8:Int),()))))
      (Tr.test (Option.isSome (l64_0 ((x0,((0:Int),())),())))
        (Tr.test (isRet (l64_0 ((x0,((0:Int),())),())))
          (let r0:=r64_0 ((x0,((0:Int),())),());
          Tr.fin ((r0.1.1,(r0.1.2.1,()))))
          (Tr.fin (((0:Int),((0:Int),())))))
        (Tr.stop)))

def f64 (d:Tys.data as64):Option (Tys.data rs64):=(t64 d.1).val
def g64 (d:Tys.data as64):Tys.data rs64:=(f64 d).getD (Tys.dflt rs64)
def p64:PureC:=pcOf as64 rs64 f64 g64

theorem wk64 (x0:(List (ByteArray×((List ByteArray)×(Int×Unit))))):Walks (runPure (kl64_0 Go.Proofs.Tryz.prog).orc Go.Proofs.Tryz.prog 400 64 as64 rs64 (x0,())) (t64 x0) [(bl 1 1,[2]),(bl 2 2,[2,4]),(bl 4 12,[2,4,6,8]),(bl 4 4,[2,4,6,8])] :=
  ⟨by kernel_rfl,by kernel_rfl,by kernel_rfl,by kernel_rfl,trivial⟩

theorem ok64_t (x0:(List (ByteArray×((List ByteArray)×(Int×Unit))))):TrOk (PureRuns Go.Proofs.Tryz.prog (kl64_0 Go.Proofs.Tryz.prog).orc 64 as64 rs64 (x0,())) (t64 x0) :=
  Walks.ok (fun _ _ _=>PureRuns.of) (wk64 x0) (by kernel_rfl)

theorem ok64:PureOk Go.Proofs.Tryz.prog 64 p64:=pureOk_of kl64_0_ok.base (T:=fun (d:Tys.data as64)=>t64 d.1) (by kernel_rfl) (fun (d:Tys.data as64)=>ok64_t d.1)
def kf64 (P:Go.Program):Known:=(kl64_0 P).func 64 p64
theorem kf64_ok:KnownOk Go.Proofs.Tryz.prog (kf64 Go.Proofs.Tryz.prog):=kl64_0_ok.func ok64

/-! ductility/ductilityref09.GatesErr -/

abbrev as68:List Ty:=[(.slice (.pair .str (.pair (.slice .str) (.pair (.int .i64) .unit))))]
abbrev rs68:List Ty:=[(.int .i64)]

def t68 (x0:(List (ByteArray×((List ByteArray)×(Int×Unit))))):Tr (Tys.data rs68) :=
  Tr.test (Option.isSome (f64 (x0,())))
    (let r0:=g64 (x0,());
    Tr.fin ((r0.2.1,())))
    (Tr.stop)

def f68 (d:Tys.data as68):Option (Tys.data rs68):=(t68 d.1).val
def g68 (d:Tys.data as68):Tys.data rs68:=(f68 d).getD (Tys.dflt rs68)
def p68:PureC:=pcOf as68 rs68 f68 g68

theorem wk68 (x0:(List (ByteArray×((List ByteArray)×(Int×Unit))))):Walks (runPure (kf64 Go.Proofs.Tryz.prog).orc Go.Proofs.Tryz.prog 400 68 as68 rs68 (x0,())) (t68 x0) [(bl 1 1,[2])] :=
  ⟨by kernel_rfl,trivial⟩

theorem ok68_t (x0:(List (ByteArray×((List ByteArray)×(Int×Unit))))):TrOk (PureRuns Go.Proofs.Tryz.prog (kf64 Go.Proofs.Tryz.prog).orc 68 as68 rs68 (x0,())) (t68 x0) :=
  Walks.ok (fun _ _ _=>PureRuns.of) (wk68 x0) (by kernel_rfl)

theorem ok68:PureOk Go.Proofs.Tryz.prog 68 p68:=pureOk_of kf64_ok.base (T:=fun (d:Tys.data as68)=>t68 d.1) (by kernel_rfl) (fun (d:Tys.data as68)=>ok68_t d.1)
def kf68 (P:Go.Program):Known:=(kf64 P).func 68 p68
theorem kf68_ok:KnownOk Go.Proofs.Tryz.prog (kf68 Go.Proofs.Tryz.prog):=kf64_ok.func ok68

/-! loop 2 of ductility/ductilityref09.SignsErr -/

abbrev sh65_2:Sh:={ n:=55,slots:=[0,1,5,6],pats:=[.ty (.int .i64),.ty (.slice (.pair (.int .i64) (.pair .str (.pair .str .unit)))),.ty (.int .i64),.ty (.int .i64)],boxes:=[] }
abbrev shb65_2:Sh:={ n:=55,slots:=[0,1,5],pats:=[.ty (.int .i64),.ty (.slice (.pair (.int .i64) (.pair .str (.pair .str .unit)))),.ty (.int .i64)],boxes:=[] }
abbrev shr65_2:Sh:={ n:=55,slots:=[4],pats:=[.ty (.int .i64)],boxes:=[] }

def t65_2 (x0:Int) (x1:(List (Int×(ByteArray×(ByteArray×Unit))))) (x2:Int) (x3:Int):Tr (Out sh65_2.data shb65_2.data shr65_2.data) :=
  Tr.test ((!leF x2 x3:Bool))
    (Tr.test (decide ((0:Int) ≤ x3) && decide (x3 < (↑(List.length x1):Int)))
      (Tr.test ((decide ((0:Int) ≤ x2) && decide (x2 < (↑(List.length x1):Int)):Bool))
        (Tr.test (((List.getD x1 (Int.toNat x3) ((0:Int),{ data:={ toList:=[] } },{ data:={ toList:=[] } },())).1 == (List.getD x1 (Int.toNat x2) ((0:Int),{ data:={ toList:=[] } },{ data:={ toList:=[] } },())).1 && (strEq (List.getD x1 (Int.toNat x3) ((0:Int),{ data:={ toList:=[] } },{ data:={ toList:=[] } },())).2.1 (List.getD x1 (Int.toNat x2) ((0:Int),{ data:={ toList:=[] } },{ data:={ toList:=[] } },())).2.1 && (strEq (List.getD x1 (Int.toNat x3) ((0:Int),{ data:={ toList:=[] } },{ data:={ toList:=[] } },())).2.2.1 (List.getD x1 (Int.toNat x2) ((0:Int),{ data:={ toList:=[] } },{ data:={ toList:=[] } },())).2.2.1 && true)):Bool))
          (Tr.fin (.ret (((23:Int),()),())))
          (Tr.fin (.again ((x0,(x1,(x2,((wrap64 (x3 + (1:Int)):Int),())))),()))))
        (Tr.stop))
      (Tr.stop))
    (Tr.fin (.brk ((x0,(x1,(x2,()))),())))

def s65_2 (d:sh65_2.data):Option (Out sh65_2.data shb65_2.data shr65_2.data):=(t65_2 d.1.1 d.1.2.1 d.1.2.2.1 d.1.2.2.2.1).val
def l65_2 (d:sh65_2.data):Option (shb65_2.data ⊕ shr65_2.data):=itr s65_2 rounds d
def b65_2 (d:sh65_2.data):shb65_2.data:=outB shb65_2.dflt (l65_2 d)
def r65_2 (d:sh65_2.data):shr65_2.data:=outR shr65_2.dflt (l65_2 d)
def lc65_2:LoopC:=lcOf sh65_2 shb65_2 shr65_2 l65_2 b65_2 r65_2

theorem wk65_2 (x0:Int) (x1:(List (Int×(ByteArray×(ByteArray×Unit))))) (x2:Int) (x3:Int):Walks (runBody (kf68 Go.Proofs.Tryz.prog).orc Go.Proofs.Tryz.prog 400 65 2 sh65_2 shb65_2 shr65_2 ((x0,x1,x2,x3,()),())) (t65_2 x0 x1 x2 x3) [(bl 4 15,[2,4,6,8]),(bl 4 7,[2,4,6,8]),(bl 1 0,[2])] :=
  ⟨by kernel_rfl,by kernel_rfl,by kernel_rfl,trivial⟩

theorem ok65_2_t (x0:Int) (x1:(List (Int×(ByteArray×(ByteArray×Unit))))) (x2:Int) (x3:Int):TrOk (BodyRuns Go.Proofs.Tryz.prog (kf68 Go.Proofs.Tryz.prog).orc 65 2 sh65_2 shb65_2 shr65_2 ((x0,x1,x2,x3,()),())) (t65_2 x0 x1 x2 x3) :=
  Walks.ok (fun _ _ _=>BodyRuns.of) (wk65_2 x0 x1 x2 x3) (by kernel_rfl)

theorem ok65_2:LoopOk Go.Proofs.Tryz.prog 65 2 lc65_2:=loopOk_of (sh:=sh65_2) (shB:=shb65_2) (shR:=shr65_2) kf68_ok.base (T:=fun (d:sh65_2.data)=>t65_2 d.1.1 d.1.2.1 d.1.2.2.1 d.1.2.2.2.1) (by kernel_rfl) rfl (fun (d:sh65_2.data)=>ok65_2_t d.1.1 d.1.2.1 d.1.2.2.1 d.1.2.2.2.1) (fun _=>rfl)
def kl65_2 (P:Go.Program):Known:=(kf68 P).loop 65 2 lc65_2
theorem kl65_2_ok:KnownOk Go.Proofs.Tryz.prog (kl65_2 Go.Proofs.Tryz.prog):=kf68_ok.loop ok65_2

/-! loop 0 of ductility/ductilityref09.SignsErr -/

abbrev sh65_0:Sh:={ n:=55,slots:=[0,1,5],pats:=[.ty (.int .i64),.ty (.slice (.pair (.int .i64) (.pair .str (.pair .str .unit)))),.ty (.int .i64)],boxes:=[] }
abbrev shb65_0:Sh:={ n:=55,slots:=[],pats:=[],boxes:=[] }
abbrev shr65_0:Sh:={ n:=55,slots:=[4],pats:=[.ty (.int .i64)],boxes:=[] }

def t65_0 (x0:Int) (x1:(List (Int×(ByteArray×(ByteArray×Unit))))) (x2:Int):Tr (Out sh65_0.data shb65_0.data shr65_0.data) :=
  Tr.test ((!leF (↑(List.length x1):Int) x2:Bool))
    (Tr.test (decide ((0:Int) ≤ x2) && decide (x2 < (↑(List.length x1):Int)))
      (Tr.test (Option.isSome (f25 (((List.getD x1 (Int.toNat x2) ((0:Int),{ data:={ toList:=[] } },{ data:={ toList:=[] } },())).1:Int),((0:Int),((wrap64 (x0 - (1:Int)):Int),())))))
        (let r0:=g25 (((List.getD x1 (Int.toNat x2) ((0:Int),{ data:={ toList:=[] } },{ data:={ toList:=[] } },())).1:Int),((0:Int),((wrap64 (x0 - (1:Int)):Int),())));
        Tr.test ((!r0.1:Bool))
          (Tr.fin (.ret (((6:Int),()),())))
          (Tr.test (Option.isSome (f95 (((List.getD x1 (Int.toNat x2) ((0:Int),{ data:={ toList:=[] } },{ data:={ toList:=[] } },())).2.1:ByteArray),())))
            (let r1:=g95 (((List.getD x1 (Int.toNat x2) ((0:Int),{ data:={ toList:=[] } },{ data:={ toList:=[] } },())).2.1:ByteArray),());
            Tr.test ((!r1.1:Bool))
              (Tr.fin (.ret (((4:Int),()),())))
              (Tr.test (Option.isSome (f95 (((List.getD x1 (Int.toNat x2) ((0:Int),{ data:={ toList:=[] } },{ data:={ toList:=[] } },())).2.2.1:ByteArray),())))
                (let r2:=g95 (((List.getD x1 (Int.toNat x2) ((0:Int),{ data:={ toList:=[] } },{ data:={ toList:=[] } },())).2.2.1:ByteArray),());
                Tr.test ((!r2.1:Bool))
                  (Tr.fin (.ret (((4:Int),()),())))
                  (Tr.test (Option.isSome (l65_2 ((x0,(x1,(x2,((0:Int),())))),())))
                    (Tr.test (isRet (l65_2 ((x0,(x1,(x2,((0:Int),())))),())))
                      (let r3:=r65_2 ((x0,(x1,(x2,((0:Int),())))),());
                      Tr.fin (.ret ((r3.1.1,()),())))
                      (let r4:=b65_2 ((x0,(x1,(x2,((0:Int),())))),());
                      Tr.fin (.again ((r4.1.1,(r4.1.2.1,((wrap64 (r4.1.2.2.1 + (1:Int)):Int),()))),()))))
                    (Tr.stop)))
                (Tr.stop)))
            (Tr.stop)))
        (Tr.stop))
      (Tr.stop))
    (Tr.fin (.brk ((),())))

def s65_0 (d:sh65_0.data):Option (Out sh65_0.data shb65_0.data shr65_0.data):=(t65_0 d.1.1 d.1.2.1 d.1.2.2.1).val
def l65_0 (d:sh65_0.data):Option (shb65_0.data ⊕ shr65_0.data):=itr s65_0 rounds d
def b65_0 (d:sh65_0.data):shb65_0.data:=outB shb65_0.dflt (l65_0 d)
def r65_0 (d:sh65_0.data):shr65_0.data:=outR shr65_0.dflt (l65_0 d)
def lc65_0:LoopC:=lcOf sh65_0 shb65_0 shr65_0 l65_0 b65_0 r65_0

theorem wk65_0 (x0:Int) (x1:(List (Int×(ByteArray×(ByteArray×Unit))))) (x2:Int):Walks (runBody (kl65_2 Go.Proofs.Tryz.prog).orc Go.Proofs.Tryz.prog 400 65 0 sh65_0 shb65_0 shr65_0 ((x0,x1,x2,()),())) (t65_0 x0 x1 x2) [(bl 4 15,[2,4,6,8]),(bl 6 55,[1,2,2,2,2,2,2,2,2,4,10,6,8,10,12]),(bl 8 215,[2,6,6,4,6,6,6,14,6,6,6,8,14,10,12,14,16]),(bl 10 855,[2,4,6,10,10,8,10,10,10,18,10,10,10,12,18,14,16,18,20]),(bl 10 343,[2,4,6,10,10,8,10,10,10,18,10,10,10,12,18,14,16,18,20]),(bl 1 0,[2])] :=
  ⟨by kernel_rfl,by kernel_rfl,by kernel_rfl,by kernel_rfl,by kernel_rfl,by kernel_rfl,trivial⟩

theorem ok65_0_t (x0:Int) (x1:(List (Int×(ByteArray×(ByteArray×Unit))))) (x2:Int):TrOk (BodyRuns Go.Proofs.Tryz.prog (kl65_2 Go.Proofs.Tryz.prog).orc 65 0 sh65_0 shb65_0 shr65_0 ((x0,x1,x2,()),())) (t65_0 x0 x1 x2) :=
  Walks.ok (fun _ _ _=>BodyRuns.of) (wk65_0 x0 x1 x2) (by kernel_rfl)

theorem ok65_0:LoopOk Go.Proofs.Tryz.prog 65 0 lc65_0:=loopOk_of (sh:=sh65_0) (shB:=shb65_0) (shR:=shr65_0) kl65_2_ok.base (T:=fun (d:sh65_0.data)=>t65_0 d.1.1 d.1.2.1 d.1.2.2.1) (by kernel_rfl) rfl (fun (d:sh65_0.data)=>ok65_0_t d.1.1 d.1.2.1 d.1.2.2.1) (fun _=>rfl)
def kl65_0 (P:Go.Program):Known:=(kl65_2 P).loop 65 0 lc65_0
theorem kl65_0_ok:KnownOk Go.Proofs.Tryz.prog (kl65_0 Go.Proofs.Tryz.prog):=kl65_2_ok.loop ok65_0

/-! ductility/ductilityref09.SignsErr -/

abbrev as65:List Ty:=[(.int .i64),(.slice (.pair (.int .i64) (.pair .str (.pair .str .unit))))]
abbrev rs65:List Ty:=[(.int .i64)]

def t65 (x0:Int) (x1:(List (Int×(ByteArray×(ByteArray×Unit))))):Tr (Tys.data rs65) :=
  Tr.test ((!leF (↑(List.length x1):Int) (20:Int):Bool))
    (Tr.fin (((8:Int),())))
    (Tr.test (Option.isSome (l65_0 ((x0,(x1,((0:Int),()))),())))
      (Tr.test (isRet (l65_0 ((x0,(x1,((0:Int),()))),())))
        (let r0:=r65_0 ((x0,(x1,((0:Int),()))),());
        Tr.fin ((r0.1.1,())))
        (Tr.fin (((0:Int),()))))
      (Tr.stop))

def f65 (d:Tys.data as65):Option (Tys.data rs65):=(t65 d.1 d.2.1).val
def g65 (d:Tys.data as65):Tys.data rs65:=(f65 d).getD (Tys.dflt rs65)
def p65:PureC:=pcOf as65 rs65 f65 g65

theorem wk65 (x0:Int) (x1:(List (Int×(ByteArray×(ByteArray×Unit))))):Walks (runPure (kl65_0 Go.Proofs.Tryz.prog).orc Go.Proofs.Tryz.prog 400 65 as65 rs65 (x0,x1,())) (t65 x0 x1) [(bl 1 1,[2]),(bl 3 6,[2,4,6]),(bl 3 2,[2,4,6])] :=
  ⟨by kernel_rfl,by kernel_rfl,by kernel_rfl,trivial⟩

theorem ok65_t (x0:Int) (x1:(List (Int×(ByteArray×(ByteArray×Unit))))):TrOk (PureRuns Go.Proofs.Tryz.prog (kl65_0 Go.Proofs.Tryz.prog).orc 65 as65 rs65 (x0,x1,())) (t65 x0 x1) :=
  Walks.ok (fun _ _ _=>PureRuns.of) (wk65 x0 x1) (by kernel_rfl)

theorem ok65:PureOk Go.Proofs.Tryz.prog 65 p65:=pureOk_of kl65_0_ok.base (T:=fun (d:Tys.data as65)=>t65 d.1 d.2.1) (by kernel_rfl) (fun (d:Tys.data as65)=>ok65_t d.1 d.2.1)
def kf65 (P:Go.Program):Known:=(kl65_0 P).func 65 p65
theorem kf65_ok:KnownOk Go.Proofs.Tryz.prog (kf65 Go.Proofs.Tryz.prog):=kl65_0_ok.func ok65

/-! ductility/ductilitybase.CopyTexts -/

abbrev as89:List Ty:=[(.slice .str)]
abbrev rs89:List Ty:=[(.slice .str)]

def t89 (x0:(List ByteArray)):Tr (Tys.data rs89) :=
  Tr.test ((Nat.ble (((2:Nat) * ((0:Nat) + List.length x0) + (192:Nat)) * (16:Nat)) (281474976710656:Nat) && Nat.ble ((0:Nat) + List.length x0) (281474976710656:Nat):Bool))
    (Tr.fin ((([]++x0:List ByteArray),())))
    (Tr.test (Nat.ble ((0:Nat) + List.length x0) (0:Nat))
      (Tr.stop)
      (Tr.stop))

def f89 (d:Tys.data as89):Option (Tys.data rs89):=(t89 d.1).val
def g89 (d:Tys.data as89):Tys.data rs89:=(f89 d).getD (Tys.dflt rs89)
def p89:PureC:=pcOf as89 rs89 f89 g89

theorem wk89 (x0:(List ByteArray)):Walks (runPure (kf65 Go.Proofs.Tryz.prog).orc Go.Proofs.Tryz.prog 400 89 as89 rs89 (x0,())) (t89 x0) [(bl 1 1,[2])] :=
  ⟨by kernel_rfl,trivial⟩

theorem ok89_t (x0:(List ByteArray)):TrOk (PureRuns Go.Proofs.Tryz.prog (kf65 Go.Proofs.Tryz.prog).orc 89 as89 rs89 (x0,())) (t89 x0) :=
  Walks.ok (fun _ _ _=>PureRuns.of) (wk89 x0) (by kernel_rfl)

theorem ok89:PureOk Go.Proofs.Tryz.prog 89 p89:=pureOk_of kf65_ok.base (T:=fun (d:Tys.data as89)=>t89 d.1) (by kernel_rfl) (fun (d:Tys.data as89)=>ok89_t d.1)
def kf89 (P:Go.Program):Known:=(kf65 P).func 89 p89
theorem kf89_ok:KnownOk Go.Proofs.Tryz.prog (kf89 Go.Proofs.Tryz.prog):=kf65_ok.func ok89

/-! loop 0 of ductility/ductilityref09.CopyGates -/

abbrev sh60_0:Sh:={ n:=32,slots:=[0,3,4],pats:=[.ty (.slice (.pair .str (.pair (.slice .str) (.pair (.int .i64) .unit)))),.acc (.pair .str (.pair (.slice .str) (.pair (.int .i64) .unit))),.ty (.int .i64)],boxes:=[] }
abbrev shb60_0:Sh:={ n:=32,slots:=[3],pats:=[.acc (.pair .str (.pair (.slice .str) (.pair (.int .i64) .unit)))],boxes:=[] }
abbrev shr60_0:Sh:={ n:=32,slots:=[],pats:=[],boxes:=[] }

def t60_0 (x0:(List (ByteArray×((List ByteArray)×(Int×Unit))))) (x1:(List (ByteArray×((List ByteArray)×(Int×Unit))))) (x2:Int):Tr (Out sh60_0.data shb60_0.data shr60_0.data) :=
  Tr.test ((!leF (↑(List.length x0):Int) x2:Bool))
    (Tr.test (decide ((0:Int) ≤ x2) && decide (x2 < (↑(List.length x0):Int)))
      (Tr.test (Option.isSome (f89 (((List.getD x0 (Int.toNat x2) ({ data:={ toList:=[] } },[],(0:Int),())).2.1:List ByteArray),())))
        (Tr.test ((Nat.ble (((2:Nat) * (List.length x1 + (1:Nat)) + (192:Nat)) * (48:Nat)) (281474976710656:Nat) && Nat.ble (List.length x1 + (1:Nat)) (281474976710656:Nat):Bool))
          (let r0:=g89 (((List.getD x0 (Int.toNat x2) ({ data:={ toList:=[] } },[],(0:Int),())).2.1:List ByteArray),());
          Tr.fin (.again ((x0,((x1++[((List.getD x0 (Int.toNat x2) ({ data:={ toList:=[] } },[],(0:Int),())).1,r0.1,(List.getD x0 (Int.toNat x2) ({ data:={ toList:=[] } },[],(0:Int),())).2.2.1,())]:List (ByteArray×List ByteArray×Int×PUnit)),((wrap64 (x2 + (1:Int)):Int),()))),())))
          (Tr.stop))
        (Tr.stop))
      (Tr.stop))
    (Tr.fin (.brk ((x1,()),())))

def s60_0 (d:sh60_0.data):Option (Out sh60_0.data shb60_0.data shr60_0.data):=(t60_0 d.1.1 d.1.2.1 d.1.2.2.1).val
def l60_0 (d:sh60_0.data):Option (shb60_0.data ⊕ shr60_0.data):=itr s60_0 rounds d
def b60_0 (d:sh60_0.data):shb60_0.data:=outB shb60_0.dflt (l60_0 d)
def lc60_0:LoopC:=lcB sh60_0 shb60_0 shr60_0 l60_0 b60_0

theorem wk60_0 (x0:(List (ByteArray×((List ByteArray)×(Int×Unit))))) (x1:(List (ByteArray×((List ByteArray)×(Int×Unit))))) (x2:Int):Walks (runBody (kf89 Go.Proofs.Tryz.prog).orc Go.Proofs.Tryz.prog 400 60 0 sh60_0 shb60_0 shr60_0 ((x0,x1,x2,()),())) (t60_0 x0 x1 x2) [(bl 4 15,[2,4,6,6,6,8]),(bl 1 0,[2])] :=
  ⟨by kernel_rfl,by kernel_rfl,trivial⟩

theorem ok60_0_t (x0:(List (ByteArray×((List ByteArray)×(Int×Unit))))) (x1:(List (ByteArray×((List ByteArray)×(Int×Unit))))) (x2:Int):TrOk (BodyRuns Go.Proofs.Tryz.prog (kf89 Go.Proofs.Tryz.prog).orc 60 0 sh60_0 shb60_0 shr60_0 ((x0,x1,x2,()),())) (t60_0 x0 x1 x2) :=
  Walks.ok (fun _ _ _=>BodyRuns.of) (wk60_0 x0 x1 x2) (by kernel_rfl)

theorem ok60_0:LoopOk Go.Proofs.Tryz.prog 60 0 lc60_0:=loopOk_ofB (sh:=sh60_0) (shB:=shb60_0) (shR:=shr60_0) kf89_ok.base (T:=fun (d:sh60_0.data)=>t60_0 d.1.1 d.1.2.1 d.1.2.2.1) (by kernel_rfl) rfl (fun (d:sh60_0.data)=>ok60_0_t d.1.1 d.1.2.1 d.1.2.2.1) (fun _=>rfl)
def kl60_0 (P:Go.Program):Known:=(kf89 P).loop 60 0 lc60_0
theorem kl60_0_ok:KnownOk Go.Proofs.Tryz.prog (kl60_0 Go.Proofs.Tryz.prog):=kf89_ok.loop ok60_0

/-! ductility/ductilityref09.CopyGates -/

abbrev as60:List Ty:=[(.slice (.pair .str (.pair (.slice .str) (.pair (.int .i64) .unit))))]
abbrev rs60:List Ty:=[(.slice (.pair .str (.pair (.slice .str) (.pair (.int .i64) .unit))))]

def t60 (x0:(List (ByteArray×((List ByteArray)×(Int×Unit))))):Tr (Tys.data rs60) :=
  Tr.test (isBrk (l60_0 ((x0,(([]:List (ByteArray×List ByteArray×Int×PUnit)),((0:Int),()))),())))
    (let r0:=b60_0 ((x0,(([]:List (ByteArray×List ByteArray×Int×PUnit)),((0:Int),()))),());
    Tr.fin ((r0.1.1,())))
    (Tr.stop)

def f60 (d:Tys.data as60):Option (Tys.data rs60):=(t60 d.1).val
def g60 (d:Tys.data as60):Tys.data rs60:=(f60 d).getD (Tys.dflt rs60)
def p60:PureC:=pcOf as60 rs60 f60 g60

theorem wk60 (x0:(List (ByteArray×((List ByteArray)×(Int×Unit))))):Walks (runPure (kl60_0 Go.Proofs.Tryz.prog).orc Go.Proofs.Tryz.prog 400 60 as60 rs60 (x0,())) (t60 x0) [(bl 1 1,[1,2])] :=
  ⟨by kernel_rfl,trivial⟩

theorem ok60_t (x0:(List (ByteArray×((List ByteArray)×(Int×Unit))))):TrOk (PureRuns Go.Proofs.Tryz.prog (kl60_0 Go.Proofs.Tryz.prog).orc 60 as60 rs60 (x0,())) (t60 x0) :=
  Walks.ok (fun _ _ _=>PureRuns.of) (wk60 x0) (by kernel_rfl)

theorem ok60:PureOk Go.Proofs.Tryz.prog 60 p60:=pureOk_of kl60_0_ok.base (T:=fun (d:Tys.data as60)=>t60 d.1) (by kernel_rfl) (fun (d:Tys.data as60)=>ok60_t d.1)
def kf60 (P:Go.Program):Known:=(kl60_0 P).func 60 p60
theorem kf60_ok:KnownOk Go.Proofs.Tryz.prog (kf60 Go.Proofs.Tryz.prog):=kl60_0_ok.func ok60

/-! ductility/safety.when -/

abbrev as80:List Ty:=[.bool,(.int .i64)]
abbrev rs80:List Ty:=[(.int .i64)]

def t80 (x0:Bool) (x1:Int):Tr (Tys.data rs80) :=
  Tr.test (x0)
    (Tr.fin ((x1,())))
    (Tr.fin (((0:Int),())))

def f80 (d:Tys.data as80):Option (Tys.data rs80):=(t80 d.1 d.2.1).val
def g80 (d:Tys.data as80):Tys.data rs80:=(f80 d).getD (Tys.dflt rs80)
def p80:PureC:=pcOf as80 rs80 f80 g80

theorem wk80 (x0:Bool) (x1:Int):Walks (runPure (kf60 Go.Proofs.Tryz.prog).orc Go.Proofs.Tryz.prog 400 80 as80 rs80 (x0,x1,())) (t80 x0 x1) [(bl 1 1,[2]),(bl 1 0,[2])] :=
  ⟨by kernel_rfl,by kernel_rfl,trivial⟩

theorem ok80_t (x0:Bool) (x1:Int):TrOk (PureRuns Go.Proofs.Tryz.prog (kf60 Go.Proofs.Tryz.prog).orc 80 as80 rs80 (x0,x1,())) (t80 x0 x1) :=
  Walks.ok (fun _ _ _=>PureRuns.of) (wk80 x0 x1) (by kernel_rfl)

theorem ok80:PureOk Go.Proofs.Tryz.prog 80 p80:=pureOk_of kf60_ok.base (T:=fun (d:Tys.data as80)=>t80 d.1 d.2.1) (by kernel_rfl) (fun (d:Tys.data as80)=>ok80_t d.1 d.2.1)
def kf80 (P:Go.Program):Known:=(kf60 P).func 80 p80
theorem kf80_ok:KnownOk Go.Proofs.Tryz.prog (kf80 Go.Proofs.Tryz.prog):=kf60_ok.func ok80

/-! loop 0 of ductility/safety.firstOf -/

abbrev sh79_0:Sh:={ n:=15,slots:=[5,6,7],pats:=[.ty (.slice (.int .i64)),.ty (.int .i64),.ty (.int .i64)],boxes:=[] }
abbrev shb79_0:Sh:={ n:=15,slots:=[],pats:=[],boxes:=[] }
abbrev shr79_0:Sh:={ n:=15,slots:=[2],pats:=[.ty (.int .i64)],boxes:=[] }

def t79_0 (x0:(List Int)) (x1:Int) (x2:Int):Tr (Out sh79_0.data shb79_0.data shr79_0.data) :=
  Tr.test ((!leF x1 x2:Bool))
    (Tr.test (decide ((0:Int) ≤ x2) && decide (x2 < (↑(List.length x0):Int)))
      (Tr.test ((!eqF (List.getD x0 (Int.toNat x2) (0:Int)) (0:Int):Bool))
        (Tr.fin (.ret (((List.getD x0 (Int.toNat x2) (0:Int):Int),()),())))
        (Tr.fin (.again ((x0,(x1,((wrap64 (x2 + (1:Int)):Int),()))),()))))
      (Tr.stop))
    (Tr.fin (.brk ((),())))

def s79_0 (d:sh79_0.data):Option (Out sh79_0.data shb79_0.data shr79_0.data):=(t79_0 d.1.1 d.1.2.1 d.1.2.2.1).val
def l79_0 (d:sh79_0.data):Option (shb79_0.data ⊕ shr79_0.data):=itr s79_0 rounds d
def b79_0 (d:sh79_0.data):shb79_0.data:=outB shb79_0.dflt (l79_0 d)
def r79_0 (d:sh79_0.data):shr79_0.data:=outR shr79_0.dflt (l79_0 d)
def lc79_0:LoopC:=lcOf sh79_0 shb79_0 shr79_0 l79_0 b79_0 r79_0

theorem wk79_0 (x0:(List Int)) (x1:Int) (x2:Int):Walks (runBody (kf80 Go.Proofs.Tryz.prog).orc Go.Proofs.Tryz.prog 400 79 0 sh79_0 shb79_0 shr79_0 ((x0,x1,x2,()),())) (t79_0 x0 x1 x2) [(bl 3 7,[2,4,6]),(bl 3 3,[2,4,6]),(bl 1 0,[2])] :=
  ⟨by kernel_rfl,by kernel_rfl,by kernel_rfl,trivial⟩

theorem ok79_0_t (x0:(List Int)) (x1:Int) (x2:Int):TrOk (BodyRuns Go.Proofs.Tryz.prog (kf80 Go.Proofs.Tryz.prog).orc 79 0 sh79_0 shb79_0 shr79_0 ((x0,x1,x2,()),())) (t79_0 x0 x1 x2) :=
  Walks.ok (fun _ _ _=>BodyRuns.of) (wk79_0 x0 x1 x2) (by kernel_rfl)

theorem ok79_0:LoopOk Go.Proofs.Tryz.prog 79 0 lc79_0:=loopOk_of (sh:=sh79_0) (shB:=shb79_0) (shR:=shr79_0) kf80_ok.base (T:=fun (d:sh79_0.data)=>t79_0 d.1.1 d.1.2.1 d.1.2.2.1) (by kernel_rfl) rfl (fun (d:sh79_0.data)=>ok79_0_t d.1.1 d.1.2.1 d.1.2.2.1) (fun _=>rfl)
def kl79_0 (P:Go.Program):Known:=(kf80 P).loop 79 0 lc79_0
theorem kl79_0_ok:KnownOk Go.Proofs.Tryz.prog (kl79_0 Go.Proofs.Tryz.prog):=kf80_ok.loop ok79_0

/-! ductility/safety.firstOf -/

abbrev as79:List Ty:=[(.slice (.int .i64))]
abbrev rs79:List Ty:=[(.int .i64)]

def t79 (x0:(List Int)):Tr (Tys.data rs79) :=
  Tr.test (Option.isSome (l79_0 ((x0,((↑(List.length x0):Int),((0:Int),()))),())))
    (Tr.test (isRet (l79_0 ((x0,((↑(List.length x0):Int),((0:Int),()))),())))
      (let r0:=r79_0 ((x0,((↑(List.length x0):Int),((0:Int),()))),());
      Tr.fin ((r0.1.1,())))
      (Tr.fin (((0:Int),()))))
    (Tr.stop)

def f79 (d:Tys.data as79):Option (Tys.data rs79):=(t79 d.1).val
def g79 (d:Tys.data as79):Tys.data rs79:=(f79 d).getD (Tys.dflt rs79)
def p79:PureC:=pcOf as79 rs79 f79 g79

theorem wk79 (x0:(List Int)):Walks (runPure (kl79_0 Go.Proofs.Tryz.prog).orc Go.Proofs.Tryz.prog 400 79 as79 rs79 (x0,())) (t79 x0) [(bl 2 3,[2,4]),(bl 2 1,[2,4])] :=
  ⟨by kernel_rfl,by kernel_rfl,trivial⟩

theorem ok79_t (x0:(List Int)):TrOk (PureRuns Go.Proofs.Tryz.prog (kl79_0 Go.Proofs.Tryz.prog).orc 79 as79 rs79 (x0,())) (t79 x0) :=
  Walks.ok (fun _ _ _=>PureRuns.of) (wk79 x0) (by kernel_rfl)

theorem ok79:PureOk Go.Proofs.Tryz.prog 79 p79:=pureOk_of kl79_0_ok.base (T:=fun (d:Tys.data as79)=>t79 d.1) (by kernel_rfl) (fun (d:Tys.data as79)=>ok79_t d.1)
def kf79 (P:Go.Program):Known:=(kl79_0 P).func 79 p79
theorem kf79_ok:KnownOk Go.Proofs.Tryz.prog (kf79 Go.Proofs.Tryz.prog):=kl79_0_ok.func ok79

/-! ductility/safety.isLetter -/

abbrev as182:List Ty:=[(.int .u8)]
abbrev rs182:List Ty:=[.bool]

def t182 (x0:Int):Tr (Tys.data rs182) :=
  Tr.test ((decide ((97:Int) ≤ x0):Bool))
    (Tr.test (decide (x0 ≤ (122:Int)))
      (Tr.fin (((true:Bool),())))
      (Tr.test ((decide ((65:Int) ≤ x0):Bool))
        (Tr.fin (((decide (x0 ≤ (90:Int)):Bool),())))
        (Tr.fin (((false:Bool),())))))
    (Tr.test (decide ((65:Int) ≤ x0))
      (Tr.fin (((decide (x0 ≤ (90:Int)):Bool),())))
      (Tr.fin (((false:Bool),()))))

def f182 (d:Tys.data as182):Option (Tys.data rs182):=(t182 d.1).val
def g182 (d:Tys.data as182):Tys.data rs182:=(f182 d).getD (Tys.dflt rs182)
def p182:PureC:=pcOf as182 rs182 f182 g182

theorem wk182 (x0:Int):Walks (runPure (kf79 Go.Proofs.Tryz.prog).orc Go.Proofs.Tryz.prog 400 182 as182 rs182 (x0,())) (t182 x0) [(bl 2 3,[2,2,2,2,2,4,4,4]),(bl 3 5,[4,2,4,2,2,4,4,4,6,6,6]),(bl 3 1,[4,2,4,2,2,4,4,4,6,6,6]),(bl 2 2,[0,2,0,2,2,0,0,0,4,4,4]),(bl 2 0,[0,2,0,2,2,0,0,0,4,4,4])] :=
  ⟨by kernel_rfl,by kernel_rfl,by kernel_rfl,by kernel_rfl,by kernel_rfl,trivial⟩

theorem ok182_t (x0:Int):TrOk (PureRuns Go.Proofs.Tryz.prog (kf79 Go.Proofs.Tryz.prog).orc 182 as182 rs182 (x0,())) (t182 x0) :=
  Walks.ok (fun _ _ _=>PureRuns.of) (wk182 x0) (by kernel_rfl)

theorem ok182:PureOk Go.Proofs.Tryz.prog 182 p182:=pureOk_of kf79_ok.base (T:=fun (d:Tys.data as182)=>t182 d.1) (by kernel_rfl) (fun (d:Tys.data as182)=>ok182_t d.1)
def kf182 (P:Go.Program):Known:=(kf79 P).func 182 p182
theorem kf182_ok:KnownOk Go.Proofs.Tryz.prog (kf182 Go.Proofs.Tryz.prog):=kf79_ok.func ok182

/-! ductility/safety.isDigit -/

abbrev as183:List Ty:=[(.int .u8)]
abbrev rs183:List Ty:=[.bool]

def t183 (x0:Int):Tr (Tys.data rs183) :=
  Tr.test ((decide ((48:Int) ≤ x0):Bool))
    (Tr.fin ((decide (x0 ≤ (57:Int)),())))
    (Tr.fin ((false,())))

def f183 (d:Tys.data as183):Option (Tys.data rs183):=(t183 d.1).val
def g183 (d:Tys.data as183):Tys.data rs183:=(f183 d).getD (Tys.dflt rs183)
def p183:PureC:=pcOf as183 rs183 f183 g183

theorem wk183 (x0:Int):Walks (runPure (kf182 Go.Proofs.Tryz.prog).orc Go.Proofs.Tryz.prog 400 183 as183 rs183 (x0,())) (t183 x0) [(bl 1 1,[2,2,2]),(bl 1 0,[2,2,2])] :=
  ⟨by kernel_rfl,by kernel_rfl,trivial⟩

theorem ok183_t (x0:Int):TrOk (PureRuns Go.Proofs.Tryz.prog (kf182 Go.Proofs.Tryz.prog).orc 183 as183 rs183 (x0,())) (t183 x0) :=
  Walks.ok (fun _ _ _=>PureRuns.of) (wk183 x0) (by kernel_rfl)

theorem ok183:PureOk Go.Proofs.Tryz.prog 183 p183:=pureOk_of kf182_ok.base (T:=fun (d:Tys.data as183)=>t183 d.1) (by kernel_rfl) (fun (d:Tys.data as183)=>ok183_t d.1)
def kf183 (P:Go.Program):Known:=(kf182 P).func 183 p183
theorem kf183_ok:KnownOk Go.Proofs.Tryz.prog (kf183 Go.Proofs.Tryz.prog):=kf182_ok.func ok183

/-! loop 0 of ductility/safety.isName -/

abbrev sh142_0:Sh:={ n:=39,slots:=[20,21,22],pats:=[.ty (.slice (.int .u8)),.ty (.int .i64),.ty (.int .i64)],boxes:=[] }
abbrev shb142_0:Sh:={ n:=39,slots:=[],pats:=[],boxes:=[] }
abbrev shr142_0:Sh:={ n:=39,slots:=[2],pats:=[.ty .bool],boxes:=[] }

def t142_0 (x0:(List Int)) (x1:Int) (x2:Int):Tr (Out sh142_0.data shb142_0.data shr142_0.data) :=
  Tr.test ((!leF x1 x2:Bool))
    (Tr.test (decide ((0:Int) ≤ x2) && decide (x2 < (↑(List.length x0):Int)))
      (Tr.test (Option.isSome (f182 ((List.getD x0 (Int.toNat x2) (0:Int):Int),())))
        (let r0:=g182 ((List.getD x0 (Int.toNat x2) (0:Int):Int),());
        Tr.test ((!r0.1:Bool))
          (Tr.test (Option.isSome (f183 ((List.getD x0 (Int.toNat x2) (0:Int):Int),())))
            (let r1:=g183 ((List.getD x0 (Int.toNat x2) (0:Int):Int),());
            Tr.test ((!r1.1:Bool))
              (Tr.test ((!List.getD x0 (Int.toNat x2) (0:Int) == (45:Int):Bool))
                (Tr.fin (.ret (((false:Bool),()),())))
                (Tr.fin (.again ((x0,(x1,((wrap64 (x2 + (1:Int)):Int),()))),()))))
              (Tr.fin (.again ((x0,(x1,((wrap64 (x2 + (1:Int)):Int),()))),()))))
            (Tr.stop))
          (Tr.fin (.again ((x0,(x1,((wrap64 (x2 + (1:Int)):Int),()))),()))))
        (Tr.stop))
      (Tr.stop))
    (Tr.fin (.brk ((),())))

def s142_0 (d:sh142_0.data):Option (Out sh142_0.data shb142_0.data shr142_0.data):=(t142_0 d.1.1 d.1.2.1 d.1.2.2.1).val
def l142_0 (d:sh142_0.data):Option (shb142_0.data ⊕ shr142_0.data):=itr s142_0 rounds d
def b142_0 (d:sh142_0.data):shb142_0.data:=outB shb142_0.dflt (l142_0 d)
def r142_0 (d:sh142_0.data):shr142_0.data:=outR shr142_0.dflt (l142_0 d)
def lc142_0:LoopC:=lcOf sh142_0 shb142_0 shr142_0 l142_0 b142_0 r142_0

theorem wk142_0 (x0:(List Int)) (x1:Int) (x2:Int):Walks (runBody (kf183 Go.Proofs.Tryz.prog).orc Go.Proofs.Tryz.prog 400 142 0 sh142_0 shb142_0 shr142_0 ((x0,x1,x2,()),())) (t142_0 x0 x1 x2) [(bl 7 127,[2,4,4,4,8,8,6,8,8,10,12,14]),(bl 7 63,[2,4,4,4,8,8,6,8,8,10,12,14]),(bl 6 31,[0,2,2,2,6,6,4,6,6,8,10,12]),(bl 4 7,[0,0,0,0,2,2,2,2,4,6,8]),(bl 1 0,[2])] :=
  ⟨by kernel_rfl,by kernel_rfl,by kernel_rfl,by kernel_rfl,by kernel_rfl,trivial⟩

theorem ok142_0_t (x0:(List Int)) (x1:Int) (x2:Int):TrOk (BodyRuns Go.Proofs.Tryz.prog (kf183 Go.Proofs.Tryz.prog).orc 142 0 sh142_0 shb142_0 shr142_0 ((x0,x1,x2,()),())) (t142_0 x0 x1 x2) :=
  Walks.ok (fun _ _ _=>BodyRuns.of) (wk142_0 x0 x1 x2) (by kernel_rfl)

theorem ok142_0:LoopOk Go.Proofs.Tryz.prog 142 0 lc142_0:=loopOk_of (sh:=sh142_0) (shB:=shb142_0) (shR:=shr142_0) kf183_ok.base (T:=fun (d:sh142_0.data)=>t142_0 d.1.1 d.1.2.1 d.1.2.2.1) (by kernel_rfl) rfl (fun (d:sh142_0.data)=>ok142_0_t d.1.1 d.1.2.1 d.1.2.2.1) (fun _=>rfl)
def kl142_0 (P:Go.Program):Known:=(kf183 P).loop 142 0 lc142_0
theorem kl142_0_ok:KnownOk Go.Proofs.Tryz.prog (kl142_0 Go.Proofs.Tryz.prog):=kf183_ok.loop ok142_0

/-! ductility/safety.isName -/

abbrev as142:List Ty:=[.str]
abbrev rs142:List Ty:=[.bool]

def t142 (x0:ByteArray):Tr (Tys.data rs142) :=
  Tr.test ((eqF (↑(ByteArray.size x0):Int) (0:Int):Bool))
    (Tr.fin ((false,())))
    (Tr.test (!leF (↑(ByteArray.size x0):Int) (12:Int))
      (Tr.fin (((false:Bool),())))
      (Tr.test ((true && decide ((0:Int) < (↑(ByteArray.size x0):Int)):Bool))
        (Tr.test (Option.isSome (f182 ((↑(List.getD x0.data.toList (Int.toNat (0:Int)) (0:UInt8)).toBitVec.toFin.1:Int),())))
          (let r0:=g182 ((↑(List.getD x0.data.toList (Int.toNat (0:Int)) (0:UInt8)).toBitVec.toFin.1:Int),());
          Tr.test ((!r0.1:Bool))
            (Tr.fin (((false:Bool),())))
            (Tr.test (Option.isSome (l142_0 (((bytesOf x0:List Int),((↑(List.length (bytesOf x0)):Int),((0:Int),()))),())))
              (Tr.test (isRet (l142_0 (((bytesOf x0:List Int),((↑(List.length (bytesOf x0)):Int),((0:Int),()))),())))
                (let r1:=r142_0 (((bytesOf x0:List Int),((↑(List.length (bytesOf x0)):Int),((0:Int),()))),());
                Tr.fin ((r1.1.1,())))
                (Tr.fin (((true:Bool),()))))
              (Tr.stop)))
          (Tr.stop))
        (Tr.stop)))

def f142 (d:Tys.data as142):Option (Tys.data rs142):=(t142 d.1).val
def g142 (d:Tys.data as142):Tys.data rs142:=(f142 d).getD (Tys.dflt rs142)
def p142:PureC:=pcOf as142 rs142 f142 g142

theorem wk142 (x0:ByteArray):Walks (runPure (kl142_0 Go.Proofs.Tryz.prog).orc Go.Proofs.Tryz.prog 400 142 as142 rs142 (x0,())) (t142 x0) [(bl 1 1,[1,1,1,1,1,1,2,2,2,2]),(bl 2 2,[1,2,2,2,2,2,4,4,4,4]),(bl 5 28,[2,8,8,4,8,6,8,8,10,10,10,10]),(bl 7 108,[2,4,6,12,12,8,12,10,12,12,14,14,14,14]),(bl 7 44,[2,4,6,12,12,8,12,10,12,12,14,14,14,14])] :=
  ⟨by kernel_rfl,by kernel_rfl,by kernel_rfl,by kernel_rfl,by kernel_rfl,trivial⟩

theorem ok142_t (x0:ByteArray):TrOk (PureRuns Go.Proofs.Tryz.prog (kl142_0 Go.Proofs.Tryz.prog).orc 142 as142 rs142 (x0,())) (t142 x0) :=
  Walks.ok (fun _ _ _=>PureRuns.of) (wk142 x0) (by kernel_rfl)

theorem ok142:PureOk Go.Proofs.Tryz.prog 142 p142:=pureOk_of kl142_0_ok.base (T:=fun (d:Tys.data as142)=>t142 d.1) (by kernel_rfl) (fun (d:Tys.data as142)=>ok142_t d.1)
def kf142 (P:Go.Program):Known:=(kl142_0 P).func 142 p142
theorem kf142_ok:KnownOk Go.Proofs.Tryz.prog (kf142 Go.Proofs.Tryz.prog):=kl142_0_ok.func ok142

/-! loop 0 of slices.Index[[]string,string] -/

abbrev sh184_0:Sh:={ n:=19,slots:=[0,1,7,8],pats:=[.ty (.slice .str),.ty .str,.ty (.int .i64),.ty (.int .i64)],boxes:=[] }
abbrev shb184_0:Sh:={ n:=19,slots:=[],pats:=[],boxes:=[] }
abbrev shr184_0:Sh:={ n:=19,slots:=[4],pats:=[.ty (.int .i64)],boxes:=[] }

def t184_0 (x0:(List ByteArray)) (x1:ByteArray) (x2:Int) (x3:Int):Tr (Out sh184_0.data shb184_0.data shr184_0.data) :=
  Tr.test ((!leF x2 x3:Bool))
    (Tr.test (decide ((0:Int) ≤ x3) && decide (x3 < (↑(List.length x0):Int)))
      (Tr.test ((strEq x1 (List.getD x0 (Int.toNat x3) { data:={ toList:=[] } }):Bool))
        (Tr.fin (.ret ((x3,()),())))
        (Tr.fin (.again ((x0,(x1,(x2,((wrap64 (x3 + (1:Int)):Int),())))),()))))
      (Tr.stop))
    (Tr.fin (.brk ((),())))

def s184_0 (d:sh184_0.data):Option (Out sh184_0.data shb184_0.data shr184_0.data):=(t184_0 d.1.1 d.1.2.1 d.1.2.2.1 d.1.2.2.2.1).val
def l184_0 (d:sh184_0.data):Option (shb184_0.data ⊕ shr184_0.data):=itr s184_0 rounds d
def b184_0 (d:sh184_0.data):shb184_0.data:=outB shb184_0.dflt (l184_0 d)
def r184_0 (d:sh184_0.data):shr184_0.data:=outR shr184_0.dflt (l184_0 d)
def lc184_0:LoopC:=lcOf sh184_0 shb184_0 shr184_0 l184_0 b184_0 r184_0

theorem wk184_0 (x0:(List ByteArray)) (x1:ByteArray) (x2:Int) (x3:Int):Walks (runBody (kf142 Go.Proofs.Tryz.prog).orc Go.Proofs.Tryz.prog 400 184 0 sh184_0 shb184_0 shr184_0 ((x0,x1,x2,x3,()),())) (t184_0 x0 x1 x2 x3) [(bl 3 7,[2,4,6]),(bl 3 3,[2,4,6]),(bl 1 0,[2])] :=
  ⟨by kernel_rfl,by kernel_rfl,by kernel_rfl,trivial⟩

theorem ok184_0_t (x0:(List ByteArray)) (x1:ByteArray) (x2:Int) (x3:Int):TrOk (BodyRuns Go.Proofs.Tryz.prog (kf142 Go.Proofs.Tryz.prog).orc 184 0 sh184_0 shb184_0 shr184_0 ((x0,x1,x2,x3,()),())) (t184_0 x0 x1 x2 x3) :=
  Walks.ok (fun _ _ _=>BodyRuns.of) (wk184_0 x0 x1 x2 x3) (by kernel_rfl)

theorem ok184_0:LoopOk Go.Proofs.Tryz.prog 184 0 lc184_0:=loopOk_of (sh:=sh184_0) (shB:=shb184_0) (shR:=shr184_0) kf142_ok.base (T:=fun (d:sh184_0.data)=>t184_0 d.1.1 d.1.2.1 d.1.2.2.1 d.1.2.2.2.1) (by kernel_rfl) rfl (fun (d:sh184_0.data)=>ok184_0_t d.1.1 d.1.2.1 d.1.2.2.1 d.1.2.2.2.1) (fun _=>rfl)
def kl184_0 (P:Go.Program):Known:=(kf142 P).loop 184 0 lc184_0
theorem kl184_0_ok:KnownOk Go.Proofs.Tryz.prog (kl184_0 Go.Proofs.Tryz.prog):=kf142_ok.loop ok184_0

/-! slices.Index[[]string,string] -/

abbrev as184:List Ty:=[(.slice .str),.str]
abbrev rs184:List Ty:=[(.int .i64)]

def t184 (x0:(List ByteArray)) (x1:ByteArray):Tr (Tys.data rs184) :=
  Tr.test (Option.isSome (l184_0 ((x0,(x1,((↑(List.length x0):Int),((0:Int),())))),())))
    (Tr.test (isRet (l184_0 ((x0,(x1,((↑(List.length x0):Int),((0:Int),())))),())))
      (let r0:=r184_0 ((x0,(x1,((↑(List.length x0):Int),((0:Int),())))),());
      Tr.fin ((r0.1.1,())))
      (Tr.fin (((-1:Int),()))))
    (Tr.stop)

def f184 (d:Tys.data as184):Option (Tys.data rs184):=(t184 d.1 d.2.1).val
def g184 (d:Tys.data as184):Tys.data rs184:=(f184 d).getD (Tys.dflt rs184)
def p184:PureC:=pcOf as184 rs184 f184 g184

theorem wk184 (x0:(List ByteArray)) (x1:ByteArray):Walks (runPure (kl184_0 Go.Proofs.Tryz.prog).orc Go.Proofs.Tryz.prog 400 184 as184 rs184 (x0,x1,())) (t184 x0 x1) [(bl 2 3,[2,4]),(bl 2 1,[2,4])] :=
  ⟨by kernel_rfl,by kernel_rfl,trivial⟩

theorem ok184_t (x0:(List ByteArray)) (x1:ByteArray):TrOk (PureRuns Go.Proofs.Tryz.prog (kl184_0 Go.Proofs.Tryz.prog).orc 184 as184 rs184 (x0,x1,())) (t184 x0 x1) :=
  Walks.ok (fun _ _ _=>PureRuns.of) (wk184 x0 x1) (by kernel_rfl)

theorem ok184:PureOk Go.Proofs.Tryz.prog 184 p184:=pureOk_of kl184_0_ok.base (T:=fun (d:Tys.data as184)=>t184 d.1 d.2.1) (by kernel_rfl) (fun (d:Tys.data as184)=>ok184_t d.1 d.2.1)
def kf184 (P:Go.Program):Known:=(kl184_0 P).func 184 p184
theorem kf184_ok:KnownOk Go.Proofs.Tryz.prog (kf184 Go.Proofs.Tryz.prog):=kl184_0_ok.func ok184

/-! slices.Contains[[]string,string] -/

abbrev as143:List Ty:=[(.slice .str),.str]
abbrev rs143:List Ty:=[.bool]

def t143 (x0:(List ByteArray)) (x1:ByteArray):Tr (Tys.data rs143) :=
  Tr.test (Option.isSome (f184 (x0,(x1,()))))
    (let r0:=g184 (x0,(x1,()));
    Tr.fin (((leF (0:Int) r0.1:Bool),())))
    (Tr.stop)

def f143 (d:Tys.data as143):Option (Tys.data rs143):=(t143 d.1 d.2.1).val
def g143 (d:Tys.data as143):Tys.data rs143:=(f143 d).getD (Tys.dflt rs143)
def p143:PureC:=pcOf as143 rs143 f143 g143

theorem wk143 (x0:(List ByteArray)) (x1:ByteArray):Walks (runPure (kf184 Go.Proofs.Tryz.prog).orc Go.Proofs.Tryz.prog 400 143 as143 rs143 (x0,x1,())) (t143 x0 x1) [(bl 1 1,[2])] :=
  ⟨by kernel_rfl,trivial⟩

theorem ok143_t (x0:(List ByteArray)) (x1:ByteArray):TrOk (PureRuns Go.Proofs.Tryz.prog (kf184 Go.Proofs.Tryz.prog).orc 143 as143 rs143 (x0,x1,())) (t143 x0 x1) :=
  Walks.ok (fun _ _ _=>PureRuns.of) (wk143 x0 x1) (by kernel_rfl)

theorem ok143:PureOk Go.Proofs.Tryz.prog 143 p143:=pureOk_of kf184_ok.base (T:=fun (d:Tys.data as143)=>t143 d.1 d.2.1) (by kernel_rfl) (fun (d:Tys.data as143)=>ok143_t d.1 d.2.1)
def kf143 (P:Go.Program):Known:=(kf184 P).func 143 p143
theorem kf143_ok:KnownOk Go.Proofs.Tryz.prog (kf143 Go.Proofs.Tryz.prog):=kf184_ok.func ok143

/-! ductility/safety.nameError -/

abbrev as83:List Ty:=[(.slice .str),(.int .i64),(.int .i64)]
abbrev rs83:List Ty:=[(.int .i64)]

def t83 (x0:(List ByteArray)) (x1:Int) (x2:Int):Tr (Tys.data rs83) :=
  Tr.test ((decide ((0:Int) ≤ x1) && decide (x1 < (↑(List.length x0):Int)):Bool))
    (Tr.test (Option.isSome (f142 ((List.getD x0 (Int.toNat x1) { data:={ toList:=[] } }:ByteArray),())))
      (let r0:=g142 ((List.getD x0 (Int.toNat x1) { data:={ toList:=[] } }:ByteArray),());
      Tr.test (Option.isSome (f80 ((!r0.1:Bool),((4:Int),()))))
        (Tr.test ((decide ((0:Int) ≤ x1) && decide (x1 ≤ (↑(List.length x0):Int)):Bool))
          (Tr.test (Option.isSome (f143 ((List.take (Int.toNat x1) x0:List ByteArray),((List.getD x0 (Int.toNat x1) { data:={ toList:=[] } }:ByteArray),()))))
            (let r2:=g143 ((List.take (Int.toNat x1) x0:List ByteArray),((List.getD x0 (Int.toNat x1) { data:={ toList:=[] } }:ByteArray),()));
            Tr.test (Option.isSome (f80 (r2.1,(x2,()))))
              (let r1:=g80 ((!r0.1:Bool),((4:Int),()));
              let r3:=g80 (r2.1,(x2,()));
              Tr.test (Option.isSome (f79 (([r1.1,r3.1]:List Int),())))
                (let r4:=g79 (([r1.1,r3.1]:List Int),());
                Tr.fin ((r4.1,())))
                (Tr.stop))
              (Tr.stop))
            (Tr.stop))
          (Tr.stop))
        (Tr.stop))
      (Tr.stop))
    (Tr.stop)

def f83 (d:Tys.data as83):Option (Tys.data rs83):=(t83 d.1 d.2.1 d.2.2.1).val
def g83 (d:Tys.data as83):Tys.data rs83:=(f83 d).getD (Tys.dflt rs83)
def p83:PureC:=pcOf as83 rs83 f83 g83

theorem wk83 (x0:(List ByteArray)) (x1:Int) (x2:Int):Walks (runPure (kf143 Go.Proofs.Tryz.prog).orc Go.Proofs.Tryz.prog 400 83 as83 rs83 (x0,x1,x2,())) (t83 x0 x1 x2) [(bl 7 127,[2,4,6,14,8,10,12,14])] :=
  ⟨by kernel_rfl,trivial⟩

theorem ok83_t (x0:(List ByteArray)) (x1:Int) (x2:Int):TrOk (PureRuns Go.Proofs.Tryz.prog (kf143 Go.Proofs.Tryz.prog).orc 83 as83 rs83 (x0,x1,x2,())) (t83 x0 x1 x2) :=
  Walks.ok (fun _ _ _=>PureRuns.of) (wk83 x0 x1 x2) (by kernel_rfl)

theorem ok83:PureOk Go.Proofs.Tryz.prog 83 p83:=pureOk_of kf143_ok.base (T:=fun (d:Tys.data as83)=>t83 d.1 d.2.1 d.2.2.1) (by kernel_rfl) (fun (d:Tys.data as83)=>ok83_t d.1 d.2.1 d.2.2.1)
def kf83 (P:Go.Program):Known:=(kf143 P).func 83 p83
theorem kf83_ok:KnownOk Go.Proofs.Tryz.prog (kf83 Go.Proofs.Tryz.prog):=kf143_ok.func ok83

end Go.Vm.Mo
