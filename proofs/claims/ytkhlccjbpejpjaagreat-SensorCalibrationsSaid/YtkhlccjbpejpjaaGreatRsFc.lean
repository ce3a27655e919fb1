import Derived.Test.YtkhlccjbpejpjaaGreatA4
import Derived.KernelRfl
import Derived.Test.YtkhlccjbpejpjaaGreatProg
import Derived.Test.YtkhlccjbpejpjaaGreatRsFb
set_option linter.unusedVariables false
set_option linter.unusedSimpArgs false

namespace Go.Vm.Mo
open Go
set_option linter.unusedVariables false

/-! loop 0 of ductility/ductilityref07.PairsErr -/

abbrev sh14_0:Sh:={ n:=48,slots:=[0,3],pats:=[.ty (.slice (.pair (.int .i64) (.pair (.int .i64) .unit))),.ty (.int .i64)],boxes:=[] }
abbrev shb14_0:Sh:={ n:=48,slots:=[],pats:=[],boxes:=[] }
abbrev shr14_0:Sh:={ n:=48,slots:=[2],pats:=[.ty (.int .i64)],boxes:=[] }

def t14_0 (x0:(List (Int×(Int×Unit)))) (x1:Int):Tr (Out sh14_0.data shb14_0.data shr14_0.data) :=
  Tr.test ((!leF (↑(List.length x0):Int) x1:Bool))
    (Tr.test (decide ((0:Int) ≤ x1) && decide (x1 < (↑(List.length x0):Int)))
      (Tr.test (Option.isSome (f21 (((List.getD x0 (Int.toNat x1) ((0:Int),(0:Int),())).1:Int),())))
        (let r0:=g21 (((List.getD x0 (Int.toNat x1) ((0:Int),(0:Int),())).1:Int),());
        Tr.test ((!leF r0.1 1000:Bool))
          (Tr.fin (.ret (((2:Int),()),())))
          (Tr.test (Option.isSome (f21 (((List.getD x0 (Int.toNat x1) ((0:Int),(0:Int),())).2.1:Int),())))
            (let r1:=g21 (((List.getD x0 (Int.toNat x1) ((0:Int),(0:Int),())).2.1:Int),());
            Tr.test ((!leF r1.1 1000:Bool))
              (Tr.fin (.ret (((2:Int),()),())))
              (Tr.test ((!leF (-1000:Int) (List.getD x0 (Int.toNat x1) ((0:Int),(0:Int),())).1:Bool))
                (Tr.fin (.ret (((2:Int),()),())))
                (Tr.test ((!leF (-1000:Int) (List.getD x0 (Int.toNat x1) ((0:Int),(0:Int),())).2.1:Bool))
                  (Tr.fin (.ret (((2:Int),()),())))
                  (Tr.fin (.again ((x0,((wrap64 (x1 + (1:Int)):Int),())),()))))))
            (Tr.stop)))
        (Tr.stop))
      (Tr.stop))
    (Tr.fin (.brk ((),())))

def s14_0 (d:sh14_0.data):Option (Out sh14_0.data shb14_0.data shr14_0.data):=(t14_0 d.1.1 d.1.2.1).val
def l14_0 (d:sh14_0.data):Option (shb14_0.data ⊕ shr14_0.data):=itr s14_0 rounds d
def b14_0 (d:sh14_0.data):shb14_0.data:=outB shb14_0.dflt (l14_0 d)
def r14_0 (d:sh14_0.data):shr14_0.data:=outR shr14_0.dflt (l14_0 d)
def lc14_0:LoopC:=lcOf sh14_0 shb14_0 shr14_0 l14_0 b14_0 r14_0

theorem wk14_0 (x0:(List (Int×(Int×Unit)))) (x1:Int):Walks (runBody (kf13 Go.Proofs.Tryz.prog).orc Go.Proofs.Tryz.prog 400 14 0 sh14_0 shb14_0 shr14_0 ((x0,x1,()),())) (t14_0 x0 x1) [([true,true,true,true],[1,1,1,1,1,1,1,1,1,1,1,1,1,1,1,2,2,2,2,2,2,2,2,4,6,8]),([true,true,true,false,true,true],[1,1,1,1,1,1,1,1,2,2,2,2,2,2,2,6,6,4,6,6,6,10,6,6,6,8,10,12]),([true,true,true,false,true,false,true],[1,2,2,2,2,2,2,2,4,4,4,4,12,4,4,4,8,8,6,8,8,8,12,8,8,8,10,12,14]),([true,true,true,false,true,false,false,true],[2,4,4,4,4,14,4,4,4,6,6,6,6,14,6,6,6,10,10,8,10,10,10,14,10,10,10,12,14,16]),([true,true,true,false,true,false,false,false],[2,4,4,4,4,14,4,4,4,6,6,6,6,14,6,6,6,10,10,8,10,10,10,14,10,10,10,12,14,16]),([ff],[2])] :=
  ⟨by kernel_rfl,by kernel_rfl,by kernel_rfl,by kernel_rfl,by kernel_rfl,by kernel_rfl,trivial⟩

theorem ok14_0_t (x0:(List (Int×(Int×Unit)))) (x1:Int):TrOk (BodyRuns Go.Proofs.Tryz.prog (kf13 Go.Proofs.Tryz.prog).orc 14 0 sh14_0 shb14_0 shr14_0 ((x0,x1,()),())) (t14_0 x0 x1) :=
  Walks.ok (fun _ _ _=>BodyRuns.of) (wk14_0 x0 x1) (by kernel_rfl)

theorem ok14_0:LoopOk Go.Proofs.Tryz.prog 14 0 lc14_0:=loopOk_of (sh:=sh14_0) (shB:=shb14_0) (shR:=shr14_0) kf13_ok.base (T:=fun (d:sh14_0.data)=>t14_0 d.1.1 d.1.2.1) (by kernel_rfl) rfl (fun (d:sh14_0.data)=>ok14_0_t d.1.1 d.1.2.1) (fun _=>rfl)
def kl14_0 (P:Go.Program):Known:=(kf13 P).loop 14 0 lc14_0
theorem kl14_0_ok:KnownOk Go.Proofs.Tryz.prog (kl14_0 Go.Proofs.Tryz.prog):=kf13_ok.loop ok14_0

/-! ductility/ductilityref07.PairsErr -/

abbrev as14:List Ty:=[(.slice (.pair (.int .i64) (.pair (.int .i64) .unit)))]
abbrev rs14:List Ty:=[(.int .i64)]

def t14 (x0:(List (Int×(Int×Unit)))):Tr (Tys.data rs14) :=
  Tr.test ((eqF (↑(List.length x0):Int) (0:Int):Bool))
    (Tr.fin (((10:Int),())))
    (Tr.test (!leF (↑(List.length x0):Int) (10:Int))
      (Tr.fin (((8:Int),())))
      (Tr.test (Option.isSome (l14_0 ((x0,((0:Int),())),())))
        (Tr.test (isRet (l14_0 ((x0,((0:Int),())),())))
          (let r0:=r14_0 ((x0,((0:Int),())),());
          Tr.fin ((r0.1.1,())))
          (Tr.fin (((0:Int),()))))
        (Tr.stop)))

def f14 (d:Tys.data as14):Option (Tys.data rs14):=(t14 d.1).val
def g14 (d:Tys.data as14):Tys.data rs14:=(f14 d).getD (Tys.dflt rs14)
def p14:PureC:=pcOf as14 rs14 f14 g14

theorem wk14 (x0:(List (Int×(Int×Unit)))):Walks (runPure (kl14_0 Go.Proofs.Tryz.prog).orc Go.Proofs.Tryz.prog 400 14 as14 rs14 (x0,())) (t14 x0) [([tt],[2]),([false,true],[2,4]),([false,false,true,true],[2,4,6,8]),([false,false,true,false],[2,4,6,8])] :=
  ⟨by kernel_rfl,by kernel_rfl,by kernel_rfl,by kernel_rfl,trivial⟩

theorem ok14_t (x0:(List (Int×(Int×Unit)))):TrOk (PureRuns Go.Proofs.Tryz.prog (kl14_0 Go.Proofs.Tryz.prog).orc 14 as14 rs14 (x0,())) (t14 x0) :=
  Walks.ok (fun _ _ _=>PureRuns.of) (wk14 x0) (by kernel_rfl)

theorem ok14:PureOk Go.Proofs.Tryz.prog 14 p14:=pureOk_of kl14_0_ok.base (T:=fun (d:Tys.data as14)=>t14 d.1) (by kernel_rfl) (fun (d:Tys.data as14)=>ok14_t d.1)
def kf14 (P:Go.Program):Known:=(kl14_0 P).func 14 p14
theorem kf14_ok:KnownOk Go.Proofs.Tryz.prog (kf14 Go.Proofs.Tryz.prog):=kl14_0_ok.func ok14

/-! loop 0 of ductility/ductilityref07.Flat -/

abbrev sh15_0:Sh:={ n:=20,slots:=[0,3],pats:=[.ty (.slice (.pair (.int .i64) (.pair (.int .i64) .unit))),.ty (.int .i64)],boxes:=[] }
abbrev shb15_0:Sh:={ n:=20,slots:=[],pats:=[],boxes:=[] }
abbrev shr15_0:Sh:={ n:=20,slots:=[2],pats:=[.ty .bool],boxes:=[] }

def t15_0 (x0:(List (Int×(Int×Unit)))) (x1:Int):Tr (Out sh15_0.data shb15_0.data shr15_0.data) :=
  Tr.test ((!leF (↑(List.length x0):Int) x1:Bool))
    (Tr.test (decide ((0:Int) ≤ x1) && decide (x1 < (↑(List.length x0):Int)))
      (Tr.test ((true && decide ((0:Int) < (↑(List.length x0):Int)):Bool))
        (Tr.test ((!eqF (List.getD x0 (Int.toNat x1) ((0:Int),(0:Int),())).2.1 (List.getD x0 (0:Nat) ((0:Int),(0:Int),())).2.1:Bool))
          (Tr.fin (.ret (((false:Bool),()),())))
          (Tr.fin (.again ((x0,((wrap64 (x1 + (1:Int)):Int),())),()))))
        (Tr.stop))
      (Tr.stop))
    (Tr.fin (.brk ((),())))

def s15_0 (d:sh15_0.data):Option (Out sh15_0.data shb15_0.data shr15_0.data):=(t15_0 d.1.1 d.1.2.1).val
def l15_0 (d:sh15_0.data):Option (shb15_0.data ⊕ shr15_0.data):=itr s15_0 rounds d
def b15_0 (d:sh15_0.data):shb15_0.data:=outB shb15_0.dflt (l15_0 d)
def r15_0 (d:sh15_0.data):shr15_0.data:=outR shr15_0.dflt (l15_0 d)
def lc15_0:LoopC:=lcOf sh15_0 shb15_0 shr15_0 l15_0 b15_0 r15_0

theorem wk15_0 (x0:(List (Int×(Int×Unit)))) (x1:Int):Walks (runBody (kf14 Go.Proofs.Tryz.prog).orc Go.Proofs.Tryz.prog 400 15 0 sh15_0 shb15_0 shr15_0 ((x0,x1,()),())) (t15_0 x0 x1) [([true,true,true,true],[2,4,6,8]),([true,true,true,false],[2,4,6,8]),([ff],[2])] :=
  ⟨by kernel_rfl,by kernel_rfl,by kernel_rfl,trivial⟩

theorem ok15_0_t (x0:(List (Int×(Int×Unit)))) (x1:Int):TrOk (BodyRuns Go.Proofs.Tryz.prog (kf14 Go.Proofs.Tryz.prog).orc 15 0 sh15_0 shb15_0 shr15_0 ((x0,x1,()),())) (t15_0 x0 x1) :=
  Walks.ok (fun _ _ _=>BodyRuns.of) (wk15_0 x0 x1) (by kernel_rfl)

theorem ok15_0:LoopOk Go.Proofs.Tryz.prog 15 0 lc15_0:=loopOk_of (sh:=sh15_0) (shB:=shb15_0) (shR:=shr15_0) kf14_ok.base (T:=fun (d:sh15_0.data)=>t15_0 d.1.1 d.1.2.1) (by kernel_rfl) rfl (fun (d:sh15_0.data)=>ok15_0_t d.1.1 d.1.2.1) (fun _=>rfl)
def kl15_0 (P:Go.Program):Known:=(kf14 P).loop 15 0 lc15_0
theorem kl15_0_ok:KnownOk Go.Proofs.Tryz.prog (kl15_0 Go.Proofs.Tryz.prog):=kf14_ok.loop ok15_0

/-! ductility/ductilityref07.Flat -/

abbrev as15:List Ty:=[(.slice (.pair (.int .i64) (.pair (.int .i64) .unit)))]
abbrev rs15:List Ty:=[.bool]

def t15 (x0:(List (Int×(Int×Unit)))):Tr (Tys.data rs15) :=
  Tr.test (Option.isSome (l15_0 ((x0,((1:Int),())),())))
    (Tr.test (isRet (l15_0 ((x0,((1:Int),())),())))
      (let r0:=r15_0 ((x0,((1:Int),())),());
      Tr.fin ((r0.1.1,())))
      (Tr.fin (((true:Bool),()))))
    (Tr.stop)

def f15 (d:Tys.data as15):Option (Tys.data rs15):=(t15 d.1).val
def g15 (d:Tys.data as15):Tys.data rs15:=(f15 d).getD (Tys.dflt rs15)
def p15:PureC:=pcOf as15 rs15 f15 g15

theorem wk15 (x0:(List (Int×(Int×Unit)))):Walks (runPure (kl15_0 Go.Proofs.Tryz.prog).orc Go.Proofs.Tryz.prog 400 15 as15 rs15 (x0,())) (t15 x0) [([true,true],[2,4]),([true,false],[2,4])] :=
  ⟨by kernel_rfl,by kernel_rfl,trivial⟩

theorem ok15_t (x0:(List (Int×(Int×Unit)))):TrOk (PureRuns Go.Proofs.Tryz.prog (kl15_0 Go.Proofs.Tryz.prog).orc 15 as15 rs15 (x0,())) (t15 x0) :=
  Walks.ok (fun _ _ _=>PureRuns.of) (wk15 x0) (by kernel_rfl)

theorem ok15:PureOk Go.Proofs.Tryz.prog 15 p15:=pureOk_of kl15_0_ok.base (T:=fun (d:Tys.data as15)=>t15 d.1) (by kernel_rfl) (fun (d:Tys.data as15)=>ok15_t d.1)
def kf15 (P:Go.Program):Known:=(kl15_0 P).func 15 p15
theorem kf15_ok:KnownOk Go.Proofs.Tryz.prog (kf15 Go.Proofs.Tryz.prog):=kl15_0_ok.func ok15

/-! ductility/ductilityref07.lowest -/

abbrev as68:List Ty:=[(.int .i64),(.int .i64),(.int .i64)]
abbrev rs68:List Ty:=[(.pair (.int .i64) (.pair (.int .i64) (.pair (.int .i64) .unit)))]

def t68 (x0:Int) (x1:Int) (x2:Int):Tr (Tys.data rs68) :=
  Tr.test (Option.isSome (f67 (x0,(x1,()))))
    (let r0:=g67 (x0,(x1,()));
    Tr.test (Option.isSome (f67 (r0.1,(x2,()))))
      (let r1:=g67 (r0.1,(x2,()));
      Tr.test ((r1.1 == (0:Int):Bool))
        (Tr.stop)
        (Tr.fin ((((Go.IntKind.wrap Go.IntKind.i64 (Int.tdiv x0 r1.1):Int),((Go.IntKind.wrap Go.IntKind.i64 (Int.tdiv x1 r1.1):Int),((Go.IntKind.wrap Go.IntKind.i64 (Int.tdiv x2 r1.1):Int),()))),()))))
      (Tr.stop))
    (Tr.stop)

def f68 (d:Tys.data as68):Option (Tys.data rs68):=(t68 d.1 d.2.1 d.2.2.1).val
def g68 (d:Tys.data as68):Tys.data rs68:=(f68 d).getD (Tys.dflt rs68)
def p68:PureC:=pcOf as68 rs68 f68 g68

theorem wk68 (x0:Int) (x1:Int) (x2:Int):Walks (runPure (kf15 Go.Proofs.Tryz.prog).orc Go.Proofs.Tryz.prog 400 68 as68 rs68 (x0,x1,x2,())) (t68 x0 x1 x2) [([true,true,false],[2,2,2,4,6])] :=
  ⟨by kernel_rfl,trivial⟩

theorem ok68_t (x0:Int) (x1:Int) (x2:Int):TrOk (PureRuns Go.Proofs.Tryz.prog (kf15 Go.Proofs.Tryz.prog).orc 68 as68 rs68 (x0,x1,x2,())) (t68 x0 x1 x2) :=
  Walks.ok (fun _ _ _=>PureRuns.of) (wk68 x0 x1 x2) (by kernel_rfl)

theorem ok68:PureOk Go.Proofs.Tryz.prog 68 p68:=pureOk_of kf15_ok.base (T:=fun (d:Tys.data as68)=>t68 d.1 d.2.1 d.2.2.1) (by kernel_rfl) (fun (d:Tys.data as68)=>ok68_t d.1 d.2.1 d.2.2.1)
def kf68 (P:Go.Program):Known:=(kf15 P).func 68 p68
theorem kf68_ok:KnownOk Go.Proofs.Tryz.prog (kf68 Go.Proofs.Tryz.prog):=kf15_ok.func ok68

/-! loop 0 of ductility/ductilityref07.Calibration -/

abbrev sh16_0:Sh:={ n:=78,slots:=[0,2,3,4,5,6,7,8],pats:=[.ty (.slice (.pair (.int .i64) (.pair (.int .i64) .unit))),.ptr 0 3 0,.ty (.int .i64),.ty (.int .i64),.ty (.int .i64),.ty (.int .i64),.ty (.int .i64),.ty (.int .i64)],boxes:=[.row [.ty (.int .i64),.ty (.int .i64),.ty (.int .i64)]] }
abbrev shb16_0:Sh:={ n:=78,slots:=[2,3,4,5,6,7],pats:=[.ptr 0 3 0,.ty (.int .i64),.ty (.int .i64),.ty (.int .i64),.ty (.int .i64),.ty (.int .i64)],boxes:=[.row [.ty (.int .i64),.ty (.int .i64),.ty (.int .i64)]] }
abbrev shr16_0:Sh:={ n:=78,slots:=[],pats:=[],boxes:=[.row [.ty (.int .i64),.ty (.int .i64),.ty (.int .i64)]] }

def t16_0 (x0:(List (Int×(Int×Unit)))) (x2:Int) (x3:Int) (x4:Int) (x5:Int) (x6:Int) (x7:Int) (b0_0:Int) (b0_1:Int) (b0_2:Int):Tr (Out sh16_0.data shb16_0.data shr16_0.data) :=
  Tr.test ((!leF x2 x7:Bool))
    (Tr.test (decide ((0:Int) ≤ x7) && decide (x7 < (↑(List.length x0):Int)))
      (Tr.fin (.again ((x0,(x2,((wrap64 (x3 + (List.getD x0 (Int.toNat x7) ((0:Int),(0:Int),())).2.1):Int),((wrap64 (x4 + (List.getD x0 (Int.toNat x7) ((0:Int),(0:Int),())).1):Int),((wrap64 (x5 + wrap64 ((List.getD x0 (Int.toNat x7) ((0:Int),(0:Int),())).2.1 * (List.getD x0 (Int.toNat x7) ((0:Int),(0:Int),())).2.1)):Int),((wrap64 (x6 + wrap64 ((List.getD x0 (Int.toNat x7) ((0:Int),(0:Int),())).2.1 * (List.getD x0 (Int.toNat x7) ((0:Int),(0:Int),())).1)):Int),((wrap64 (x7 + (1:Int)):Int),()))))))),((b0_0,(b0_1,(b0_2,()))),()))))
      (Tr.stop))
    (Tr.fin (.brk ((x2,(x3,(x4,(x5,(x6,()))))),((b0_0,(b0_1,(b0_2,()))),()))))

def s16_0 (d:sh16_0.data):Option (Out sh16_0.data shb16_0.data shr16_0.data):=(t16_0 d.1.1 d.1.2.1 d.1.2.2.1 d.1.2.2.2.1 d.1.2.2.2.2.1 d.1.2.2.2.2.2.1 d.1.2.2.2.2.2.2.1 d.2.1.1 d.2.1.2.1 d.2.1.2.2.1).val
def l16_0 (d:sh16_0.data):Option (shb16_0.data ⊕ shr16_0.data):=itr s16_0 rounds d
def b16_0 (d:sh16_0.data):shb16_0.data:=outB shb16_0.dflt (l16_0 d)
def lc16_0:LoopC:=lcB sh16_0 shb16_0 shr16_0 l16_0 b16_0

theorem wk16_0 (x0:(List (Int×(Int×Unit)))) (x2:Int) (x3:Int) (x4:Int) (x5:Int) (x6:Int) (x7:Int) (b0_0:Int) (b0_1:Int) (b0_2:Int):Walks (runBody (kf68 Go.Proofs.Tryz.prog).orc Go.Proofs.Tryz.prog 400 16 0 sh16_0 shb16_0 shr16_0 ((x0,x2,x3,x4,x5,x6,x7,()),(b0_0,b0_1,b0_2,()),())) (t16_0 x0 x2 x3 x4 x5 x6 x7 b0_0 b0_1 b0_2) [([true,true],[2,2,2,2,2,2,4]),([ff],[2])] :=
  ⟨by kernel_rfl,by kernel_rfl,trivial⟩

theorem ok16_0_t (x0:(List (Int×(Int×Unit)))) (x2:Int) (x3:Int) (x4:Int) (x5:Int) (x6:Int) (x7:Int) (b0_0:Int) (b0_1:Int) (b0_2:Int):TrOk (BodyRuns Go.Proofs.Tryz.prog (kf68 Go.Proofs.Tryz.prog).orc 16 0 sh16_0 shb16_0 shr16_0 ((x0,x2,x3,x4,x5,x6,x7,()),(b0_0,b0_1,b0_2,()),())) (t16_0 x0 x2 x3 x4 x5 x6 x7 b0_0 b0_1 b0_2) :=
  Walks.ok (fun _ _ _=>BodyRuns.of) (wk16_0 x0 x2 x3 x4 x5 x6 x7 b0_0 b0_1 b0_2) (by kernel_rfl)

theorem ok16_0:LoopOk Go.Proofs.Tryz.prog 16 0 lc16_0:=loopOk_ofB (sh:=sh16_0) (shB:=shb16_0) (shR:=shr16_0) kf68_ok.base (T:=fun (d:sh16_0.data)=>t16_0 d.1.1 d.1.2.1 d.1.2.2.1 d.1.2.2.2.1 d.1.2.2.2.2.1 d.1.2.2.2.2.2.1 d.1.2.2.2.2.2.2.1 d.2.1.1 d.2.1.2.1 d.2.1.2.2.1) (by kernel_rfl) rfl (fun (d:sh16_0.data)=>ok16_0_t d.1.1 d.1.2.1 d.1.2.2.1 d.1.2.2.2.1 d.1.2.2.2.2.1 d.1.2.2.2.2.2.1 d.1.2.2.2.2.2.2.1 d.2.1.1 d.2.1.2.1 d.2.1.2.2.1) (fun _=>rfl)
def kl16_0 (P:Go.Program):Known:=(kf68 P).loop 16 0 lc16_0
theorem kl16_0_ok:KnownOk Go.Proofs.Tryz.prog (kl16_0 Go.Proofs.Tryz.prog):=kf68_ok.loop ok16_0

/-! ductility/ductilityref07.Calibration -/

abbrev as16:List Ty:=[(.slice (.pair (.int .i64) (.pair (.int .i64) .unit)))]
abbrev rs16:List Ty:=[(.pair (.int .i64) (.pair (.int .i64) (.pair (.int .i64) .unit)))]

def t16 (x0:(List (Int×(Int×Unit)))):Tr (Tys.data rs16) :=
  Tr.test (isBrk (l16_0 ((x0,((↑(List.length x0):Int),((0:Int),((0:Int),((0:Int),((0:Int),((0:Int),()))))))),(((0:Int),((0:Int),((0:Int),()))),()))))
    (let r0:=b16_0 ((x0,((↑(List.length x0):Int),((0:Int),((0:Int),((0:Int),((0:Int),((0:Int),()))))))),(((0:Int),((0:Int),((0:Int),()))),()));
    Tr.test (Option.isSome (f68 ((wrap64 (wrap64 (r0.1.1 * r0.1.2.2.2.2.1) - wrap64 (r0.1.2.1 * r0.1.2.2.1)):Int),((wrap64 (wrap64 (r0.1.2.2.2.1 * r0.1.2.2.1) - wrap64 (r0.1.2.1 * r0.1.2.2.2.2.1)):Int),((wrap64 (wrap64 (r0.1.1 * r0.1.2.2.2.1) - wrap64 (r0.1.2.1 * r0.1.2.1)):Int),())))))
      (let r1:=g68 ((wrap64 (wrap64 (r0.1.1 * r0.1.2.2.2.2.1) - wrap64 (r0.1.2.1 * r0.1.2.2.1)):Int),((wrap64 (wrap64 (r0.1.2.2.2.1 * r0.1.2.2.1) - wrap64 (r0.1.2.1 * r0.1.2.2.2.2.1)):Int),((wrap64 (wrap64 (r0.1.1 * r0.1.2.2.2.1) - wrap64 (r0.1.2.1 * r0.1.2.1)):Int),())));
      Tr.fin (((r1.1.1,(r1.1.2.1,(r1.1.2.2.1,()))),())))
      (Tr.stop))
    (Tr.stop)

def f16 (d:Tys.data as16):Option (Tys.data rs16):=(t16 d.1).val
def g16 (d:Tys.data as16):Tys.data rs16:=(f16 d).getD (Tys.dflt rs16)
def p16:PureC:=pcOf as16 rs16 f16 g16

theorem wk16 (x0:(List (Int×(Int×Unit)))):Walks (runPure (kl16_0 Go.Proofs.Tryz.prog).orc Go.Proofs.Tryz.prog 400 16 as16 rs16 (x0,())) (t16 x0) [([true,true],[2,1,4])] :=
  ⟨by kernel_rfl,trivial⟩

theorem ok16_t (x0:(List (Int×(Int×Unit)))):TrOk (PureRuns Go.Proofs.Tryz.prog (kl16_0 Go.Proofs.Tryz.prog).orc 16 as16 rs16 (x0,())) (t16 x0) :=
  Walks.ok (fun _ _ _=>PureRuns.of) (wk16 x0) (by kernel_rfl)

theorem ok16:PureOk Go.Proofs.Tryz.prog 16 p16:=pureOk_of kl16_0_ok.base (T:=fun (d:Tys.data as16)=>t16 d.1) (by kernel_rfl) (fun (d:Tys.data as16)=>ok16_t d.1)
def kf16 (P:Go.Program):Known:=(kl16_0 P).func 16 p16
theorem kf16_ok:KnownOk Go.Proofs.Tryz.prog (kf16 Go.Proofs.Tryz.prog):=kl16_0_ok.func ok16

/-! loop 0 of ductility/ductilitybase.trimmed -/

abbrev sh122_0:Sh:={ n:=21,slots:=[0,3],pats:=[.ty (.slice (.int .i64)),.ty (.int .i64)],boxes:=[] }
abbrev shb122_0:Sh:={ n:=21,slots:=[0,3],pats:=[.ty (.slice (.int .i64)),.ty (.int .i64)],boxes:=[] }
abbrev shr122_0:Sh:={ n:=21,slots:=[],pats:=[],boxes:=[] }

def t122_0 (x0:(List Int)) (x1:Int):Tr (Out sh122_0.data shb122_0.data shr122_0.data) :=
  Tr.test ((!leF x1 0:Bool))
    (Tr.test (decide ((0:Int) ≤ wrap64 (x1 - (1:Int))) && decide (wrap64 (x1 - (1:Int)) < (↑(List.length x0):Int)))
      (Tr.test ((eqF (List.getD x0 (Int.toNat (wrap64 (x1 - (1:Int)))) (0:Int)) (0:Int):Bool))
        (Tr.fin (.again ((x0,((wrap64 (x1 - (1:Int)):Int),())),())))
        (Tr.fin (.brk ((x0,(x1,())),()))))
      (Tr.stop))
    (Tr.fin (.brk ((x0,(x1,())),())))

def s122_0 (d:sh122_0.data):Option (Out sh122_0.data shb122_0.data shr122_0.data):=(t122_0 d.1.1 d.1.2.1).val
def l122_0 (d:sh122_0.data):Option (shb122_0.data ⊕ shr122_0.data):=itr s122_0 rounds d
def b122_0 (d:sh122_0.data):shb122_0.data:=outB shb122_0.dflt (l122_0 d)
def lc122_0:LoopC:=lcB sh122_0 shb122_0 shr122_0 l122_0 b122_0

theorem wk122_0 (x0:(List Int)) (x1:Int):Walks (runBody (kf16 Go.Proofs.Tryz.prog).orc Go.Proofs.Tryz.prog 400 122 0 sh122_0 shb122_0 shr122_0 ((x0,x1,()),())) (t122_0 x0 x1) [([true,true,true],[2,6,6,6,4,6,6,6,6]),([true,true,false],[2,6,6,6,4,6,6,6,6]),([ff],[0,2,2,2,2,2,2,2])] :=
  ⟨by kernel_rfl,by kernel_rfl,by kernel_rfl,trivial⟩

theorem ok122_0_t (x0:(List Int)) (x1:Int):TrOk (BodyRuns Go.Proofs.Tryz.prog (kf16 Go.Proofs.Tryz.prog).orc 122 0 sh122_0 shb122_0 shr122_0 ((x0,x1,()),())) (t122_0 x0 x1) :=
  Walks.ok (fun _ _ _=>BodyRuns.of) (wk122_0 x0 x1) (by kernel_rfl)

theorem ok122_0:LoopOk Go.Proofs.Tryz.prog 122 0 lc122_0:=loopOk_ofB (sh:=sh122_0) (shB:=shb122_0) (shR:=shr122_0) kf16_ok.base (T:=fun (d:sh122_0.data)=>t122_0 d.1.1 d.1.2.1) (by kernel_rfl) rfl (fun (d:sh122_0.data)=>ok122_0_t d.1.1 d.1.2.1) (fun _=>rfl)
def kl122_0 (P:Go.Program):Known:=(kf16 P).loop 122 0 lc122_0
theorem kl122_0_ok:KnownOk Go.Proofs.Tryz.prog (kl122_0 Go.Proofs.Tryz.prog):=kf16_ok.loop ok122_0

/-! ductility/ductilitybase.trimmed -/

abbrev as122:List Ty:=[(.slice (.int .i64))]
abbrev rs122:List Ty:=[(.slice (.int .i64))]

def t122 (x0:(List Int)):Tr (Tys.data rs122) :=
  Tr.test (isBrk (l122_0 ((x0,((↑(List.length x0):Int),())),())))
    (let r0:=b122_0 ((x0,((↑(List.length x0):Int),())),());
    Tr.test ((decide ((0:Int) ≤ r0.1.2.1) && decide (r0.1.2.1 ≤ (↑(List.length r0.1.1):Int)):Bool))
      (Tr.fin (((List.take (Int.toNat r0.1.2.1) r0.1.1:List Int),())))
      (Tr.stop))
    (Tr.stop)

def f122 (d:Tys.data as122):Option (Tys.data rs122):=(t122 d.1).val
def g122 (d:Tys.data as122):Tys.data rs122:=(f122 d).getD (Tys.dflt rs122)
def p122:PureC:=pcOf as122 rs122 f122 g122

theorem wk122 (x0:(List Int)):Walks (runPure (kl122_0 Go.Proofs.Tryz.prog).orc Go.Proofs.Tryz.prog 400 122 as122 rs122 (x0,())) (t122 x0) [([true,true],[2,1,4])] :=
  ⟨by kernel_rfl,trivial⟩

theorem ok122_t (x0:(List Int)):TrOk (PureRuns Go.Proofs.Tryz.prog (kl122_0 Go.Proofs.Tryz.prog).orc 122 as122 rs122 (x0,())) (t122 x0) :=
  Walks.ok (fun _ _ _=>PureRuns.of) (wk122 x0) (by kernel_rfl)

theorem ok122:PureOk Go.Proofs.Tryz.prog 122 p122:=pureOk_of kl122_0_ok.base (T:=fun (d:Tys.data as122)=>t122 d.1) (by kernel_rfl) (fun (d:Tys.data as122)=>ok122_t d.1)
def kf122 (P:Go.Program):Known:=(kl122_0 P).func 122 p122
theorem kf122_ok:KnownOk Go.Proofs.Tryz.prog (kf122 Go.Proofs.Tryz.prog):=kl122_0_ok.func ok122

/-! ductility/ductilitybase.wideOf -/

abbrev as100:List Ty:=[(.int .i64),(.slice (.int .i64))]
abbrev rs100:List Ty:=[(.pair (.int .i64) (.pair (.slice (.int .i64)) .unit))]

def t100 (x0:Int) (x1:(List Int)):Tr (Tys.data rs100) :=
  Tr.test (Option.isSome (f122 (x1,())))
    (let r0:=g122 (x1,());
    Tr.test ((eqF (↑(List.length r0.1):Int) (0:Int):Bool))
      (Tr.fin ((((0:Int),(r0.1,())),())))
      (Tr.fin (((x0,(r0.1,())),()))))
    (Tr.stop)

def f100 (d:Tys.data as100):Option (Tys.data rs100):=(t100 d.1 d.2.1).val
def g100 (d:Tys.data as100):Tys.data rs100:=(f100 d).getD (Tys.dflt rs100)
def p100:PureC:=pcOf as100 rs100 f100 g100

theorem wk100 (x0:Int) (x1:(List Int)):Walks (runPure (kf122 Go.Proofs.Tryz.prog).orc Go.Proofs.Tryz.prog 400 100 as100 rs100 (x0,x1,())) (t100 x0 x1) [([true,true],[2,4]),([true,false],[2,4])] :=
  ⟨by kernel_rfl,by kernel_rfl,trivial⟩

theorem ok100_t (x0:Int) (x1:(List Int)):TrOk (PureRuns Go.Proofs.Tryz.prog (kf122 Go.Proofs.Tryz.prog).orc 100 as100 rs100 (x0,x1,())) (t100 x0 x1) :=
  Walks.ok (fun _ _ _=>PureRuns.of) (wk100 x0 x1) (by kernel_rfl)

theorem ok100:PureOk Go.Proofs.Tryz.prog 100 p100:=pureOk_of kf122_ok.base (T:=fun (d:Tys.data as100)=>t100 d.1 d.2.1) (by kernel_rfl) (fun (d:Tys.data as100)=>ok100_t d.1 d.2.1)
def kf100 (P:Go.Program):Known:=(kf122 P).func 100 p100
theorem kf100_ok:KnownOk Go.Proofs.Tryz.prog (kf100 Go.Proofs.Tryz.prog):=kf122_ok.func ok100

/-! loop 0 of ductility/ductilitybase.WideOf -/

abbrev sh98_0:Sh:={ n:=20,slots:=[0,2,3,4],pats:=[.ty (.int .i64),.ptr 0 2 0,.ty (.int .i64),.acc (.int .i64)],boxes:=[.row [.ty (.int .i64),.nil]] }
abbrev shb98_0:Sh:={ n:=20,slots:=[2,3,4],pats:=[.ptr 0 2 0,.ty (.int .i64),.acc (.int .i64)],boxes:=[.row [.ty (.int .i64),.nil]] }
abbrev shr98_0:Sh:={ n:=20,slots:=[],pats:=[],boxes:=[.row [.ty (.int .i64),.nil]] }

def t98_0 (x0:Int) (x2:Int) (x3:(List Int)) (b0_0:Int):Tr (Out sh98_0.data shb98_0.data shr98_0.data) :=
  Tr.test ((!eqF x0 0:Bool))
    (Tr.test (Option.isSome (f21 ((Int.tmod x0 (1000000000:Int):Int),())))
      (Tr.test ((Nat.ble (((2:Nat) * (List.length x3 + (1:Nat)) + (192:Nat)) * (8:Nat)) (281474976710656:Nat) && Nat.ble (List.length x3 + (1:Nat)) (281474976710656:Nat):Bool))
        (let r0:=g21 ((Int.tmod x0 (1000000000:Int):Int),());
        Tr.fin (.again (((Go.IntKind.wrap Go.IntKind.i64 (Int.tdiv x0 (1000000000:Int)):Int),(x2,((x3++[r0.1]:List Int),()))),((b0_0,()),()))))
        (Tr.stop))
      (Tr.stop))
    (Tr.fin (.brk ((x2,(x3,())),((b0_0,()),()))))

def s98_0 (d:sh98_0.data):Option (Out sh98_0.data shb98_0.data shr98_0.data):=(t98_0 d.1.1 d.1.2.1 d.1.2.2.1 d.2.1.1).val
def l98_0 (d:sh98_0.data):Option (shb98_0.data ⊕ shr98_0.data):=itr s98_0 rounds d
def b98_0 (d:sh98_0.data):shb98_0.data:=outB shb98_0.dflt (l98_0 d)
def lc98_0:LoopC:=lcB sh98_0 shb98_0 shr98_0 l98_0 b98_0

theorem wk98_0 (x0:Int) (x2:Int) (x3:(List Int)) (b0_0:Int):Walks (runBody (kf100 Go.Proofs.Tryz.prog).orc Go.Proofs.Tryz.prog 400 98 0 sh98_0 shb98_0 shr98_0 ((x0,x2,x3,()),(b0_0,()),())) (t98_0 x0 x2 x3 b0_0) [([true,true,true],[0,1,2,0,4,0,6]),([ff],[2])] :=
  ⟨by kernel_rfl,by kernel_rfl,trivial⟩

theorem ok98_0_t (x0:Int) (x2:Int) (x3:(List Int)) (b0_0:Int):TrOk (BodyRuns Go.Proofs.Tryz.prog (kf100 Go.Proofs.Tryz.prog).orc 98 0 sh98_0 shb98_0 shr98_0 ((x0,x2,x3,()),(b0_0,()),())) (t98_0 x0 x2 x3 b0_0) :=
  Walks.ok (fun _ _ _=>BodyRuns.of) (wk98_0 x0 x2 x3 b0_0) (by kernel_rfl)

theorem ok98_0:LoopOk Go.Proofs.Tryz.prog 98 0 lc98_0:=loopOk_ofB (sh:=sh98_0) (shB:=shb98_0) (shR:=shr98_0) kf100_ok.base (T:=fun (d:sh98_0.data)=>t98_0 d.1.1 d.1.2.1 d.1.2.2.1 d.2.1.1) (by kernel_rfl) rfl (fun (d:sh98_0.data)=>ok98_0_t d.1.1 d.1.2.1 d.1.2.2.1 d.2.1.1) (fun _=>rfl)
def kl98_0 (P:Go.Program):Known:=(kf100 P).loop 98 0 lc98_0
theorem kl98_0_ok:KnownOk Go.Proofs.Tryz.prog (kl98_0 Go.Proofs.Tryz.prog):=kf100_ok.loop ok98_0

/-! ductility/ductilitybase.WideOf -/

abbrev as98:List Ty:=[(.int .i64)]
abbrev rs98:List Ty:=[(.pair (.int .i64) (.pair (.slice (.int .i64)) .unit))]

def t98 (x0:Int):Tr (Tys.data rs98) :=
  Tr.test ((!leF (0:Int) x0:Bool))
    (Tr.test (isBrk (l98_0 ((x0,((-1:Int),(([]:List Int),()))),(((0:Int),()),()))))
      (let r0:=b98_0 ((x0,((-1:Int),(([]:List Int),()))),(((0:Int),()),()));
      Tr.test (Option.isSome (f100 (r0.1.1,(r0.1.2.1,()))))
        (let r1:=g100 (r0.1.1,(r0.1.2.1,()));
        Tr.fin (((r1.1.1,(r1.1.2.1,())),())))
        (Tr.stop))
      (Tr.stop))
    (Tr.test (isBrk (l98_0 ((x0,((1:Int),(([]:List Int),()))),(((0:Int),()),()))))
      (let r2:=b98_0 ((x0,((1:Int),(([]:List Int),()))),(((0:Int),()),()));
      Tr.test (Option.isSome (f100 (r2.1.1,(r2.1.2.1,()))))
        (let r3:=g100 (r2.1.1,(r2.1.2.1,()));
        Tr.fin (((r3.1.1,(r3.1.2.1,())),())))
        (Tr.stop))
      (Tr.stop))

def f98 (d:Tys.data as98):Option (Tys.data rs98):=(t98 d.1).val
def g98 (d:Tys.data as98):Tys.data rs98:=(f98 d).getD (Tys.dflt rs98)
def p98:PureC:=pcOf as98 rs98 f98 g98

theorem wk98 (x0:Int):Walks (runPure (kl98_0 Go.Proofs.Tryz.prog).orc Go.Proofs.Tryz.prog 400 98 as98 rs98 (x0,())) (t98 x0) [([true,true,true],[2,1,4,6]),([false,true,true],[2,1,4,6])] :=
  ⟨by kernel_rfl,by kernel_rfl,trivial⟩

theorem ok98_t (x0:Int):TrOk (PureRuns Go.Proofs.Tryz.prog (kl98_0 Go.Proofs.Tryz.prog).orc 98 as98 rs98 (x0,())) (t98 x0) :=
  Walks.ok (fun _ _ _=>PureRuns.of) (wk98 x0) (by kernel_rfl)

theorem ok98:PureOk Go.Proofs.Tryz.prog 98 p98:=pureOk_of kl98_0_ok.base (T:=fun (d:Tys.data as98)=>t98 d.1) (by kernel_rfl) (fun (d:Tys.data as98)=>ok98_t d.1)
def kf98 (P:Go.Program):Known:=(kl98_0 P).func 98 p98
theorem kf98_ok:KnownOk Go.Proofs.Tryz.prog (kf98 Go.Proofs.Tryz.prog):=kl98_0_ok.func ok98

/-! loop 2 of ductility/ductilitybase.WideMul -/

abbrev sh74_2:Sh:={ n:=86,slots:=[2,3,4,5,6,7,8],pats:=[.ptr 0 2 0,.ptr 1 2 0,.ptr 2 2 0,.sli 3 1,.ty (.int .i64),.ty (.int .i64),.ty (.int .i64)],boxes:=[.row [.ty (.int .i64),.ty (.slice (.int .i64))],.row [.ty (.int .i64),.ty (.slice (.int .i64))],.row [.ty (.int .i64),.nil],.arr (.int .i64)] }
abbrev shb74_2:Sh:={ n:=86,slots:=[2,3,4,5,6,7],pats:=[.ptr 0 2 0,.ptr 1 2 0,.ptr 2 2 0,.sli 3 1,.ty (.int .i64),.ty (.int .i64)],boxes:=[.row [.ty (.int .i64),.ty (.slice (.int .i64))],.row [.ty (.int .i64),.ty (.slice (.int .i64))],.row [.ty (.int .i64),.nil],.arr (.int .i64)] }
abbrev shr74_2:Sh:={ n:=86,slots:=[],pats:=[],boxes:=[.row [.ty (.int .i64),.ty (.slice (.int .i64))],.row [.ty (.int .i64),.ty (.slice (.int .i64))],.row [.ty (.int .i64),.nil],.arr (.int .i64)] }

def t74_2 (x3n:Nat) (x3c:Nat) (x4:Int) (x5:Int) (x6:Int) (b0_0:Int) (b0_1:(List Int)) (b1_0:Int) (b1_1:(List Int)) (b2_0:Int) (b3:(List Int)):Tr (Out sh74_2.data shb74_2.data shr74_2.data) :=
  Tr.test ((!leF (↑(List.length b1_1):Int) x6:Bool))
    (Tr.test (decide ((0:Int) ≤ wrap64 (x4 + x6)) && decide (wrap64 (x4 + x6) < (↑x3n:Int)))
      (Tr.test ((Nat.ble ((0:Nat) + Int.toNat (wrap64 (x4 + x6)) + (1:Nat)) (List.length b3):Bool))
        (Tr.test ((decide ((0:Int) ≤ x4) && decide (x4 < (↑(List.length b0_1):Int)):Bool))
          (Tr.test ((decide ((0:Int) ≤ x6) && decide (x6 < (↑(List.length b1_1):Int)):Bool))
            (Tr.fin (.again (((x3n,x3c),(x4,((Go.IntKind.wrap Go.IntKind.i64 (Int.tdiv (wrap64 (wrap64 (List.getD b3 ((0:Nat) + Int.toNat (wrap64 (x4 + x6))) (0:Int) + wrap64 (List.getD b0_1 (Int.toNat x4) (0:Int) * List.getD b1_1 (Int.toNat x6) (0:Int))) + x5)) (1000000000:Int)):Int),((wrap64 (x6 + (1:Int)):Int),())))),((b0_0,(b0_1,())),((b1_0,(b1_1,())),((b2_0,()),((List.set b3 ((0:Nat) + Int.toNat (wrap64 (x4 + x6))) (Int.tmod (wrap64 (wrap64 (List.getD b3 ((0:Nat) + Int.toNat (wrap64 (x4 + x6))) (0:Int) + wrap64 (List.getD b0_1 (Int.toNat x4) (0:Int) * List.getD b1_1 (Int.toNat x6) (0:Int))) + x5)) (1000000000:Int)):List Int),())))))))
            (Tr.stop))
          (Tr.stop))
        (Tr.stop))
      (Tr.stop))
    (Tr.fin (.brk (((x3n,x3c),(x4,(x5,()))),((b0_0,(b0_1,())),((b1_0,(b1_1,())),((b2_0,()),(b3,())))))))

def s74_2 (d:sh74_2.data):Option (Out sh74_2.data shb74_2.data shr74_2.data):=(t74_2 d.1.1.1 d.1.1.2 d.1.2.1 d.1.2.2.1 d.1.2.2.2.1 d.2.1.1 d.2.1.2.1 d.2.2.1.1 d.2.2.1.2.1 d.2.2.2.1.1 d.2.2.2.2.1).val
def l74_2 (d:sh74_2.data):Option (shb74_2.data ⊕ shr74_2.data):=itr s74_2 rounds d
def b74_2 (d:sh74_2.data):shb74_2.data:=outB shb74_2.dflt (l74_2 d)
def lc74_2:LoopC:=lcB sh74_2 shb74_2 shr74_2 l74_2 b74_2

theorem wk74_2 (x3n:Nat) (x3c:Nat) (x4:Int) (x5:Int) (x6:Int) (b0_0:Int) (b0_1:(List Int)) (b1_0:Int) (b1_1:(List Int)) (b2_0:Int) (b3:(List Int)):Walks (runBody (kf98 Go.Proofs.Tryz.prog).orc Go.Proofs.Tryz.prog 400 74 2 sh74_2 shb74_2 shr74_2 (((x3n,x3c),x4,x5,x6,()),(b0_0,b0_1,()),(b1_0,b1_1,()),(b2_0,()),b3,())) (t74_2 x3n x3c x4 x5 x6 b0_0 b0_1 b1_0 b1_1 b2_0 b3) [([true,true,true,true,true],[6,8,0,0,2,4,6,8,10]),([ff],[2])] :=
  ⟨by kernel_rfl,by kernel_rfl,trivial⟩

theorem ok74_2_t (x3n:Nat) (x3c:Nat) (x4:Int) (x5:Int) (x6:Int) (b0_0:Int) (b0_1:(List Int)) (b1_0:Int) (b1_1:(List Int)) (b2_0:Int) (b3:(List Int)):TrOk (BodyRuns Go.Proofs.Tryz.prog (kf98 Go.Proofs.Tryz.prog).orc 74 2 sh74_2 shb74_2 shr74_2 (((x3n,x3c),x4,x5,x6,()),(b0_0,b0_1,()),(b1_0,b1_1,()),(b2_0,()),b3,())) (t74_2 x3n x3c x4 x5 x6 b0_0 b0_1 b1_0 b1_1 b2_0 b3) :=
  Walks.ok (fun _ _ _=>BodyRuns.of) (wk74_2 x3n x3c x4 x5 x6 b0_0 b0_1 b1_0 b1_1 b2_0 b3) (by kernel_rfl)

theorem ok74_2:LoopOk Go.Proofs.Tryz.prog 74 2 lc74_2:=loopOk_ofB (sh:=sh74_2) (shB:=shb74_2) (shR:=shr74_2) kf98_ok.base (T:=fun (d:sh74_2.data)=>t74_2 d.1.1.1 d.1.1.2 d.1.2.1 d.1.2.2.1 d.1.2.2.2.1 d.2.1.1 d.2.1.2.1 d.2.2.1.1 d.2.2.1.2.1 d.2.2.2.1.1 d.2.2.2.2.1) (by kernel_rfl) rfl (fun (d:sh74_2.data)=>ok74_2_t d.1.1.1 d.1.1.2 d.1.2.1 d.1.2.2.1 d.1.2.2.2.1 d.2.1.1 d.2.1.2.1 d.2.2.1.1 d.2.2.1.2.1 d.2.2.2.1.1 d.2.2.2.2.1) (fun _=>rfl)
def kl74_2 (P:Go.Program):Known:=(kf98 P).loop 74 2 lc74_2
theorem kl74_2_ok:KnownOk Go.Proofs.Tryz.prog (kl74_2 Go.Proofs.Tryz.prog):=kf98_ok.loop ok74_2

/-! loop 0 of ductility/ductilitybase.WideMul -/

abbrev sh74_0:Sh:={ n:=86,slots:=[2,3,4,5,6],pats:=[.ptr 0 2 0,.ptr 1 2 0,.ptr 2 2 0,.sli 3 1,.ty (.int .i64)],boxes:=[.row [.ty (.int .i64),.ty (.slice (.int .i64))],.row [.ty (.int .i64),.ty (.slice (.int .i64))],.row [.ty (.int .i64),.nil],.arr (.int .i64)] }
abbrev shb74_0:Sh:={ n:=86,slots:=[2,3,4,5],pats:=[.ptr 0 2 0,.ptr 1 2 0,.ptr 2 2 0,.sli 3 1],boxes:=[.row [.ty (.int .i64),.ty (.slice (.int .i64))],.row [.ty (.int .i64),.ty (.slice (.int .i64))],.row [.ty (.int .i64),.nil],.arr (.int .i64)] }
abbrev shr74_0:Sh:={ n:=86,slots:=[],pats:=[],boxes:=[.row [.ty (.int .i64),.ty (.slice (.int .i64))],.row [.ty (.int .i64),.ty (.slice (.int .i64))],.row [.ty (.int .i64),.nil],.arr (.int .i64)] }

def t74_0 (x3n:Nat) (x3c:Nat) (x4:Int) (b0_0:Int) (b0_1:(List Int)) (b1_0:Int) (b1_1:(List Int)) (b2_0:Int) (b3:(List Int)):Tr (Out sh74_0.data shb74_0.data shr74_0.data) :=
  Tr.test ((!leF (↑(List.length b0_1):Int) x4:Bool))
    (Tr.test (isBrk (l74_2 (((x3n,x3c),(x4,((0:Int),((0:Int),())))),((b0_0,(b0_1,())),((b1_0,(b1_1,())),((b2_0,()),(b3,())))))))
      (let r0:=b74_2 (((x3n,x3c),(x4,((0:Int),((0:Int),())))),((b0_0,(b0_1,())),((b1_0,(b1_1,())),((b2_0,()),(b3,())))));
      Tr.test ((decide ((0:Int) ≤ wrap64 (r0.1.2.1 + (↑(List.length r0.2.2.1.2.1):Int))) && decide (wrap64 (r0.1.2.1 + (↑(List.length r0.2.2.1.2.1):Int)) < (↑r0.1.1.1:Int)):Bool))
        (Tr.test ((Nat.ble ((0:Nat) + Int.toNat (wrap64 (r0.1.2.1 + (↑(List.length r0.2.2.1.2.1):Int))) + (1:Nat)) (List.length r0.2.2.2.2.1):Bool))
          (Tr.fin (.again (((r0.1.1.1,r0.1.1.2),((wrap64 (r0.1.2.1 + (1:Int)):Int),())),((r0.2.1.1,(r0.2.1.2.1,())),((r0.2.2.1.1,(r0.2.2.1.2.1,())),((r0.2.2.2.1.1,()),((List.set r0.2.2.2.2.1 ((0:Nat) + Int.toNat (wrap64 (r0.1.2.1 + (↑(List.length r0.2.2.1.2.1):Int)))) (wrap64 (List.getD r0.2.2.2.2.1 ((0:Nat) + Int.toNat (wrap64 (r0.1.2.1 + (↑(List.length r0.2.2.1.2.1):Int)))) (0:Int) + r0.1.2.2.1)):List Int),())))))))
          (Tr.stop))
        (Tr.stop))
      (Tr.stop))
    (Tr.fin (.brk (((x3n,x3c),()),((b0_0,(b0_1,())),((b1_0,(b1_1,())),((b2_0,()),(b3,())))))))

def s74_0 (d:sh74_0.data):Option (Out sh74_0.data shb74_0.data shr74_0.data):=(t74_0 d.1.1.1 d.1.1.2 d.1.2.1 d.2.1.1 d.2.1.2.1 d.2.2.1.1 d.2.2.1.2.1 d.2.2.2.1.1 d.2.2.2.2.1).val
def l74_0 (d:sh74_0.data):Option (shb74_0.data ⊕ shr74_0.data):=itr s74_0 rounds d
def b74_0 (d:sh74_0.data):shb74_0.data:=outB shb74_0.dflt (l74_0 d)
def lc74_0:LoopC:=lcB sh74_0 shb74_0 shr74_0 l74_0 b74_0

theorem wk74_0 (x3n:Nat) (x3c:Nat) (x4:Int) (b0_0:Int) (b0_1:(List Int)) (b1_0:Int) (b1_1:(List Int)) (b2_0:Int) (b3:(List Int)):Walks (runBody (kl74_2 Go.Proofs.Tryz.prog).orc Go.Proofs.Tryz.prog 400 74 0 sh74_0 shb74_0 shr74_0 (((x3n,x3c),x4,()),(b0_0,b0_1,()),(b1_0,b1_1,()),(b2_0,()),b3,())) (t74_0 x3n x3c x4 b0_0 b0_1 b1_0 b1_1 b2_0 b3) [([true,true,true,true],[2,4,2,4,1,6,8]),([ff],[2])] :=
  ⟨by kernel_rfl,by kernel_rfl,trivial⟩

theorem ok74_0_t (x3n:Nat) (x3c:Nat) (x4:Int) (b0_0:Int) (b0_1:(List Int)) (b1_0:Int) (b1_1:(List Int)) (b2_0:Int) (b3:(List Int)):TrOk (BodyRuns Go.Proofs.Tryz.prog (kl74_2 Go.Proofs.Tryz.prog).orc 74 0 sh74_0 shb74_0 shr74_0 (((x3n,x3c),x4,()),(b0_0,b0_1,()),(b1_0,b1_1,()),(b2_0,()),b3,())) (t74_0 x3n x3c x4 b0_0 b0_1 b1_0 b1_1 b2_0 b3) :=
  Walks.ok (fun _ _ _=>BodyRuns.of) (wk74_0 x3n x3c x4 b0_0 b0_1 b1_0 b1_1 b2_0 b3) (by kernel_rfl)

theorem ok74_0:LoopOk Go.Proofs.Tryz.prog 74 0 lc74_0:=loopOk_ofB (sh:=sh74_0) (shB:=shb74_0) (shR:=shr74_0) kl74_2_ok.base (T:=fun (d:sh74_0.data)=>t74_0 d.1.1.1 d.1.1.2 d.1.2.1 d.2.1.1 d.2.1.2.1 d.2.2.1.1 d.2.2.1.2.1 d.2.2.2.1.1 d.2.2.2.2.1) (by kernel_rfl) rfl (fun (d:sh74_0.data)=>ok74_0_t d.1.1.1 d.1.1.2 d.1.2.1 d.2.1.1 d.2.1.2.1 d.2.2.1.1 d.2.2.1.2.1 d.2.2.2.1.1 d.2.2.2.2.1) (fun _=>rfl)
def kl74_0 (P:Go.Program):Known:=(kl74_2 P).loop 74 0 lc74_0
theorem kl74_0_ok:KnownOk Go.Proofs.Tryz.prog (kl74_0 Go.Proofs.Tryz.prog):=kl74_2_ok.loop ok74_0

/-! ductility/ductilitybase.WideMul -/

abbrev as74:List Ty:=[(.pair (.int .i64) (.pair (.slice (.int .i64)) .unit)),(.pair (.int .i64) (.pair (.slice (.int .i64)) .unit))]
abbrev rs74:List Ty:=[(.pair (.int .i64) (.pair (.slice (.int .i64)) .unit))]

def t74 (x0:Int) (x0':(List Int)) (x1:Int) (x1':(List Int)):Tr (Tys.data rs74) :=
  Tr.test ((decide ((0:Int) ≤ wrap64 (wrap64 ((↑(List.length x0'):Int) + (↑(List.length x1'):Int)) + (1:Int))) && decide (wrap64 (wrap64 ((↑(List.length x0'):Int) + (↑(List.length x1'):Int)) + (1:Int)) ≤ wrap64 (wrap64 ((↑(List.length x0'):Int) + (↑(List.length x1'):Int)) + (1:Int))) && decide ((8:Int) * wrap64 (wrap64 ((↑(List.length x0'):Int) + (↑(List.length x1'):Int)) + (1:Int)) ≤ (281474976710656:Int)) && decide (wrap64 (wrap64 ((↑(List.length x0'):Int) + (↑(List.length x1'):Int)) + (1:Int)) ≤ (281474976710656:Int)):Bool))
    (Tr.test (isBrk (l74_0 ((((Int.toNat (wrap64 (wrap64 ((↑(List.length x0'):Int) + (↑(List.length x1'):Int)) + (1:Int))):Nat),(Int.toNat (wrap64 (wrap64 ((↑(List.length x0'):Int) + (↑(List.length x1'):Int)) + (1:Int))):Nat)),((0:Int),())),((x0,(x0',())),((x1,(x1',())),(((0:Int),()),((List.replicate (Int.toNat (wrap64 (wrap64 ((↑(List.length x0'):Int) + (↑(List.length x1'):Int)) + (1:Int)))) (0:Int):List Int),())))))))
      (let r0:=b74_0 ((((Int.toNat (wrap64 (wrap64 ((↑(List.length x0'):Int) + (↑(List.length x1'):Int)) + (1:Int))):Nat),(Int.toNat (wrap64 (wrap64 ((↑(List.length x0'):Int) + (↑(List.length x1'):Int)) + (1:Int))):Nat)),((0:Int),())),((x0,(x0',())),((x1,(x1',())),(((0:Int),()),((List.replicate (Int.toNat (wrap64 (wrap64 ((↑(List.length x0'):Int) + (↑(List.length x1'):Int)) + (1:Int)))) (0:Int):List Int),())))));
      Tr.test ((Nat.beq r0.1.1.1 (List.length r0.2.2.2.2.1):Bool))
        (Tr.test (Option.isSome (f100 ((wrap64 (r0.2.1.1 * r0.2.2.1.1):Int),(r0.2.2.2.2.1,()))))
          (let r1:=g100 ((wrap64 (r0.2.1.1 * r0.2.2.1.1):Int),(r0.2.2.2.2.1,()));
          Tr.fin (((r1.1.1,(r1.1.2.1,())),())))
          (Tr.stop))
        (Tr.test ((Nat.ble r0.1.1.1 (List.length r0.2.2.2.2.1):Bool))
          (Tr.test (Option.isSome (f100 ((wrap64 (r0.2.1.1 * r0.2.2.1.1):Int),((List.take r0.1.1.1 r0.2.2.2.2.1:List Int),()))))
            (let r2:=g100 ((wrap64 (r0.2.1.1 * r0.2.2.1.1):Int),((List.take r0.1.1.1 r0.2.2.2.2.1:List Int),()));
            Tr.fin (((r2.1.1,(r2.1.2.1,())),())))
            (Tr.stop))
          (Tr.stop /- a known call [op 6 of region 12 of F74] -/)))
      (Tr.stop))
    (Tr.stop)

def f74 (d:Tys.data as74):Option (Tys.data rs74):=(t74 d.1.1 d.1.2.1 d.2.1.1 d.2.1.2.1).val
def g74 (d:Tys.data as74):Tys.data rs74:=(f74 d).getD (Tys.dflt rs74)
def p74:PureC:=pcOf as74 rs74 f74 g74

theorem wk74 (x0:Int) (x0':(List Int)) (x1:Int) (x1':(List Int)):Walks (runPure (kl74_0 Go.Proofs.Tryz.prog).orc Go.Proofs.Tryz.prog 400 74 as74 rs74 ((x0,x0',()),(x1,x1',()),())) (t74 x0 x0' x1 x1') [([true,true,true,true],[2,4,1,6,8]),([true,true,false,true,true],[2,4,6,1,8,10])] :=
  ⟨by kernel_rfl,by kernel_rfl,trivial⟩

theorem ok74_t (x0:Int) (x0':(List Int)) (x1:Int) (x1':(List Int)):TrOk (PureRuns Go.Proofs.Tryz.prog (kl74_0 Go.Proofs.Tryz.prog).orc 74 as74 rs74 ((x0,x0',()),(x1,x1',()),())) (t74 x0 x0' x1 x1') :=
  Walks.ok (fun _ _ _=>PureRuns.of) (wk74 x0 x0' x1 x1') (by kernel_rfl)

theorem ok74:PureOk Go.Proofs.Tryz.prog 74 p74:=pureOk_of kl74_0_ok.base (T:=fun (d:Tys.data as74)=>t74 d.1.1 d.1.2.1 d.2.1.1 d.2.1.2.1) (by kernel_rfl) (fun (d:Tys.data as74)=>ok74_t d.1.1 d.1.2.1 d.2.1.1 d.2.1.2.1)
def kf74 (P:Go.Program):Known:=(kl74_0 P).func 74 p74
theorem kf74_ok:KnownOk Go.Proofs.Tryz.prog (kf74 Go.Proofs.Tryz.prog):=kl74_0_ok.func ok74

/-! ductility/ductilitybase.digit -/

abbrev as131:List Ty:=[(.slice (.int .i64)),(.int .i64)]
abbrev rs131:List Ty:=[(.int .i64)]

def t131 (x0:(List Int)) (x1:Int):Tr (Tys.data rs131) :=
  Tr.test ((!leF (↑(List.length x0):Int) x1:Bool))
    (Tr.test (decide ((0:Int) ≤ x1) && decide (x1 < (↑(List.length x0):Int)))
      (Tr.fin (((List.getD x0 (Int.toNat x1) (0:Int):Int),())))
      (Tr.stop))
    (Tr.fin (((0:Int),())))

def f131 (d:Tys.data as131):Option (Tys.data rs131):=(t131 d.1 d.2.1).val
def g131 (d:Tys.data as131):Tys.data rs131:=(f131 d).getD (Tys.dflt rs131)
def p131:PureC:=pcOf as131 rs131 f131 g131

theorem wk131 (x0:(List Int)) (x1:Int):Walks (runPure (kf74 Go.Proofs.Tryz.prog).orc Go.Proofs.Tryz.prog 400 131 as131 rs131 (x0,x1,())) (t131 x0 x1) [([true,true],[2,4]),([ff],[2])] :=
  ⟨by kernel_rfl,by kernel_rfl,trivial⟩

theorem ok131_t (x0:(List Int)) (x1:Int):TrOk (PureRuns Go.Proofs.Tryz.prog (kf74 Go.Proofs.Tryz.prog).orc 131 as131 rs131 (x0,x1,())) (t131 x0 x1) :=
  Walks.ok (fun _ _ _=>PureRuns.of) (wk131 x0 x1) (by kernel_rfl)

theorem ok131:PureOk Go.Proofs.Tryz.prog 131 p131:=pureOk_of kf74_ok.base (T:=fun (d:Tys.data as131)=>t131 d.1 d.2.1) (by kernel_rfl) (fun (d:Tys.data as131)=>ok131_t d.1 d.2.1)
def kf131 (P:Go.Program):Known:=(kf74 P).func 131 p131
theorem kf131_ok:KnownOk Go.Proofs.Tryz.prog (kf131 Go.Proofs.Tryz.prog):=kf74_ok.func ok131

/-! loop 0 of ductility/ductilitybase.addDigits -/

abbrev sh118_0:Sh:={ n:=42,slots:=[0,1,5,6,7],pats:=[.ty (.slice (.int .i64)),.ty (.slice (.int .i64)),.acc (.int .i64),.ty (.int .i64),.ty (.int .i64)],boxes:=[] }
abbrev shb118_0:Sh:={ n:=42,slots:=[5],pats:=[.acc (.int .i64)],boxes:=[] }
abbrev shr118_0:Sh:={ n:=42,slots:=[],pats:=[],boxes:=[] }

def t118_0 (x0:(List Int)) (x1:(List Int)) (x2:(List Int)) (x3:Int) (x4:Int):Tr (Out sh118_0.data shb118_0.data shr118_0.data) :=
  Tr.test ((!leF (↑(List.length x0):Int) x4:Bool))
    (Tr.test (Option.isSome (f131 (x0,(x4,()))))
      (Tr.test (Option.isSome (f131 (x1,(x4,()))))
        (Tr.test ((Nat.ble (((2:Nat) * (List.length x2 + (1:Nat)) + (192:Nat)) * (8:Nat)) (281474976710656:Nat) && Nat.ble (List.length x2 + (1:Nat)) (281474976710656:Nat):Bool))
          (let r0:=g131 (x0,(x4,()));
          let r1:=g131 (x1,(x4,()));
          Tr.fin (.again ((x0,(x1,((x2++[Int.tmod (wrap64 (wrap64 (r0.1 + r1.1) + x3)) (1000000000:Int)]:List Int),((Go.IntKind.wrap Go.IntKind.i64 (Int.tdiv (wrap64 (wrap64 (r0.1 + r1.1) + x3)) (1000000000:Int)):Int),((wrap64 (x4 + (1:Int)):Int),()))))),())))
          (Tr.stop))
        (Tr.stop))
      (Tr.stop))
    (Tr.test (!leF (↑(List.length x1):Int) x4)
      (Tr.test (Option.isSome (f131 (x0,(x4,()))))
        (Tr.test (Option.isSome (f131 (x1,(x4,()))))
          (Tr.test ((Nat.ble (((2:Nat) * (List.length x2 + (1:Nat)) + (192:Nat)) * (8:Nat)) (281474976710656:Nat) && Nat.ble (List.length x2 + (1:Nat)) (281474976710656:Nat):Bool))
            (let r0:=g131 (x0,(x4,()));
            let r1:=g131 (x1,(x4,()));
            Tr.fin (.again ((x0,(x1,((x2++[Int.tmod (wrap64 (wrap64 (r0.1 + r1.1) + x3)) (1000000000:Int)]:List Int),((Go.IntKind.wrap Go.IntKind.i64 (Int.tdiv (wrap64 (wrap64 (r0.1 + r1.1) + x3)) (1000000000:Int)):Int),((wrap64 (x4 + (1:Int)):Int),()))))),())))
            (Tr.stop))
          (Tr.stop))
        (Tr.stop))
      (Tr.test ((!leF x3 0:Bool))
        (Tr.test (Option.isSome (f131 (x0,(x4,()))))
          (Tr.test (Option.isSome (f131 (x1,(x4,()))))
            (Tr.test ((Nat.ble (((2:Nat) * (List.length x2 + (1:Nat)) + (192:Nat)) * (8:Nat)) (281474976710656:Nat) && Nat.ble (List.length x2 + (1:Nat)) (281474976710656:Nat):Bool))
              (let r0:=g131 (x0,(x4,()));
              let r1:=g131 (x1,(x4,()));
              Tr.fin (.again ((x0,(x1,((x2++[Int.tmod (wrap64 (wrap64 (r0.1 + r1.1) + x3)) (1000000000:Int)]:List Int),((Go.IntKind.wrap Go.IntKind.i64 (Int.tdiv (wrap64 (wrap64 (r0.1 + r1.1) + x3)) (1000000000:Int)):Int),((wrap64 (x4 + (1:Int)):Int),()))))),())))
              (Tr.stop))
            (Tr.stop))
          (Tr.stop))
        (Tr.fin (.brk ((x2,()),())))))

def s118_0 (d:sh118_0.data):Option (Out sh118_0.data shb118_0.data shr118_0.data):=(t118_0 d.1.1 d.1.2.1 d.1.2.2.1 d.1.2.2.2.1 d.1.2.2.2.2.1).val
def l118_0 (d:sh118_0.data):Option (shb118_0.data ⊕ shr118_0.data):=itr s118_0 rounds d
def b118_0 (d:sh118_0.data):shb118_0.data:=outB shb118_0.dflt (l118_0 d)
def lc118_0:LoopC:=lcB sh118_0 shb118_0 shr118_0 l118_0 b118_0

theorem wk118_0 (x0:(List Int)) (x1:(List Int)) (x2:(List Int)) (x3:Int) (x4:Int):Walks (runBody (kf131 Go.Proofs.Tryz.prog).orc Go.Proofs.Tryz.prog 400 118 0 sh118_0 shb118_0 shr118_0 ((x0,x1,x2,x3,x4,()),())) (t118_0 x0 x1 x2 x3 x4) [([true,true,true,true],[0,1,2,0,0,4,6,1,1,1,1,8,8,8,8,8]),([false,true,true,true,true],[0,1,2,0,0,4,6,1,8,8,8,10,10,10,10,10]),([false,false,true,true,true,true],[0,1,2,0,0,4,6,8,10,10,10,12,12,12,12,12]),([false,false,false],[2,4,4,4,6,6,6,6,6])] :=
  ⟨by kernel_rfl,by kernel_rfl,by kernel_rfl,by kernel_rfl,trivial⟩

theorem ok118_0_t (x0:(List Int)) (x1:(List Int)) (x2:(List Int)) (x3:Int) (x4:Int):TrOk (BodyRuns Go.Proofs.Tryz.prog (kf131 Go.Proofs.Tryz.prog).orc 118 0 sh118_0 shb118_0 shr118_0 ((x0,x1,x2,x3,x4,()),())) (t118_0 x0 x1 x2 x3 x4) :=
  Walks.ok (fun _ _ _=>BodyRuns.of) (wk118_0 x0 x1 x2 x3 x4) (by kernel_rfl)

theorem ok118_0:LoopOk Go.Proofs.Tryz.prog 118 0 lc118_0:=loopOk_ofB (sh:=sh118_0) (shB:=shb118_0) (shR:=shr118_0) kf131_ok.base (T:=fun (d:sh118_0.data)=>t118_0 d.1.1 d.1.2.1 d.1.2.2.1 d.1.2.2.2.1 d.1.2.2.2.2.1) (by kernel_rfl) rfl (fun (d:sh118_0.data)=>ok118_0_t d.1.1 d.1.2.1 d.1.2.2.1 d.1.2.2.2.1 d.1.2.2.2.2.1) (fun _=>rfl)
def kl118_0 (P:Go.Program):Known:=(kf131 P).loop 118 0 lc118_0
theorem kl118_0_ok:KnownOk Go.Proofs.Tryz.prog (kl118_0 Go.Proofs.Tryz.prog):=kf131_ok.loop ok118_0

/-! ductility/ductilitybase.addDigits -/

abbrev as118:List Ty:=[(.slice (.int .i64)),(.slice (.int .i64))]
abbrev rs118:List Ty:=[(.slice (.int .i64))]

def t118 (x0:(List Int)) (x1:(List Int)):Tr (Tys.data rs118) :=
  Tr.test (isBrk (l118_0 ((x0,(x1,(([]:List Int),((0:Int),((0:Int),()))))),())))
    (let r0:=b118_0 ((x0,(x1,(([]:List Int),((0:Int),((0:Int),()))))),());
    Tr.fin ((r0.1.1,())))
    (Tr.stop)

def f118 (d:Tys.data as118):Option (Tys.data rs118):=(t118 d.1 d.2.1).val
def g118 (d:Tys.data as118):Tys.data rs118:=(f118 d).getD (Tys.dflt rs118)
def p118:PureC:=pcOf as118 rs118 f118 g118

theorem wk118 (x0:(List Int)) (x1:(List Int)):Walks (runPure (kl118_0 Go.Proofs.Tryz.prog).orc Go.Proofs.Tryz.prog 400 118 as118 rs118 (x0,x1,())) (t118 x0 x1) [([tt],[1,2])] :=
  ⟨by kernel_rfl,trivial⟩

theorem ok118_t (x0:(List Int)) (x1:(List Int)):TrOk (PureRuns Go.Proofs.Tryz.prog (kl118_0 Go.Proofs.Tryz.prog).orc 118 as118 rs118 (x0,x1,())) (t118 x0 x1) :=
  Walks.ok (fun _ _ _=>PureRuns.of) (wk118 x0 x1) (by kernel_rfl)

theorem ok118:PureOk Go.Proofs.Tryz.prog 118 p118:=pureOk_of kl118_0_ok.base (T:=fun (d:Tys.data as118)=>t118 d.1 d.2.1) (by kernel_rfl) (fun (d:Tys.data as118)=>ok118_t d.1 d.2.1)
def kf118 (P:Go.Program):Known:=(kl118_0 P).func 118 p118
theorem kf118_ok:KnownOk Go.Proofs.Tryz.prog (kf118 Go.Proofs.Tryz.prog):=kl118_0_ok.func ok118

/-! loop 0 of ductility/ductilitybase.cmpDigits -/

abbrev sh119_0:Sh:={ n:=41,slots:=[0,1,5],pats:=[.ty (.slice (.int .i64)),.ty (.slice (.int .i64)),.ty (.int .i64)],boxes:=[] }
abbrev shb119_0:Sh:={ n:=41,slots:=[],pats:=[],boxes:=[] }
abbrev shr119_0:Sh:={ n:=41,slots:=[4],pats:=[.ty (.int .i64)],boxes:=[] }

def t119_0 (x0:(List Int)) (x1:(List Int)) (x2:Int):Tr (Out sh119_0.data shb119_0.data shr119_0.data) :=
  Tr.test ((leF (0:Int) x2:Bool))
    (Tr.test (decide ((0:Int) ≤ x2) && decide (x2 < (↑(List.length x0):Int)))
      (Tr.test ((decide ((0:Int) ≤ x2) && decide (x2 < (↑(List.length x1):Int)):Bool))
        (Tr.test ((!leF (List.getD x1 (Int.toNat x2) (0:Int)) (List.getD x0 (Int.toNat x2) (0:Int)):Bool))
          (Tr.fin (.ret (((-1:Int),()),())))
          (Tr.test ((!leF (List.getD x0 (Int.toNat x2) (0:Int)) (List.getD x1 (Int.toNat x2) (0:Int)):Bool))
            (Tr.fin (.ret (((1:Int),()),())))
            (Tr.fin (.again ((x0,(x1,((wrap64 (x2 - (1:Int)):Int),()))),())))))
        (Tr.stop))
      (Tr.stop))
    (Tr.fin (.brk ((),())))

def s119_0 (d:sh119_0.data):Option (Out sh119_0.data shb119_0.data shr119_0.data):=(t119_0 d.1.1 d.1.2.1 d.1.2.2.1).val
def l119_0 (d:sh119_0.data):Option (shb119_0.data ⊕ shr119_0.data):=itr s119_0 rounds d
def b119_0 (d:sh119_0.data):shb119_0.data:=outB shb119_0.dflt (l119_0 d)
def r119_0 (d:sh119_0.data):shr119_0.data:=outR shr119_0.dflt (l119_0 d)
def lc119_0:LoopC:=lcOf sh119_0 shb119_0 shr119_0 l119_0 b119_0 r119_0

theorem wk119_0 (x0:(List Int)) (x1:(List Int)) (x2:Int):Walks (runBody (kf118 Go.Proofs.Tryz.prog).orc Go.Proofs.Tryz.prog 400 119 0 sh119_0 shb119_0 shr119_0 ((x0,x1,x2,()),())) (t119_0 x0 x1 x2) [([true,true,true,true],[2,4,6,8]),([true,true,true,false,true],[2,6,8,4,6,8,10]),([true,true,true,false,false],[2,6,8,4,6,8,10]),([ff],[2])] :=
  ⟨by kernel_rfl,by kernel_rfl,by kernel_rfl,by kernel_rfl,trivial⟩

theorem ok119_0_t (x0:(List Int)) (x1:(List Int)) (x2:Int):TrOk (BodyRuns Go.Proofs.Tryz.prog (kf118 Go.Proofs.Tryz.prog).orc 119 0 sh119_0 shb119_0 shr119_0 ((x0,x1,x2,()),())) (t119_0 x0 x1 x2) :=
  Walks.ok (fun _ _ _=>BodyRuns.of) (wk119_0 x0 x1 x2) (by kernel_rfl)

theorem ok119_0:LoopOk Go.Proofs.Tryz.prog 119 0 lc119_0:=loopOk_of (sh:=sh119_0) (shB:=shb119_0) (shR:=shr119_0) kf118_ok.base (T:=fun (d:sh119_0.data)=>t119_0 d.1.1 d.1.2.1 d.1.2.2.1) (by kernel_rfl) rfl (fun (d:sh119_0.data)=>ok119_0_t d.1.1 d.1.2.1 d.1.2.2.1) (fun _=>rfl)
def kl119_0 (P:Go.Program):Known:=(kf118 P).loop 119 0 lc119_0
theorem kl119_0_ok:KnownOk Go.Proofs.Tryz.prog (kl119_0 Go.Proofs.Tryz.prog):=kf118_ok.loop ok119_0

/-! ductility/ductilitybase.cmpDigits -/

abbrev as119:List Ty:=[(.slice (.int .i64)),(.slice (.int .i64))]
abbrev rs119:List Ty:=[(.int .i64)]

def t119 (x0:(List Int)) (x1:(List Int)):Tr (Tys.data rs119) :=
  Tr.test ((!eqF (↑(List.length x0):Int) (↑(List.length x1):Int):Bool))
    (Tr.test (!leF (↑(List.length x1):Int) (↑(List.length x0):Int))
      (Tr.fin (((-1:Int),())))
      (Tr.fin (((1:Int),()))))
    (Tr.test (Option.isSome (l119_0 ((x0,(x1,((wrap64 ((↑(List.length x0):Int) - (1:Int)):Int),()))),())))
      (Tr.test (isRet (l119_0 ((x0,(x1,((wrap64 ((↑(List.length x0):Int) - (1:Int)):Int),()))),())))
        (let r0:=r119_0 ((x0,(x1,((wrap64 ((↑(List.length x0):Int) - (1:Int)):Int),()))),());
        Tr.fin ((r0.1.1,())))
        (Tr.fin (((0:Int),()))))
      (Tr.stop))

def f119 (d:Tys.data as119):Option (Tys.data rs119):=(t119 d.1 d.2.1).val
def g119 (d:Tys.data as119):Tys.data rs119:=(f119 d).getD (Tys.dflt rs119)
def p119:PureC:=pcOf as119 rs119 f119 g119

theorem wk119 (x0:(List Int)) (x1:(List Int)):Walks (runPure (kl119_0 Go.Proofs.Tryz.prog).orc Go.Proofs.Tryz.prog 400 119 as119 rs119 (x0,x1,())) (t119 x0 x1) [([true,true],[2,4]),([true,false],[2,4]),([false,true,true],[2,4,6]),([false,true,false],[2,4,6])] :=
  ⟨by kernel_rfl,by kernel_rfl,by kernel_rfl,by kernel_rfl,trivial⟩

theorem ok119_t (x0:(List Int)) (x1:(List Int)):TrOk (PureRuns Go.Proofs.Tryz.prog (kl119_0 Go.Proofs.Tryz.prog).orc 119 as119 rs119 (x0,x1,())) (t119 x0 x1) :=
  Walks.ok (fun _ _ _=>PureRuns.of) (wk119 x0 x1) (by kernel_rfl)

theorem ok119:PureOk Go.Proofs.Tryz.prog 119 p119:=pureOk_of kl119_0_ok.base (T:=fun (d:Tys.data as119)=>t119 d.1 d.2.1) (by kernel_rfl) (fun (d:Tys.data as119)=>ok119_t d.1 d.2.1)
def kf119 (P:Go.Program):Known:=(kl119_0 P).func 119 p119
theorem kf119_ok:KnownOk Go.Proofs.Tryz.prog (kf119 Go.Proofs.Tryz.prog):=kl119_0_ok.func ok119

/-! loop 0 of ductility/ductilitybase.subDigits -/

abbrev sh120_0:Sh:={ n:=35,slots:=[0,1,5,6,7],pats:=[.ty (.slice (.int .i64)),.ty (.slice (.int .i64)),.acc (.int .i64),.ty (.int .i64),.ty (.int .i64)],boxes:=[] }
abbrev shb120_0:Sh:={ n:=35,slots:=[5],pats:=[.acc (.int .i64)],boxes:=[] }
abbrev shr120_0:Sh:={ n:=35,slots:=[],pats:=[],boxes:=[] }

def t120_0 (x0:(List Int)) (x1:(List Int)) (x2:(List Int)) (x3:Int) (x4:Int):Tr (Out sh120_0.data shb120_0.data shr120_0.data) :=
  Tr.test ((!leF (↑(List.length x0):Int) x4:Bool))
    (Tr.test (decide ((0:Int) ≤ x4) && decide (x4 < (↑(List.length x0):Int)))
      (Tr.test (Option.isSome (f131 (x1,(x4,()))))
        (let r0:=g131 (x1,(x4,()));
        Tr.test ((!leF (0:Int) (wrap64 (wrap64 (List.getD x0 (Int.toNat x4) (0:Int) - r0.1) - x3)):Bool))
          (Tr.test ((Nat.ble (((2:Nat) * (List.length x2 + (1:Nat)) + (192:Nat)) * (8:Nat)) (281474976710656:Nat) && Nat.ble (List.length x2 + (1:Nat)) (281474976710656:Nat):Bool))
            (Tr.fin (.again ((x0,(x1,((x2++[wrap64 (wrap64 (wrap64 (List.getD x0 (Int.toNat x4) (0:Int) - r0.1) - x3) + (1000000000:Int))]:List Int),((1:Int),((wrap64 (x4 + (1:Int)):Int),()))))),())))
            (Tr.stop))
          (Tr.test ((Nat.ble (((2:Nat) * (List.length x2 + (1:Nat)) + (192:Nat)) * (8:Nat)) (281474976710656:Nat) && Nat.ble (List.length x2 + (1:Nat)) (281474976710656:Nat):Bool))
            (Tr.fin (.again ((x0,(x1,((x2++[wrap64 (wrap64 (List.getD x0 (Int.toNat x4) (0:Int) - r0.1) - x3)]:List Int),((0:Int),((wrap64 (x4 + (1:Int)):Int),()))))),())))
            (Tr.stop)))
        (Tr.stop))
      (Tr.stop))
    (Tr.fin (.brk ((x2,()),())))

def s120_0 (d:sh120_0.data):Option (Out sh120_0.data shb120_0.data shr120_0.data):=(t120_0 d.1.1 d.1.2.1 d.1.2.2.1 d.1.2.2.2.1 d.1.2.2.2.2.1).val
def l120_0 (d:sh120_0.data):Option (shb120_0.data ⊕ shr120_0.data):=itr s120_0 rounds d
def b120_0 (d:sh120_0.data):shb120_0.data:=outB shb120_0.dflt (l120_0 d)
def lc120_0:LoopC:=lcB sh120_0 shb120_0 shr120_0 l120_0 b120_0

theorem wk120_0 (x0:(List Int)) (x1:(List Int)) (x2:(List Int)) (x3:Int) (x4:Int):Walks (runBody (kf119 Go.Proofs.Tryz.prog).orc Go.Proofs.Tryz.prog 400 120 0 sh120_0 shb120_0 shr120_0 ((x0,x1,x2,x3,x4,()),())) (t120_0 x0 x1 x2 x3 x4) [([true,true,true,true,true],[1,2,0,4,6,8,10]),([true,true,true,false,true],[1,2,0,4,6,8,10]),([ff],[2])] :=
  ⟨by kernel_rfl,by kernel_rfl,by kernel_rfl,trivial⟩

theorem ok120_0_t (x0:(List Int)) (x1:(List Int)) (x2:(List Int)) (x3:Int) (x4:Int):TrOk (BodyRuns Go.Proofs.Tryz.prog (kf119 Go.Proofs.Tryz.prog).orc 120 0 sh120_0 shb120_0 shr120_0 ((x0,x1,x2,x3,x4,()),())) (t120_0 x0 x1 x2 x3 x4) :=
  Walks.ok (fun _ _ _=>BodyRuns.of) (wk120_0 x0 x1 x2 x3 x4) (by kernel_rfl)

theorem ok120_0:LoopOk Go.Proofs.Tryz.prog 120 0 lc120_0:=loopOk_ofB (sh:=sh120_0) (shB:=shb120_0) (shR:=shr120_0) kf119_ok.base (T:=fun (d:sh120_0.data)=>t120_0 d.1.1 d.1.2.1 d.1.2.2.1 d.1.2.2.2.1 d.1.2.2.2.2.1) (by kernel_rfl) rfl (fun (d:sh120_0.data)=>ok120_0_t d.1.1 d.1.2.1 d.1.2.2.1 d.1.2.2.2.1 d.1.2.2.2.2.1) (fun _=>rfl)
def kl120_0 (P:Go.Program):Known:=(kf119 P).loop 120 0 lc120_0
theorem kl120_0_ok:KnownOk Go.Proofs.Tryz.prog (kl120_0 Go.Proofs.Tryz.prog):=kf119_ok.loop ok120_0

/-! ductility/ductilitybase.subDigits -/

abbrev as120:List Ty:=[(.slice (.int .i64)),(.slice (.int .i64))]
abbrev rs120:List Ty:=[(.slice (.int .i64))]

def t120 (x0:(List Int)) (x1:(List Int)):Tr (Tys.data rs120) :=
  Tr.test (isBrk (l120_0 ((x0,(x1,(([]:List Int),((0:Int),((0:Int),()))))),())))
    (let r0:=b120_0 ((x0,(x1,(([]:List Int),((0:Int),((0:Int),()))))),());
    Tr.test (Option.isSome (f122 (r0.1.1,())))
      (let r1:=g122 (r0.1.1,());
      Tr.fin ((r1.1,())))
      (Tr.stop))
    (Tr.stop)

def f120 (d:Tys.data as120):Option (Tys.data rs120):=(t120 d.1 d.2.1).val
def g120 (d:Tys.data as120):Tys.data rs120:=(f120 d).getD (Tys.dflt rs120)
def p120:PureC:=pcOf as120 rs120 f120 g120

theorem wk120 (x0:(List Int)) (x1:(List Int)):Walks (runPure (kl120_0 Go.Proofs.Tryz.prog).orc Go.Proofs.Tryz.prog 400 120 as120 rs120 (x0,x1,())) (t120 x0 x1) [([true,true],[2,1,4])] :=
  ⟨by kernel_rfl,trivial⟩

theorem ok120_t (x0:(List Int)) (x1:(List Int)):TrOk (PureRuns Go.Proofs.Tryz.prog (kl120_0 Go.Proofs.Tryz.prog).orc 120 as120 rs120 (x0,x1,())) (t120 x0 x1) :=
  Walks.ok (fun _ _ _=>PureRuns.of) (wk120 x0 x1) (by kernel_rfl)

theorem ok120:PureOk Go.Proofs.Tryz.prog 120 p120:=pureOk_of kl120_0_ok.base (T:=fun (d:Tys.data as120)=>t120 d.1 d.2.1) (by kernel_rfl) (fun (d:Tys.data as120)=>ok120_t d.1 d.2.1)
def kf120 (P:Go.Program):Known:=(kl120_0 P).func 120 p120
theorem kf120_ok:KnownOk Go.Proofs.Tryz.prog (kf120 Go.Proofs.Tryz.prog):=kl120_0_ok.func ok120

/-! ductility/ductilitybase.WideAdd -/

abbrev as97:List Ty:=[(.pair (.int .i64) (.pair (.slice (.int .i64)) .unit)),(.pair (.int .i64) (.pair (.slice (.int .i64)) .unit))]
abbrev rs97:List Ty:=[(.pair (.int .i64) (.pair (.slice (.int .i64)) .unit))]

def t97 (x0:Int) (x0':(List Int)) (x1:Int) (x1':(List Int)):Tr (Tys.data rs97) :=
  Tr.test ((eqF x0 0:Bool))
    (Tr.fin (((x1,(x1',())),())))
    (Tr.test (eqF x1 0)
      (Tr.fin (((x0,(x0',())),())))
      (Tr.test ((eqF x0 x1:Bool))
        (Tr.test (Option.isSome (f118 (x0',(x1',()))))
          (let r0:=g118 (x0',(x1',()));
          Tr.test (Option.isSome (f100 (x0,(r0.1,()))))
            (let r1:=g100 (x0,(r0.1,()));
            Tr.fin (((r1.1.1,(r1.1.2.1,())),())))
            (Tr.stop))
          (Tr.stop))
        (Tr.test (Option.isSome (f119 (x0',(x1',()))))
          (let r2:=g119 (x0',(x1',()));
          Tr.test ((eqF r2.1 0:Bool))
            (Tr.fin ((((0:Int),(([]:List Int),())),())))
            (Tr.test ((!leF r2.1 0:Bool))
              (Tr.test (Option.isSome (f120 (x0',(x1',()))))
                (let r3:=g120 (x0',(x1',()));
                Tr.test (Option.isSome (f100 (x0,(r3.1,()))))
                  (let r4:=g100 (x0,(r3.1,()));
                  Tr.fin (((r4.1.1,(r4.1.2.1,())),())))
                  (Tr.stop))
                (Tr.stop))
              (Tr.test (Option.isSome (f120 (x1',(x0',()))))
                (let r5:=g120 (x1',(x0',()));
                Tr.test (Option.isSome (f100 (x1,(r5.1,()))))
                  (let r6:=g100 (x1,(r5.1,()));
                  Tr.fin (((r6.1.1,(r6.1.2.1,())),())))
                  (Tr.stop))
                (Tr.stop))))
          (Tr.stop))))

def f97 (d:Tys.data as97):Option (Tys.data rs97):=(t97 d.1.1 d.1.2.1 d.2.1.1 d.2.1.2.1).val
def g97 (d:Tys.data as97):Tys.data rs97:=(f97 d).getD (Tys.dflt rs97)
def p97:PureC:=pcOf as97 rs97 f97 g97

theorem wk97 (x0:Int) (x0':(List Int)) (x1:Int) (x1':(List Int)):Walks (runPure (kf120 Go.Proofs.Tryz.prog).orc Go.Proofs.Tryz.prog 400 97 as97 rs97 ((x0,x0',()),(x1,x1',()),())) (t97 x0 x0' x1 x1') [([tt],[2]),([false,true],[2,4]),([false,false,true,true,true],[2,4,6,8,10]),([false,false,false,true,true],[2,4,6,8,10]),([false,false,false,true,false,true,true,true],[2,4,6,8,10,12,14,16]),([false,false,false,true,false,false,true,true],[2,4,6,8,10,12,14,16])] :=
  ⟨by kernel_rfl,by kernel_rfl,by kernel_rfl,by kernel_rfl,by kernel_rfl,by kernel_rfl,trivial⟩

theorem ok97_t (x0:Int) (x0':(List Int)) (x1:Int) (x1':(List Int)):TrOk (PureRuns Go.Proofs.Tryz.prog (kf120 Go.Proofs.Tryz.prog).orc 97 as97 rs97 ((x0,x0',()),(x1,x1',()),())) (t97 x0 x0' x1 x1') :=
  Walks.ok (fun _ _ _=>PureRuns.of) (wk97 x0 x0' x1 x1') (by kernel_rfl)

theorem ok97:PureOk Go.Proofs.Tryz.prog 97 p97:=pureOk_of kf120_ok.base (T:=fun (d:Tys.data as97)=>t97 d.1.1 d.1.2.1 d.2.1.1 d.2.1.2.1) (by kernel_rfl) (fun (d:Tys.data as97)=>ok97_t d.1.1 d.1.2.1 d.2.1.1 d.2.1.2.1)
def kf97 (P:Go.Program):Known:=(kf120 P).func 97 p97
theorem kf97_ok:KnownOk Go.Proofs.Tryz.prog (kf97 Go.Proofs.Tryz.prog):=kf120_ok.func ok97

/-! ductility/ductilitybase.WideNeg -/

abbrev as117:List Ty:=[(.pair (.int .i64) (.pair (.slice (.int .i64)) .unit))]
abbrev rs117:List Ty:=[(.pair (.int .i64) (.pair (.slice (.int .i64)) .unit))]

def t117 (x0:Int) (x0':(List Int)):Tr (Tys.data rs117) :=
  Tr.fin ((((Go.IntKind.wrap Go.IntKind.i64 ((0:Int) - x0):Int),(x0',())),()))

def f117 (d:Tys.data as117):Option (Tys.data rs117):=(t117 d.1.1 d.1.2.1).val
def g117 (d:Tys.data as117):Tys.data rs117:=(f117 d).getD (Tys.dflt rs117)
def p117:PureC:=pcOf as117 rs117 f117 g117

theorem wk117 (x0:Int) (x0':(List Int)):Walks (runPure (kf97 Go.Proofs.Tryz.prog).orc Go.Proofs.Tryz.prog 400 117 as117 rs117 ((x0,x0',()),())) (t117 x0 x0') [([],[])] :=
  ⟨by kernel_rfl,trivial⟩

theorem ok117_t (x0:Int) (x0':(List Int)):TrOk (PureRuns Go.Proofs.Tryz.prog (kf97 Go.Proofs.Tryz.prog).orc 117 as117 rs117 ((x0,x0',()),())) (t117 x0 x0') :=
  Walks.ok (fun _ _ _=>PureRuns.of) (wk117 x0 x0') (by kernel_rfl)

theorem ok117:PureOk Go.Proofs.Tryz.prog 117 p117:=pureOk_of kf97_ok.base (T:=fun (d:Tys.data as117)=>t117 d.1.1 d.1.2.1) (by kernel_rfl) (fun (d:Tys.data as117)=>ok117_t d.1.1 d.1.2.1)
def kf117 (P:Go.Program):Known:=(kf97 P).func 117 p117
theorem kf117_ok:KnownOk Go.Proofs.Tryz.prog (kf117 Go.Proofs.Tryz.prog):=kf97_ok.func ok117

/-! ductility/ductilitybase.WideSub -/

abbrev as96:List Ty:=[(.pair (.int .i64) (.pair (.slice (.int .i64)) .unit)),(.pair (.int .i64) (.pair (.slice (.int .i64)) .unit))]
abbrev rs96:List Ty:=[(.pair (.int .i64) (.pair (.slice (.int .i64)) .unit))]

def t96 (x0:Int) (x0':(List Int)) (x1:Int) (x1':(List Int)):Tr (Tys.data rs96) :=
  Tr.test (Option.isSome (f117 ((x1,(x1',())),())))
    (let r0:=g117 ((x1,(x1',())),());
    Tr.test (Option.isSome (f97 ((x0,(x0',())),((r0.1.1,(r0.1.2.1,())),()))))
      (let r1:=g97 ((x0,(x0',())),((r0.1.1,(r0.1.2.1,())),()));
      Tr.fin (((r1.1.1,(r1.1.2.1,())),())))
      (Tr.stop))
    (Tr.stop)

def f96 (d:Tys.data as96):Option (Tys.data rs96):=(t96 d.1.1 d.1.2.1 d.2.1.1 d.2.1.2.1).val
def g96 (d:Tys.data as96):Tys.data rs96:=(f96 d).getD (Tys.dflt rs96)
def p96:PureC:=pcOf as96 rs96 f96 g96

theorem wk96 (x0:Int) (x0':(List Int)) (x1:Int) (x1':(List Int)):Walks (runPure (kf117 Go.Proofs.Tryz.prog).orc Go.Proofs.Tryz.prog 400 96 as96 rs96 ((x0,x0',()),(x1,x1',()),())) (t96 x0 x0' x1 x1') [([true,true],[2,4])] :=
  ⟨by kernel_rfl,trivial⟩

theorem ok96_t (x0:Int) (x0':(List Int)) (x1:Int) (x1':(List Int)):TrOk (PureRuns Go.Proofs.Tryz.prog (kf117 Go.Proofs.Tryz.prog).orc 96 as96 rs96 ((x0,x0',()),(x1,x1',()),())) (t96 x0 x0' x1 x1') :=
  Walks.ok (fun _ _ _=>PureRuns.of) (wk96 x0 x0' x1 x1') (by kernel_rfl)

theorem ok96:PureOk Go.Proofs.Tryz.prog 96 p96:=pureOk_of kf117_ok.base (T:=fun (d:Tys.data as96)=>t96 d.1.1 d.1.2.1 d.2.1.1 d.2.1.2.1) (by kernel_rfl) (fun (d:Tys.data as96)=>ok96_t d.1.1 d.1.2.1 d.2.1.1 d.2.1.2.1)
def kf96 (P:Go.Program):Known:=(kf117 P).func 96 p96
theorem kf96_ok:KnownOk Go.Proofs.Tryz.prog (kf96 Go.Proofs.Tryz.prog):=kf117_ok.func ok96

/-! loop 0 of ductility/ductilityref07.Sums -/

abbrev sh69_0:Sh:={ n:=57,slots:=[0,3,4,5,6],pats:=[.ty (.slice (.pair (.int .i64) (.pair (.int .i64) .unit))),.ptr 0 3 0,.ptr 1 4 0,.ptr 2 4 0,.ty (.int .i64)],boxes:=[.row [.ty (.int .i64),.ty (.int .i64),.ty (.int .i64)],.row [.ty (.int .i64),.nil,.ty (.int .i64),.nil],.row [.ty (.int .i64),.ty (.slice (.int .i64)),.ty (.int .i64),.ty (.slice (.int .i64))]] }
abbrev shb69_0:Sh:={ n:=57,slots:=[4,5],pats:=[.ptr 1 4 0,.ptr 2 4 0],boxes:=[.row [.ty (.int .i64),.ty (.int .i64),.ty (.int .i64)],.row [.ty (.int .i64),.nil,.ty (.int .i64),.nil],.row [.ty (.int .i64),.ty (.slice (.int .i64)),.ty (.int .i64),.ty (.slice (.int .i64))]] }
abbrev shr69_0:Sh:={ n:=57,slots:=[],pats:=[],boxes:=[.row [.ty (.int .i64),.ty (.int .i64),.ty (.int .i64)],.row [.ty (.int .i64),.nil,.ty (.int .i64),.nil],.row [.ty (.int .i64),.ty (.slice (.int .i64)),.ty (.int .i64),.ty (.slice (.int .i64))]] }

def t69_0 (x0:(List (Int×(Int×Unit)))) (x4:Int) (b0_0:Int) (b0_1:Int) (b0_2:Int) (b1_0:Int) (b1_2:Int) (b2_0:Int) (b2_1:(List Int)) (b2_2:Int) (b2_3:(List Int)):Tr (Out sh69_0.data shb69_0.data shr69_0.data) :=
  Tr.test ((!leF (↑(List.length x0):Int) x4:Bool))
    (Tr.test (Option.isSome (f98 (b0_0,())))
      (Tr.test ((decide ((0:Int) ≤ x4) && decide (x4 < (↑(List.length x0):Int)):Bool))
        (Tr.test (Option.isSome (f98 (((List.getD x0 (Int.toNat x4) ((0:Int),(0:Int),())).2.1:Int),())))
          (let r0:=g98 (b0_0,());
          let r1:=g98 (((List.getD x0 (Int.toNat x4) ((0:Int),(0:Int),())).2.1:Int),());
          Tr.test (Option.isSome (f74 ((r0.1.1,(r0.1.2.1,())),((r1.1.1,(r1.1.2.1,())),()))))
            (Tr.test (Option.isSome (f98 (b0_1,())))
              (let r2:=g74 ((r0.1.1,(r0.1.2.1,())),((r1.1.1,(r1.1.2.1,())),()));
              let r3:=g98 (b0_1,());
              Tr.test (Option.isSome (f97 ((r2.1.1,(r2.1.2.1,())),((r3.1.1,(r3.1.2.1,())),()))))
                (Tr.test (Option.isSome (f98 (b0_2,())))
                  (Tr.test (Option.isSome (f98 (((List.getD x0 (Int.toNat x4) ((0:Int),(0:Int),())).1:Int),())))
                    (let r5:=g98 (b0_2,());
                    let r6:=g98 (((List.getD x0 (Int.toNat x4) ((0:Int),(0:Int),())).1:Int),());
                    Tr.test (Option.isSome (f74 ((r5.1.1,(r5.1.2.1,())),((r6.1.1,(r6.1.2.1,())),()))))
                      (let r4:=g97 ((r2.1.1,(r2.1.2.1,())),((r3.1.1,(r3.1.2.1,())),()));
                      let r7:=g74 ((r5.1.1,(r5.1.2.1,())),((r6.1.1,(r6.1.2.1,())),()));
                      Tr.test (Option.isSome (f96 ((r4.1.1,(r4.1.2.1,())),((r7.1.1,(r7.1.2.1,())),()))))
                        (let r8:=g96 ((r4.1.1,(r4.1.2.1,())),((r7.1.1,(r7.1.2.1,())),()));
                        Tr.test (Option.isSome (f97 ((b2_0,(b2_1,())),((r8.1.1,(r8.1.2.1,())),()))))
                          (Tr.test (Option.isSome (f74 ((r8.1.1,(r8.1.2.1,())),((r1.1.1,(r1.1.2.1,())),()))))
                            (let r10:=g74 ((r8.1.1,(r8.1.2.1,())),((r1.1.1,(r1.1.2.1,())),()));
                            Tr.test (Option.isSome (f97 ((b2_2,(b2_3,())),((r10.1.1,(r10.1.2.1,())),()))))
                              (let r9:=g97 ((b2_0,(b2_1,())),((r8.1.1,(r8.1.2.1,())),()));
                              let r11:=g97 ((b2_2,(b2_3,())),((r10.1.1,(r10.1.2.1,())),()));
                              Tr.fin (.again ((x0,((wrap64 (x4 + (1:Int)):Int),())),((b0_0,(b0_1,(b0_2,()))),((b1_0,(b1_2,())),((r9.1.1,(r9.1.2.1,(r11.1.1,(r11.1.2.1,())))),()))))))
                              (Tr.stop))
                            (Tr.stop))
                          (Tr.stop))
                        (Tr.stop))
                      (Tr.stop))
                    (Tr.stop))
                  (Tr.stop))
                (Tr.stop))
              (Tr.stop))
            (Tr.stop))
          (Tr.stop))
        (Tr.stop))
      (Tr.stop))
    (Tr.fin (.brk ((),((b0_0,(b0_1,(b0_2,()))),((b1_0,(b1_2,())),((b2_0,(b2_1,(b2_2,(b2_3,())))),()))))))

def s69_0 (d:sh69_0.data):Option (Out sh69_0.data shb69_0.data shr69_0.data):=(t69_0 d.1.1 d.1.2.1 d.2.1.1 d.2.1.2.1 d.2.1.2.2.1 d.2.2.1.1 d.2.2.1.2.1 d.2.2.2.1.1 d.2.2.2.1.2.1 d.2.2.2.1.2.2.1 d.2.2.2.1.2.2.2.1).val
def l69_0 (d:sh69_0.data):Option (shb69_0.data ⊕ shr69_0.data):=itr s69_0 rounds d
def b69_0 (d:sh69_0.data):shb69_0.data:=outB shb69_0.dflt (l69_0 d)
def lc69_0:LoopC:=lcB sh69_0 shb69_0 shr69_0 l69_0 b69_0

theorem wk69_0 (x0:(List (Int×(Int×Unit)))) (x4:Int) (b0_0:Int) (b0_1:Int) (b0_2:Int) (b1_0:Int) (b1_2:Int) (b2_0:Int) (b2_1:(List Int)) (b2_2:Int) (b2_3:(List Int)):Walks (runBody (kf96 Go.Proofs.Tryz.prog).orc Go.Proofs.Tryz.prog 400 69 0 sh69_0 shb69_0 shr69_0 ((x0,x4,()),(b0_0,b0_1,b0_2,()),(b1_0,b1_2,()),(b2_0,b2_1,b2_2,b2_3,()),())) (t69_0 x0 x4 b0_0 b0_1 b0_2 b1_0 b1_2 b2_0 b2_1 b2_2 b2_3) [([true,true,true,true,true,true,true,true,true,true,true,true,true,true],[1,2,4,22,24,1,1,6,1,8,10,12,24,14,16,18,20,22,24,26,28]),([ff],[2])] :=
  ⟨by kernel_rfl,by kernel_rfl,trivial⟩

theorem ok69_0_t (x0:(List (Int×(Int×Unit)))) (x4:Int) (b0_0:Int) (b0_1:Int) (b0_2:Int) (b1_0:Int) (b1_2:Int) (b2_0:Int) (b2_1:(List Int)) (b2_2:Int) (b2_3:(List Int)):TrOk (BodyRuns Go.Proofs.Tryz.prog (kf96 Go.Proofs.Tryz.prog).orc 69 0 sh69_0 shb69_0 shr69_0 ((x0,x4,()),(b0_0,b0_1,b0_2,()),(b1_0,b1_2,()),(b2_0,b2_1,b2_2,b2_3,()),())) (t69_0 x0 x4 b0_0 b0_1 b0_2 b1_0 b1_2 b2_0 b2_1 b2_2 b2_3) :=
  Walks.ok (fun _ _ _=>BodyRuns.of) (wk69_0 x0 x4 b0_0 b0_1 b0_2 b1_0 b1_2 b2_0 b2_1 b2_2 b2_3) (by kernel_rfl)

theorem ok69_0:LoopOk Go.Proofs.Tryz.prog 69 0 lc69_0:=loopOk_ofB (sh:=sh69_0) (shB:=shb69_0) (shR:=shr69_0) kf96_ok.base (T:=fun (d:sh69_0.data)=>t69_0 d.1.1 d.1.2.1 d.2.1.1 d.2.1.2.1 d.2.1.2.2.1 d.2.2.1.1 d.2.2.1.2.1 d.2.2.2.1.1 d.2.2.2.1.2.1 d.2.2.2.1.2.2.1 d.2.2.2.1.2.2.2.1) (by kernel_rfl) rfl (fun (d:sh69_0.data)=>ok69_0_t d.1.1 d.1.2.1 d.2.1.1 d.2.1.2.1 d.2.1.2.2.1 d.2.2.1.1 d.2.2.1.2.1 d.2.2.2.1.1 d.2.2.2.1.2.1 d.2.2.2.1.2.2.1 d.2.2.2.1.2.2.2.1) (fun _=>rfl)
def kl69_0 (P:Go.Program):Known:=(kf96 P).loop 69 0 lc69_0
theorem kl69_0_ok:KnownOk Go.Proofs.Tryz.prog (kl69_0 Go.Proofs.Tryz.prog):=kf96_ok.loop ok69_0

/-! ductility/ductilityref07.Sums -/

abbrev as69:List Ty:=[(.slice (.pair (.int .i64) (.pair (.int .i64) .unit))),(.pair (.int .i64) (.pair (.int .i64) (.pair (.int .i64) .unit)))]
abbrev rs69:List Ty:=[(.pair (.pair (.int .i64) (.pair (.slice (.int .i64)) .unit)) (.pair (.pair (.int .i64) (.pair (.slice (.int .i64)) .unit)) .unit))]

def t69 (x0:(List (Int×(Int×Unit)))) (x1:Int) (x1':Int) (x1'':Int):Tr (Tys.data rs69) :=
  Tr.test (isBrk (l69_0 ((x0,((0:Int),())),((x1,(x1',(x1'',()))),(((0:Int),((0:Int),())),(((0:Int),(([]:List Int),((0:Int),(([]:List Int),())))),()))))))
    (let r0:=b69_0 ((x0,((0:Int),())),((x1,(x1',(x1'',()))),(((0:Int),((0:Int),())),(((0:Int),(([]:List Int),((0:Int),(([]:List Int),())))),()))));
    Tr.fin ((((r0.2.2.2.1.1,(r0.2.2.2.1.2.1,())),((r0.2.2.2.1.2.2.1,(r0.2.2.2.1.2.2.2.1,())),())),())))
    (Tr.stop)

def f69 (d:Tys.data as69):Option (Tys.data rs69):=(t69 d.1 d.2.1.1 d.2.1.2.1 d.2.1.2.2.1).val
def g69 (d:Tys.data as69):Tys.data rs69:=(f69 d).getD (Tys.dflt rs69)
def p69:PureC:=pcOf as69 rs69 f69 g69

theorem wk69 (x0:(List (Int×(Int×Unit)))) (x1:Int) (x1':Int) (x1'':Int):Walks (runPure (kl69_0 Go.Proofs.Tryz.prog).orc Go.Proofs.Tryz.prog 400 69 as69 rs69 (x0,(x1,x1',x1'',()),())) (t69 x0 x1 x1' x1'') [([tt],[1,2])] :=
  ⟨by kernel_rfl,trivial⟩

theorem ok69_t (x0:(List (Int×(Int×Unit)))) (x1:Int) (x1':Int) (x1'':Int):TrOk (PureRuns Go.Proofs.Tryz.prog (kl69_0 Go.Proofs.Tryz.prog).orc 69 as69 rs69 (x0,(x1,x1',x1'',()),())) (t69 x0 x1 x1' x1'') :=
  Walks.ok (fun _ _ _=>PureRuns.of) (wk69 x0 x1 x1' x1'') (by kernel_rfl)

theorem ok69:PureOk Go.Proofs.Tryz.prog 69 p69:=pureOk_of kl69_0_ok.base (T:=fun (d:Tys.data as69)=>t69 d.1 d.2.1.1 d.2.1.2.1 d.2.1.2.2.1) (by kernel_rfl) (fun (d:Tys.data as69)=>ok69_t d.1 d.2.1.1 d.2.1.2.1 d.2.1.2.2.1)
def kf69 (P:Go.Program):Known:=(kl69_0 P).func 69 p69
theorem kf69_ok:KnownOk Go.Proofs.Tryz.prog (kf69 Go.Proofs.Tryz.prog):=kl69_0_ok.func ok69

/-! ductility/ductilitybase.WideSign -/

abbrev as70:List Ty:=[(.pair (.int .i64) (.pair (.slice (.int .i64)) .unit))]
abbrev rs70:List Ty:=[(.int .i64)]

def t70 (x0:Int) (x0':(List Int)):Tr (Tys.data rs70) :=
  Tr.fin ((x0,()))

def f70 (d:Tys.data as70):Option (Tys.data rs70):=(t70 d.1.1 d.1.2.1).val
def g70 (d:Tys.data as70):Tys.data rs70:=(f70 d).getD (Tys.dflt rs70)
def p70:PureC:=pcOf as70 rs70 f70 g70

theorem wk70 (x0:Int) (x0':(List Int)):Walks (runPure (kf69 Go.Proofs.Tryz.prog).orc Go.Proofs.Tryz.prog 400 70 as70 rs70 ((x0,x0',()),())) (t70 x0 x0') [([],[])] :=
  ⟨by kernel_rfl,trivial⟩

theorem ok70_t (x0:Int) (x0':(List Int)):TrOk (PureRuns Go.Proofs.Tryz.prog (kf69 Go.Proofs.Tryz.prog).orc 70 as70 rs70 ((x0,x0',()),())) (t70 x0 x0') :=
  Walks.ok (fun _ _ _=>PureRuns.of) (wk70 x0 x0') (by kernel_rfl)

theorem ok70:PureOk Go.Proofs.Tryz.prog 70 p70:=pureOk_of kf69_ok.base (T:=fun (d:Tys.data as70)=>t70 d.1.1 d.1.2.1) (by kernel_rfl) (fun (d:Tys.data as70)=>ok70_t d.1.1 d.1.2.1)
def kf70 (P:Go.Program):Known:=(kf69 P).func 70 p70
theorem kf70_ok:KnownOk Go.Proofs.Tryz.prog (kf70 Go.Proofs.Tryz.prog):=kf69_ok.func ok70

/-! ductility/ductilityref07.CalibrationErr -/

abbrev as17:List Ty:=[(.slice (.pair (.int .i64) (.pair (.int .i64) .unit))),(.pair (.int .i64) (.pair (.int .i64) (.pair (.int .i64) .unit)))]
abbrev rs17:List Ty:=[(.int .i64),(.int .i64)]

def t17 (x0:(List (Int×(Int×Unit)))) (x1:Int) (x1':Int) (x1'':Int):Tr (Tys.data rs17) :=
  Tr.test (Option.isSome (f69 (x0,((x1,(x1',(x1'',()))),()))))
    (let r0:=g69 (x0,((x1,(x1',(x1'',()))),()));
    Tr.test (Option.isSome (f70 ((r0.1.1.1,(r0.1.1.2.1,())),())))
      (let r1:=g70 ((r0.1.1.1,(r0.1.1.2.1,())),());
      Tr.test ((!eqF r1.1 0:Bool))
        (Tr.fin (((0:Int),((19:Int),()))))
        (Tr.test (Option.isSome (f70 ((r0.1.2.1.1,(r0.1.2.1.2.1,())),())))
          (let r2:=g70 ((r0.1.2.1.1,(r0.1.2.1.2.1,())),());
          Tr.test ((!eqF r2.1 0:Bool))
            (Tr.fin (((1:Int),((19:Int),()))))
            (Tr.test (Option.isSome (f15 (x0,())))
              (let r3:=g15 (x0,());
              Tr.test (r3.1)
                (Tr.fin (((0:Int),((11:Int),()))))
                (Tr.fin (((0:Int),((0:Int),())))))
              (Tr.stop)))
          (Tr.stop)))
      (Tr.stop))
    (Tr.stop)

def f17 (d:Tys.data as17):Option (Tys.data rs17):=(t17 d.1 d.2.1.1 d.2.1.2.1 d.2.1.2.2.1).val
def g17 (d:Tys.data as17):Tys.data rs17:=(f17 d).getD (Tys.dflt rs17)
def p17:PureC:=pcOf as17 rs17 f17 g17

theorem wk17 (x0:(List (Int×(Int×Unit)))) (x1:Int) (x1':Int) (x1'':Int):Walks (runPure (kf70 Go.Proofs.Tryz.prog).orc Go.Proofs.Tryz.prog 400 17 as17 rs17 (x0,(x1,x1',x1'',()),())) (t17 x0 x1 x1' x1'') [([true,true,true],[2,4,1,1,6]),([true,true,false,true,true],[2,4,1,1,6,8,1,1,10]),([true,true,false,true,false,true,true],[2,4,0,6,8,1,1,10,12,1,1,14]),([true,true,false,true,false,true,false],[2,4,0,6,8,1,1,10,12,1,1,14])] :=
  ⟨by kernel_rfl,by kernel_rfl,by kernel_rfl,by kernel_rfl,trivial⟩

theorem ok17_t (x0:(List (Int×(Int×Unit)))) (x1:Int) (x1':Int) (x1'':Int):TrOk (PureRuns Go.Proofs.Tryz.prog (kf70 Go.Proofs.Tryz.prog).orc 17 as17 rs17 (x0,(x1,x1',x1'',()),())) (t17 x0 x1 x1' x1'') :=
  Walks.ok (fun _ _ _=>PureRuns.of) (wk17 x0 x1 x1' x1'') (by kernel_rfl)

theorem ok17:PureOk Go.Proofs.Tryz.prog 17 p17:=pureOk_of kf70_ok.base (T:=fun (d:Tys.data as17)=>t17 d.1 d.2.1.1 d.2.1.2.1 d.2.1.2.2.1) (by kernel_rfl) (fun (d:Tys.data as17)=>ok17_t d.1 d.2.1.1 d.2.1.2.1 d.2.1.2.2.1)
def kf17 (P:Go.Program):Known:=(kf70 P).func 17 p17
theorem kf17_ok:KnownOk Go.Proofs.Tryz.prog (kf17 Go.Proofs.Tryz.prog):=kf70_ok.func ok17

/-! ductility/ductilityref07.SmallErr -/

abbrev as18:List Ty:=[(.pair (.int .i64) (.pair (.int .i64) (.pair (.int .i64) .unit)))]
abbrev rs18:List Ty:=[(.int .i64)]

def t18 (x0:Int) (x0':Int) (x0'':Int):Tr (Tys.data rs18) :=
  Tr.test (Option.isSome (f21 (x0,())))
    (let r0:=g21 (x0,());
    Tr.test ((!leF r0.1 10000:Bool))
      (Tr.fin (((8:Int),())))
      (Tr.test (Option.isSome (f21 (x0',())))
        (let r1:=g21 (x0',());
        Tr.test ((!leF r1.1 10000:Bool))
          (Tr.fin (((8:Int),())))
          (Tr.test ((!leF x0'' 10000:Bool))
            (Tr.fin (((8:Int),())))
            (Tr.fin (((0:Int),())))))
        (Tr.stop)))
    (Tr.stop)

def f18 (d:Tys.data as18):Option (Tys.data rs18):=(t18 d.1.1 d.1.2.1 d.1.2.2.1).val
def g18 (d:Tys.data as18):Tys.data rs18:=(f18 d).getD (Tys.dflt rs18)
def p18:PureC:=pcOf as18 rs18 f18 g18

theorem wk18 (x0:Int) (x0':Int) (x0'':Int):Walks (runPure (kf17 Go.Proofs.Tryz.prog).orc Go.Proofs.Tryz.prog 400 18 as18 rs18 ((x0,x0',x0'',()),())) (t18 x0 x0' x0'') [([true,true],[1,1,1,1,1,2,2,2,2,2,4]),([true,false,true,true],[1,2,2,2,2,6,6,4,6,6,6,8]),([true,false,true,false,true],[2,4,4,4,4,8,8,6,8,8,8,10]),([true,false,true,false,false],[2,4,4,4,4,8,8,6,8,8,8,10])] :=
  ⟨by kernel_rfl,by kernel_rfl,by kernel_rfl,by kernel_rfl,trivial⟩

theorem ok18_t (x0:Int) (x0':Int) (x0'':Int):TrOk (PureRuns Go.Proofs.Tryz.prog (kf17 Go.Proofs.Tryz.prog).orc 18 as18 rs18 ((x0,x0',x0'',()),())) (t18 x0 x0' x0'') :=
  Walks.ok (fun _ _ _=>PureRuns.of) (wk18 x0 x0' x0'') (by kernel_rfl)

theorem ok18:PureOk Go.Proofs.Tryz.prog 18 p18:=pureOk_of kf17_ok.base (T:=fun (d:Tys.data as18)=>t18 d.1.1 d.1.2.1 d.1.2.2.1) (by kernel_rfl) (fun (d:Tys.data as18)=>ok18_t d.1.1 d.1.2.1 d.1.2.2.1)
def kf18 (P:Go.Program):Known:=(kf17 P).func 18 p18
theorem kf18_ok:KnownOk Go.Proofs.Tryz.prog (kf18 Go.Proofs.Tryz.prog):=kf17_ok.func ok18

/-! loop 0 of ductility/ductilityref07.Misfit -/

abbrev sh19_0:Sh:={ n:=46,slots:=[0,3,4,5,6],pats:=[.ty (.slice (.pair (.int .i64) (.pair (.int .i64) .unit))),.ptr 0 3 0,.ptr 1 2 0,.ty (.int .i64),.ty (.int .i64)],boxes:=[.row [.ty (.int .i64),.ty (.int .i64),.ty (.int .i64)],.row [.ty (.int .i64),.ty (.int .i64)]] }
abbrev shb19_0:Sh:={ n:=46,slots:=[3,4,5],pats:=[.ptr 0 3 0,.ptr 1 2 0,.ty (.int .i64)],boxes:=[.row [.ty (.int .i64),.ty (.int .i64),.ty (.int .i64)],.row [.ty (.int .i64),.ty (.int .i64)]] }
abbrev shr19_0:Sh:={ n:=46,slots:=[],pats:=[],boxes:=[.row [.ty (.int .i64),.ty (.int .i64),.ty (.int .i64)],.row [.ty (.int .i64),.ty (.int .i64)]] }

def t19_0 (x0:(List (Int×(Int×Unit)))) (x3:Int) (x4:Int) (b0_0:Int) (b0_1:Int) (b0_2:Int) (b1_0:Int) (b1_1:Int):Tr (Out sh19_0.data shb19_0.data shr19_0.data) :=
  Tr.test ((!leF (↑(List.length x0):Int) x4:Bool))
    (Tr.test (decide ((0:Int) ≤ x4) && decide (x4 < (↑(List.length x0):Int)))
      (Tr.fin (.again ((x0,((wrap64 (x3 + wrap64 (wrap64 (wrap64 (wrap64 (b0_0 * (List.getD x0 (Int.toNat x4) ((0:Int),(0:Int),())).2.1) + b0_1) - wrap64 (b0_2 * (List.getD x0 (Int.toNat x4) ((0:Int),(0:Int),())).1)) * wrap64 (wrap64 (wrap64 (b0_0 * (List.getD x0 (Int.toNat x4) ((0:Int),(0:Int),())).2.1) + b0_1) - wrap64 (b0_2 * (List.getD x0 (Int.toNat x4) ((0:Int),(0:Int),())).1)))):Int),((wrap64 (x4 + (1:Int)):Int),()))),((b0_0,(b0_1,(b0_2,()))),((b1_0,(b1_1,())),())))))
      (Tr.stop))
    (Tr.fin (.brk ((x3,()),((b0_0,(b0_1,(b0_2,()))),((b1_0,(b1_1,())),())))))

def s19_0 (d:sh19_0.data):Option (Out sh19_0.data shb19_0.data shr19_0.data):=(t19_0 d.1.1 d.1.2.1 d.1.2.2.1 d.2.1.1 d.2.1.2.1 d.2.1.2.2.1 d.2.2.1.1 d.2.2.1.2.1).val
def l19_0 (d:sh19_0.data):Option (shb19_0.data ⊕ shr19_0.data):=itr s19_0 rounds d
def b19_0 (d:sh19_0.data):shb19_0.data:=outB shb19_0.dflt (l19_0 d)
def lc19_0:LoopC:=lcB sh19_0 shb19_0 shr19_0 l19_0 b19_0

theorem wk19_0 (x0:(List (Int×(Int×Unit)))) (x3:Int) (x4:Int) (b0_0:Int) (b0_1:Int) (b0_2:Int) (b1_0:Int) (b1_1:Int):Walks (runBody (kf18 Go.Proofs.Tryz.prog).orc Go.Proofs.Tryz.prog 400 19 0 sh19_0 shb19_0 shr19_0 ((x0,x3,x4,()),(b0_0,b0_1,b0_2,()),(b1_0,b1_1,()),())) (t19_0 x0 x3 x4 b0_0 b0_1 b0_2 b1_0 b1_1) [([true,true],[2,2,4]),([ff],[2])] :=
  ⟨by kernel_rfl,by kernel_rfl,trivial⟩

theorem ok19_0_t (x0:(List (Int×(Int×Unit)))) (x3:Int) (x4:Int) (b0_0:Int) (b0_1:Int) (b0_2:Int) (b1_0:Int) (b1_1:Int):TrOk (BodyRuns Go.Proofs.Tryz.prog (kf18 Go.Proofs.Tryz.prog).orc 19 0 sh19_0 shb19_0 shr19_0 ((x0,x3,x4,()),(b0_0,b0_1,b0_2,()),(b1_0,b1_1,()),())) (t19_0 x0 x3 x4 b0_0 b0_1 b0_2 b1_0 b1_1) :=
  Walks.ok (fun _ _ _=>BodyRuns.of) (wk19_0 x0 x3 x4 b0_0 b0_1 b0_2 b1_0 b1_1) (by kernel_rfl)

theorem ok19_0:LoopOk Go.Proofs.Tryz.prog 19 0 lc19_0:=loopOk_ofB (sh:=sh19_0) (shB:=shb19_0) (shR:=shr19_0) kf18_ok.base (T:=fun (d:sh19_0.data)=>t19_0 d.1.1 d.1.2.1 d.1.2.2.1 d.2.1.1 d.2.1.2.1 d.2.1.2.2.1 d.2.2.1.1 d.2.2.1.2.1) (by kernel_rfl) rfl (fun (d:sh19_0.data)=>ok19_0_t d.1.1 d.1.2.1 d.1.2.2.1 d.2.1.1 d.2.1.2.1 d.2.1.2.2.1 d.2.2.1.1 d.2.2.1.2.1) (fun _=>rfl)
def kl19_0 (P:Go.Program):Known:=(kf18 P).loop 19 0 lc19_0
theorem kl19_0_ok:KnownOk Go.Proofs.Tryz.prog (kl19_0 Go.Proofs.Tryz.prog):=kf18_ok.loop ok19_0

/-! ductility/ductilityref07.Misfit -/

abbrev as19:List Ty:=[(.slice (.pair (.int .i64) (.pair (.int .i64) .unit))),(.pair (.int .i64) (.pair (.int .i64) (.pair (.int .i64) .unit)))]
abbrev rs19:List Ty:=[(.pair (.int .i64) (.pair (.int .i64) .unit))]

def t19 (x0:(List (Int×(Int×Unit)))) (x1:Int) (x1':Int) (x1'':Int):Tr (Tys.data rs19) :=
  Tr.test (isBrk (l19_0 ((x0,((0:Int),((0:Int),()))),((x1,(x1',(x1'',()))),(((0:Int),((0:Int),())),())))))
    (let r0:=b19_0 ((x0,((0:Int),((0:Int),()))),((x1,(x1',(x1'',()))),(((0:Int),((0:Int),())),())));
    Tr.test (Option.isSome (f47 (r0.1.1,((wrap64 (r0.2.1.2.2.1 * r0.2.1.2.2.1):Int),()))))
      (let r1:=g47 (r0.1.1,((wrap64 (r0.2.1.2.2.1 * r0.2.1.2.2.1):Int),()));
      Tr.fin (((r1.1.1,(r1.1.2.1,())),())))
      (Tr.stop))
    (Tr.stop)

def f19 (d:Tys.data as19):Option (Tys.data rs19):=(t19 d.1 d.2.1.1 d.2.1.2.1 d.2.1.2.2.1).val
def g19 (d:Tys.data as19):Tys.data rs19:=(f19 d).getD (Tys.dflt rs19)
def p19:PureC:=pcOf as19 rs19 f19 g19

theorem wk19 (x0:(List (Int×(Int×Unit)))) (x1:Int) (x1':Int) (x1'':Int):Walks (runPure (kl19_0 Go.Proofs.Tryz.prog).orc Go.Proofs.Tryz.prog 400 19 as19 rs19 (x0,(x1,x1',x1'',()),())) (t19 x0 x1 x1' x1'') [([true,true],[2,1,4])] :=
  ⟨by kernel_rfl,trivial⟩

theorem ok19_t (x0:(List (Int×(Int×Unit)))) (x1:Int) (x1':Int) (x1'':Int):TrOk (PureRuns Go.Proofs.Tryz.prog (kl19_0 Go.Proofs.Tryz.prog).orc 19 as19 rs19 (x0,(x1,x1',x1'',()),())) (t19 x0 x1 x1' x1'') :=
  Walks.ok (fun _ _ _=>PureRuns.of) (wk19 x0 x1 x1' x1'') (by kernel_rfl)

theorem ok19:PureOk Go.Proofs.Tryz.prog 19 p19:=pureOk_of kl19_0_ok.base (T:=fun (d:Tys.data as19)=>t19 d.1 d.2.1.1 d.2.1.2.1 d.2.1.2.2.1) (by kernel_rfl) (fun (d:Tys.data as19)=>ok19_t d.1 d.2.1.1 d.2.1.2.1 d.2.1.2.2.1)
def kf19 (P:Go.Program):Known:=(kl19_0 P).func 19 p19
theorem kf19_ok:KnownOk Go.Proofs.Tryz.prog (kf19 Go.Proofs.Tryz.prog):=kl19_0_ok.func ok19

/-! ductility/ductilitylaw07.SensorCalibrations -/

abbrev as3:List Ty:=[(.slice (.pair (.int .i64) (.pair (.int .i64) .unit))),(.pair (.int .i64) (.pair (.int .i64) (.pair (.int .i64) .unit)))]
abbrev rs3:List Ty:=[.bool]

def t3 (x0:(List (Int×(Int×Unit)))) (x1:Int) (x1':Int) (x1'':Int):Tr (Tys.data rs3) :=
  Tr.test (Option.isSome (f7 (x0,())))
    (let r0:=g7 (x0,());
    Tr.test ((!r0.1:Bool))
      (Tr.fin (((true:Bool),())))
      (Tr.test (Option.isSome (f9 (x0,())))
        (let r1:=g9 (x0,());
        Tr.test (Option.isSome (f8 (r1.1,())))
          (Tr.test (Option.isSome (f10 (r1.1,((x1,(x1',(x1'',()))),()))))
            (Tr.test (Option.isSome (f11 (r1.1,((x1,(x1',(x1'',()))),()))))
              (Tr.test (Option.isSome (f12 ((x1,(x1',(x1'',()))),())))
                (Tr.test (Option.isSome (f13 ((x1,(x1',(x1'',()))),())))
                  (let r5:=g12 ((x1,(x1',(x1'',()))),());
                  let r6:=g13 ((x1,(x1',(x1'',()))),());
                  Tr.test ((!eqF r5.1 r6.1:Bool))
                    (Tr.fin (((false:Bool),())))
                    (Tr.test (Option.isSome (f14 (x0,())))
                      (let r7:=g14 (x0,());
                      Tr.test ((!eqF r7.1 0:Bool))
                        (let r2:=g8 (r1.1,());
                        Tr.test ((eqF r2.2.1 r7.1:Bool))
                          (let r3:=g10 (r1.1,((x1,(x1',(x1'',()))),()));
                          Tr.test ((eqF r3.2.1 r7.1:Bool))
                            (let r4:=g11 (r1.1,((x1,(x1',(x1'',()))),()));
                            Tr.test ((eqF r4.2.1 r7.1:Bool))
                              (Tr.test ((r2.1.1 == (0:Int) && (r2.1.2.1 == (0:Int) && (r2.1.2.2.1 == (0:Int) && true)):Bool))
                                (Tr.test ((eqF r3.1 0:Bool))
                                  (Tr.fin (((r4.1.1 == (0:Int) && (r4.1.2.1 == (0:Int) && true):Bool),())))
                                  (Tr.fin (((false:Bool),()))))
                                (Tr.fin (((false:Bool),()))))
                              (Tr.fin (((false:Bool),()))))
                            (Tr.fin (((false:Bool),()))))
                          (Tr.fin (((false:Bool),()))))
                        (Tr.test (Option.isSome (f15 (x0,())))
                          (let r8:=g15 (x0,());
                          Tr.test (r8.1)
                            (let r2:=g8 (r1.1,());
                            Tr.test ((!eqF r2.2.1 11:Bool))
                              (Tr.fin (((false:Bool),())))
                              (Tr.test ((!(r2.1.1 == (0:Int) && (r2.1.2.1 == (0:Int) && (r2.1.2.2.1 == (0:Int) && true))):Bool))
                                (Tr.fin (((false:Bool),())))
                                (Tr.test ((!eqF r6.1 0:Bool))
                                  (let r3:=g10 (r1.1,((x1,(x1',(x1'',()))),()));
                                  Tr.test ((eqF r3.2.1 r6.1:Bool))
                                    (let r4:=g11 (r1.1,((x1,(x1',(x1'',()))),()));
                                    Tr.test ((eqF r4.2.1 r6.1:Bool))
                                      (Tr.test ((eqF r3.1 0:Bool))
                                        (Tr.fin (((r4.1.1 == (0:Int) && (r4.1.2.1 == (0:Int) && true):Bool),())))
                                        (Tr.fin (((false:Bool),()))))
                                      (Tr.fin (((false:Bool),()))))
                                    (Tr.fin (((false:Bool),()))))
                                  (Tr.test (Option.isSome (f17 (x0,((x1,(x1',(x1'',()))),()))))
                                    (let r3:=g10 (r1.1,((x1,(x1',(x1'',()))),()));
                                    let r10:=g17 (x0,((x1,(x1',(x1'',()))),()));
                                    Tr.test ((!eqF r3.2.1 r10.2.1:Bool))
                                      (Tr.fin (((false:Bool),())))
                                      (Tr.test ((!eqF r3.1 r10.1:Bool))
                                        (Tr.fin (((false:Bool),())))
                                        (Tr.test (Option.isSome (f18 ((x1,(x1',(x1'',()))),())))
                                          (let r11:=g18 ((x1,(x1',(x1'',()))),());
                                          Tr.test ((!eqF r11.1 0:Bool))
                                            (let r4:=g11 (r1.1,((x1,(x1',(x1'',()))),()));
                                            Tr.test ((eqF r4.2.1 r11.1:Bool))
                                              (Tr.fin (((r4.1.1 == (0:Int) && (r4.1.2.1 == (0:Int) && true):Bool),())))
                                              (Tr.fin (((false:Bool),()))))
                                            (let r4:=g11 (r1.1,((x1,(x1',(x1'',()))),()));
                                            Tr.test ((eqF r4.2.1 0:Bool))
                                              (Tr.test (Option.isSome (f19 (x0,((x1,(x1',(x1'',()))),()))))
                                                (let r12:=g19 (x0,((x1,(x1',(x1'',()))),()));
                                                Tr.fin (((r4.1.1 == r12.1.1 && (r4.1.2.1 == r12.1.2.1 && true):Bool),())))
                                                (Tr.stop))
                                              (Tr.fin (((false:Bool),())))))
                                          (Tr.stop))))
                                    (Tr.stop)))))
                            (let r2:=g8 (r1.1,());
                            Tr.test ((!eqF r2.2.1 0:Bool))
                              (Tr.fin (((false:Bool),())))
                              (Tr.test (Option.isSome (f16 (x0,())))
                                (let r9:=g16 (x0,());
                                Tr.test ((!(r2.1.1 == r9.1.1 && (r2.1.2.1 == r9.1.2.1 && (r2.1.2.2.1 == r9.1.2.2.1 && true))):Bool))
                                  (Tr.fin (((false:Bool),())))
                                  (Tr.test ((!eqF r6.1 0:Bool))
                                    (let r3:=g10 (r1.1,((x1,(x1',(x1'',()))),()));
                                    Tr.test ((eqF r3.2.1 r6.1:Bool))
                                      (let r4:=g11 (r1.1,((x1,(x1',(x1'',()))),()));
                                      Tr.test ((eqF r4.2.1 r6.1:Bool))
                                        (Tr.test ((eqF r3.1 0:Bool))
                                          (Tr.fin (((r4.1.1 == (0:Int) && (r4.1.2.1 == (0:Int) && true):Bool),())))
                                          (Tr.fin (((false:Bool),()))))
                                        (Tr.fin (((false:Bool),()))))
                                      (Tr.fin (((false:Bool),()))))
                                    (Tr.test (Option.isSome (f17 (x0,((x1,(x1',(x1'',()))),()))))
                                      (let r3:=g10 (r1.1,((x1,(x1',(x1'',()))),()));
                                      let r10:=g17 (x0,((x1,(x1',(x1'',()))),()));
                                      Tr.test ((!eqF r3.2.1 r10.2.1:Bool))
                                        (Tr.fin (((false:Bool),())))
                                        (Tr.test ((!eqF r3.1 r10.1:Bool))
                                          (Tr.fin (((false:Bool),())))
                                          (Tr.test (Option.isSome (f18 ((x1,(x1',(x1'',()))),())))
                                            (let r11:=g18 ((x1,(x1',(x1'',()))),());
                                            Tr.test ((!eqF r11.1 0:Bool))
                                              (let r4:=g11 (r1.1,((x1,(x1',(x1'',()))),()));
                                              Tr.test ((eqF r4.2.1 r11.1:Bool))
                                                (Tr.fin (((r4.1.1 == (0:Int) && (r4.1.2.1 == (0:Int) && true):Bool),())))
                                                (Tr.fin (((false:Bool),()))))
                                              (let r4:=g11 (r1.1,((x1,(x1',(x1'',()))),()));
                                              Tr.test ((eqF r4.2.1 0:Bool))
                                                (Tr.test (Option.isSome (f19 (x0,((x1,(x1',(x1'',()))),()))))
                                                  (let r12:=g19 (x0,((x1,(x1',(x1'',()))),()));
                                                  Tr.fin (((r4.1.1 == r12.1.1 && (r4.1.2.1 == r12.1.2.1 && true):Bool),())))
                                                  (Tr.stop))
                                                (Tr.fin (((false:Bool),())))))
                                            (Tr.stop))))
                                      (Tr.stop))))
                                (Tr.stop))))
                          (Tr.stop)))
                      (Tr.stop)))
                  (Tr.stop))
                (Tr.stop))
              (Tr.stop))
            (Tr.stop))
          (Tr.stop))
        (Tr.stop)))
    (Tr.stop)

def f3 (d:Tys.data as3):Option (Tys.data rs3):=(t3 d.1 d.2.1.1 d.2.1.2.1 d.2.1.2.2.1).val
def g3 (d:Tys.data as3):Tys.data rs3:=(f3 d).getD (Tys.dflt rs3)
def p3:PureC:=pcOf as3 rs3 f3 g3

theorem wk3 (x0:(List (Int×(Int×Unit)))) (x1:Int) (x1':Int) (x1'':Int):Walks (runPure (kf19 Go.Proofs.Tryz.prog).orc Go.Proofs.Tryz.prog 400 3 as3 rs3 (x0,(x1,x1',x1'',()),())) (t3 x0 x1 x1' x1'') [([true,true],[2,4,0,1]),([true,false,true,true,true,true,true,true,true],[2,4,6,8,14,10,14,12,14,16,18,0,1]),([true,false,true,true,true,true,true,true,false,true,true,true,true,true,true,true],[2,2,2,2,4,4,4,6,6,6,6,8,8,8,8,10,10,10,10,12,14,16,18,20,22,28,24,28,26,28,30,32,0,1]),([true,false,true,true,true,true,true,true,false,true,true,true,true,true,true,false],[2,2,2,2,4,4,4,6,6,6,6,8,8,8,8,10,10,10,10,12,14,16,18,20,22,28,24,28,26,28,30,32,0,1]),([true,false,true,true,true,true,true,true,false,true,true,true,true,true,false],[0,0,0,0,2,2,2,4,4,4,4,6,6,6,6,8,8,8,8,10,12,14,16,18,20,26,22,26,24,26,28,30,0,1]),([true,false,true,true,true,true,true,true,false,true,true,true,true,false],[0,0,0,0,0,0,0,2,2,2,2,4,4,4,4,6,6,6,6,8,10,12,14,16,18,24,20,24,22,24,26,28,0,1]),([true,false,true,true,true,true,true,true,false,true,true,true,false],[0,0,0,0,0,0,0,0,0,0,0,2,2,2,2,4,4,4,4,6,8,10,12,14,16,22,18,22,20,22,24,26,0,1]),([true,false,true,true,true,true,true,true,false,true,true,false],[0,0,0,0,0,0,0,0,0,0,0,0,0,0,0,2,2,2,2,4,6,8,10,12,14,20,16,20,18,20,22,24,0,1]),([true,false,true,true,true,true,true,true,false,true,false,true,true,true],[1,1,1,1,1,1,1,4,2,4,2,2,2,4,4,4,6,8,10,12,14,16,18,24,20,24,22,24,26,28,0,1]),([true,false,true,true,true,true,true,true,false,true,false,true,true,false,true],[1,2,2,2,2,2,2,6,4,6,4,4,4,6,6,6,8,10,12,14,16,18,20,26,22,26,24,26,28,30,0,1]),([true,false,true,true,true,true,true,true,false,true,false,true,true,false,false,true,true,true,true],[2,2,2,2,4,4,4,6,6,6,6,8,24,0,10,15,10,15,15,15,15,10,10,16,10,10,14,12,14,12,12,12,14,14,14,16,18,20,22,24,26,28,34,30,34,32,34,36,38,0,1]),([true,false,true,true,true,true,true,true,false,true,false,true,true,false,false,true,true,true,false],[2,2,2,2,4,4,4,6,6,6,6,8,24,0,10,15,10,15,15,15,15,10,10,16,10,10,14,12,14,12,12,12,14,14,14,16,18,20,22,24,26,28,34,30,34,32,34,36,38,0,1]),([true,false,true,true,true,true,true,true,false,true,false,true,true,false,false,true,true,false],[0,0,0,0,2,2,2,4,4,4,4,6,22,0,8,13,8,13,13,13,13,8,8,14,8,8,12,10,12,10,10,10,12,12,12,14,16,18,20,22,24,26,32,28,32,30,32,34,36,0,1]),([true,false,true,true,true,true,true,true,false,true,false,true,true,false,false,true,false],[0,0,0,0,0,0,0,2,2,2,2,4,20,0,6,11,6,11,11,11,11,6,6,12,6,6,10,8,10,8,8,8,10,10,10,12,14,16,18,20,22,24,30,26,30,28,30,32,34,0,1]),([true,false,true,true,true,true,true,true,false,true,false,true,true,false,false,false,true,true],[1,2,2,2,2,4,6,22,0,8,13,8,13,13,13,13,8,8,14,8,8,12,10,12,10,10,10,12,12,12,14,16,18,20,22,24,26,32,28,32,30,32,34,36,0,1]),([true,false,true,true,true,true,true,true,false,true,false,true,true,false,false,false,true,false,true],[2,4,4,4,4,6,8,24,0,10,15,10,15,15,15,15,10,10,16,10,10,14,12,14,12,12,12,14,14,14,16,18,20,22,24,26,28,34,30,34,32,34,36,38,0,1]),([true,false,true,true,true,true,true,true,false,true,false,true,true,false,false,false,true,false,false,true,true,true],[2,2,2,2,4,6,8,10,10,10,10,12,14,30,0,16,21,16,21,21,21,21,16,16,22,16,16,20,18,20,18,18,18,20,20,20,22,24,26,28,30,32,34,40,36,40,38,40,42,44,0,1]),([true,false,true,true,true,true,true,true,false,true,false,true,true,false,false,false,true,false,false,true,true,false],[2,2,2,2,4,6,8,10,10,10,10,12,14,30,0,16,21,16,21,21,21,21,16,16,22,16,16,20,18,20,18,18,18,20,20,20,22,24,26,28,30,32,34,40,36,40,38,40,42,44,0,1]),([true,false,true,true,true,true,true,true,false,true,false,true,true,false,false,false,true,false,false,true,false,true,true],[4,4,2,4,4,4,4,6,8,10,12,12,12,12,14,16,32,0,18,23,18,23,23,23,23,18,18,24,18,18,22,20,22,20,20,20,22,22,22,24,26,28,30,32,34,36,42,38,42,40,42,44,46,0,1]),([true,false,true,true,true,true,true,true,false,true,false,true,true,false,false,false,true,false,false,true,false,false],[2,2,2,2,2,2,4,6,8,10,10,10,10,12,14,30,0,16,21,16,21,21,21,21,16,16,22,16,16,20,18,20,18,18,18,20,20,20,22,24,26,28,30,32,34,40,36,40,38,40,42,44,0,1]),([true,false,true,true,true,true,true,true,false,true,false,true,false,true],[1,0,5,0,2,5,2,2,2,2,5,5,5,0,0,6,0,0,4,4,4,4,4,6,8,10,12,14,16,18,24,20,24,22,24,26,28,0,1]),([true,false,true,true,true,true,true,true,false,true,false,true,false,false,true,true],[2,0,9,0,6,9,6,4,6,6,6,9,9,9,0,0,10,0,0,8,8,8,8,8,10,12,14,16,18,20,22,28,24,28,26,28,30,32,0,1]),([true,false,true,true,true,true,true,true,false,true,false,true,false,false,true,false,true,true,true,true],[2,2,2,2,4,4,4,6,6,6,6,8,26,10,0,17,0,14,17,14,12,14,14,14,17,17,17,0,0,18,0,0,16,16,16,16,16,18,20,22,24,26,28,30,36,32,36,34,36,38,40,0,1]),([true,false,true,true,true,true,true,true,false,true,false,true,false,false,true,false,true,true,true,false],[2,2,2,2,4,4,4,6,6,6,6,8,26,10,0,17,0,14,17,14,12,14,14,14,17,17,17,0,0,18,0,0,16,16,16,16,16,18,20,22,24,26,28,30,36,32,36,34,36,38,40,0,1]),([true,false,true,true,true,true,true,true,false,true,false,true,false,false,true,false,true,true,false],[0,0,0,0,2,2,2,4,4,4,4,6,24,8,0,15,0,12,15,12,10,12,12,12,15,15,15,0,0,16,0,0,14,14,14,14,14,16,18,20,22,24,26,28,34,30,34,32,34,36,38,0,1]),([true,false,true,true,true,true,true,true,false,true,false,true,false,false,true,false,true,false],[0,0,0,0,0,0,0,2,2,2,2,4,22,6,0,13,0,10,13,10,8,10,10,10,13,13,13,0,0,14,0,0,12,12,12,12,12,14,16,18,20,22,24,26,32,28,32,30,32,34,36,0,1]),([true,false,true,true,true,true,true,true,false,true,false,true,false,false,true,false,false,true,true],[1,2,2,2,2,4,6,24,8,0,15,0,12,15,12,10,12,12,12,15,15,15,0,0,16,0,0,14,14,14,14,14,16,18,20,22,24,26,28,34,30,34,32,34,36,38,0,1]),([true,false,true,true,true,true,true,true,false,true,false,true,false,false,true,false,false,true,false,true],[2,4,4,4,4,6,8,26,10,0,17,0,14,17,14,12,14,14,14,17,17,17,0,0,18,0,0,16,16,16,16,16,18,20,22,24,26,28,30,36,32,36,34,36,38,40,0,1]),([true,false,true,true,true,true,true,true,false,true,false,true,false,false,true,false,false,true,false,false,true,true,true],[2,2,2,2,4,6,8,10,10,10,10,12,14,32,16,0,23,0,20,23,20,18,20,20,20,23,23,23,0,0,24,0,0,22,22,22,22,22,24,26,28,30,32,34,36,42,38,42,40,42,44,46,0,1]),([true,false,true,true,true,true,true,true,false,true,false,true,false,false,true,false,false,true,false,false,true,true,false],[2,2,2,2,4,6,8,10,10,10,10,12,14,32,16,0,23,0,20,23,20,18,20,20,20,23,23,23,0,0,24,0,0,22,22,22,22,22,24,26,28,30,32,34,36,42,38,42,40,42,44,46,0,1]),([true,false,true,true,true,true,true,true,false,true,false,true,false,false,true,false,false,true,false,false,true,false,true,true],[4,4,2,4,4,4,4,6,8,10,12,12,12,12,14,16,34,18,0,25,0,22,25,22,20,22,22,22,25,25,25,0,0,26,0,0,24,24,24,24,24,26,28,30,32,34,36,38,44,40,44,42,44,46,48,0,1]),([true,false,true,true,true,true,true,true,false,true,false,true,false,false,true,false,false,true,false,false,true,false,false],[2,2,2,2,2,2,4,6,8,10,10,10,10,12,14,32,16,0,23,0,20,23,20,18,20,20,20,23,23,23,0,0,24,0,0,22,22,22,22,22,24,26,28,30,32,34,36,42,38,42,40,42,44,46,0,1])] :=
  ⟨by kernel_rfl,by kernel_rfl,by kernel_rfl,by kernel_rfl,by kernel_rfl,by kernel_rfl,by kernel_rfl,by kernel_rfl,by kernel_rfl,by kernel_rfl,by kernel_rfl,by kernel_rfl,by kernel_rfl,by kernel_rfl,by kernel_rfl,by kernel_rfl,by kernel_rfl,by kernel_rfl,by kernel_rfl,by kernel_rfl,by kernel_rfl,by kernel_rfl,by kernel_rfl,by kernel_rfl,by kernel_rfl,by kernel_rfl,by kernel_rfl,by kernel_rfl,by kernel_rfl,by kernel_rfl,by kernel_rfl,by kernel_rfl,trivial⟩

theorem ok3_t (x0:(List (Int×(Int×Unit)))) (x1:Int) (x1':Int) (x1'':Int):TrOk (PureRuns Go.Proofs.Tryz.prog (kf19 Go.Proofs.Tryz.prog).orc 3 as3 rs3 (x0,(x1,x1',x1'',()),())) (t3 x0 x1 x1' x1'') :=
  Walks.ok (fun _ _ _=>PureRuns.of) (wk3 x0 x1 x1' x1'') (by kernel_rfl)

theorem ok3:PureOk Go.Proofs.Tryz.prog 3 p3:=pureOk_of kf19_ok.base (T:=fun (d:Tys.data as3)=>t3 d.1 d.2.1.1 d.2.1.2.1 d.2.1.2.2.1) (by kernel_rfl) (fun (d:Tys.data as3)=>ok3_t d.1 d.2.1.1 d.2.1.2.1 d.2.1.2.2.1)

end Go.Vm.Mo
