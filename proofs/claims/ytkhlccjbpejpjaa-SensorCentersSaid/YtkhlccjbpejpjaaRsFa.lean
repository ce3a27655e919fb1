import Derived.Test.YtkhlccjbpejpjaaA4
import Derived.KernelRfl
import Derived.Test.YtkhlccjbpejpjaaProg
set_option linter.unusedVariables false
set_option linter.unusedSimpArgs false

namespace Go.Vm.Mo
open Go
set_option linter.unusedVariables false

def kn0 (_:Go.Program):Known:=⟨[],[]⟩

abbrev tt:Bool:=true
abbrev ff:Bool:=false
theorem nn {b v:Bool} (h:(!b) = v):(!b) = !(!v):=not_of (of_not h)

theorem plainP:Plain Go.Proofs.Try.prog:=by
  have h : (Go.Proofs.Try.prog.funcs.toList.all fun fn => !(fn.body.isSome && fn.name == "runtime.NumGoroutine")) = true := by kernel_rfl
  intro f fn hf hb
  have hm:fn ∈ Go.Proofs.Try.prog.funcs.toList:=by
    have:=Array.getElem?_eq_some_iff.1 hf
    obtain ⟨hlt,rfl⟩:=this
    simp
  have:=List.all_eq_true.1 h fn hm
  rw [hb] at this
  simpa using this

theorem kn0_ok:KnownOk Go.Proofs.Try.prog (kn0 Go.Proofs.Try.prog):=⟨plainP,by kernel_rfl,(fun _ h=>by cases h),(fun _ h=>by cases h)⟩

/-! ductility/ductilitylaw07.Pairs -/

abbrev as77:List Ty:=[]
abbrev rs77:List Ty:=[(.slice (.pair (.int .i64) (.pair (.int .i64) .unit)))]

def t77 :Tr (Tys.data rs77) :=
  Tr.fin ((([((10:Int),(1:Int),()),((20:Int),(3:Int),()),((60:Int),(5:Int),())]:List (Int×Int×PUnit)),()))

def f77 (d:Tys.data as77):Option (Tys.data rs77):=(t77 ).val
def g77 (d:Tys.data as77):Tys.data rs77:=(f77 d).getD (Tys.dflt rs77)
def p77:PureC:=pcOf as77 rs77 f77 g77

theorem wk77 :Walks (runPure (kn0 Go.Proofs.Try.prog).orc Go.Proofs.Try.prog 400 77 as77 rs77 ()) (t77 ) [([],[1])] :=
  ⟨by kernel_rfl,trivial⟩

theorem ok77_t :TrOk (PureRuns Go.Proofs.Try.prog (kn0 Go.Proofs.Try.prog).orc 77 as77 rs77 ()) (t77 ) :=
  Walks.ok (fun _ _ _=>PureRuns.of) (wk77 ) (by kernel_rfl)

theorem ok77:PureOk Go.Proofs.Try.prog 77 p77:=pureOk_of kn0_ok.base (T:=fun (d:Tys.data as77)=>t77 ) (by kernel_rfl) (fun (d:Tys.data as77)=>ok77_t )
def kf77 (P:Go.Program):Known:=(kn0 P).func 77 p77
theorem kf77_ok:KnownOk Go.Proofs.Try.prog (kf77 Go.Proofs.Try.prog):=kn0_ok.func ok77

/-! loop 0 of ductility/sensor.areWithin -/

abbrev sh100_0:Sh:={ n:=24,slots:=[0,1,9,10,11],pats:=[.ty (.int .i64),.ty (.int .i64),.ty (.slice (.int .i64)),.ty (.int .i64),.ty (.int .i64)],boxes:=[] }
abbrev shb100_0:Sh:={ n:=24,slots:=[],pats:=[],boxes:=[] }
abbrev shr100_0:Sh:={ n:=24,slots:=[6],pats:=[.ty .bool],boxes:=[] }

def t100_0 (x0:Int) (x1:Int) (x2:(List Int)) (x3:Int) (x4:Int):Tr (Out sh100_0.data shb100_0.data shr100_0.data) :=
  Tr.test ((!leF x3 x4:Bool))
    (Tr.test (decide ((0:Int) ≤ x4) && decide (x4 < (↑(List.length x2):Int)))
      (Tr.test ((!leF x0 (List.getD x2 (Int.toNat x4) (0:Int)):Bool))
        (Tr.fin (.ret (((false:Bool),()),())))
        (Tr.test ((!leF (List.getD x2 (Int.toNat x4) (0:Int)) x1:Bool))
          (Tr.fin (.ret (((false:Bool),()),())))
          (Tr.fin (.again ((x0,(x1,(x2,(x3,((wrap64 (x4 + (1:Int)):Int),()))))),())))))
      (Tr.stop))
    (Tr.fin (.brk ((),())))

def s100_0 (d:sh100_0.data):Option (Out sh100_0.data shb100_0.data shr100_0.data):=(t100_0 d.1.1 d.1.2.1 d.1.2.2.1 d.1.2.2.2.1 d.1.2.2.2.2.1).val
def l100_0 (d:sh100_0.data):Option (shb100_0.data ⊕ shr100_0.data):=itr s100_0 rounds d
def b100_0 (d:sh100_0.data):shb100_0.data:=outB shb100_0.dflt (l100_0 d)
def r100_0 (d:sh100_0.data):shr100_0.data:=outR shr100_0.dflt (l100_0 d)
def lc100_0:LoopC:=lcOf sh100_0 shb100_0 shr100_0 l100_0 b100_0 r100_0

theorem wk100_0 (x0:Int) (x1:Int) (x2:(List Int)) (x3:Int) (x4:Int):Walks (runBody (kf77 Go.Proofs.Try.prog).orc Go.Proofs.Try.prog 400 100 0 sh100_0 shb100_0 shr100_0 ((x0,x1,x2,x3,x4,()),())) (t100_0 x0 x1 x2 x3 x4) [([true,true,true],[1,2,2,2,2,4,6]),([true,true,false,true],[2,4,4,4,4,6,8]),([true,true,false,false],[2,4,4,4,4,6,8]),([ff],[2])] :=
  ⟨by kernel_rfl,by kernel_rfl,by kernel_rfl,by kernel_rfl,trivial⟩

theorem ok100_0_t (x0:Int) (x1:Int) (x2:(List Int)) (x3:Int) (x4:Int):TrOk (BodyRuns Go.Proofs.Try.prog (kf77 Go.Proofs.Try.prog).orc 100 0 sh100_0 shb100_0 shr100_0 ((x0,x1,x2,x3,x4,()),())) (t100_0 x0 x1 x2 x3 x4) :=
  Walks.ok (fun _ _ _=>BodyRuns.of) (wk100_0 x0 x1 x2 x3 x4) (by kernel_rfl)

theorem ok100_0:LoopOk Go.Proofs.Try.prog 100 0 lc100_0:=loopOk_of (sh:=sh100_0) (shB:=shb100_0) (shR:=shr100_0) kf77_ok.base (T:=fun (d:sh100_0.data)=>t100_0 d.1.1 d.1.2.1 d.1.2.2.1 d.1.2.2.2.1 d.1.2.2.2.2.1) (by kernel_rfl) rfl (fun (d:sh100_0.data)=>ok100_0_t d.1.1 d.1.2.1 d.1.2.2.1 d.1.2.2.2.1 d.1.2.2.2.2.1) (fun _=>rfl)
def kl100_0 (P:Go.Program):Known:=(kf77 P).loop 100 0 lc100_0
theorem kl100_0_ok:KnownOk Go.Proofs.Try.prog (kl100_0 Go.Proofs.Try.prog):=kf77_ok.loop ok100_0

/-! ductility/sensor.areWithin -/

abbrev as100:List Ty:=[(.int .i64),(.int .i64),(.slice (.int .i64))]
abbrev rs100:List Ty:=[.bool]

def t100 (x0:Int) (x1:Int) (x2:(List Int)):Tr (Tys.data rs100) :=
  Tr.test (Option.isSome (l100_0 ((x0,(x1,(x2,((↑(List.length x2):Int),((0:Int),()))))),())))
    (Tr.test (isRet (l100_0 ((x0,(x1,(x2,((↑(List.length x2):Int),((0:Int),()))))),())))
      (let r0:=r100_0 ((x0,(x1,(x2,((↑(List.length x2):Int),((0:Int),()))))),());
      Tr.fin ((r0.1.1,())))
      (Tr.fin (((true:Bool),()))))
    (Tr.stop)

def f100 (d:Tys.data as100):Option (Tys.data rs100):=(t100 d.1 d.2.1 d.2.2.1).val
def g100 (d:Tys.data as100):Tys.data rs100:=(f100 d).getD (Tys.dflt rs100)
def p100:PureC:=pcOf as100 rs100 f100 g100

theorem wk100 (x0:Int) (x1:Int) (x2:(List Int)):Walks (runPure (kl100_0 Go.Proofs.Try.prog).orc Go.Proofs.Try.prog 400 100 as100 rs100 (x0,x1,x2,())) (t100 x0 x1 x2) [([true,true],[2,4]),([true,false],[2,4])] :=
  ⟨by kernel_rfl,by kernel_rfl,trivial⟩

theorem ok100_t (x0:Int) (x1:Int) (x2:(List Int)):TrOk (PureRuns Go.Proofs.Try.prog (kl100_0 Go.Proofs.Try.prog).orc 100 as100 rs100 (x0,x1,x2,())) (t100 x0 x1 x2) :=
  Walks.ok (fun _ _ _=>PureRuns.of) (wk100 x0 x1 x2) (by kernel_rfl)

theorem ok100:PureOk Go.Proofs.Try.prog 100 p100:=pureOk_of kl100_0_ok.base (T:=fun (d:Tys.data as100)=>t100 d.1 d.2.1 d.2.2.1) (by kernel_rfl) (fun (d:Tys.data as100)=>ok100_t d.1 d.2.1 d.2.2.1)
def kf100 (P:Go.Program):Known:=(kl100_0 P).func 100 p100
theorem kf100_ok:KnownOk Go.Proofs.Try.prog (kf100 Go.Proofs.Try.prog):=kl100_0_ok.func ok100

/-! ductility/sensor.isBeyond -/

abbrev as87:List Ty:=[(.int .i64),(.slice (.int .i64))]
abbrev rs87:List Ty:=[.bool]

def t87 (x0:Int) (x1:(List Int)):Tr (Tys.data rs87) :=
  Tr.test (Option.isSome (f100 ((Go.IntKind.wrap Go.IntKind.i64 ((0:Int) - x0):Int),(x0,(x1,())))))
    (let r0:=g100 ((Go.IntKind.wrap Go.IntKind.i64 ((0:Int) - x0):Int),(x0,(x1,())));
    Tr.fin (((!r0.1:Bool),())))
    (Tr.stop)

def f87 (d:Tys.data as87):Option (Tys.data rs87):=(t87 d.1 d.2.1).val
def g87 (d:Tys.data as87):Tys.data rs87:=(f87 d).getD (Tys.dflt rs87)
def p87:PureC:=pcOf as87 rs87 f87 g87

theorem wk87 (x0:Int) (x1:(List Int)):Walks (runPure (kf100 Go.Proofs.Try.prog).orc Go.Proofs.Try.prog 400 87 as87 rs87 (x0,x1,())) (t87 x0 x1) [([tt],[2])] :=
  ⟨by kernel_rfl,trivial⟩

theorem ok87_t (x0:Int) (x1:(List Int)):TrOk (PureRuns Go.Proofs.Try.prog (kf100 Go.Proofs.Try.prog).orc 87 as87 rs87 (x0,x1,())) (t87 x0 x1) :=
  Walks.ok (fun _ _ _=>PureRuns.of) (wk87 x0 x1) (by kernel_rfl)

theorem ok87:PureOk Go.Proofs.Try.prog 87 p87:=pureOk_of kf100_ok.base (T:=fun (d:Tys.data as87)=>t87 d.1 d.2.1) (by kernel_rfl) (fun (d:Tys.data as87)=>ok87_t d.1 d.2.1)
def kf87 (P:Go.Program):Known:=(kf100 P).func 87 p87
theorem kf87_ok:KnownOk Go.Proofs.Try.prog (kf87 Go.Proofs.Try.prog):=kf100_ok.func ok87

/-! ductility/sensor.when -/

abbrev as86:List Ty:=[.bool,(.int .i64)]
abbrev rs86:List Ty:=[(.int .i64)]

def t86 (x0:Bool) (x1:Int):Tr (Tys.data rs86) :=
  Tr.test (x0)
    (Tr.fin ((x1,())))
    (Tr.fin (((0:Int),())))

def f86 (d:Tys.data as86):Option (Tys.data rs86):=(t86 d.1 d.2.1).val
def g86 (d:Tys.data as86):Tys.data rs86:=(f86 d).getD (Tys.dflt rs86)
def p86:PureC:=pcOf as86 rs86 f86 g86

theorem wk86 (x0:Bool) (x1:Int):Walks (runPure (kf87 Go.Proofs.Try.prog).orc Go.Proofs.Try.prog 400 86 as86 rs86 (x0,x1,())) (t86 x0 x1) [([tt],[2]),([ff],[2])] :=
  ⟨by kernel_rfl,by kernel_rfl,trivial⟩

theorem ok86_t (x0:Bool) (x1:Int):TrOk (PureRuns Go.Proofs.Try.prog (kf87 Go.Proofs.Try.prog).orc 86 as86 rs86 (x0,x1,())) (t86 x0 x1) :=
  Walks.ok (fun _ _ _=>PureRuns.of) (wk86 x0 x1) (by kernel_rfl)

theorem ok86:PureOk Go.Proofs.Try.prog 86 p86:=pureOk_of kf87_ok.base (T:=fun (d:Tys.data as86)=>t86 d.1 d.2.1) (by kernel_rfl) (fun (d:Tys.data as86)=>ok86_t d.1 d.2.1)
def kf86 (P:Go.Program):Known:=(kf87 P).func 86 p86
theorem kf86_ok:KnownOk Go.Proofs.Try.prog (kf86 Go.Proofs.Try.prog):=kf87_ok.func ok86

/-! loop 0 of ductility/sensor.firstOf -/

abbrev sh88_0:Sh:={ n:=15,slots:=[5,6,7],pats:=[.ty (.slice (.int .i64)),.ty (.int .i64),.ty (.int .i64)],boxes:=[] }
abbrev shb88_0:Sh:={ n:=15,slots:=[],pats:=[],boxes:=[] }
abbrev shr88_0:Sh:={ n:=15,slots:=[2],pats:=[.ty (.int .i64)],boxes:=[] }

def t88_0 (x0:(List Int)) (x1:Int) (x2:Int):Tr (Out sh88_0.data shb88_0.data shr88_0.data) :=
  Tr.test ((!leF x1 x2:Bool))
    (Tr.test (decide ((0:Int) ≤ x2) && decide (x2 < (↑(List.length x0):Int)))
      (Tr.test ((!eqF (List.getD x0 (Int.toNat x2) (0:Int)) (0:Int):Bool))
        (Tr.fin (.ret (((List.getD x0 (Int.toNat x2) (0:Int):Int),()),())))
        (Tr.fin (.again ((x0,(x1,((wrap64 (x2 + (1:Int)):Int),()))),()))))
      (Tr.stop))
    (Tr.fin (.brk ((),())))

def s88_0 (d:sh88_0.data):Option (Out sh88_0.data shb88_0.data shr88_0.data):=(t88_0 d.1.1 d.1.2.1 d.1.2.2.1).val
def l88_0 (d:sh88_0.data):Option (shb88_0.data ⊕ shr88_0.data):=itr s88_0 rounds d
def b88_0 (d:sh88_0.data):shb88_0.data:=outB shb88_0.dflt (l88_0 d)
def r88_0 (d:sh88_0.data):shr88_0.data:=outR shr88_0.dflt (l88_0 d)
def lc88_0:LoopC:=lcOf sh88_0 shb88_0 shr88_0 l88_0 b88_0 r88_0

theorem wk88_0 (x0:(List Int)) (x1:Int) (x2:Int):Walks (runBody (kf86 Go.Proofs.Try.prog).orc Go.Proofs.Try.prog 400 88 0 sh88_0 shb88_0 shr88_0 ((x0,x1,x2,()),())) (t88_0 x0 x1 x2) [([true,true,true],[2,4,6]),([true,true,false],[2,4,6]),([ff],[2])] :=
  ⟨by kernel_rfl,by kernel_rfl,by kernel_rfl,trivial⟩

theorem ok88_0_t (x0:(List Int)) (x1:Int) (x2:Int):TrOk (BodyRuns Go.Proofs.Try.prog (kf86 Go.Proofs.Try.prog).orc 88 0 sh88_0 shb88_0 shr88_0 ((x0,x1,x2,()),())) (t88_0 x0 x1 x2) :=
  Walks.ok (fun _ _ _=>BodyRuns.of) (wk88_0 x0 x1 x2) (by kernel_rfl)

theorem ok88_0:LoopOk Go.Proofs.Try.prog 88 0 lc88_0:=loopOk_of (sh:=sh88_0) (shB:=shb88_0) (shR:=shr88_0) kf86_ok.base (T:=fun (d:sh88_0.data)=>t88_0 d.1.1 d.1.2.1 d.1.2.2.1) (by kernel_rfl) rfl (fun (d:sh88_0.data)=>ok88_0_t d.1.1 d.1.2.1 d.1.2.2.1) (fun _=>rfl)
def kl88_0 (P:Go.Program):Known:=(kf86 P).loop 88 0 lc88_0
theorem kl88_0_ok:KnownOk Go.Proofs.Try.prog (kl88_0 Go.Proofs.Try.prog):=kf86_ok.loop ok88_0

/-! ductility/sensor.firstOf -/

abbrev as88:List Ty:=[(.slice (.int .i64))]
abbrev rs88:List Ty:=[(.int .i64)]

def t88 (x0:(List Int)):Tr (Tys.data rs88) :=
  Tr.test (Option.isSome (l88_0 ((x0,((↑(List.length x0):Int),((0:Int),()))),())))
    (Tr.test (isRet (l88_0 ((x0,((↑(List.length x0):Int),((0:Int),()))),())))
      (let r0:=r88_0 ((x0,((↑(List.length x0):Int),((0:Int),()))),());
      Tr.fin ((r0.1.1,())))
      (Tr.fin (((0:Int),()))))
    (Tr.stop)

def f88 (d:Tys.data as88):Option (Tys.data rs88):=(t88 d.1).val
def g88 (d:Tys.data as88):Tys.data rs88:=(f88 d).getD (Tys.dflt rs88)
def p88:PureC:=pcOf as88 rs88 f88 g88

theorem wk88 (x0:(List Int)):Walks (runPure (kl88_0 Go.Proofs.Try.prog).orc Go.Proofs.Try.prog 400 88 as88 rs88 (x0,())) (t88 x0) [([true,true],[2,4]),([true,false],[2,4])] :=
  ⟨by kernel_rfl,by kernel_rfl,trivial⟩

theorem ok88_t (x0:(List Int)):TrOk (PureRuns Go.Proofs.Try.prog (kl88_0 Go.Proofs.Try.prog).orc 88 as88 rs88 (x0,())) (t88 x0) :=
  Walks.ok (fun _ _ _=>PureRuns.of) (wk88 x0) (by kernel_rfl)

theorem ok88:PureOk Go.Proofs.Try.prog 88 p88:=pureOk_of kl88_0_ok.base (T:=fun (d:Tys.data as88)=>t88 d.1) (by kernel_rfl) (fun (d:Tys.data as88)=>ok88_t d.1)
def kf88 (P:Go.Program):Known:=(kl88_0 P).func 88 p88
theorem kf88_ok:KnownOk Go.Proofs.Try.prog (kf88 Go.Proofs.Try.prog):=kl88_0_ok.func ok88

/-! ductility/sensor.countError -/

abbrev as83:List Ty:=[(.int .i64),(.int .i64)]
abbrev rs83:List Ty:=[(.int .i64)]

def t83 (x0:Int) (x1:Int):Tr (Tys.data rs83) :=
  Tr.test (Option.isSome (f86 ((eqF x0 0:Bool),((10:Int),()))))
    (Tr.test (Option.isSome (f86 (!leF x0 x1,((8:Int),()))))
      (let r0:=g86 ((eqF x0 0:Bool),((10:Int),()));
      let r1:=g86 ((!leF x0 x1:Bool),((8:Int),()));
      Tr.test (Option.isSome (f88 (([r0.1,r1.1]:List Int),())))
        (let r2:=g88 (([r0.1,r1.1]:List Int),());
        Tr.fin ((r2.1,())))
        (Tr.stop))
      (Tr.stop))
    (Tr.stop)

def f83 (d:Tys.data as83):Option (Tys.data rs83):=(t83 d.1 d.2.1).val
def g83 (d:Tys.data as83):Tys.data rs83:=(f83 d).getD (Tys.dflt rs83)
def p83:PureC:=pcOf as83 rs83 f83 g83

theorem wk83 (x0:Int) (x1:Int):Walks (runPure (kf88 Go.Proofs.Try.prog).orc Go.Proofs.Try.prog 400 83 as83 rs83 (x0,x1,())) (t83 x0 x1) [([true,true,true],[2,1,4,6])] :=
  ⟨by kernel_rfl,trivial⟩

theorem ok83_t (x0:Int) (x1:Int):TrOk (PureRuns Go.Proofs.Try.prog (kf88 Go.Proofs.Try.prog).orc 83 as83 rs83 (x0,x1,())) (t83 x0 x1) :=
  Walks.ok (fun _ _ _=>PureRuns.of) (wk83 x0 x1) (by kernel_rfl)

theorem ok83:PureOk Go.Proofs.Try.prog 83 p83:=pureOk_of kf88_ok.base (T:=fun (d:Tys.data as83)=>t83 d.1 d.2.1) (by kernel_rfl) (fun (d:Tys.data as83)=>ok83_t d.1 d.2.1)
def kf83 (P:Go.Program):Known:=(kf88 P).func 83 p83
theorem kf83_ok:KnownOk Go.Proofs.Try.prog (kf83 Go.Proofs.Try.prog):=kf88_ok.func ok83

/-! loop 0 of ductility/sensor.checkItems[ductility/api.SensorPair] -/

abbrev sh142_0:Sh:={ n:=25,slots:=[1,9,10,11],pats:=[.fn 143 [],.ty (.slice (.pair (.int .i64) (.pair (.int .i64) .unit))),.ty (.int .i64),.ty (.int .i64)],boxes:=[] }
abbrev shb142_0:Sh:={ n:=25,slots:=[],pats:=[],boxes:=[] }
abbrev shr142_0:Sh:={ n:=25,slots:=[4,5],pats:=[.ty (.int .i64),.ty (.int .i64)],boxes:=[] }

def t142_0 (x1:(List (Int×(Int×Unit)))) (x2:Int) (x3:Int):Tr (Out sh142_0.data shb142_0.data shr142_0.data) :=
  Tr.test ((!leF x2 x3:Bool))
    (Tr.test (decide ((0:Int) ≤ x3) && decide (x3 < (↑(List.length x1):Int)))
      (Tr.test (Option.isSome (f87 ((1000:Int),(([(List.getD x1 (Int.toNat x3) ((0:Int),(0:Int),())).1,(List.getD x1 (Int.toNat x3) ((0:Int),(0:Int),())).2.1]:List Int),()))))
        (let r0:=g87 ((1000:Int),(([(List.getD x1 (Int.toNat x3) ((0:Int),(0:Int),())).1,(List.getD x1 (Int.toNat x3) ((0:Int),(0:Int),())).2.1]:List Int),()));
        Tr.test (Option.isSome (f86 (r0.1,((2:Int),()))))
          (let r1:=g86 (r0.1,((2:Int),()));
          Tr.test ((!eqF r1.1 0:Bool))
            (Tr.fin (.ret ((x3,(r1.1,())),())))
            (Tr.fin (.again ((x1,(x2,((wrap64 (x3 + (1:Int)):Int),()))),()))))
          (Tr.stop))
        (Tr.stop))
      (Tr.stop))
    (Tr.fin (.brk ((),())))

def s142_0 (d:sh142_0.data):Option (Out sh142_0.data shb142_0.data shr142_0.data):=(t142_0 d.1.1 d.1.2.1 d.1.2.2.1).val
def l142_0 (d:sh142_0.data):Option (shb142_0.data ⊕ shr142_0.data):=itr s142_0 rounds d
def b142_0 (d:sh142_0.data):shb142_0.data:=outB shb142_0.dflt (l142_0 d)
def r142_0 (d:sh142_0.data):shr142_0.data:=outR shr142_0.dflt (l142_0 d)
def lc142_0:LoopC:=lcOf sh142_0 shb142_0 shr142_0 l142_0 b142_0 r142_0

theorem wk142_0 (x1:(List (Int×(Int×Unit)))) (x2:Int) (x3:Int):Walks (runBody (kf83 Go.Proofs.Try.prog).orc Go.Proofs.Try.prog 400 142 0 sh142_0 shb142_0 shr142_0 ((x1,x2,x3,()),())) (t142_0 x1 x2 x3) [([true,true,true,true,true],[2,4,6,1,8,10]),([true,true,true,true,false],[2,4,6,1,8,10]),([ff],[2])] :=
  ⟨by kernel_rfl,by kernel_rfl,by kernel_rfl,trivial⟩

theorem ok142_0_t (x1:(List (Int×(Int×Unit)))) (x2:Int) (x3:Int):TrOk (BodyRuns Go.Proofs.Try.prog (kf83 Go.Proofs.Try.prog).orc 142 0 sh142_0 shb142_0 shr142_0 ((x1,x2,x3,()),())) (t142_0 x1 x2 x3) :=
  Walks.ok (fun _ _ _=>BodyRuns.of) (wk142_0 x1 x2 x3) (by kernel_rfl)

theorem ok142_0:LoopOk Go.Proofs.Try.prog 142 0 lc142_0:=loopOk_of (sh:=sh142_0) (shB:=shb142_0) (shR:=shr142_0) kf83_ok.base (T:=fun (d:sh142_0.data)=>t142_0 d.1.1 d.1.2.1 d.1.2.2.1) (by kernel_rfl) rfl (fun (d:sh142_0.data)=>ok142_0_t d.1.1 d.1.2.1 d.1.2.2.1) (fun _=>rfl)
def kl142_0 (P:Go.Program):Known:=(kf83 P).loop 142 0 lc142_0
theorem kl142_0_ok:KnownOk Go.Proofs.Try.prog (kl142_0 Go.Proofs.Try.prog):=kf83_ok.loop ok142_0

/-! ductility/sensor.pairsError -/

abbrev as121:List Ty:=[(.slice (.pair (.int .i64) (.pair (.int .i64) .unit)))]
abbrev rs121:List Ty:=[(.int .i64)]

def t121 (x0:(List (Int×(Int×Unit)))):Tr (Tys.data rs121) :=
  Tr.test (Option.isSome (l142_0 ((x0,((↑(List.length x0):Int),((0:Int),()))),())))
    (Tr.test (isRet (l142_0 ((x0,((↑(List.length x0):Int),((0:Int),()))),())))
      (Tr.test (Option.isSome (f83 ((↑(List.length x0):Int),((10:Int),()))))
        (let r0:=r142_0 ((x0,((↑(List.length x0):Int),((0:Int),()))),());
        let r1:=g83 ((↑(List.length x0):Int),((10:Int),()));
        Tr.test (Option.isSome (f88 (([r1.1,r0.1.2.1]:List Int),())))
          (let r2:=g88 (([r1.1,r0.1.2.1]:List Int),());
          Tr.fin ((r2.1,())))
          (Tr.stop))
        (Tr.stop))
      (Tr.test (Option.isSome (f83 ((↑(List.length x0):Int),((10:Int),()))))
        (let r1:=g83 ((↑(List.length x0):Int),((10:Int),()));
        Tr.test (Option.isSome (f88 (([r1.1,(0:Int)]:List Int),())))
          (let r3:=g88 (([r1.1,(0:Int)]:List Int),());
          Tr.fin ((r3.1,())))
          (Tr.stop))
        (Tr.stop)))
    (Tr.stop)

def f121 (d:Tys.data as121):Option (Tys.data rs121):=(t121 d.1).val
def g121 (d:Tys.data as121):Tys.data rs121:=(f121 d).getD (Tys.dflt rs121)
def p121:PureC:=pcOf as121 rs121 f121 g121

theorem wk121 (x0:(List (Int×(Int×Unit)))):Walks (runPure (kl142_0 Go.Proofs.Try.prog).orc Go.Proofs.Try.prog 400 121 as121 rs121 (x0,())) (t121 x0) [([true,true,true,true],[2,1,4,6,8]),([true,false,true,true],[2,1,4,6,8])] :=
  ⟨by kernel_rfl,by kernel_rfl,trivial⟩

theorem ok121_t (x0:(List (Int×(Int×Unit)))):TrOk (PureRuns Go.Proofs.Try.prog (kl142_0 Go.Proofs.Try.prog).orc 121 as121 rs121 (x0,())) (t121 x0) :=
  Walks.ok (fun _ _ _=>PureRuns.of) (wk121 x0) (by kernel_rfl)

theorem ok121:PureOk Go.Proofs.Try.prog 121 p121:=pureOk_of kl142_0_ok.base (T:=fun (d:Tys.data as121)=>t121 d.1) (by kernel_rfl) (fun (d:Tys.data as121)=>ok121_t d.1)
def kf121 (P:Go.Program):Known:=(kl142_0 P).func 121 p121
theorem kf121_ok:KnownOk Go.Proofs.Try.prog (kf121 Go.Proofs.Try.prog):=kl142_0_ok.func ok121

/-! loop 0 of slices.IndexFunc[[]ductility/api.SensorPair,ductility/api.SensorPair] -/

abbrev sh150_0:Sh:={ n:=19,slots:=[0,1,7,8],pats:=[.ty (.slice (.pair (.int .i64) (.pair (.int .i64) .unit))),.fn 145 [(0,1)],.ty (.int .i64),.ty (.int .i64)],boxes:=[.row [.ty (.slice (.pair (.int .i64) (.pair (.int .i64) .unit)))]] }
abbrev shb150_0:Sh:={ n:=19,slots:=[],pats:=[],boxes:=[.row [.ty (.slice (.pair (.int .i64) (.pair (.int .i64) .unit)))]] }
abbrev shr150_0:Sh:={ n:=19,slots:=[4],pats:=[.ty (.int .i64)],boxes:=[.row [.ty (.slice (.pair (.int .i64) (.pair (.int .i64) .unit)))]] }

def t150_0 (x0:(List (Int×(Int×Unit)))) (x2:Int) (x3:Int) (b0_0:(List (Int×(Int×Unit)))):Tr (Out sh150_0.data shb150_0.data shr150_0.data) :=
  Tr.test ((!leF x2 x3:Bool))
    (Tr.test (decide ((0:Int) ≤ x3) && decide (x3 < (↑(List.length x0):Int)))
      (Tr.test ((true && decide ((0:Int) < (↑(List.length b0_0):Int)):Bool))
        (Tr.test ((!eqF (List.getD x0 (Int.toNat x3) ((0:Int),(0:Int),())).2.1 (List.getD b0_0 (0:Nat) ((0:Int),(0:Int),())).2.1:Bool))
          (Tr.fin (.ret ((x3,()),((b0_0,()),()))))
          (Tr.fin (.again ((x0,(x2,((wrap64 (x3 + (1:Int)):Int),()))),((b0_0,()),())))))
        (Tr.stop))
      (Tr.stop))
    (Tr.fin (.brk ((),((b0_0,()),()))))

def s150_0 (d:sh150_0.data):Option (Out sh150_0.data shb150_0.data shr150_0.data):=(t150_0 d.1.1 d.1.2.1 d.1.2.2.1 d.2.1.1).val
def l150_0 (d:sh150_0.data):Option (shb150_0.data ⊕ shr150_0.data):=itr s150_0 rounds d
def b150_0 (d:sh150_0.data):shb150_0.data:=outB shb150_0.dflt (l150_0 d)
def r150_0 (d:sh150_0.data):shr150_0.data:=outR shr150_0.dflt (l150_0 d)
def lc150_0:LoopC:=lcOf sh150_0 shb150_0 shr150_0 l150_0 b150_0 r150_0

theorem wk150_0 (x0:(List (Int×(Int×Unit)))) (x2:Int) (x3:Int) (b0_0:(List (Int×(Int×Unit)))):Walks (runBody (kf121 Go.Proofs.Try.prog).orc Go.Proofs.Try.prog 400 150 0 sh150_0 shb150_0 shr150_0 ((x0,x2,x3,()),(b0_0,()),())) (t150_0 x0 x2 x3 b0_0) [([true,true,true,true],[2,4,6,8]),([true,true,true,false],[2,4,6,8]),([ff],[2])] :=
  ⟨by kernel_rfl,by kernel_rfl,by kernel_rfl,trivial⟩

theorem ok150_0_t (x0:(List (Int×(Int×Unit)))) (x2:Int) (x3:Int) (b0_0:(List (Int×(Int×Unit)))):TrOk (BodyRuns Go.Proofs.Try.prog (kf121 Go.Proofs.Try.prog).orc 150 0 sh150_0 shb150_0 shr150_0 ((x0,x2,x3,()),(b0_0,()),())) (t150_0 x0 x2 x3 b0_0) :=
  Walks.ok (fun _ _ _=>BodyRuns.of) (wk150_0 x0 x2 x3 b0_0) (by kernel_rfl)

theorem ok150_0:LoopOk Go.Proofs.Try.prog 150 0 lc150_0:=loopOk_of (sh:=sh150_0) (shB:=shb150_0) (shR:=shr150_0) kf121_ok.base (T:=fun (d:sh150_0.data)=>t150_0 d.1.1 d.1.2.1 d.1.2.2.1 d.2.1.1) (by kernel_rfl) rfl (fun (d:sh150_0.data)=>ok150_0_t d.1.1 d.1.2.1 d.1.2.2.1 d.2.1.1) (fun _=>rfl)
def kl150_0 (P:Go.Program):Known:=(kf121 P).loop 150 0 lc150_0
theorem kl150_0_ok:KnownOk Go.Proofs.Try.prog (kl150_0 Go.Proofs.Try.prog):=kf121_ok.loop ok150_0

/-! ductility/sensor.slopeError -/

abbrev as122:List Ty:=[(.slice (.pair (.int .i64) (.pair (.int .i64) .unit)))]
abbrev rs122:List Ty:=[(.int .i64)]

def t122 (x0:(List (Int×(Int×Unit)))):Tr (Tys.data rs122) :=
  Tr.test (Option.isSome (l150_0 ((x0,((↑(List.length x0):Int),((0:Int),()))),((x0,()),()))))
    (Tr.test (isRet (l150_0 ((x0,((↑(List.length x0):Int),((0:Int),()))),((x0,()),()))))
      (let r0:=r150_0 ((x0,((↑(List.length x0):Int),((0:Int),()))),((x0,()),()));
      Tr.test (Option.isSome (f86 ((!leF (0:Int) r0.1.1:Bool),((11:Int),()))))
        (let r2:=g86 ((!leF (0:Int) r0.1.1:Bool),((11:Int),()));
        Tr.fin ((r2.1,())))
        (Tr.stop))
      (Tr.test (Option.isSome (f86 ((true:Bool),((11:Int),()))))
        (let r3:=g86 ((true:Bool),((11:Int),()));
        Tr.fin ((r3.1,())))
        (Tr.stop)))
    (Tr.stop)

def f122 (d:Tys.data as122):Option (Tys.data rs122):=(t122 d.1).val
def g122 (d:Tys.data as122):Tys.data rs122:=(f122 d).getD (Tys.dflt rs122)
def p122:PureC:=pcOf as122 rs122 f122 g122

theorem wk122 (x0:(List (Int×(Int×Unit)))):Walks (runPure (kl150_0 Go.Proofs.Try.prog).orc Go.Proofs.Try.prog 400 122 as122 rs122 (x0,())) (t122 x0) [([true,true,true],[2,4,6]),([true,false,true],[2,4,6])] :=
  ⟨by kernel_rfl,by kernel_rfl,trivial⟩

theorem ok122_t (x0:(List (Int×(Int×Unit)))):TrOk (PureRuns Go.Proofs.Try.prog (kl150_0 Go.Proofs.Try.prog).orc 122 as122 rs122 (x0,())) (t122 x0) :=
  Walks.ok (fun _ _ _=>PureRuns.of) (wk122 x0) (by kernel_rfl)

theorem ok122:PureOk Go.Proofs.Try.prog 122 p122:=pureOk_of kl150_0_ok.base (T:=fun (d:Tys.data as122)=>t122 d.1) (by kernel_rfl) (fun (d:Tys.data as122)=>ok122_t d.1)
def kf122 (P:Go.Program):Known:=(kl150_0 P).func 122 p122
theorem kf122_ok:KnownOk Go.Proofs.Try.prog (kf122 Go.Proofs.Try.prog):=kl150_0_ok.func ok122

/-! loop 2 of ductility/sensor.divisorOf -/

abbrev sh92_2:Sh:={ n:=26,slots:=[5,7,9,10,11],pats:=[.ty (.int .i64),.ty (.int .i64),.ty (.slice (.int .i64)),.ty (.int .i64),.ty (.int .i64)],boxes:=[] }
abbrev shb92_2:Sh:={ n:=26,slots:=[5,9,10,11],pats:=[.ty (.int .i64),.ty (.slice (.int .i64)),.ty (.int .i64),.ty (.int .i64)],boxes:=[] }
abbrev shr92_2:Sh:={ n:=26,slots:=[],pats:=[],boxes:=[] }

def t92_2 (x0:Int) (x1:Int) (x2:(List Int)) (x3:Int) (x4:Int):Tr (Out sh92_2.data shb92_2.data shr92_2.data) :=
  Tr.test ((!eqF x1 0:Bool))
    (Tr.test (x1 == (0:Int))
      (Tr.stop)
      (Tr.fin (.again ((x1,((Int.tmod x0 x1:Int),(x2,(x3,(x4,()))))),()))))
    (Tr.fin (.brk ((x0,(x2,(x3,(x4,())))),())))

def s92_2 (d:sh92_2.data):Option (Out sh92_2.data shb92_2.data shr92_2.data):=(t92_2 d.1.1 d.1.2.1 d.1.2.2.1 d.1.2.2.2.1 d.1.2.2.2.2.1).val
def l92_2 (d:sh92_2.data):Option (shb92_2.data ⊕ shr92_2.data):=itr s92_2 rounds d
def b92_2 (d:sh92_2.data):shb92_2.data:=outB shb92_2.dflt (l92_2 d)
def lc92_2:LoopC:=lcB sh92_2 shb92_2 shr92_2 l92_2 b92_2

theorem wk92_2 (x0:Int) (x1:Int) (x2:(List Int)) (x3:Int) (x4:Int):Walks (runBody (kf122 Go.Proofs.Try.prog).orc Go.Proofs.Try.prog 400 92 2 sh92_2 shb92_2 shr92_2 ((x0,x1,x2,x3,x4,()),())) (t92_2 x0 x1 x2 x3 x4) [([true,false],[2,4]),([ff],[2])] :=
  ⟨by kernel_rfl,by kernel_rfl,trivial⟩

theorem ok92_2_t (x0:Int) (x1:Int) (x2:(List Int)) (x3:Int) (x4:Int):TrOk (BodyRuns Go.Proofs.Try.prog (kf122 Go.Proofs.Try.prog).orc 92 2 sh92_2 shb92_2 shr92_2 ((x0,x1,x2,x3,x4,()),())) (t92_2 x0 x1 x2 x3 x4) :=
  Walks.ok (fun _ _ _=>BodyRuns.of) (wk92_2 x0 x1 x2 x3 x4) (by kernel_rfl)

theorem ok92_2:LoopOk Go.Proofs.Try.prog 92 2 lc92_2:=loopOk_ofB (sh:=sh92_2) (shB:=shb92_2) (shR:=shr92_2) kf122_ok.base (T:=fun (d:sh92_2.data)=>t92_2 d.1.1 d.1.2.1 d.1.2.2.1 d.1.2.2.2.1 d.1.2.2.2.2.1) (by kernel_rfl) rfl (fun (d:sh92_2.data)=>ok92_2_t d.1.1 d.1.2.1 d.1.2.2.1 d.1.2.2.2.1 d.1.2.2.2.2.1) (fun _=>rfl)
def kl92_2 (P:Go.Program):Known:=(kf122 P).loop 92 2 lc92_2
theorem kl92_2_ok:KnownOk Go.Proofs.Try.prog (kl92_2 Go.Proofs.Try.prog):=kf122_ok.loop ok92_2

/-! loop 0 of ductility/sensor.divisorOf -/

abbrev sh92_0:Sh:={ n:=26,slots:=[5,9,10,11],pats:=[.ty (.int .i64),.ty (.slice (.int .i64)),.ty (.int .i64),.ty (.int .i64)],boxes:=[] }
abbrev shb92_0:Sh:={ n:=26,slots:=[5],pats:=[.ty (.int .i64)],boxes:=[] }
abbrev shr92_0:Sh:={ n:=26,slots:=[],pats:=[],boxes:=[] }

def t92_0 (x0:Int) (x1:(List Int)) (x2:Int) (x3:Int):Tr (Out sh92_0.data shb92_0.data shr92_0.data) :=
  Tr.test ((!leF x2 x3:Bool))
    (Tr.test (decide ((0:Int) ≤ x3) && decide (x3 < (↑(List.length x1):Int)))
      (Tr.test (isBrk (l92_2 ((x0,((List.getD x1 (Int.toNat x3) (0:Int):Int),(x1,(x2,(x3,()))))),())))
        (let r0:=b92_2 ((x0,((List.getD x1 (Int.toNat x3) (0:Int):Int),(x1,(x2,(x3,()))))),());
        Tr.fin (.again ((r0.1.1,(r0.1.2.1,(r0.1.2.2.1,((wrap64 (r0.1.2.2.2.1 + (1:Int)):Int),())))),())))
        (Tr.stop))
      (Tr.stop))
    (Tr.fin (.brk ((x0,()),())))

def s92_0 (d:sh92_0.data):Option (Out sh92_0.data shb92_0.data shr92_0.data):=(t92_0 d.1.1 d.1.2.1 d.1.2.2.1 d.1.2.2.2.1).val
def l92_0 (d:sh92_0.data):Option (shb92_0.data ⊕ shr92_0.data):=itr s92_0 rounds d
def b92_0 (d:sh92_0.data):shb92_0.data:=outB shb92_0.dflt (l92_0 d)
def lc92_0:LoopC:=lcB sh92_0 shb92_0 shr92_0 l92_0 b92_0

theorem wk92_0 (x0:Int) (x1:(List Int)) (x2:Int) (x3:Int):Walks (runBody (kl92_2 Go.Proofs.Try.prog).orc Go.Proofs.Try.prog 400 92 0 sh92_0 shb92_0 shr92_0 ((x0,x1,x2,x3,()),())) (t92_0 x0 x1 x2 x3) [([true,true,true],[1,2,4,6]),([ff],[2])] :=
  ⟨by kernel_rfl,by kernel_rfl,trivial⟩

theorem ok92_0_t (x0:Int) (x1:(List Int)) (x2:Int) (x3:Int):TrOk (BodyRuns Go.Proofs.Try.prog (kl92_2 Go.Proofs.Try.prog).orc 92 0 sh92_0 shb92_0 shr92_0 ((x0,x1,x2,x3,()),())) (t92_0 x0 x1 x2 x3) :=
  Walks.ok (fun _ _ _=>BodyRuns.of) (wk92_0 x0 x1 x2 x3) (by kernel_rfl)

theorem ok92_0:LoopOk Go.Proofs.Try.prog 92 0 lc92_0:=loopOk_ofB (sh:=sh92_0) (shB:=shb92_0) (shR:=shr92_0) kl92_2_ok.base (T:=fun (d:sh92_0.data)=>t92_0 d.1.1 d.1.2.1 d.1.2.2.1 d.1.2.2.2.1) (by kernel_rfl) rfl (fun (d:sh92_0.data)=>ok92_0_t d.1.1 d.1.2.1 d.1.2.2.1 d.1.2.2.2.1) (fun _=>rfl)
def kl92_0 (P:Go.Program):Known:=(kl92_2 P).loop 92 0 lc92_0
theorem kl92_0_ok:KnownOk Go.Proofs.Try.prog (kl92_0 Go.Proofs.Try.prog):=kl92_2_ok.loop ok92_0

/-! ductility/sensor.divisorOf -/

abbrev as92:List Ty:=[(.int .i64),(.slice (.int .i64))]
abbrev rs92:List Ty:=[(.int .i64)]

def t92 (x0:Int) (x1:(List Int)):Tr (Tys.data rs92) :=
  Tr.test (isBrk (l92_0 ((x0,(x1,((↑(List.length x1):Int),((0:Int),())))),())))
    (let r0:=b92_0 ((x0,(x1,((↑(List.length x1):Int),((0:Int),())))),());
    Tr.fin (((if r0.1.1 < Go.IntKind.wrap Go.IntKind.i64 ((0:Int) - r0.1.1) then Go.IntKind.wrap Go.IntKind.i64 ((0:Int) - r0.1.1) else r0.1.1:Int),())))
    (Tr.stop)

def f92 (d:Tys.data as92):Option (Tys.data rs92):=(t92 d.1 d.2.1).val
def g92 (d:Tys.data as92):Tys.data rs92:=(f92 d).getD (Tys.dflt rs92)
def p92:PureC:=pcOf as92 rs92 f92 g92

theorem wk92 (x0:Int) (x1:(List Int)):Walks (runPure (kl92_0 Go.Proofs.Try.prog).orc Go.Proofs.Try.prog 400 92 as92 rs92 (x0,x1,())) (t92 x0 x1) [([tt],[1,2])] :=
  ⟨by kernel_rfl,trivial⟩

theorem ok92_t (x0:Int) (x1:(List Int)):TrOk (PureRuns Go.Proofs.Try.prog (kl92_0 Go.Proofs.Try.prog).orc 92 as92 rs92 (x0,x1,())) (t92 x0 x1) :=
  Walks.ok (fun _ _ _=>PureRuns.of) (wk92 x0 x1) (by kernel_rfl)

theorem ok92:PureOk Go.Proofs.Try.prog 92 p92:=pureOk_of kl92_0_ok.base (T:=fun (d:Tys.data as92)=>t92 d.1 d.2.1) (by kernel_rfl) (fun (d:Tys.data as92)=>ok92_t d.1 d.2.1)
def kf92 (P:Go.Program):Known:=(kl92_0 P).func 92 p92
theorem kf92_ok:KnownOk Go.Proofs.Try.prog (kf92 Go.Proofs.Try.prog):=kl92_0_ok.func ok92

/-! loop 0 of ductility/sensor.sumOf -/

abbrev sh123_0:Sh:={ n:=21,slots:=[1,5,8,9,10],pats:=[.fn 124 [],.ty (.int .i64),.ty (.slice (.pair (.int .i64) (.pair (.int .i64) .unit))),.ty (.int .i64),.ty (.int .i64)],boxes:=[] }
abbrev shb123_0:Sh:={ n:=21,slots:=[5],pats:=[.ty (.int .i64)],boxes:=[] }
abbrev shr123_0:Sh:={ n:=21,slots:=[],pats:=[],boxes:=[] }

def t123_0 (x1:Int) (x2:(List (Int×(Int×Unit)))) (x3:Int) (x4:Int):Tr (Out sh123_0.data shb123_0.data shr123_0.data) :=
  Tr.test ((!leF x3 x4:Bool))
    (Tr.test (decide ((0:Int) ≤ x4) && decide (x4 < (↑(List.length x2):Int)))
      (Tr.fin (.again (((wrap64 (x1 + (List.getD x2 (Int.toNat x4) ((0:Int),(0:Int),())).2.1):Int),(x2,(x3,((wrap64 (x4 + (1:Int)):Int),())))),())))
      (Tr.stop))
    (Tr.fin (.brk ((x1,()),())))

def s123_0 (d:sh123_0.data):Option (Out sh123_0.data shb123_0.data shr123_0.data):=(t123_0 d.1.1 d.1.2.1 d.1.2.2.1 d.1.2.2.2.1).val
def l123_0 (d:sh123_0.data):Option (shb123_0.data ⊕ shr123_0.data):=itr s123_0 rounds d
def b123_0 (d:sh123_0.data):shb123_0.data:=outB shb123_0.dflt (l123_0 d)
def lc123_0:LoopC:=lcB sh123_0 shb123_0 shr123_0 l123_0 b123_0

theorem wk123_0 (x1:Int) (x2:(List (Int×(Int×Unit)))) (x3:Int) (x4:Int):Walks (runBody (kf92 Go.Proofs.Try.prog).orc Go.Proofs.Try.prog 400 123 0 sh123_0 shb123_0 shr123_0 ((x1,x2,x3,x4,()),())) (t123_0 x1 x2 x3 x4) [([true,true],[2,4]),([ff],[2])] :=
  ⟨by kernel_rfl,by kernel_rfl,trivial⟩

theorem ok123_0_t (x1:Int) (x2:(List (Int×(Int×Unit)))) (x3:Int) (x4:Int):TrOk (BodyRuns Go.Proofs.Try.prog (kf92 Go.Proofs.Try.prog).orc 123 0 sh123_0 shb123_0 shr123_0 ((x1,x2,x3,x4,()),())) (t123_0 x1 x2 x3 x4) :=
  Walks.ok (fun _ _ _=>BodyRuns.of) (wk123_0 x1 x2 x3 x4) (by kernel_rfl)

theorem ok123_0:LoopOk Go.Proofs.Try.prog 123 0 lc123_0:=loopOk_ofB (sh:=sh123_0) (shB:=shb123_0) (shR:=shr123_0) kf92_ok.base (T:=fun (d:sh123_0.data)=>t123_0 d.1.1 d.1.2.1 d.1.2.2.1 d.1.2.2.2.1) (by kernel_rfl) rfl (fun (d:sh123_0.data)=>ok123_0_t d.1.1 d.1.2.1 d.1.2.2.1 d.1.2.2.2.1) (fun _=>rfl)
def kl123_0 (P:Go.Program):Known:=(kf92 P).loop 123 0 lc123_0
theorem kl123_0_ok:KnownOk Go.Proofs.Try.prog (kl123_0 Go.Proofs.Try.prog):=kf92_ok.loop ok123_0

/-! loop 0 of ductility/sensor.sumOf -/

abbrev sh123_0_1:Sh:={ n:=21,slots:=[1,5,8,9,10],pats:=[.fn 125 [],.ty (.int .i64),.ty (.slice (.pair (.int .i64) (.pair (.int .i64) .unit))),.ty (.int .i64),.ty (.int .i64)],boxes:=[] }
abbrev shb123_0_1:Sh:={ n:=21,slots:=[5],pats:=[.ty (.int .i64)],boxes:=[] }
abbrev shr123_0_1:Sh:={ n:=21,slots:=[],pats:=[],boxes:=[] }

def t123_0_1 (x1:Int) (x2:(List (Int×(Int×Unit)))) (x3:Int) (x4:Int):Tr (Out sh123_0_1.data shb123_0_1.data shr123_0_1.data) :=
  Tr.test ((!leF x3 x4:Bool))
    (Tr.test (decide ((0:Int) ≤ x4) && decide (x4 < (↑(List.length x2):Int)))
      (Tr.fin (.again (((wrap64 (x1 + (List.getD x2 (Int.toNat x4) ((0:Int),(0:Int),())).1):Int),(x2,(x3,((wrap64 (x4 + (1:Int)):Int),())))),())))
      (Tr.stop))
    (Tr.fin (.brk ((x1,()),())))

def s123_0_1 (d:sh123_0_1.data):Option (Out sh123_0_1.data shb123_0_1.data shr123_0_1.data):=(t123_0_1 d.1.1 d.1.2.1 d.1.2.2.1 d.1.2.2.2.1).val
def l123_0_1 (d:sh123_0_1.data):Option (shb123_0_1.data ⊕ shr123_0_1.data):=itr s123_0_1 rounds d
def b123_0_1 (d:sh123_0_1.data):shb123_0_1.data:=outB shb123_0_1.dflt (l123_0_1 d)
def lc123_0_1:LoopC:=lcB sh123_0_1 shb123_0_1 shr123_0_1 l123_0_1 b123_0_1

theorem wk123_0_1 (x1:Int) (x2:(List (Int×(Int×Unit)))) (x3:Int) (x4:Int):Walks (runBody (kl123_0 Go.Proofs.Try.prog).orc Go.Proofs.Try.prog 400 123 0 sh123_0_1 shb123_0_1 shr123_0_1 ((x1,x2,x3,x4,()),())) (t123_0_1 x1 x2 x3 x4) [([true,true],[2,4]),([ff],[2])] :=
  ⟨by kernel_rfl,by kernel_rfl,trivial⟩

theorem ok123_0_1_t (x1:Int) (x2:(List (Int×(Int×Unit)))) (x3:Int) (x4:Int):TrOk (BodyRuns Go.Proofs.Try.prog (kl123_0 Go.Proofs.Try.prog).orc 123 0 sh123_0_1 shb123_0_1 shr123_0_1 ((x1,x2,x3,x4,()),())) (t123_0_1 x1 x2 x3 x4) :=
  Walks.ok (fun _ _ _=>BodyRuns.of) (wk123_0_1 x1 x2 x3 x4) (by kernel_rfl)

theorem ok123_0_1:LoopOk Go.Proofs.Try.prog 123 0 lc123_0_1:=loopOk_ofB (sh:=sh123_0_1) (shB:=shb123_0_1) (shR:=shr123_0_1) kl123_0_ok.base (T:=fun (d:sh123_0_1.data)=>t123_0_1 d.1.1 d.1.2.1 d.1.2.2.1 d.1.2.2.2.1) (by kernel_rfl) rfl (fun (d:sh123_0_1.data)=>ok123_0_1_t d.1.1 d.1.2.1 d.1.2.2.1 d.1.2.2.2.1) (fun _=>rfl)
def kl123_0_1 (P:Go.Program):Known:=(kl123_0 P).loop 123 0 lc123_0_1
theorem kl123_0_1_ok:KnownOk Go.Proofs.Try.prog (kl123_0_1 Go.Proofs.Try.prog):=kl123_0_ok.loop ok123_0_1

/-! loop 0 of ductility/sensor.sumOf -/

abbrev sh123_0_2:Sh:={ n:=21,slots:=[1,5,8,9,10],pats:=[.fn 126 [],.ty (.int .i64),.ty (.slice (.pair (.int .i64) (.pair (.int .i64) .unit))),.ty (.int .i64),.ty (.int .i64)],boxes:=[] }
abbrev shb123_0_2:Sh:={ n:=21,slots:=[5],pats:=[.ty (.int .i64)],boxes:=[] }
abbrev shr123_0_2:Sh:={ n:=21,slots:=[],pats:=[],boxes:=[] }

def t123_0_2 (x1:Int) (x2:(List (Int×(Int×Unit)))) (x3:Int) (x4:Int):Tr (Out sh123_0_2.data shb123_0_2.data shr123_0_2.data) :=
  Tr.test ((!leF x3 x4:Bool))
    (Tr.test (decide ((0:Int) ≤ x4) && decide (x4 < (↑(List.length x2):Int)))
      (Tr.fin (.again (((wrap64 (x1 + wrap64 ((List.getD x2 (Int.toNat x4) ((0:Int),(0:Int),())).2.1 * (List.getD x2 (Int.toNat x4) ((0:Int),(0:Int),())).2.1)):Int),(x2,(x3,((wrap64 (x4 + (1:Int)):Int),())))),())))
      (Tr.stop))
    (Tr.fin (.brk ((x1,()),())))

def s123_0_2 (d:sh123_0_2.data):Option (Out sh123_0_2.data shb123_0_2.data shr123_0_2.data):=(t123_0_2 d.1.1 d.1.2.1 d.1.2.2.1 d.1.2.2.2.1).val
def l123_0_2 (d:sh123_0_2.data):Option (shb123_0_2.data ⊕ shr123_0_2.data):=itr s123_0_2 rounds d
def b123_0_2 (d:sh123_0_2.data):shb123_0_2.data:=outB shb123_0_2.dflt (l123_0_2 d)
def lc123_0_2:LoopC:=lcB sh123_0_2 shb123_0_2 shr123_0_2 l123_0_2 b123_0_2

theorem wk123_0_2 (x1:Int) (x2:(List (Int×(Int×Unit)))) (x3:Int) (x4:Int):Walks (runBody (kl123_0_1 Go.Proofs.Try.prog).orc Go.Proofs.Try.prog 400 123 0 sh123_0_2 shb123_0_2 shr123_0_2 ((x1,x2,x3,x4,()),())) (t123_0_2 x1 x2 x3 x4) [([true,true],[2,4]),([ff],[2])] :=
  ⟨by kernel_rfl,by kernel_rfl,trivial⟩

theorem ok123_0_2_t (x1:Int) (x2:(List (Int×(Int×Unit)))) (x3:Int) (x4:Int):TrOk (BodyRuns Go.Proofs.Try.prog (kl123_0_1 Go.Proofs.Try.prog).orc 123 0 sh123_0_2 shb123_0_2 shr123_0_2 ((x1,x2,x3,x4,()),())) (t123_0_2 x1 x2 x3 x4) :=
  Walks.ok (fun _ _ _=>BodyRuns.of) (wk123_0_2 x1 x2 x3 x4) (by kernel_rfl)

theorem ok123_0_2:LoopOk Go.Proofs.Try.prog 123 0 lc123_0_2:=loopOk_ofB (sh:=sh123_0_2) (shB:=shb123_0_2) (shR:=shr123_0_2) kl123_0_1_ok.base (T:=fun (d:sh123_0_2.data)=>t123_0_2 d.1.1 d.1.2.1 d.1.2.2.1 d.1.2.2.2.1) (by kernel_rfl) rfl (fun (d:sh123_0_2.data)=>ok123_0_2_t d.1.1 d.1.2.1 d.1.2.2.1 d.1.2.2.2.1) (fun _=>rfl)
def kl123_0_2 (P:Go.Program):Known:=(kl123_0_1 P).loop 123 0 lc123_0_2
theorem kl123_0_2_ok:KnownOk Go.Proofs.Try.prog (kl123_0_2 Go.Proofs.Try.prog):=kl123_0_1_ok.loop ok123_0_2

/-! loop 0 of ductility/sensor.sumOf -/

abbrev sh123_0_3:Sh:={ n:=21,slots:=[1,5,8,9,10],pats:=[.fn 127 [],.ty (.int .i64),.ty (.slice (.pair (.int .i64) (.pair (.int .i64) .unit))),.ty (.int .i64),.ty (.int .i64)],boxes:=[] }
abbrev shb123_0_3:Sh:={ n:=21,slots:=[5],pats:=[.ty (.int .i64)],boxes:=[] }
abbrev shr123_0_3:Sh:={ n:=21,slots:=[],pats:=[],boxes:=[] }

def t123_0_3 (x1:Int) (x2:(List (Int×(Int×Unit)))) (x3:Int) (x4:Int):Tr (Out sh123_0_3.data shb123_0_3.data shr123_0_3.data) :=
  Tr.test ((!leF x3 x4:Bool))
    (Tr.test (decide ((0:Int) ≤ x4) && decide (x4 < (↑(List.length x2):Int)))
      (Tr.fin (.again (((wrap64 (x1 + wrap64 ((List.getD x2 (Int.toNat x4) ((0:Int),(0:Int),())).2.1 * (List.getD x2 (Int.toNat x4) ((0:Int),(0:Int),())).1)):Int),(x2,(x3,((wrap64 (x4 + (1:Int)):Int),())))),())))
      (Tr.stop))
    (Tr.fin (.brk ((x1,()),())))

def s123_0_3 (d:sh123_0_3.data):Option (Out sh123_0_3.data shb123_0_3.data shr123_0_3.data):=(t123_0_3 d.1.1 d.1.2.1 d.1.2.2.1 d.1.2.2.2.1).val
def l123_0_3 (d:sh123_0_3.data):Option (shb123_0_3.data ⊕ shr123_0_3.data):=itr s123_0_3 rounds d
def b123_0_3 (d:sh123_0_3.data):shb123_0_3.data:=outB shb123_0_3.dflt (l123_0_3 d)
def lc123_0_3:LoopC:=lcB sh123_0_3 shb123_0_3 shr123_0_3 l123_0_3 b123_0_3

theorem wk123_0_3 (x1:Int) (x2:(List (Int×(Int×Unit)))) (x3:Int) (x4:Int):Walks (runBody (kl123_0_2 Go.Proofs.Try.prog).orc Go.Proofs.Try.prog 400 123 0 sh123_0_3 shb123_0_3 shr123_0_3 ((x1,x2,x3,x4,()),())) (t123_0_3 x1 x2 x3 x4) [([true,true],[2,4]),([ff],[2])] :=
  ⟨by kernel_rfl,by kernel_rfl,trivial⟩

theorem ok123_0_3_t (x1:Int) (x2:(List (Int×(Int×Unit)))) (x3:Int) (x4:Int):TrOk (BodyRuns Go.Proofs.Try.prog (kl123_0_2 Go.Proofs.Try.prog).orc 123 0 sh123_0_3 shb123_0_3 shr123_0_3 ((x1,x2,x3,x4,()),())) (t123_0_3 x1 x2 x3 x4) :=
  Walks.ok (fun _ _ _=>BodyRuns.of) (wk123_0_3 x1 x2 x3 x4) (by kernel_rfl)

theorem ok123_0_3:LoopOk Go.Proofs.Try.prog 123 0 lc123_0_3:=loopOk_ofB (sh:=sh123_0_3) (shB:=shb123_0_3) (shR:=shr123_0_3) kl123_0_2_ok.base (T:=fun (d:sh123_0_3.data)=>t123_0_3 d.1.1 d.1.2.1 d.1.2.2.1 d.1.2.2.2.1) (by kernel_rfl) rfl (fun (d:sh123_0_3.data)=>ok123_0_3_t d.1.1 d.1.2.1 d.1.2.2.1 d.1.2.2.2.1) (fun _=>rfl)
def kl123_0_3 (P:Go.Program):Known:=(kl123_0_2 P).loop 123 0 lc123_0_3
theorem kl123_0_3_ok:KnownOk Go.Proofs.Try.prog (kl123_0_3 Go.Proofs.Try.prog):=kl123_0_2_ok.loop ok123_0_3

/-! ductility/sensor.CalibrationOf -/

abbrev as76:List Ty:=[(.slice (.pair (.int .i64) (.pair (.int .i64) .unit)))]
abbrev rs76:List Ty:=[(.pair (.int .i64) (.pair (.int .i64) (.pair (.int .i64) .unit))),(.int .i64)]

def t76 (x0:(List (Int×(Int×Unit)))):Tr (Tys.data rs76) :=
  Tr.test (Option.isSome (f121 (x0,())))
    (Tr.test (Option.isSome (f122 (x0,())))
      (let r0:=g121 (x0,());
      let r1:=g122 (x0,());
      Tr.test (Option.isSome (f88 (([r0.1,r1.1]:List Int),())))
        (let r2:=g88 (([r0.1,r1.1]:List Int),());
        Tr.test ((!eqF r2.1 0:Bool))
          (Tr.fin ((((0:Int),((0:Int),((0:Int),()))),(r2.1,()))))
          (Tr.test (isBrk (l123_0 (((0:Int),(x0,((↑(List.length x0):Int),((0:Int),())))),())))
            (Tr.test (isBrk (l123_0_1 (((0:Int),(x0,((↑(List.length x0):Int),((0:Int),())))),())))
              (Tr.test (isBrk (l123_0_2 (((0:Int),(x0,((↑(List.length x0):Int),((0:Int),())))),())))
                (Tr.test (isBrk (l123_0_3 (((0:Int),(x0,((↑(List.length x0):Int),((0:Int),())))),())))
                  (let r3:=b123_0 (((0:Int),(x0,((↑(List.length x0):Int),((0:Int),())))),());
                  let r4:=b123_0_1 (((0:Int),(x0,((↑(List.length x0):Int),((0:Int),())))),());
                  let r5:=b123_0_2 (((0:Int),(x0,((↑(List.length x0):Int),((0:Int),())))),());
                  let r6:=b123_0_3 (((0:Int),(x0,((↑(List.length x0):Int),((0:Int),())))),());
                  Tr.test (Option.isSome (f92 ((wrap64 (wrap64 ((↑(List.length x0):Int) * r5.1.1) - wrap64 (r3.1.1 * r3.1.1)):Int),(([wrap64 (wrap64 ((↑(List.length x0):Int) * r6.1.1) - wrap64 (r3.1.1 * r4.1.1)),wrap64 (wrap64 (r4.1.1 * r5.1.1) - wrap64 (r3.1.1 * r6.1.1))]:List Int),()))))
                    (let r7:=g92 ((wrap64 (wrap64 ((↑(List.length x0):Int) * r5.1.1) - wrap64 (r3.1.1 * r3.1.1)):Int),(([wrap64 (wrap64 ((↑(List.length x0):Int) * r6.1.1) - wrap64 (r3.1.1 * r4.1.1)),wrap64 (wrap64 (r4.1.1 * r5.1.1) - wrap64 (r3.1.1 * r6.1.1))]:List Int),()));
                    Tr.test ((r7.1 == (0:Int):Bool))
                      (Tr.stop)
                      (Tr.fin ((((Go.IntKind.wrap Go.IntKind.i64 (Int.tdiv (wrap64 (wrap64 ((↑(List.length x0):Int) * r6.1.1) - wrap64 (r3.1.1 * r4.1.1))) r7.1):Int),((Go.IntKind.wrap Go.IntKind.i64 (Int.tdiv (wrap64 (wrap64 (r4.1.1 * r5.1.1) - wrap64 (r3.1.1 * r6.1.1))) r7.1):Int),((Go.IntKind.wrap Go.IntKind.i64 (Int.tdiv (wrap64 (wrap64 ((↑(List.length x0):Int) * r5.1.1) - wrap64 (r3.1.1 * r3.1.1))) r7.1):Int),()))),((0:Int),())))))
                    (Tr.stop))
                  (Tr.stop))
                (Tr.stop))
              (Tr.stop))
            (Tr.stop)))
        (Tr.stop))
      (Tr.stop))
    (Tr.stop)

def f76 (d:Tys.data as76):Option (Tys.data rs76):=(t76 d.1).val
def g76 (d:Tys.data as76):Tys.data rs76:=(f76 d).getD (Tys.dflt rs76)
def p76:PureC:=pcOf as76 rs76 f76 g76

theorem wk76 (x0:(List (Int×(Int×Unit)))):Walks (runPure (kl123_0_3 Go.Proofs.Try.prog).orc Go.Proofs.Try.prog 400 76 as76 rs76 (x0,())) (t76 x0) [([true,true,true,true],[2,4,1,6,8]),([true,true,true,false,true,true,true,true,true,false],[2,2,2,4,1,1,6,1,8,1,10,1,12,14,16,1,18,20])] :=
  ⟨by kernel_rfl,by kernel_rfl,trivial⟩

theorem ok76_t (x0:(List (Int×(Int×Unit)))):TrOk (PureRuns Go.Proofs.Try.prog (kl123_0_3 Go.Proofs.Try.prog).orc 76 as76 rs76 (x0,())) (t76 x0) :=
  Walks.ok (fun _ _ _=>PureRuns.of) (wk76 x0) (by kernel_rfl)

theorem ok76:PureOk Go.Proofs.Try.prog 76 p76:=pureOk_of kl123_0_3_ok.base (T:=fun (d:Tys.data as76)=>t76 d.1) (by kernel_rfl) (fun (d:Tys.data as76)=>ok76_t d.1)
def kf76 (P:Go.Program):Known:=(kl123_0_3 P).func 76 p76
theorem kf76_ok:KnownOk Go.Proofs.Try.prog (kf76 Go.Proofs.Try.prog):=kl123_0_3_ok.func ok76

/-! ductility/sensor.CheckLine -/

abbrev as89:List Ty:=[(.pair (.int .i64) (.pair (.int .i64) (.pair (.int .i64) .unit)))]
abbrev rs89:List Ty:=[(.int .i64)]

def t89 (x0:Int) (x0':Int) (x0'':Int):Tr (Tys.data rs89) :=
  Tr.test (Option.isSome (f100 ((1:Int),((300000000000:Int),(([x0'']:List Int),())))))
    (let r0:=g100 ((1:Int),((300000000000:Int),(([x0'']:List Int),())));
    Tr.test ((!r0.1:Bool))
      (Tr.test (Option.isSome (f92 (x0'',(([x0,x0']:List Int),()))))
        (Tr.test (Option.isSome (f86 ((true:Bool),((2:Int),()))))
          (let r2:=g92 (x0'',(([x0,x0']:List Int),()));
          Tr.test (Option.isSome (f86 ((!eqF r2.1 1:Bool),((3:Int),()))))
            (let r3:=g86 ((true:Bool),((2:Int),()));
            let r4:=g86 ((!eqF r2.1 1:Bool),((3:Int),()));
            Tr.test (Option.isSome (f88 (([r3.1,r4.1]:List Int),())))
              (let r5:=g88 (([r3.1,r4.1]:List Int),());
              Tr.fin ((r5.1,())))
              (Tr.stop))
            (Tr.stop))
          (Tr.stop))
        (Tr.stop))
      (Tr.test (Option.isSome (f87 ((300000000000:Int),(([x0,x0']:List Int),()))))
        (Tr.test (Option.isSome (f92 (x0'',(([x0,x0']:List Int),()))))
          (let r1:=g87 ((300000000000:Int),(([x0,x0']:List Int),()));
          Tr.test (Option.isSome (f86 (r1.1,((2:Int),()))))
            (let r2:=g92 (x0'',(([x0,x0']:List Int),()));
            Tr.test (Option.isSome (f86 ((!eqF r2.1 1:Bool),((3:Int),()))))
              (let r4:=g86 ((!eqF r2.1 1:Bool),((3:Int),()));
              let r6:=g86 (r1.1,((2:Int),()));
              Tr.test (Option.isSome (f88 (([r6.1,r4.1]:List Int),())))
                (let r7:=g88 (([r6.1,r4.1]:List Int),());
                Tr.fin ((r7.1,())))
                (Tr.stop))
              (Tr.stop))
            (Tr.stop))
          (Tr.stop))
        (Tr.stop)))
    (Tr.stop)

def f89 (d:Tys.data as89):Option (Tys.data rs89):=(t89 d.1.1 d.1.2.1 d.1.2.2.1).val
def g89 (d:Tys.data as89):Tys.data rs89:=(f89 d).getD (Tys.dflt rs89)
def p89:PureC:=pcOf as89 rs89 f89 g89

theorem wk89 (x0:Int) (x0':Int) (x0'':Int):Walks (runPure (kf76 Go.Proofs.Try.prog).orc Go.Proofs.Try.prog 400 89 as89 rs89 ((x0,x0',x0'',()),())) (t89 x0 x0' x0'') [([true,true,true,true,true,true],[2,1,4,6,8,1,10,10,10,10,10,10,10,12,1]),([true,false,true,true,true,true,true],[2,1,4,6,8,1,12,10,1,12,12,12,12,12,12,14,1])] :=
  ⟨by kernel_rfl,by kernel_rfl,trivial⟩

theorem ok89_t (x0:Int) (x0':Int) (x0'':Int):TrOk (PureRuns Go.Proofs.Try.prog (kf76 Go.Proofs.Try.prog).orc 89 as89 rs89 ((x0,x0',x0'',()),())) (t89 x0 x0' x0'') :=
  Walks.ok (fun _ _ _=>PureRuns.of) (wk89 x0 x0' x0'') (by kernel_rfl)

theorem ok89:PureOk Go.Proofs.Try.prog 89 p89:=pureOk_of kf76_ok.base (T:=fun (d:Tys.data as89)=>t89 d.1.1 d.1.2.1 d.1.2.2.1) (by kernel_rfl) (fun (d:Tys.data as89)=>ok89_t d.1.1 d.1.2.1 d.1.2.2.1)
def kf89 (P:Go.Program):Known:=(kf76 P).func 89 p89
theorem kf89_ok:KnownOk Go.Proofs.Try.prog (kf89 Go.Proofs.Try.prog):=kf76_ok.func ok89

/-! loop 0 of ductility/sensor.checkItems[int] -/

abbrev sh84_0:Sh:={ n:=25,slots:=[1,9,10,11],pats:=[.fn 85 [],.ty (.slice (.int .i64)),.ty (.int .i64),.ty (.int .i64)],boxes:=[] }
abbrev shb84_0:Sh:={ n:=25,slots:=[],pats:=[],boxes:=[] }
abbrev shr84_0:Sh:={ n:=25,slots:=[4,5],pats:=[.ty (.int .i64),.ty (.int .i64)],boxes:=[] }

def t84_0 (x1:(List Int)) (x2:Int) (x3:Int):Tr (Out sh84_0.data shb84_0.data shr84_0.data) :=
  Tr.test ((!leF x2 x3:Bool))
    (Tr.test (decide ((0:Int) ≤ x3) && decide (x3 < (↑(List.length x1):Int)))
      (Tr.test (Option.isSome (f87 ((100000:Int),(([List.getD x1 (Int.toNat x3) (0:Int)]:List Int),()))))
        (let r0:=g87 ((100000:Int),(([List.getD x1 (Int.toNat x3) (0:Int)]:List Int),()));
        Tr.test (Option.isSome (f86 (r0.1,((2:Int),()))))
          (let r1:=g86 (r0.1,((2:Int),()));
          Tr.test ((!eqF r1.1 0:Bool))
            (Tr.fin (.ret ((x3,(r1.1,())),())))
            (Tr.fin (.again ((x1,(x2,((wrap64 (x3 + (1:Int)):Int),()))),()))))
          (Tr.stop))
        (Tr.stop))
      (Tr.stop))
    (Tr.fin (.brk ((),())))

def s84_0 (d:sh84_0.data):Option (Out sh84_0.data shb84_0.data shr84_0.data):=(t84_0 d.1.1 d.1.2.1 d.1.2.2.1).val
def l84_0 (d:sh84_0.data):Option (shb84_0.data ⊕ shr84_0.data):=itr s84_0 rounds d
def b84_0 (d:sh84_0.data):shb84_0.data:=outB shb84_0.dflt (l84_0 d)
def r84_0 (d:sh84_0.data):shr84_0.data:=outR shr84_0.dflt (l84_0 d)
def lc84_0:LoopC:=lcOf sh84_0 shb84_0 shr84_0 l84_0 b84_0 r84_0

theorem wk84_0 (x1:(List Int)) (x2:Int) (x3:Int):Walks (runBody (kf89 Go.Proofs.Try.prog).orc Go.Proofs.Try.prog 400 84 0 sh84_0 shb84_0 shr84_0 ((x1,x2,x3,()),())) (t84_0 x1 x2 x3) [([true,true,true,true,true],[2,4,6,1,8,10]),([true,true,true,true,false],[2,4,6,1,8,10]),([ff],[2])] :=
  ⟨by kernel_rfl,by kernel_rfl,by kernel_rfl,trivial⟩

theorem ok84_0_t (x1:(List Int)) (x2:Int) (x3:Int):TrOk (BodyRuns Go.Proofs.Try.prog (kf89 Go.Proofs.Try.prog).orc 84 0 sh84_0 shb84_0 shr84_0 ((x1,x2,x3,()),())) (t84_0 x1 x2 x3) :=
  Walks.ok (fun _ _ _=>BodyRuns.of) (wk84_0 x1 x2 x3) (by kernel_rfl)

theorem ok84_0:LoopOk Go.Proofs.Try.prog 84 0 lc84_0:=loopOk_of (sh:=sh84_0) (shB:=shb84_0) (shR:=shr84_0) kf89_ok.base (T:=fun (d:sh84_0.data)=>t84_0 d.1.1 d.1.2.1 d.1.2.2.1) (by kernel_rfl) rfl (fun (d:sh84_0.data)=>ok84_0_t d.1.1 d.1.2.1 d.1.2.2.1) (fun _=>rfl)
def kl84_0 (P:Go.Program):Known:=(kf89 P).loop 84 0 lc84_0
theorem kl84_0_ok:KnownOk Go.Proofs.Try.prog (kl84_0 Go.Proofs.Try.prog):=kf89_ok.loop ok84_0

/-! ductility/sensor.CheckRaw -/

abbrev as13:List Ty:=[(.slice (.int .i64))]
abbrev rs13:List Ty:=[(.int .i64),(.int .i64)]

def t13 (x0:(List Int)):Tr (Tys.data rs13) :=
  Tr.test (Option.isSome (f83 ((↑(List.length x0):Int),((60:Int),()))))
    (let r0:=g83 ((↑(List.length x0):Int),((60:Int),()));
    Tr.test ((!eqF r0.1 0:Bool))
      (Tr.fin (((0:Int),(r0.1,()))))
      (Tr.test (Option.isSome (l84_0 ((x0,((↑(List.length x0):Int),((0:Int),()))),())))
        (Tr.test (isRet (l84_0 ((x0,((↑(List.length x0):Int),((0:Int),()))),())))
          (let r1:=r84_0 ((x0,((↑(List.length x0):Int),((0:Int),()))),());
          Tr.fin ((r1.1.1,(r1.1.2.1,()))))
          (Tr.fin (((0:Int),((0:Int),())))))
        (Tr.stop)))
    (Tr.stop)

def f13 (d:Tys.data as13):Option (Tys.data rs13):=(t13 d.1).val
def g13 (d:Tys.data as13):Tys.data rs13:=(f13 d).getD (Tys.dflt rs13)
def p13:PureC:=pcOf as13 rs13 f13 g13

theorem wk13 (x0:(List Int)):Walks (runPure (kl84_0 Go.Proofs.Try.prog).orc Go.Proofs.Try.prog 400 13 as13 rs13 (x0,())) (t13 x0) [([true,true],[2,4]),([true,false,true,true],[2,4,6,8]),([true,false,true,false],[2,4,6,8])] :=
  ⟨by kernel_rfl,by kernel_rfl,by kernel_rfl,trivial⟩

theorem ok13_t (x0:(List Int)):TrOk (PureRuns Go.Proofs.Try.prog (kl84_0 Go.Proofs.Try.prog).orc 13 as13 rs13 (x0,())) (t13 x0) :=
  Walks.ok (fun _ _ _=>PureRuns.of) (wk13 x0) (by kernel_rfl)

theorem ok13:PureOk Go.Proofs.Try.prog 13 p13:=pureOk_of kl84_0_ok.base (T:=fun (d:Tys.data as13)=>t13 d.1) (by kernel_rfl) (fun (d:Tys.data as13)=>ok13_t d.1)
def kf13 (P:Go.Program):Known:=(kl84_0 P).func 13 p13
theorem kf13_ok:KnownOk Go.Proofs.Try.prog (kf13 Go.Proofs.Try.prog):=kl84_0_ok.func ok13

/-! ductility/sensor.rawError -/

abbrev as90:List Ty:=[(.slice (.int .i64))]
abbrev rs90:List Ty:=[(.int .i64)]

def t90 (x0:(List Int)):Tr (Tys.data rs90) :=
  Tr.test (Option.isSome (f13 (x0,())))
    (let r0:=g13 (x0,());
    Tr.fin ((r0.2.1,())))
    (Tr.stop)

def f90 (d:Tys.data as90):Option (Tys.data rs90):=(t90 d.1).val
def g90 (d:Tys.data as90):Tys.data rs90:=(f90 d).getD (Tys.dflt rs90)
def p90:PureC:=pcOf as90 rs90 f90 g90

theorem wk90 (x0:(List Int)):Walks (runPure (kf13 Go.Proofs.Try.prog).orc Go.Proofs.Try.prog 400 90 as90 rs90 (x0,())) (t90 x0) [([tt],[2])] :=
  ⟨by kernel_rfl,trivial⟩

theorem ok90_t (x0:(List Int)):TrOk (PureRuns Go.Proofs.Try.prog (kf13 Go.Proofs.Try.prog).orc 90 as90 rs90 (x0,())) (t90 x0) :=
  Walks.ok (fun _ _ _=>PureRuns.of) (wk90 x0) (by kernel_rfl)

theorem ok90:PureOk Go.Proofs.Try.prog 90 p90:=pureOk_of kf13_ok.base (T:=fun (d:Tys.data as90)=>t90 d.1) (by kernel_rfl) (fun (d:Tys.data as90)=>ok90_t d.1)
def kf90 (P:Go.Program):Known:=(kf13 P).func 90 p90
theorem kf90_ok:KnownOk Go.Proofs.Try.prog (kf90 Go.Proofs.Try.prog):=kf13_ok.func ok90

/-! ductility/sensor.partAt -/

abbrev as91:List Ty:=[(.pair (.int .i64) (.pair (.int .i64) (.pair (.int .i64) .unit))),(.int .i64)]
abbrev rs91:List Ty:=[(.int .i64)]

def t91 (x0:Int) (x0':Int) (x0'':Int) (x1:Int):Tr (Tys.data rs91) :=
  Tr.fin (((wrap64 (wrap64 (x0 * x1) + x0'):Int),()))

def f91 (d:Tys.data as91):Option (Tys.data rs91):=(t91 d.1.1 d.1.2.1 d.1.2.2.1 d.2.1).val
def g91 (d:Tys.data as91):Tys.data rs91:=(f91 d).getD (Tys.dflt rs91)
def p91:PureC:=pcOf as91 rs91 f91 g91

theorem wk91 (x0:Int) (x0':Int) (x0'':Int) (x1:Int):Walks (runPure (kf90 Go.Proofs.Try.prog).orc Go.Proofs.Try.prog 400 91 as91 rs91 ((x0,x0',x0'',()),x1,())) (t91 x0 x0' x0'' x1) [([],[])] :=
  ⟨by kernel_rfl,trivial⟩

theorem ok91_t (x0:Int) (x0':Int) (x0'':Int) (x1:Int):TrOk (PureRuns Go.Proofs.Try.prog (kf90 Go.Proofs.Try.prog).orc 91 as91 rs91 ((x0,x0',x0'',()),x1,())) (t91 x0 x0' x0'' x1) :=
  Walks.ok (fun _ _ _=>PureRuns.of) (wk91 x0 x0' x0'' x1) (by kernel_rfl)

theorem ok91:PureOk Go.Proofs.Try.prog 91 p91:=pureOk_of kf90_ok.base (T:=fun (d:Tys.data as91)=>t91 d.1.1 d.1.2.1 d.1.2.2.1 d.2.1) (by kernel_rfl) (fun (d:Tys.data as91)=>ok91_t d.1.1 d.1.2.1 d.1.2.2.1 d.2.1)
def kf91 (P:Go.Program):Known:=(kf90 P).func 91 p91
theorem kf91_ok:KnownOk Go.Proofs.Try.prog (kf91 Go.Proofs.Try.prog):=kf90_ok.func ok91

/-! ductility/sensor.down -/

abbrev as93:List Ty:=[(.int .i64),(.int .i64)]
abbrev rs93:List Ty:=[(.int .i64)]

def t93 (x0:Int) (x1:Int):Tr (Tys.data rs93) :=
  Tr.test ((x1 == (0:Int):Bool))
    (Tr.stop)
    (Tr.test (!leF (0:Int) (Int.tmod x0 x1))
      (Tr.fin (((wrap64 (Go.IntKind.wrap Go.IntKind.i64 (Int.tdiv x0 x1) - (1:Int)):Int),())))
      (Tr.fin (((Go.IntKind.wrap Go.IntKind.i64 (Int.tdiv x0 x1):Int),()))))

def f93 (d:Tys.data as93):Option (Tys.data rs93):=(t93 d.1 d.2.1).val
def g93 (d:Tys.data as93):Tys.data rs93:=(f93 d).getD (Tys.dflt rs93)
def p93:PureC:=pcOf as93 rs93 f93 g93

theorem wk93 (x0:Int) (x1:Int):Walks (runPure (kf91 Go.Proofs.Try.prog).orc Go.Proofs.Try.prog 400 93 as93 rs93 (x0,x1,())) (t93 x0 x1) [([false,true],[4,2,4]),([false,false],[4,2,4])] :=
  ⟨by kernel_rfl,by kernel_rfl,trivial⟩

theorem ok93_t (x0:Int) (x1:Int):TrOk (PureRuns Go.Proofs.Try.prog (kf91 Go.Proofs.Try.prog).orc 93 as93 rs93 (x0,x1,())) (t93 x0 x1) :=
  Walks.ok (fun _ _ _=>PureRuns.of) (wk93 x0 x1) (by kernel_rfl)

theorem ok93:PureOk Go.Proofs.Try.prog 93 p93:=pureOk_of kf91_ok.base (T:=fun (d:Tys.data as93)=>t93 d.1 d.2.1) (by kernel_rfl) (fun (d:Tys.data as93)=>ok93_t d.1 d.2.1)
def kf93 (P:Go.Program):Known:=(kf91 P).func 93 p93
theorem kf93_ok:KnownOk Go.Proofs.Try.prog (kf93 Go.Proofs.Try.prog):=kf91_ok.func ok93

/-! ductility/sensor.up -/

abbrev as94:List Ty:=[(.int .i64),(.int .i64)]
abbrev rs94:List Ty:=[(.int .i64)]

def t94 (x0:Int) (x1:Int):Tr (Tys.data rs94) :=
  Tr.test (Option.isSome (f93 ((Go.IntKind.wrap Go.IntKind.i64 ((0:Int) - x0):Int),(x1,()))))
    (let r0:=g93 ((Go.IntKind.wrap Go.IntKind.i64 ((0:Int) - x0):Int),(x1,()));
    Tr.fin (((Go.IntKind.wrap Go.IntKind.i64 ((0:Int) - r0.1):Int),())))
    (Tr.stop)

def f94 (d:Tys.data as94):Option (Tys.data rs94):=(t94 d.1 d.2.1).val
def g94 (d:Tys.data as94):Tys.data rs94:=(f94 d).getD (Tys.dflt rs94)
def p94:PureC:=pcOf as94 rs94 f94 g94

theorem wk94 (x0:Int) (x1:Int):Walks (runPure (kf93 Go.Proofs.Try.prog).orc Go.Proofs.Try.prog 400 94 as94 rs94 (x0,x1,())) (t94 x0 x1) [([tt],[2])] :=
  ⟨by kernel_rfl,trivial⟩

theorem ok94_t (x0:Int) (x1:Int):TrOk (PureRuns Go.Proofs.Try.prog (kf93 Go.Proofs.Try.prog).orc 94 as94 rs94 (x0,x1,())) (t94 x0 x1) :=
  Walks.ok (fun _ _ _=>PureRuns.of) (wk94 x0 x1) (by kernel_rfl)

theorem ok94:PureOk Go.Proofs.Try.prog 94 p94:=pureOk_of kf93_ok.base (T:=fun (d:Tys.data as94)=>t94 d.1 d.2.1) (by kernel_rfl) (fun (d:Tys.data as94)=>ok94_t d.1 d.2.1)
def kf94 (P:Go.Program):Known:=(kf93 P).func 94 p94
theorem kf94_ok:KnownOk Go.Proofs.Try.prog (kf94 Go.Proofs.Try.prog):=kf93_ok.func ok94

/-! loop 0 of ductility/sensor.RangesIn -/

abbrev sh16_0:Sh:={ n:=57,slots:=[2,7,24,25,26],pats:=[.ptr 0 3 0,.sli 1 2,.ty (.slice (.int .i64)),.ty (.int .i64),.ty (.int .i64)],boxes:=[.row [.ty (.int .i64),.ty (.int .i64),.ty (.int .i64)],.arr (.pair (.int .i64) (.pair (.int .i64) .unit))] }
abbrev shb16_0:Sh:={ n:=57,slots:=[7],pats:=[.sli 1 2],boxes:=[.row [.ty (.int .i64),.ty (.int .i64),.ty (.int .i64)],.arr (.pair (.int .i64) (.pair (.int .i64) .unit))] }
abbrev shr16_0:Sh:={ n:=57,slots:=[],pats:=[],boxes:=[.row [.ty (.int .i64),.ty (.int .i64),.ty (.int .i64)],.arr (.pair (.int .i64) (.pair (.int .i64) .unit))] }

def t16_0 (x1n:Nat) (x1c:Nat) (x2:(List Int)) (x3:Int) (x4:Int) (b0_0:Int) (b0_1:Int) (b0_2:Int) (b1:(List (Int×(Int×Unit)))):Tr (Out sh16_0.data shb16_0.data shr16_0.data) :=
  Tr.test ((!leF x3 x4:Bool))
    (Tr.test (decide ((0:Int) ≤ x4) && decide (x4 < (↑(List.length x2):Int)))
      (Tr.test (Option.isSome (f91 ((b0_0,(b0_1,(b0_2,()))),((wrap64 (List.getD x2 (Int.toNat x4) (0:Int) - (1:Int)):Int),()))))
        (Tr.test (Option.isSome (f91 ((b0_0,(b0_1,(b0_2,()))),((wrap64 (List.getD x2 (Int.toNat x4) (0:Int) + (1:Int)):Int),()))))
          (let r0:=g91 ((b0_0,(b0_1,(b0_2,()))),((wrap64 (List.getD x2 (Int.toNat x4) (0:Int) - (1:Int)):Int),()));
          let r1:=g91 ((b0_0,(b0_1,(b0_2,()))),((wrap64 (List.getD x2 (Int.toNat x4) (0:Int) + (1:Int)):Int),()));
          Tr.test (Option.isSome (f93 ((if r1.1 < r0.1 then r1.1 else r0.1:Int),(b0_2,()))))
            (Tr.test (Option.isSome (f94 ((if r0.1 < r1.1 then r1.1 else r0.1:Int),(b0_2,()))))
              (Tr.test ((decide ((0:Int) ≤ x4) && decide (x4 < (↑x1n:Int)):Bool))
                (Tr.test ((Nat.ble ((0:Nat) + Int.toNat x4 + (1:Nat)) (List.length b1):Bool))
                  (let r2:=g93 ((if r1.1 < r0.1 then r1.1 else r0.1:Int),(b0_2,()));
                  let r3:=g94 ((if r0.1 < r1.1 then r1.1 else r0.1:Int),(b0_2,()));
                  Tr.fin (.again (((x1n,x1c),(x2,(x3,((wrap64 (x4 + (1:Int)):Int),())))),((b0_0,(b0_1,(b0_2,()))),((List.set b1 ((0:Nat) + Int.toNat x4) (r2.1,r3.1,()):List (Int×Int×PUnit)),())))))
                  (Tr.stop))
                (Tr.stop))
              (Tr.stop))
            (Tr.stop))
          (Tr.stop))
        (Tr.stop))
      (Tr.stop))
    (Tr.fin (.brk (((x1n,x1c),()),((b0_0,(b0_1,(b0_2,()))),(b1,())))))

def s16_0 (d:sh16_0.data):Option (Out sh16_0.data shb16_0.data shr16_0.data):=(t16_0 d.1.1.1 d.1.1.2 d.1.2.1 d.1.2.2.1 d.1.2.2.2.1 d.2.1.1 d.2.1.2.1 d.2.1.2.2.1 d.2.2.1).val
def l16_0 (d:sh16_0.data):Option (shb16_0.data ⊕ shr16_0.data):=itr s16_0 rounds d
def b16_0 (d:sh16_0.data):shb16_0.data:=outB shb16_0.dflt (l16_0 d)
def lc16_0:LoopC:=lcB sh16_0 shb16_0 shr16_0 l16_0 b16_0

theorem wk16_0 (x1n:Nat) (x1c:Nat) (x2:(List Int)) (x3:Int) (x4:Int) (b0_0:Int) (b0_1:Int) (b0_2:Int) (b1:(List (Int×(Int×Unit)))):Walks (runBody (kf94 Go.Proofs.Try.prog).orc Go.Proofs.Try.prog 400 16 0 sh16_0 shb16_0 shr16_0 (((x1n,x1c),x2,x3,x4,()),(b0_0,b0_1,b0_2,()),b1,())) (t16_0 x1n x1c x2 x3 x4 b0_0 b0_1 b0_2 b1) [([true,true,true,true,true,true,true,true],[2,4,6,8,10,12,14,16]),([ff],[2])] :=
  ⟨by kernel_rfl,by kernel_rfl,trivial⟩

theorem ok16_0_t (x1n:Nat) (x1c:Nat) (x2:(List Int)) (x3:Int) (x4:Int) (b0_0:Int) (b0_1:Int) (b0_2:Int) (b1:(List (Int×(Int×Unit)))):TrOk (BodyRuns Go.Proofs.Try.prog (kf94 Go.Proofs.Try.prog).orc 16 0 sh16_0 shb16_0 shr16_0 (((x1n,x1c),x2,x3,x4,()),(b0_0,b0_1,b0_2,()),b1,())) (t16_0 x1n x1c x2 x3 x4 b0_0 b0_1 b0_2 b1) :=
  Walks.ok (fun _ _ _=>BodyRuns.of) (wk16_0 x1n x1c x2 x3 x4 b0_0 b0_1 b0_2 b1) (by kernel_rfl)

theorem ok16_0:LoopOk Go.Proofs.Try.prog 16 0 lc16_0:=loopOk_ofB (sh:=sh16_0) (shB:=shb16_0) (shR:=shr16_0) kf94_ok.base (T:=fun (d:sh16_0.data)=>t16_0 d.1.1.1 d.1.1.2 d.1.2.1 d.1.2.2.1 d.1.2.2.2.1 d.2.1.1 d.2.1.2.1 d.2.1.2.2.1 d.2.2.1) (by kernel_rfl) rfl (fun (d:sh16_0.data)=>ok16_0_t d.1.1.1 d.1.1.2 d.1.2.1 d.1.2.2.1 d.1.2.2.2.1 d.2.1.1 d.2.1.2.1 d.2.1.2.2.1 d.2.2.1) (fun _=>rfl)
def kl16_0 (P:Go.Program):Known:=(kf94 P).loop 16 0 lc16_0
theorem kl16_0_ok:KnownOk Go.Proofs.Try.prog (kl16_0 Go.Proofs.Try.prog):=kf94_ok.loop ok16_0

/-! ductility/sensor.RangesIn -/

abbrev as16:List Ty:=[(.pair (.int .i64) (.pair (.int .i64) (.pair (.int .i64) .unit))),(.slice (.int .i64))]
abbrev rs16:List Ty:=[(.slice (.pair (.int .i64) (.pair (.int .i64) .unit))),(.int .i64)]

def t16 (x0:Int) (x0':Int) (x0'':Int) (x1:(List Int)):Tr (Tys.data rs16) :=
  Tr.test (Option.isSome (f89 ((x0,(x0',(x0'',()))),())))
    (Tr.test (Option.isSome (f90 (x1,())))
      (let r0:=g89 ((x0,(x0',(x0'',()))),());
      let r1:=g90 (x1,());
      Tr.test (Option.isSome (f88 (([r0.1,r1.1]:List Int),())))
        (let r2:=g88 (([r0.1,r1.1]:List Int),());
        Tr.test ((!eqF r2.1 0:Bool))
          (Tr.fin ((([]:List (Int×Int×PUnit)),(r2.1,()))))
          (Tr.test ((decide ((0:Int) ≤ (↑(List.length x1):Int)) && decide ((↑(List.length x1):Int) ≤ (↑(List.length x1):Int)) && decide ((16:Int) * (↑(List.length x1):Int) ≤ (281474976710656:Int)) && decide ((↑(List.length x1):Int) ≤ (281474976710656:Int)):Bool))
            (Tr.test (isBrk (l16_0 ((((Int.toNat (↑(List.length x1):Int):Nat),(Int.toNat (↑(List.length x1):Int):Nat)),(x1,((↑(List.length x1):Int),((0:Int),())))),((x0,(x0',(x0'',()))),((List.replicate (Int.toNat (↑(List.length x1):Int)) ((0:Int),(0:Int),()):List (Int×Int×PUnit)),())))))
              (let r3:=b16_0 ((((Int.toNat (↑(List.length x1):Int):Nat),(Int.toNat (↑(List.length x1):Int):Nat)),(x1,((↑(List.length x1):Int),((0:Int),())))),((x0,(x0',(x0'',()))),((List.replicate (Int.toNat (↑(List.length x1):Int)) ((0:Int),(0:Int),()):List (Int×Int×PUnit)),())));
              Tr.test ((Nat.beq r3.1.1.1 (List.length r3.2.2.1):Bool))
                (Tr.fin ((r3.2.2.1,((0:Int),()))))
                (Tr.test ((Nat.ble r3.1.1.1 (List.length r3.2.2.1):Bool))
                  (Tr.fin (((List.take r3.1.1.1 r3.2.2.1:List (Int×Int×PUnit)),((0:Int),()))))
                  (Tr.stop)))
              (Tr.stop))
            (Tr.stop)))
        (Tr.stop))
      (Tr.stop))
    (Tr.stop)

def f16 (d:Tys.data as16):Option (Tys.data rs16):=(t16 d.1.1 d.1.2.1 d.1.2.2.1 d.2.1).val
def g16 (d:Tys.data as16):Tys.data rs16:=(f16 d).getD (Tys.dflt rs16)
def p16:PureC:=pcOf as16 rs16 f16 g16

theorem wk16 (x0:Int) (x0':Int) (x0'':Int) (x1:(List Int)):Walks (runPure (kl16_0 Go.Proofs.Try.prog).orc Go.Proofs.Try.prog 400 16 as16 rs16 ((x0,x0',x0'',()),x1,())) (t16 x0 x0' x0'' x1) [([true,true,true,true],[2,4,1,6,8]),([true,true,true,false,true,true,true],[2,1,4,6,8,10,1,12,14]),([true,true,true,false,true,true,false,true],[2,4,1,6,8,10,12,1,14,16])] :=
  ⟨by kernel_rfl,by kernel_rfl,by kernel_rfl,trivial⟩

theorem ok16_t (x0:Int) (x0':Int) (x0'':Int) (x1:(List Int)):TrOk (PureRuns Go.Proofs.Try.prog (kl16_0 Go.Proofs.Try.prog).orc 16 as16 rs16 ((x0,x0',x0'',()),x1,())) (t16 x0 x0' x0'' x1) :=
  Walks.ok (fun _ _ _=>PureRuns.of) (wk16 x0 x0' x0'' x1) (by kernel_rfl)

theorem ok16:PureOk Go.Proofs.Try.prog 16 p16:=pureOk_of kl16_0_ok.base (T:=fun (d:Tys.data as16)=>t16 d.1.1 d.1.2.1 d.1.2.2.1 d.2.1) (by kernel_rfl) (fun (d:Tys.data as16)=>ok16_t d.1.1 d.1.2.1 d.1.2.2.1 d.2.1)
def kf16 (P:Go.Program):Known:=(kl16_0 P).func 16 p16
theorem kf16_ok:KnownOk Go.Proofs.Try.prog (kf16 Go.Proofs.Try.prog):=kl16_0_ok.func ok16

/-! ductility/sensor.bothError -/

abbrev as105:List Ty:=[(.slice (.int .i64)),(.slice (.int .i64))]
abbrev rs105:List Ty:=[(.int .i64)]

def t105 (x0:(List Int)) (x1:(List Int)):Tr (Tys.data rs105) :=
  Tr.test (Option.isSome (f90 (x0,())))
    (Tr.test (Option.isSome (f90 (x1,())))
      (Tr.test (Option.isSome (f86 ((!eqF (↑(List.length x0):Int) (↑(List.length x1):Int):Bool),((13:Int),()))))
        (let r0:=g90 (x0,());
        let r1:=g90 (x1,());
        let r2:=g86 ((!eqF (↑(List.length x0):Int) (↑(List.length x1):Int):Bool),((13:Int),()));
        Tr.test (Option.isSome (f88 (([r0.1,r1.1,r2.1]:List Int),())))
          (let r3:=g88 (([r0.1,r1.1,r2.1]:List Int),());
          Tr.fin ((r3.1,())))
          (Tr.stop))
        (Tr.stop))
      (Tr.stop))
    (Tr.stop)

def f105 (d:Tys.data as105):Option (Tys.data rs105):=(t105 d.1 d.2.1).val
def g105 (d:Tys.data as105):Tys.data rs105:=(f105 d).getD (Tys.dflt rs105)
def p105:PureC:=pcOf as105 rs105 f105 g105

theorem wk105 (x0:(List Int)) (x1:(List Int)):Walks (runPure (kf16 Go.Proofs.Try.prog).orc Go.Proofs.Try.prog 400 105 as105 rs105 (x0,x1,())) (t105 x0 x1) [([true,true,true,true],[2,1,4,6,8])] :=
  ⟨by kernel_rfl,trivial⟩

theorem ok105_t (x0:(List Int)) (x1:(List Int)):TrOk (PureRuns Go.Proofs.Try.prog (kf16 Go.Proofs.Try.prog).orc 105 as105 rs105 (x0,x1,())) (t105 x0 x1) :=
  Walks.ok (fun _ _ _=>PureRuns.of) (wk105 x0 x1) (by kernel_rfl)

theorem ok105:PureOk Go.Proofs.Try.prog 105 p105:=pureOk_of kf16_ok.base (T:=fun (d:Tys.data as105)=>t105 d.1 d.2.1) (by kernel_rfl) (fun (d:Tys.data as105)=>ok105_t d.1 d.2.1)
def kf105 (P:Go.Program):Known:=(kf16 P).func 105 p105
theorem kf105_ok:KnownOk Go.Proofs.Try.prog (kf105 Go.Proofs.Try.prog):=kf16_ok.func ok105

/-! loop 0 of ductility/sensor.sumAt -/

abbrev sh106_0:Sh:={ n:=37,slots:=[1,2,7,10,11,12],pats:=[.ty (.slice (.int .i64)),.ty (.int .i64),.ty (.int .i64),.ty (.slice (.int .i64)),.ty (.int .i64),.ty (.int .i64)],boxes:=[] }
abbrev shb106_0:Sh:={ n:=37,slots:=[7],pats:=[.ty (.int .i64)],boxes:=[] }
abbrev shr106_0:Sh:={ n:=37,slots:=[],pats:=[],boxes:=[] }

def t106_0 (x0:(List Int)) (x1:Int) (x2:Int) (x3:(List Int)) (x4:Int) (x5:Int):Tr (Out sh106_0.data shb106_0.data shr106_0.data) :=
  Tr.test ((!leF x4 x5:Bool))
    (Tr.test (decide ((0:Int) ≤ x5) && decide (x5 < (↑(List.length x3):Int)))
      (Tr.test (Option.isSome (f100 ((0:Int),((wrap64 ((↑(List.length x0):Int) - (1:Int)):Int),(([wrap64 (x5 + x1)]:List Int),())))))
        (let r0:=g100 ((0:Int),((wrap64 ((↑(List.length x0):Int) - (1:Int)):Int),(([wrap64 (x5 + x1)]:List Int),())));
        Tr.test (r0.1)
          (Tr.test ((decide ((0:Int) ≤ wrap64 (x5 + x1)) && decide (wrap64 (x5 + x1) < (↑(List.length x0):Int)):Bool))
            (Tr.fin (.again ((x0,(x1,((wrap64 (x2 + wrap64 (List.getD x3 (Int.toNat x5) (0:Int) * List.getD x0 (Int.toNat (wrap64 (x5 + x1))) (0:Int))):Int),(x3,(x4,((wrap64 (x5 + (1:Int)):Int),())))))),())))
            (Tr.stop))
          (Tr.fin (.again ((x0,(x1,(x2,(x3,(x4,((wrap64 (x5 + (1:Int)):Int),())))))),()))))
        (Tr.stop))
      (Tr.stop))
    (Tr.fin (.brk ((x2,()),())))

def s106_0 (d:sh106_0.data):Option (Out sh106_0.data shb106_0.data shr106_0.data):=(t106_0 d.1.1 d.1.2.1 d.1.2.2.1 d.1.2.2.2.1 d.1.2.2.2.2.1 d.1.2.2.2.2.2.1).val
def l106_0 (d:sh106_0.data):Option (shb106_0.data ⊕ shr106_0.data):=itr s106_0 rounds d
def b106_0 (d:sh106_0.data):shb106_0.data:=outB shb106_0.dflt (l106_0 d)
def lc106_0:LoopC:=lcB sh106_0 shb106_0 shr106_0 l106_0 b106_0

theorem wk106_0 (x0:(List Int)) (x1:Int) (x2:Int) (x3:(List Int)) (x4:Int) (x5:Int):Walks (runBody (kf105 Go.Proofs.Try.prog).orc Go.Proofs.Try.prog 400 106 0 sh106_0 shb106_0 shr106_0 ((x0,x1,x2,x3,x4,x5,()),())) (t106_0 x0 x1 x2 x3 x4 x5) [([true,true,true,true,true],[2,4,6,1,8,10]),([true,true,true,false],[2,4,1,6,8]),([ff],[2])] :=
  ⟨by kernel_rfl,by kernel_rfl,by kernel_rfl,trivial⟩

theorem ok106_0_t (x0:(List Int)) (x1:Int) (x2:Int) (x3:(List Int)) (x4:Int) (x5:Int):TrOk (BodyRuns Go.Proofs.Try.prog (kf105 Go.Proofs.Try.prog).orc 106 0 sh106_0 shb106_0 shr106_0 ((x0,x1,x2,x3,x4,x5,()),())) (t106_0 x0 x1 x2 x3 x4 x5) :=
  Walks.ok (fun _ _ _=>BodyRuns.of) (wk106_0 x0 x1 x2 x3 x4 x5) (by kernel_rfl)

theorem ok106_0:LoopOk Go.Proofs.Try.prog 106 0 lc106_0:=loopOk_ofB (sh:=sh106_0) (shB:=shb106_0) (shR:=shr106_0) kf105_ok.base (T:=fun (d:sh106_0.data)=>t106_0 d.1.1 d.1.2.1 d.1.2.2.1 d.1.2.2.2.1 d.1.2.2.2.2.1 d.1.2.2.2.2.2.1) (by kernel_rfl) rfl (fun (d:sh106_0.data)=>ok106_0_t d.1.1 d.1.2.1 d.1.2.2.1 d.1.2.2.2.1 d.1.2.2.2.2.1 d.1.2.2.2.2.2.1) (fun _=>rfl)
def kl106_0 (P:Go.Program):Known:=(kf105 P).loop 106 0 lc106_0
theorem kl106_0_ok:KnownOk Go.Proofs.Try.prog (kl106_0 Go.Proofs.Try.prog):=kf105_ok.loop ok106_0

/-! ductility/sensor.sumAt -/

abbrev as106:List Ty:=[(.slice (.int .i64)),(.slice (.int .i64)),(.int .i64)]
abbrev rs106:List Ty:=[(.int .i64)]

def t106 (x0:(List Int)) (x1:(List Int)) (x2:Int):Tr (Tys.data rs106) :=
  Tr.test (isBrk (l106_0 ((x1,(x2,((0:Int),(x0,((↑(List.length x0):Int),((0:Int),())))))),())))
    (let r0:=b106_0 ((x1,(x2,((0:Int),(x0,((↑(List.length x0):Int),((0:Int),())))))),());
    Tr.fin ((r0.1.1,())))
    (Tr.stop)

def f106 (d:Tys.data as106):Option (Tys.data rs106):=(t106 d.1 d.2.1 d.2.2.1).val
def g106 (d:Tys.data as106):Tys.data rs106:=(f106 d).getD (Tys.dflt rs106)
def p106:PureC:=pcOf as106 rs106 f106 g106

theorem wk106 (x0:(List Int)) (x1:(List Int)) (x2:Int):Walks (runPure (kl106_0 Go.Proofs.Try.prog).orc Go.Proofs.Try.prog 400 106 as106 rs106 (x0,x1,x2,())) (t106 x0 x1 x2) [([tt],[1,2])] :=
  ⟨by kernel_rfl,trivial⟩

theorem ok106_t (x0:(List Int)) (x1:(List Int)) (x2:Int):TrOk (PureRuns Go.Proofs.Try.prog (kl106_0 Go.Proofs.Try.prog).orc 106 as106 rs106 (x0,x1,x2,())) (t106 x0 x1 x2) :=
  Walks.ok (fun _ _ _=>PureRuns.of) (wk106 x0 x1 x2) (by kernel_rfl)

theorem ok106:PureOk Go.Proofs.Try.prog 106 p106:=pureOk_of kl106_0_ok.base (T:=fun (d:Tys.data as106)=>t106 d.1 d.2.1 d.2.2.1) (by kernel_rfl) (fun (d:Tys.data as106)=>ok106_t d.1 d.2.1 d.2.2.1)
def kf106 (P:Go.Program):Known:=(kl106_0 P).func 106 p106
theorem kf106_ok:KnownOk Go.Proofs.Try.prog (kf106 Go.Proofs.Try.prog):=kl106_0_ok.func ok106

/-! loop 2 of ductility/sensor.ShiftOf -/

abbrev sh31_2:Sh:={ n:=58,slots:=[0,1,2,10,11,12,41,42,43],pats:=[.ty (.slice (.int .i64)),.ty (.slice (.int .i64)),.ty (.int .i64),.ty (.int .i64),.ty (.int .i64),.ty (.int .i64),.sli 0 1,.ty (.int .i64),.ty (.int .i64)],boxes:=[.arr (.int .i64)] }
abbrev shb31_2:Sh:={ n:=58,slots:=[0,1,2,10,11,12],pats:=[.ty (.slice (.int .i64)),.ty (.slice (.int .i64)),.ty (.int .i64),.ty (.int .i64),.ty (.int .i64),.ty (.int .i64)],boxes:=[.arr (.int .i64)] }
abbrev shr31_2:Sh:={ n:=58,slots:=[],pats:=[],boxes:=[.arr (.int .i64)] }

def t31_2 (x0:(List Int)) (x1:(List Int)) (x2:Int) (x3:Int) (x4:Int) (x5:Int) (x6n:Nat) (x6c:Nat) (x7:Int) (x8:Int) (b0:(List Int)):Tr (Out sh31_2.data shb31_2.data shr31_2.data) :=
  Tr.test ((!leF x7 x8:Bool))
    (Tr.test (decide ((0:Int) ≤ x8) && decide (x8 < (↑x6n:Int)))
      (Tr.test ((Nat.ble ((0:Nat) + Int.toNat x8 + (1:Nat)) (List.length b0):Bool))
        (Tr.test (Option.isSome (f106 (x0,(x1,((List.getD b0 ((0:Nat) + Int.toNat x8) (0:Int):Int),())))))
          (let r0:=g106 (x0,(x1,((List.getD b0 ((0:Nat) + Int.toNat x8) (0:Int):Int),())));
          Tr.test ((!leF r0.1 x4:Bool))
            (Tr.fin (.again ((x0,(x1,(x2,((List.getD b0 ((0:Nat) + Int.toNat x8) (0:Int):Int),(r0.1,(x5,((x6n,x6c),(x7,((wrap64 (x8 + (1:Int)):Int),()))))))))),(b0,()))))
            (Tr.fin (.again ((x0,(x1,(x2,(x3,(x4,(x5,((x6n,x6c),(x7,((wrap64 (x8 + (1:Int)):Int),()))))))))),(b0,())))))
          (Tr.stop))
        (Tr.stop))
      (Tr.stop))
    (Tr.fin (.brk ((x0,(x1,(x2,(x3,(x4,(x5,())))))),(b0,()))))

def s31_2 (d:sh31_2.data):Option (Out sh31_2.data shb31_2.data shr31_2.data):=(t31_2 d.1.1 d.1.2.1 d.1.2.2.1 d.1.2.2.2.1 d.1.2.2.2.2.1 d.1.2.2.2.2.2.1 d.1.2.2.2.2.2.2.1.1 d.1.2.2.2.2.2.2.1.2 d.1.2.2.2.2.2.2.2.1 d.1.2.2.2.2.2.2.2.2.1 d.2.1).val
def l31_2 (d:sh31_2.data):Option (shb31_2.data ⊕ shr31_2.data):=itr s31_2 rounds d
def b31_2 (d:sh31_2.data):shb31_2.data:=outB shb31_2.dflt (l31_2 d)
def lc31_2:LoopC:=lcB sh31_2 shb31_2 shr31_2 l31_2 b31_2

theorem wk31_2 (x0:(List Int)) (x1:(List Int)) (x2:Int) (x3:Int) (x4:Int) (x5:Int) (x6n:Nat) (x6c:Nat) (x7:Int) (x8:Int) (b0:(List Int)):Walks (runBody (kf106 Go.Proofs.Try.prog).orc Go.Proofs.Try.prog 400 31 2 sh31_2 shb31_2 shr31_2 ((x0,x1,x2,x3,x4,x5,(x6n,x6c),x7,x8,()),b0,())) (t31_2 x0 x1 x2 x3 x4 x5 x6n x6c x7 x8 b0) [([true,true,true,true,true],[2,4,6,8,10]),([true,true,true,true,false],[2,4,6,8,10]),([ff],[2])] :=
  ⟨by kernel_rfl,by kernel_rfl,by kernel_rfl,trivial⟩

theorem ok31_2_t (x0:(List Int)) (x1:(List Int)) (x2:Int) (x3:Int) (x4:Int) (x5:Int) (x6n:Nat) (x6c:Nat) (x7:Int) (x8:Int) (b0:(List Int)):TrOk (BodyRuns Go.Proofs.Try.prog (kf106 Go.Proofs.Try.prog).orc 31 2 sh31_2 shb31_2 shr31_2 ((x0,x1,x2,x3,x4,x5,(x6n,x6c),x7,x8,()),b0,())) (t31_2 x0 x1 x2 x3 x4 x5 x6n x6c x7 x8 b0) :=
  Walks.ok (fun _ _ _=>BodyRuns.of) (wk31_2 x0 x1 x2 x3 x4 x5 x6n x6c x7 x8 b0) (by kernel_rfl)

theorem ok31_2:LoopOk Go.Proofs.Try.prog 31 2 lc31_2:=loopOk_ofB (sh:=sh31_2) (shB:=shb31_2) (shR:=shr31_2) kf106_ok.base (T:=fun (d:sh31_2.data)=>t31_2 d.1.1 d.1.2.1 d.1.2.2.1 d.1.2.2.2.1 d.1.2.2.2.2.1 d.1.2.2.2.2.2.1 d.1.2.2.2.2.2.2.1.1 d.1.2.2.2.2.2.2.1.2 d.1.2.2.2.2.2.2.2.1 d.1.2.2.2.2.2.2.2.2.1 d.2.1) (by kernel_rfl) rfl (fun (d:sh31_2.data)=>ok31_2_t d.1.1 d.1.2.1 d.1.2.2.1 d.1.2.2.2.1 d.1.2.2.2.2.1 d.1.2.2.2.2.2.1 d.1.2.2.2.2.2.2.1.1 d.1.2.2.2.2.2.2.1.2 d.1.2.2.2.2.2.2.2.1 d.1.2.2.2.2.2.2.2.2.1 d.2.1) (fun _=>rfl)
def kl31_2 (P:Go.Program):Known:=(kf106 P).loop 31 2 lc31_2
theorem kl31_2_ok:KnownOk Go.Proofs.Try.prog (kl31_2 Go.Proofs.Try.prog):=kf106_ok.loop ok31_2

/-! loop 0 of ductility/sensor.ShiftOf -/

abbrev sh31_0:Sh:={ n:=58,slots:=[0,1,2,10,11,12],pats:=[.ty (.slice (.int .i64)),.ty (.slice (.int .i64)),.ty (.int .i64),.ty (.int .i64),.ty (.int .i64),.ty (.int .i64)],boxes:=[] }
abbrev shb31_0:Sh:={ n:=58,slots:=[10],pats:=[.ty (.int .i64)],boxes:=[] }
abbrev shr31_0:Sh:={ n:=58,slots:=[],pats:=[],boxes:=[] }

def t31_0 (x0:(List Int)) (x1:(List Int)) (x2:Int) (x3:Int) (x4:Int) (x5:Int):Tr (Out sh31_0.data shb31_0.data shr31_0.data) :=
  Tr.test ((leF x5 x2:Bool))
    (Tr.test (isBrk (l31_2 ((x0,(x1,(x2,(x3,(x4,(x5,(((2:Nat),(2:Nat)),((2:Int),((0:Int),()))))))))),(([Go.IntKind.wrap Go.IntKind.i64 ((0:Int) - x5),x5]:List Int),()))))
      (let r0:=b31_2 ((x0,(x1,(x2,(x3,(x4,(x5,(((2:Nat),(2:Nat)),((2:Int),((0:Int),()))))))))),(([Go.IntKind.wrap Go.IntKind.i64 ((0:Int) - x5),x5]:List Int),()));
      Tr.fin (.again ((r0.1.1,(r0.1.2.1,(r0.1.2.2.1,(r0.1.2.2.2.1,(r0.1.2.2.2.2.1,((wrap64 (r0.1.2.2.2.2.2.1 + (1:Int)):Int),())))))),())))
      (Tr.stop))
    (Tr.fin (.brk ((x3,()),())))

def s31_0 (d:sh31_0.data):Option (Out sh31_0.data shb31_0.data shr31_0.data):=(t31_0 d.1.1 d.1.2.1 d.1.2.2.1 d.1.2.2.2.1 d.1.2.2.2.2.1 d.1.2.2.2.2.2.1).val
def l31_0 (d:sh31_0.data):Option (shb31_0.data ⊕ shr31_0.data):=itr s31_0 rounds d
def b31_0 (d:sh31_0.data):shb31_0.data:=outB shb31_0.dflt (l31_0 d)
def lc31_0:LoopC:=lcB sh31_0 shb31_0 shr31_0 l31_0 b31_0

theorem wk31_0 (x0:(List Int)) (x1:(List Int)) (x2:Int) (x3:Int) (x4:Int) (x5:Int):Walks (runBody (kl31_2 Go.Proofs.Try.prog).orc Go.Proofs.Try.prog 400 31 0 sh31_0 shb31_0 shr31_0 ((x0,x1,x2,x3,x4,x5,()),())) (t31_0 x0 x1 x2 x3 x4 x5) [([true,true],[1,2,4]),([ff],[2])] :=
  ⟨by kernel_rfl,by kernel_rfl,trivial⟩

theorem ok31_0_t (x0:(List Int)) (x1:(List Int)) (x2:Int) (x3:Int) (x4:Int) (x5:Int):TrOk (BodyRuns Go.Proofs.Try.prog (kl31_2 Go.Proofs.Try.prog).orc 31 0 sh31_0 shb31_0 shr31_0 ((x0,x1,x2,x3,x4,x5,()),())) (t31_0 x0 x1 x2 x3 x4 x5) :=
  Walks.ok (fun _ _ _=>BodyRuns.of) (wk31_0 x0 x1 x2 x3 x4 x5) (by kernel_rfl)

theorem ok31_0:LoopOk Go.Proofs.Try.prog 31 0 lc31_0:=loopOk_ofB (sh:=sh31_0) (shB:=shb31_0) (shR:=shr31_0) kl31_2_ok.base (T:=fun (d:sh31_0.data)=>t31_0 d.1.1 d.1.2.1 d.1.2.2.1 d.1.2.2.2.1 d.1.2.2.2.2.1 d.1.2.2.2.2.2.1) (by kernel_rfl) rfl (fun (d:sh31_0.data)=>ok31_0_t d.1.1 d.1.2.1 d.1.2.2.1 d.1.2.2.2.1 d.1.2.2.2.2.1 d.1.2.2.2.2.2.1) (fun _=>rfl)
def kl31_0 (P:Go.Program):Known:=(kl31_2 P).loop 31 0 lc31_0
theorem kl31_0_ok:KnownOk Go.Proofs.Try.prog (kl31_0 Go.Proofs.Try.prog):=kl31_2_ok.loop ok31_0

/-! ductility/sensor.ShiftOf -/

abbrev as31:List Ty:=[(.slice (.int .i64)),(.slice (.int .i64)),(.int .i64)]
abbrev rs31:List Ty:=[(.int .i64),(.int .i64)]

def t31 (x0:(List Int)) (x1:(List Int)) (x2:Int):Tr (Tys.data rs31) :=
  Tr.test (Option.isSome (f100 ((0:Int),((20:Int),(([x2]:List Int),())))))
    (Tr.test (Option.isSome (f105 (x0,(x1,()))))
      (let r0:=g100 ((0:Int),((20:Int),(([x2]:List Int),())));
      Tr.test (Option.isSome (f86 ((!r0.1:Bool),((2:Int),()))))
        (let r1:=g105 (x0,(x1,()));
        let r2:=g86 ((!r0.1:Bool),((2:Int),()));
        Tr.test (Option.isSome (f88 (([r1.1,r2.1]:List Int),())))
          (let r3:=g88 (([r1.1,r2.1]:List Int),());
          Tr.test ((!eqF r3.1 0:Bool))
            (Tr.fin (((0:Int),(r3.1,()))))
            (Tr.test (Option.isSome (f106 (x0,(x1,((0:Int),())))))
              (let r4:=g106 (x0,(x1,((0:Int),())));
              Tr.test (isBrk (l31_0 ((x0,(x1,(x2,((0:Int),(r4.1,((1:Int),())))))),())))
                (let r5:=b31_0 ((x0,(x1,(x2,((0:Int),(r4.1,((1:Int),())))))),());
                Tr.fin ((r5.1.1,((0:Int),()))))
                (Tr.stop))
              (Tr.stop)))
          (Tr.stop))
        (Tr.stop))
      (Tr.stop))
    (Tr.stop)

def f31 (d:Tys.data as31):Option (Tys.data rs31):=(t31 d.1 d.2.1 d.2.2.1).val
def g31 (d:Tys.data as31):Tys.data rs31:=(f31 d).getD (Tys.dflt rs31)
def p31:PureC:=pcOf as31 rs31 f31 g31

theorem wk31 (x0:(List Int)) (x1:(List Int)) (x2:Int):Walks (runPure (kl31_0 Go.Proofs.Try.prog).orc Go.Proofs.Try.prog 400 31 as31 rs31 (x0,x1,x2,())) (t31 x0 x1 x2) [([true,true,true,true,true],[2,4,1,6,8,10,1]),([true,true,true,true,false,true,true],[1,2,4,6,8,1,10,12,14,1])] :=
  ⟨by kernel_rfl,by kernel_rfl,trivial⟩

theorem ok31_t (x0:(List Int)) (x1:(List Int)) (x2:Int):TrOk (PureRuns Go.Proofs.Try.prog (kl31_0 Go.Proofs.Try.prog).orc 31 as31 rs31 (x0,x1,x2,())) (t31 x0 x1 x2) :=
  Walks.ok (fun _ _ _=>PureRuns.of) (wk31 x0 x1 x2) (by kernel_rfl)

theorem ok31:PureOk Go.Proofs.Try.prog 31 p31:=pureOk_of kl31_0_ok.base (T:=fun (d:Tys.data as31)=>t31 d.1 d.2.1 d.2.2.1) (by kernel_rfl) (fun (d:Tys.data as31)=>ok31_t d.1 d.2.1 d.2.2.1)
def kf31 (P:Go.Program):Known:=(kl31_0 P).func 31 p31
theorem kf31_ok:KnownOk Go.Proofs.Try.prog (kf31 Go.Proofs.Try.prog):=kl31_0_ok.func ok31

/-! ductility/ductilitylaw07.Truth -/

abbrev as78:List Ty:=[]
abbrev rs78:List Ty:=[(.pair (.slice (.slice (.int .i64))) (.pair (.int .i64) .unit))]

def t78 :Tr (Tys.data rs78) :=
  Tr.fin (((([[(1:Int),(5:Int),(9:Int)],[(2:Int),(-4:Int),(8:Int)]]:List (List Int)),((1:Int),())),()))

def f78 (d:Tys.data as78):Option (Tys.data rs78):=(t78 ).val
def g78 (d:Tys.data as78):Tys.data rs78:=(f78 d).getD (Tys.dflt rs78)
def p78:PureC:=pcOf as78 rs78 f78 g78

theorem wk78 :Walks (runPure (kf31 Go.Proofs.Try.prog).orc Go.Proofs.Try.prog 400 78 as78 rs78 ()) (t78 ) [([],[1,1,1])] :=
  ⟨by kernel_rfl,trivial⟩

theorem ok78_t :TrOk (PureRuns Go.Proofs.Try.prog (kf31 Go.Proofs.Try.prog).orc 78 as78 rs78 ()) (t78 ) :=
  Walks.ok (fun _ _ _=>PureRuns.of) (wk78 ) (by kernel_rfl)

theorem ok78:PureOk Go.Proofs.Try.prog 78 p78:=pureOk_of kf31_ok.base (T:=fun (d:Tys.data as78)=>t78 ) (by kernel_rfl) (fun (d:Tys.data as78)=>ok78_t )
def kf78 (P:Go.Program):Known:=(kf31 P).func 78 p78
theorem kf78_ok:KnownOk Go.Proofs.Try.prog (kf78 Go.Proofs.Try.prog):=kf31_ok.func ok78

/-! ductility/ductilitylaw07.Measured -/

abbrev as79:List Ty:=[]
abbrev rs79:List Ty:=[(.slice (.slice (.int .i64)))]

def t79 :Tr (Tys.data rs79) :=
  Tr.fin ((([[(-2:Int),(4:Int),(-7:Int)],[(1:Int),(4:Int),(9:Int)]]:List (List Int)),()))

def f79 (d:Tys.data as79):Option (Tys.data rs79):=(t79 ).val
def g79 (d:Tys.data as79):Tys.data rs79:=(f79 d).getD (Tys.dflt rs79)
def p79:PureC:=pcOf as79 rs79 f79 g79

theorem wk79 :Walks (runPure (kf78 Go.Proofs.Try.prog).orc Go.Proofs.Try.prog 400 79 as79 rs79 ()) (t79 ) [([],[1,1,1])] :=
  ⟨by kernel_rfl,trivial⟩

theorem ok79_t :TrOk (PureRuns Go.Proofs.Try.prog (kf78 Go.Proofs.Try.prog).orc 79 as79 rs79 ()) (t79 ) :=
  Walks.ok (fun _ _ _=>PureRuns.of) (wk79 ) (by kernel_rfl)

theorem ok79:PureOk Go.Proofs.Try.prog 79 p79:=pureOk_of kf78_ok.base (T:=fun (d:Tys.data as79)=>t79 ) (by kernel_rfl) (fun (d:Tys.data as79)=>ok79_t )
def kf79 (P:Go.Program):Known:=(kf78 P).func 79 p79
theorem kf79_ok:KnownOk Go.Proofs.Try.prog (kf79 Go.Proofs.Try.prog):=kf78_ok.func ok79

/-! ductility/ductilitylaw07.Watchers -/

abbrev as80:List Ty:=[]
abbrev rs80:List Ty:=[(.slice (.slice (.int .i64)))]

def t80 :Tr (Tys.data rs80) :=
  Tr.fin ((([[(1:Int),(8:Int),(9:Int),(9:Int)],[(2:Int),(7:Int),(1:Int),(8:Int)],[(9:Int),(9:Int),(9:Int),(2:Int)]]:List (List Int)),()))

def f80 (d:Tys.data as80):Option (Tys.data rs80):=(t80 ).val
def g80 (d:Tys.data as80):Tys.data rs80:=(f80 d).getD (Tys.dflt rs80)
def p80:PureC:=pcOf as80 rs80 f80 g80

theorem wk80 :Walks (runPure (kf79 Go.Proofs.Try.prog).orc Go.Proofs.Try.prog 400 80 as80 rs80 ()) (t80 ) [([],[1,1,1,1])] :=
  ⟨by kernel_rfl,trivial⟩

theorem ok80_t :TrOk (PureRuns Go.Proofs.Try.prog (kf79 Go.Proofs.Try.prog).orc 80 as80 rs80 ()) (t80 ) :=
  Walks.ok (fun _ _ _=>PureRuns.of) (wk80 ) (by kernel_rfl)

theorem ok80:PureOk Go.Proofs.Try.prog 80 p80:=pureOk_of kf79_ok.base (T:=fun (d:Tys.data as80)=>t80 ) (by kernel_rfl) (fun (d:Tys.data as80)=>ok80_t )
def kf80 (P:Go.Program):Known:=(kf79 P).func 80 p80
theorem kf80_ok:KnownOk Go.Proofs.Try.prog (kf80 Go.Proofs.Try.prog):=kf79_ok.func ok80

/-! ductility/ductilitylaw07.Watch -/

abbrev as81:List Ty:=[]
abbrev rs81:List Ty:=[(.pair (.int .i64) (.pair (.int .i64) (.pair (.int .i64) .unit)))]

def t81 :Tr (Tys.data rs81) :=
  Tr.fin ((((5:Int),((2:Int),((3:Int),()))),()))

def f81 (d:Tys.data as81):Option (Tys.data rs81):=(t81 ).val
def g81 (d:Tys.data as81):Tys.data rs81:=(f81 d).getD (Tys.dflt rs81)
def p81:PureC:=pcOf as81 rs81 f81 g81

theorem wk81 :Walks (runPure (kf80 Go.Proofs.Try.prog).orc Go.Proofs.Try.prog 400 81 as81 rs81 ()) (t81 ) [([],[])] :=
  ⟨by kernel_rfl,trivial⟩

theorem ok81_t :TrOk (PureRuns Go.Proofs.Try.prog (kf80 Go.Proofs.Try.prog).orc 81 as81 rs81 ()) (t81 ) :=
  Walks.ok (fun _ _ _=>PureRuns.of) (wk81 ) (by kernel_rfl)

theorem ok81:PureOk Go.Proofs.Try.prog 81 p81:=pureOk_of kf80_ok.base (T:=fun (d:Tys.data as81)=>t81 ) (by kernel_rfl) (fun (d:Tys.data as81)=>ok81_t )
def kf81 (P:Go.Program):Known:=(kf80 P).func 81 p81
theorem kf81_ok:KnownOk Go.Proofs.Try.prog (kf81 Go.Proofs.Try.prog):=kf80_ok.func ok81

/-! loop 0 of ductility/sensor.checkItems[[]int] -/

abbrev sh136_0:Sh:={ n:=25,slots:=[1,9,10,11],pats:=[.fn 146 [(0,1)],.ty (.slice (.slice (.int .i64))),.ty (.int .i64),.ty (.int .i64)],boxes:=[.row [.ty (.int .i64)]] }
abbrev shb136_0:Sh:={ n:=25,slots:=[],pats:=[],boxes:=[.row [.ty (.int .i64)]] }
abbrev shr136_0:Sh:={ n:=25,slots:=[4,5],pats:=[.ty (.int .i64),.ty (.int .i64)],boxes:=[.row [.ty (.int .i64)]] }

def t136_0 (x1:(List (List Int))) (x2:Int) (x3:Int) (b0_0:Int):Tr (Out sh136_0.data shb136_0.data shr136_0.data) :=
  Tr.test ((!leF x2 x3:Bool))
    (Tr.test (decide ((0:Int) ≤ x3) && decide (x3 < (↑(List.length x1):Int)))
      (Tr.test (Option.isSome (f90 ((List.getD x1 (Int.toNat x3) []:List Int),())))
        (Tr.test (Option.isSome (f86 ((!eqF (↑(List.length (List.getD x1 (Int.toNat x3) [])):Int) b0_0:Bool),((13:Int),()))))
          (let r0:=g90 ((List.getD x1 (Int.toNat x3) []:List Int),());
          let r1:=g86 ((!eqF (↑(List.length (List.getD x1 (Int.toNat x3) [])):Int) b0_0:Bool),((13:Int),()));
          Tr.test (Option.isSome (f88 (([r0.1,r1.1]:List Int),())))
            (let r2:=g88 (([r0.1,r1.1]:List Int),());
            Tr.test ((!eqF r2.1 0:Bool))
              (Tr.fin (.ret ((x3,(r2.1,())),((b0_0,()),()))))
              (Tr.fin (.again ((x1,(x2,((wrap64 (x3 + (1:Int)):Int),()))),((b0_0,()),())))))
            (Tr.stop))
          (Tr.stop))
        (Tr.stop))
      (Tr.stop))
    (Tr.fin (.brk ((),((b0_0,()),()))))

def s136_0 (d:sh136_0.data):Option (Out sh136_0.data shb136_0.data shr136_0.data):=(t136_0 d.1.1 d.1.2.1 d.1.2.2.1 d.2.1.1).val
def l136_0 (d:sh136_0.data):Option (shb136_0.data ⊕ shr136_0.data):=itr s136_0 rounds d
def b136_0 (d:sh136_0.data):shb136_0.data:=outB shb136_0.dflt (l136_0 d)
def r136_0 (d:sh136_0.data):shr136_0.data:=outR shr136_0.dflt (l136_0 d)
def lc136_0:LoopC:=lcOf sh136_0 shb136_0 shr136_0 l136_0 b136_0 r136_0

theorem wk136_0 (x1:(List (List Int))) (x2:Int) (x3:Int) (b0_0:Int):Walks (runBody (kf81 Go.Proofs.Try.prog).orc Go.Proofs.Try.prog 400 136 0 sh136_0 shb136_0 shr136_0 ((x1,x2,x3,()),(b0_0,()),())) (t136_0 x1 x2 x3 b0_0) [([true,true,true,true,true,true],[2,4,1,6,8,10,12]),([true,true,true,true,true,false],[2,4,1,6,8,10,12]),([ff],[2])] :=
  ⟨by kernel_rfl,by kernel_rfl,by kernel_rfl,trivial⟩

theorem ok136_0_t (x1:(List (List Int))) (x2:Int) (x3:Int) (b0_0:Int):TrOk (BodyRuns Go.Proofs.Try.prog (kf81 Go.Proofs.Try.prog).orc 136 0 sh136_0 shb136_0 shr136_0 ((x1,x2,x3,()),(b0_0,()),())) (t136_0 x1 x2 x3 b0_0) :=
  Walks.ok (fun _ _ _=>BodyRuns.of) (wk136_0 x1 x2 x3 b0_0) (by kernel_rfl)

theorem ok136_0:LoopOk Go.Proofs.Try.prog 136 0 lc136_0:=loopOk_of (sh:=sh136_0) (shB:=shb136_0) (shR:=shr136_0) kf81_ok.base (T:=fun (d:sh136_0.data)=>t136_0 d.1.1 d.1.2.1 d.1.2.2.1 d.2.1.1) (by kernel_rfl) rfl (fun (d:sh136_0.data)=>ok136_0_t d.1.1 d.1.2.1 d.1.2.2.1 d.2.1.1) (fun _=>rfl)
def kl136_0 (P:Go.Program):Known:=(kf81 P).loop 136 0 lc136_0
theorem kl136_0_ok:KnownOk Go.Proofs.Try.prog (kl136_0 Go.Proofs.Try.prog):=kf81_ok.loop ok136_0

end Go.Vm.Mo
