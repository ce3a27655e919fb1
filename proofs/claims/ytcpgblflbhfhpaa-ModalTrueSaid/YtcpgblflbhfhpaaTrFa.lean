import Derived.Test.YtcpgblflbhfhpaaA4
import Derived.KernelRfl
import Derived.Test.YtcpgblflbhfhpaaProg
set_option linter.unusedVariables false
set_option linter.unusedSimpArgs false

namespace Go.Vm.Mo
open Go
set_option linter.unusedVariables false

def kn0 (_:Go.Program):Known:=⟨[],[]⟩

abbrev tt:Bool:=true
abbrev ff:Bool:=false
theorem ac {b d:Bool} {r:List (Bool×Bool)} (h:b = d) (t:All r):All ((b, d) :: r):=All.cons h t

theorem plainP:Plain Go.Proofs.Try.prog:=by
  have h : (Go.Proofs.Try.prog.funcs.toList.all fun fn => !(fn.body.isSome && fn.name == "runtime.NumGoroutine")) = true := by kernel_rfl
  intro f fn hf hb
  have hm:fn ∈ Go.Proofs.Try.prog.funcs.toList:=by
    have:=Array.getElem?_eq_some_iff.1 hf
    obtain ⟨hlt,rfl⟩:=this
    simp
  have:=List.all_eq_true.1 h fn hm
  rw [hb] at this
  simpa using this

theorem kn0_ok:KnownOk Go.Proofs.Try.prog (kn0 Go.Proofs.Try.prog):=⟨plainP,by kernel_rfl,(fun _ h=>by cases h),(fun _ h=>by cases h)⟩

/-! ductility/ductilitylaw06.Frame -/

abbrev as42:List Ty:=[]
abbrev rs42:List Ty:=[(.pair (.slice (.int .i64)) (.pair (.slice (.int .i64)) .unit))]

def t42 :Tr (Tys.data rs42) :=
  Tr.fin (((([(1:Int),(1:Int)]:List Int),(([(2:Int),(1:Int)]:List Int),())),()))

def f42 (d:Tys.data as42):Option (Tys.data rs42):=(t42 ).val
def g42 (d:Tys.data as42):Tys.data rs42:=(f42 d).getD (Tys.dflt rs42)
def p42:PureC:=pcOf as42 rs42 f42 g42

theorem wk42 :Walks (runPure (kn0 Go.Proofs.Try.prog).orc Go.Proofs.Try.prog 400 42 as42 rs42 ()) (t42 ) [([],[1,1])] :=
  ⟨by kernel_rfl,trivial⟩

theorem ok42_t :TrOk (PureRuns Go.Proofs.Try.prog (kn0 Go.Proofs.Try.prog).orc 42 as42 rs42 ()) (t42 ) :=
  Walks.ok (fun _ _ _=>PureRuns.of) (wk42 ) (by kernel_rfl)

theorem ok42:PureOk Go.Proofs.Try.prog 42 p42:=pureOk_of kn0_ok.base (T:=fun (d:Tys.data as42)=>t42 ) (by kernel_rfl) (fun (d:Tys.data as42)=>ok42_t )
def kf42 (P:Go.Program):Known:=(kn0 P).func 42 p42
theorem kf42_ok:KnownOk Go.Proofs.Try.prog (kf42 Go.Proofs.Try.prog):=kn0_ok.func ok42

/-! ductility/modal.when -/

abbrev as47:List Ty:=[.bool,(.int .i64)]
abbrev rs47:List Ty:=[(.int .i64)]

def t47 (x0:Bool) (x1:Int):Tr (Tys.data rs47) :=
  Tr.test (x0)
    (Tr.fin ((x1,())))
    (Tr.fin (((0:Int),())))

def f47 (d:Tys.data as47):Option (Tys.data rs47):=(t47 d.1 d.2.1).val
def g47 (d:Tys.data as47):Tys.data rs47:=(f47 d).getD (Tys.dflt rs47)
def p47:PureC:=pcOf as47 rs47 f47 g47

theorem wk47 (x0:Bool) (x1:Int):Walks (runPure (kf42 Go.Proofs.Try.prog).orc Go.Proofs.Try.prog 400 47 as47 rs47 (x0,x1,())) (t47 x0 x1) [([tt],[2]),([ff],[2])] :=
  ⟨by kernel_rfl,by kernel_rfl,trivial⟩

theorem ok47_t (x0:Bool) (x1:Int):TrOk (PureRuns Go.Proofs.Try.prog (kf42 Go.Proofs.Try.prog).orc 47 as47 rs47 (x0,x1,())) (t47 x0 x1) :=
  Walks.ok (fun _ _ _=>PureRuns.of) (wk47 x0 x1) (by kernel_rfl)

theorem ok47:PureOk Go.Proofs.Try.prog 47 p47:=pureOk_of kf42_ok.base (T:=fun (d:Tys.data as47)=>t47 d.1 d.2.1) (by kernel_rfl) (fun (d:Tys.data as47)=>ok47_t d.1 d.2.1)
def kf47 (P:Go.Program):Known:=(kf42 P).func 47 p47
theorem kf47_ok:KnownOk Go.Proofs.Try.prog (kf47 Go.Proofs.Try.prog):=kf42_ok.func ok47

/-! loop 0 of ductility/modal.firstOf -/

abbrev sh46_0:Sh:={ n:=15,slots:=[5,6,7],pats:=[.ty (.slice (.int .i64)),.ty (.int .i64),.ty (.int .i64)],boxes:=[] }
abbrev shb46_0:Sh:={ n:=15,slots:=[],pats:=[],boxes:=[] }
abbrev shr46_0:Sh:={ n:=15,slots:=[2],pats:=[.ty (.int .i64)],boxes:=[] }

def t46_0 (x0:(List Int)) (x1:Int) (x2:Int):Tr (Out sh46_0.data shb46_0.data shr46_0.data) :=
  Tr.test ((!leF x1 x2:Bool))
    (Tr.test (decide ((0:Int) ≤ x2) && decide (x2 < (↑(List.length x0):Int)))
      (Tr.test ((!eqF (List.getD x0 (Int.toNat x2) (0:Int)) (0:Int):Bool))
        (Tr.fin (.ret (((List.getD x0 (Int.toNat x2) (0:Int):Int),()),())))
        (Tr.fin (.again ((x0,(x1,((wrap64 (x2 + (1:Int)):Int),()))),()))))
      (Tr.stop))
    (Tr.fin (.brk ((),())))

def s46_0 (d:sh46_0.data):Option (Out sh46_0.data shb46_0.data shr46_0.data):=(t46_0 d.1.1 d.1.2.1 d.1.2.2.1).val
def l46_0 (d:sh46_0.data):Option (shb46_0.data ⊕ shr46_0.data):=itr s46_0 rounds d
def b46_0 (d:sh46_0.data):shb46_0.data:=outB shb46_0.dflt (l46_0 d)
def r46_0 (d:sh46_0.data):shr46_0.data:=outR shr46_0.dflt (l46_0 d)
def lc46_0:LoopC:=lcOf sh46_0 shb46_0 shr46_0 l46_0 b46_0 r46_0

theorem wk46_0 (x0:(List Int)) (x1:Int) (x2:Int):Walks (runBody (kf47 Go.Proofs.Try.prog).orc Go.Proofs.Try.prog 400 46 0 sh46_0 shb46_0 shr46_0 ((x0,x1,x2,()),())) (t46_0 x0 x1 x2) [([true,true,true],[2,4,6]),([true,true,false],[2,4,6]),([ff],[2])] :=
  ⟨by kernel_rfl,by kernel_rfl,by kernel_rfl,trivial⟩

theorem ok46_0_t (x0:(List Int)) (x1:Int) (x2:Int):TrOk (BodyRuns Go.Proofs.Try.prog (kf47 Go.Proofs.Try.prog).orc 46 0 sh46_0 shb46_0 shr46_0 ((x0,x1,x2,()),())) (t46_0 x0 x1 x2) :=
  Walks.ok (fun _ _ _=>BodyRuns.of) (wk46_0 x0 x1 x2) (by kernel_rfl)

theorem ok46_0:LoopOk Go.Proofs.Try.prog 46 0 lc46_0:=loopOk_of (sh:=sh46_0) (shB:=shb46_0) (shR:=shr46_0) kf47_ok.base (T:=fun (d:sh46_0.data)=>t46_0 d.1.1 d.1.2.1 d.1.2.2.1) (by kernel_rfl) rfl (fun (d:sh46_0.data)=>ok46_0_t d.1.1 d.1.2.1 d.1.2.2.1) (fun _=>rfl)
def kl46_0 (P:Go.Program):Known:=(kf47 P).loop 46 0 lc46_0
theorem kl46_0_ok:KnownOk Go.Proofs.Try.prog (kl46_0 Go.Proofs.Try.prog):=kf47_ok.loop ok46_0

/-! ductility/modal.firstOf -/

abbrev as46:List Ty:=[(.slice (.int .i64))]
abbrev rs46:List Ty:=[(.int .i64)]

def t46 (x0:(List Int)):Tr (Tys.data rs46) :=
  Tr.test (Option.isSome (l46_0 ((x0,((↑(List.length x0):Int),((0:Int),()))),())))
    (Tr.test (isRet (l46_0 ((x0,((↑(List.length x0):Int),((0:Int),()))),())))
      (let r0:=r46_0 ((x0,((↑(List.length x0):Int),((0:Int),()))),());
      Tr.fin ((r0.1.1,())))
      (Tr.fin (((0:Int),()))))
    (Tr.stop)

def f46 (d:Tys.data as46):Option (Tys.data rs46):=(t46 d.1).val
def g46 (d:Tys.data as46):Tys.data rs46:=(f46 d).getD (Tys.dflt rs46)
def p46:PureC:=pcOf as46 rs46 f46 g46

theorem wk46 (x0:(List Int)):Walks (runPure (kl46_0 Go.Proofs.Try.prog).orc Go.Proofs.Try.prog 400 46 as46 rs46 (x0,())) (t46 x0) [([true,true],[2,4]),([true,false],[2,4])] :=
  ⟨by kernel_rfl,by kernel_rfl,trivial⟩

theorem ok46_t (x0:(List Int)):TrOk (PureRuns Go.Proofs.Try.prog (kl46_0 Go.Proofs.Try.prog).orc 46 as46 rs46 (x0,())) (t46 x0) :=
  Walks.ok (fun _ _ _=>PureRuns.of) (wk46 x0) (by kernel_rfl)

theorem ok46:PureOk Go.Proofs.Try.prog 46 p46:=pureOk_of kl46_0_ok.base (T:=fun (d:Tys.data as46)=>t46 d.1) (by kernel_rfl) (fun (d:Tys.data as46)=>ok46_t d.1)
def kf46 (P:Go.Program):Known:=(kl46_0 P).func 46 p46
theorem kf46_ok:KnownOk Go.Proofs.Try.prog (kf46 Go.Proofs.Try.prog):=kl46_0_ok.func ok46

/-! loop 0 of ductility/modal.areWithin -/

abbrev sh50_0:Sh:={ n:=24,slots:=[0,1,9,10,11],pats:=[.ty (.int .i64),.ty (.int .i64),.ty (.slice (.int .i64)),.ty (.int .i64),.ty (.int .i64)],boxes:=[] }
abbrev shb50_0:Sh:={ n:=24,slots:=[],pats:=[],boxes:=[] }
abbrev shr50_0:Sh:={ n:=24,slots:=[6],pats:=[.ty .bool],boxes:=[] }

def t50_0 (x0:Int) (x1:Int) (x2:(List Int)) (x3:Int) (x4:Int):Tr (Out sh50_0.data shb50_0.data shr50_0.data) :=
  Tr.test ((!leF x3 x4:Bool))
    (Tr.test (decide ((0:Int) ≤ x4) && decide (x4 < (↑(List.length x2):Int)))
      (Tr.test ((!leF x0 (List.getD x2 (Int.toNat x4) (0:Int)):Bool))
        (Tr.fin (.ret (((false:Bool),()),())))
        (Tr.test ((!leF (List.getD x2 (Int.toNat x4) (0:Int)) x1:Bool))
          (Tr.fin (.ret (((false:Bool),()),())))
          (Tr.fin (.again ((x0,(x1,(x2,(x3,((wrap64 (x4 + (1:Int)):Int),()))))),())))))
      (Tr.stop))
    (Tr.fin (.brk ((),())))

def s50_0 (d:sh50_0.data):Option (Out sh50_0.data shb50_0.data shr50_0.data):=(t50_0 d.1.1 d.1.2.1 d.1.2.2.1 d.1.2.2.2.1 d.1.2.2.2.2.1).val
def l50_0 (d:sh50_0.data):Option (shb50_0.data ⊕ shr50_0.data):=itr s50_0 rounds d
def b50_0 (d:sh50_0.data):shb50_0.data:=outB shb50_0.dflt (l50_0 d)
def r50_0 (d:sh50_0.data):shr50_0.data:=outR shr50_0.dflt (l50_0 d)
def lc50_0:LoopC:=lcOf sh50_0 shb50_0 shr50_0 l50_0 b50_0 r50_0

theorem wk50_0 (x0:Int) (x1:Int) (x2:(List Int)) (x3:Int) (x4:Int):Walks (runBody (kf46 Go.Proofs.Try.prog).orc Go.Proofs.Try.prog 400 50 0 sh50_0 shb50_0 shr50_0 ((x0,x1,x2,x3,x4,()),())) (t50_0 x0 x1 x2 x3 x4) [([true,true,true],[1,2,2,2,2,4,6]),([true,true,false,true],[2,4,4,4,4,6,8]),([true,true,false,false],[2,4,4,4,4,6,8]),([ff],[2])] :=
  ⟨by kernel_rfl,by kernel_rfl,by kernel_rfl,by kernel_rfl,trivial⟩

theorem ok50_0_t (x0:Int) (x1:Int) (x2:(List Int)) (x3:Int) (x4:Int):TrOk (BodyRuns Go.Proofs.Try.prog (kf46 Go.Proofs.Try.prog).orc 50 0 sh50_0 shb50_0 shr50_0 ((x0,x1,x2,x3,x4,()),())) (t50_0 x0 x1 x2 x3 x4) :=
  Walks.ok (fun _ _ _=>BodyRuns.of) (wk50_0 x0 x1 x2 x3 x4) (by kernel_rfl)

theorem ok50_0:LoopOk Go.Proofs.Try.prog 50 0 lc50_0:=loopOk_of (sh:=sh50_0) (shB:=shb50_0) (shR:=shr50_0) kf46_ok.base (T:=fun (d:sh50_0.data)=>t50_0 d.1.1 d.1.2.1 d.1.2.2.1 d.1.2.2.2.1 d.1.2.2.2.2.1) (by kernel_rfl) rfl (fun (d:sh50_0.data)=>ok50_0_t d.1.1 d.1.2.1 d.1.2.2.1 d.1.2.2.2.1 d.1.2.2.2.2.1) (fun _=>rfl)
def kl50_0 (P:Go.Program):Known:=(kf46 P).loop 50 0 lc50_0
theorem kl50_0_ok:KnownOk Go.Proofs.Try.prog (kl50_0 Go.Proofs.Try.prog):=kf46_ok.loop ok50_0

/-! ductility/modal.areWithin -/

abbrev as50:List Ty:=[(.int .i64),(.int .i64),(.slice (.int .i64))]
abbrev rs50:List Ty:=[.bool]

def t50 (x0:Int) (x1:Int) (x2:(List Int)):Tr (Tys.data rs50) :=
  Tr.test (Option.isSome (l50_0 ((x0,(x1,(x2,((↑(List.length x2):Int),((0:Int),()))))),())))
    (Tr.test (isRet (l50_0 ((x0,(x1,(x2,((↑(List.length x2):Int),((0:Int),()))))),())))
      (let r0:=r50_0 ((x0,(x1,(x2,((↑(List.length x2):Int),((0:Int),()))))),());
      Tr.fin ((r0.1.1,())))
      (Tr.fin (((true:Bool),()))))
    (Tr.stop)

def f50 (d:Tys.data as50):Option (Tys.data rs50):=(t50 d.1 d.2.1 d.2.2.1).val
def g50 (d:Tys.data as50):Tys.data rs50:=(f50 d).getD (Tys.dflt rs50)
def p50:PureC:=pcOf as50 rs50 f50 g50

theorem wk50 (x0:Int) (x1:Int) (x2:(List Int)):Walks (runPure (kl50_0 Go.Proofs.Try.prog).orc Go.Proofs.Try.prog 400 50 as50 rs50 (x0,x1,x2,())) (t50 x0 x1 x2) [([true,true],[2,4]),([true,false],[2,4])] :=
  ⟨by kernel_rfl,by kernel_rfl,trivial⟩

theorem ok50_t (x0:Int) (x1:Int) (x2:(List Int)):TrOk (PureRuns Go.Proofs.Try.prog (kl50_0 Go.Proofs.Try.prog).orc 50 as50 rs50 (x0,x1,x2,())) (t50 x0 x1 x2) :=
  Walks.ok (fun _ _ _=>PureRuns.of) (wk50 x0 x1 x2) (by kernel_rfl)

theorem ok50:PureOk Go.Proofs.Try.prog 50 p50:=pureOk_of kl50_0_ok.base (T:=fun (d:Tys.data as50)=>t50 d.1 d.2.1 d.2.2.1) (by kernel_rfl) (fun (d:Tys.data as50)=>ok50_t d.1 d.2.1 d.2.2.1)
def kf50 (P:Go.Program):Known:=(kl50_0 P).func 50 p50
theorem kf50_ok:KnownOk Go.Proofs.Try.prog (kf50 Go.Proofs.Try.prog):=kl50_0_ok.func ok50

/-! ductility/modal.CheckFrame$1 -/

abbrev as49:List Ty:=[(.int .i64),(.int .i64)]
abbrev rs49:List Ty:=[(.int .i64)]

def t49 (x0:Int) (x1:Int):Tr (Tys.data rs49) :=
  Tr.test (Option.isSome (f50 ((1:Int),((10:Int),(([x1]:List Int),())))))
    (let r0:=g50 ((1:Int),((10:Int),(([x1]:List Int),())));
    Tr.test ((!r0.1:Bool))
      (Tr.test (Option.isSome (f47 ((true:Bool),((2:Int),()))))
        (let r1:=g47 ((true:Bool),((2:Int),()));
        Tr.fin ((r1.1,())))
        (Tr.stop))
      (Tr.stop))
    (Tr.stop)

def f49 (d:Tys.data as49):Option (Tys.data rs49):=(t49 d.1 d.2.1).val
def g49 (d:Tys.data as49):Tys.data rs49:=(f49 d).getD (Tys.dflt rs49)
def p49:PureC:=pcOf as49 rs49 f49 g49

theorem wk49 (x0:Int) (x1:Int):Walks (runPure (kf50 Go.Proofs.Try.prog).orc Go.Proofs.Try.prog 400 49 as49 rs49 (x0,x1,())) (t49 x0 x1) [([true,true,true],[2,4,4,4,4,4,4,4,4,4,6,1])] :=
  ⟨by kernel_rfl,trivial⟩

theorem ok49_t (x0:Int) (x1:Int):TrOk (PureRuns Go.Proofs.Try.prog (kf50 Go.Proofs.Try.prog).orc 49 as49 rs49 (x0,x1,())) (t49 x0 x1) :=
  Walks.ok (fun _ _ _=>PureRuns.of) (wk49 x0 x1) (by kernel_rfl)

theorem ok49:PureOk Go.Proofs.Try.prog 49 p49:=pureOk_of kf50_ok.base (T:=fun (d:Tys.data as49)=>t49 d.1 d.2.1) (by kernel_rfl) (fun (d:Tys.data as49)=>ok49_t d.1 d.2.1)
def kf49 (P:Go.Program):Known:=(kf50 P).func 49 p49
theorem kf49_ok:KnownOk Go.Proofs.Try.prog (kf49 Go.Proofs.Try.prog):=kf50_ok.func ok49

/-! loop 0 of ductility/modal.checkItems[int] -/

abbrev sh48_0:Sh:={ n:=25,slots:=[1,9,10,11],pats:=[.fn 49 [(0,2)],.ty (.slice (.int .i64)),.ty (.int .i64),.ty (.int .i64)],boxes:=[.row [.ty (.slice (.int .i64)),.ty (.slice (.int .i64))]] }
abbrev shb48_0:Sh:={ n:=25,slots:=[],pats:=[],boxes:=[.row [.ty (.slice (.int .i64)),.ty (.slice (.int .i64))]] }
abbrev shr48_0:Sh:={ n:=25,slots:=[],pats:=[],boxes:=[.row [.ty (.slice (.int .i64)),.ty (.slice (.int .i64))]] }

def t48_0 (x1:(List Int)) (x2:Int) (x3:Int) (b0_0:(List Int)) (b0_1:(List Int)):Tr (Out sh48_0.data shb48_0.data shr48_0.data) :=
  Tr.test ((!leF x2 x3:Bool))
    (Tr.test (decide ((0:Int) ≤ x3) && decide (x3 < (↑(List.length x1):Int)))
      (Tr.stop /- a known call [op 3 of region 4 of F48] -/)
      (Tr.stop))
    (Tr.fin (.brk ((),((b0_0,(b0_1,())),()))))

def s48_0 (d:sh48_0.data):Option (Out sh48_0.data shb48_0.data shr48_0.data):=(t48_0 d.1.1 d.1.2.1 d.1.2.2.1 d.2.1.1 d.2.1.2.1).val
def l48_0 (d:sh48_0.data):Option (shb48_0.data ⊕ shr48_0.data):=itr s48_0 rounds d
def b48_0 (d:sh48_0.data):shb48_0.data:=outB shb48_0.dflt (l48_0 d)
def lc48_0:LoopC:=lcB sh48_0 shb48_0 shr48_0 l48_0 b48_0

theorem wk48_0 (x1:(List Int)) (x2:Int) (x3:Int) (b0_0:(List Int)) (b0_1:(List Int)):Walks (runBody (kf49 Go.Proofs.Try.prog).orc Go.Proofs.Try.prog 400 48 0 sh48_0 shb48_0 shr48_0 ((x1,x2,x3,()),(b0_0,b0_1,()),())) (t48_0 x1 x2 x3 b0_0 b0_1) [([ff],[2])] :=
  ⟨by kernel_rfl,trivial⟩

theorem ok48_0_t (x1:(List Int)) (x2:Int) (x3:Int) (b0_0:(List Int)) (b0_1:(List Int)):TrOk (BodyRuns Go.Proofs.Try.prog (kf49 Go.Proofs.Try.prog).orc 48 0 sh48_0 shb48_0 shr48_0 ((x1,x2,x3,()),(b0_0,b0_1,()),())) (t48_0 x1 x2 x3 b0_0 b0_1) :=
  Walks.ok (fun _ _ _=>BodyRuns.of) (wk48_0 x1 x2 x3 b0_0 b0_1) (by kernel_rfl)

theorem ok48_0:LoopOk Go.Proofs.Try.prog 48 0 lc48_0:=loopOk_ofB (sh:=sh48_0) (shB:=shb48_0) (shR:=shr48_0) kf49_ok.base (T:=fun (d:sh48_0.data)=>t48_0 d.1.1 d.1.2.1 d.1.2.2.1 d.2.1.1 d.2.1.2.1) (by kernel_rfl) rfl (fun (d:sh48_0.data)=>ok48_0_t d.1.1 d.1.2.1 d.1.2.2.1 d.2.1.1 d.2.1.2.1) (fun _=>rfl)
def kl48_0 (P:Go.Program):Known:=(kf49 P).loop 48 0 lc48_0
theorem kl48_0_ok:KnownOk Go.Proofs.Try.prog (kl48_0 Go.Proofs.Try.prog):=kf49_ok.loop ok48_0

/-! ductility/modal.CheckFrame -/

abbrev as9:List Ty:=[(.pair (.slice (.int .i64)) (.pair (.slice (.int .i64)) .unit))]
abbrev rs9:List Ty:=[(.int .i64),(.int .i64)]

def t9 (x0:(List Int)) (x0':(List Int)):Tr (Tys.data rs9) :=
  Tr.test ((eqF (↑(List.length x0):Int) (0:Int):Bool))
    (Tr.test (Option.isSome (f47 (true,((10:Int),()))))
      (Tr.test (Option.isSome (f47 ((!leF (↑(List.length x0):Int) (4:Int):Bool),((8:Int),()))))
        (let r0:=g47 ((true:Bool),((10:Int),()));
        let r1:=g47 ((!leF (↑(List.length x0):Int) (4:Int):Bool),((8:Int),()));
        Tr.test (Option.isSome (f46 (([r0.1,r1.1]:List Int),())))
          (let r2:=g46 (([r0.1,r1.1]:List Int),());
          Tr.test ((!eqF r2.1 0:Bool))
            (Tr.fin (((0:Int),(r2.1,()))))
            (Tr.test (isBrk (l48_0 ((x0,((↑(List.length x0):Int),((0:Int),()))),((x0,(x0',())),()))))
              (Tr.fin (((0:Int),((0:Int),()))))
              (Tr.stop)))
          (Tr.stop))
        (Tr.stop))
      (Tr.stop))
    (Tr.test (Option.isSome (f47 (!eqF (↑(List.length x0'):Int) (↑(List.length x0):Int),((10:Int),()))))
      (Tr.test (Option.isSome (f47 ((!leF (↑(List.length x0):Int) (4:Int):Bool),((8:Int),()))))
        (let r1:=g47 ((!leF (↑(List.length x0):Int) (4:Int):Bool),((8:Int),()));
        let r4:=g47 ((!eqF (↑(List.length x0'):Int) (↑(List.length x0):Int):Bool),((10:Int),()));
        Tr.test (Option.isSome (f46 (([r4.1,r1.1]:List Int),())))
          (let r5:=g46 (([r4.1,r1.1]:List Int),());
          Tr.test ((!eqF r5.1 0:Bool))
            (Tr.fin (((0:Int),(r5.1,()))))
            (Tr.test (isBrk (l48_0 ((x0,((↑(List.length x0):Int),((0:Int),()))),((x0,(x0',())),()))))
              (Tr.fin (((0:Int),((0:Int),()))))
              (Tr.stop)))
          (Tr.stop))
        (Tr.stop))
      (Tr.stop))

def f9 (d:Tys.data as9):Option (Tys.data rs9):=(t9 d.1.1 d.1.2.1).val
def g9 (d:Tys.data as9):Tys.data rs9:=(f9 d).getD (Tys.dflt rs9)
def p9:PureC:=pcOf as9 rs9 f9 g9

theorem wk9 (x0:(List Int)) (x0':(List Int)):Walks (runPure (kl48_0 Go.Proofs.Try.prog).orc Go.Proofs.Try.prog 400 9 as9 rs9 ((x0,x0',()),())) (t9 x0 x0') [([true,true,true,true,true],[2,4,1,6,8,10,10,10,10,10,10]),([true,true,true,true,false,true],[1,2,4,6,1,8,10,12,12,12,12,12,12]),([false,true,true,true,true],[2,4,1,6,8,10,10,10,10,10,10]),([false,true,true,true,false,true],[1,2,4,6,1,8,10,12,12,12,12,12,12])] :=
  ⟨by kernel_rfl,by kernel_rfl,by kernel_rfl,by kernel_rfl,trivial⟩

theorem ok9_t (x0:(List Int)) (x0':(List Int)):TrOk (PureRuns Go.Proofs.Try.prog (kl48_0 Go.Proofs.Try.prog).orc 9 as9 rs9 ((x0,x0',()),())) (t9 x0 x0') :=
  Walks.ok (fun _ _ _=>PureRuns.of) (wk9 x0 x0') (by kernel_rfl)

theorem ok9:PureOk Go.Proofs.Try.prog 9 p9:=pureOk_of kl48_0_ok.base (T:=fun (d:Tys.data as9)=>t9 d.1.1 d.1.2.1) (by kernel_rfl) (fun (d:Tys.data as9)=>ok9_t d.1.1 d.1.2.1)
def kf9 (P:Go.Program):Known:=(kl48_0 P).func 9 p9
theorem kf9_ok:KnownOk Go.Proofs.Try.prog (kf9 Go.Proofs.Try.prog):=kl48_0_ok.func ok9

/-! ductility/modal.frameOf -/

abbrev as52:List Ty:=[(.pair (.slice (.int .i64)) (.pair (.slice (.int .i64)) .unit)),(.slice (.int .i64))]
abbrev rs52:List Ty:=[(.pair (.pair (.slice (.int .i64)) (.pair (.slice (.int .i64)) .unit)) .unit),(.int .i64)]

def t52 (x0:(List Int)) (x0':(List Int)) (x1:(List Int)):Tr (Tys.data rs52) :=
  Tr.test (Option.isSome (f9 ((x0,(x0',())),())))
    (Tr.test (Option.isSome (f46 (x1,())))
      (let r0:=g9 ((x0,(x0',())),());
      let r1:=g46 (x1,());
      Tr.test (Option.isSome (f46 (([r0.2.1,r1.1]:List Int),())))
        (let r2:=g46 (([r0.2.1,r1.1]:List Int),());
        Tr.test ((!eqF r2.1 0:Bool))
          (Tr.fin ((((([]:List Int),(([]:List Int),())),()),(r2.1,()))))
          (Tr.fin ((((x0,(x0',())),()),((0:Int),())))))
        (Tr.stop))
      (Tr.stop))
    (Tr.stop)

def f52 (d:Tys.data as52):Option (Tys.data rs52):=(t52 d.1.1 d.1.2.1 d.2.1).val
def g52 (d:Tys.data as52):Tys.data rs52:=(f52 d).getD (Tys.dflt rs52)
def p52:PureC:=pcOf as52 rs52 f52 g52

theorem wk52 (x0:(List Int)) (x0':(List Int)) (x1:(List Int)):Walks (runPure (kf9 Go.Proofs.Try.prog).orc Go.Proofs.Try.prog 400 52 as52 rs52 ((x0,x0',()),x1,())) (t52 x0 x0' x1) [([true,true,true,true],[2,4,1,6,8]),([true,true,true,false],[2,4,1,6,8])] :=
  ⟨by kernel_rfl,by kernel_rfl,trivial⟩

theorem ok52_t (x0:(List Int)) (x0':(List Int)) (x1:(List Int)):TrOk (PureRuns Go.Proofs.Try.prog (kf9 Go.Proofs.Try.prog).orc 52 as52 rs52 ((x0,x0',()),x1,())) (t52 x0 x0' x1) :=
  Walks.ok (fun _ _ _=>PureRuns.of) (wk52 x0 x0' x1) (by kernel_rfl)

theorem ok52:PureOk Go.Proofs.Try.prog 52 p52:=pureOk_of kf9_ok.base (T:=fun (d:Tys.data as52)=>t52 d.1.1 d.1.2.1 d.2.1) (by kernel_rfl) (fun (d:Tys.data as52)=>ok52_t d.1.1 d.1.2.1 d.2.1)
def kf52 (P:Go.Program):Known:=(kf9 P).func 52 p52
theorem kf52_ok:KnownOk Go.Proofs.Try.prog (kf52 Go.Proofs.Try.prog):=kf9_ok.func ok52

/-! (ductility/modal.frame).stiffness -/

abbrev as55:List Ty:=[(.pair (.pair (.slice (.int .i64)) (.pair (.slice (.int .i64)) .unit)) .unit),(.int .i64)]
abbrev rs55:List Ty:=[(.int .i64)]

def t55 (x0_:(List Int)) (x0_':(List Int)) (x1:Int):Tr (Tys.data rs55) :=
  Tr.test ((eqF (wrap64 (x1 + (1:Int))) (↑(List.length x0_'):Int):Bool))
    (Tr.test (decide ((0:Int) ≤ x1) && decide (x1 < (↑(List.length x0_'):Int)))
      (Tr.fin (((List.getD x0_' (Int.toNat x1) (0:Int):Int),())))
      (Tr.stop))
    (Tr.test (decide ((0:Int) ≤ x1) && decide (x1 < (↑(List.length x0_'):Int)))
      (Tr.test ((decide ((0:Int) ≤ wrap64 (x1 + (1:Int))) && decide (wrap64 (x1 + (1:Int)) < (↑(List.length x0_'):Int)):Bool))
        (Tr.fin (((wrap64 (List.getD x0_' (Int.toNat x1) (0:Int) + List.getD x0_' (Int.toNat (wrap64 (x1 + (1:Int)))) (0:Int)):Int),())))
        (Tr.stop))
      (Tr.stop))

def f55 (d:Tys.data as55):Option (Tys.data rs55):=(t55 d.1.1.1 d.1.1.2.1 d.2.1).val
def g55 (d:Tys.data as55):Tys.data rs55:=(f55 d).getD (Tys.dflt rs55)
def p55:PureC:=pcOf as55 rs55 f55 g55

theorem wk55 (x0_:(List Int)) (x0_':(List Int)) (x1:Int):Walks (runPure (kf52 Go.Proofs.Try.prog).orc Go.Proofs.Try.prog 400 55 as55 rs55 (((x0_,x0_',()),()),x1,())) (t55 x0_ x0_' x1) [([true,true],[2,4]),([false,true,true],[2,4,6])] :=
  ⟨by kernel_rfl,by kernel_rfl,trivial⟩

theorem ok55_t (x0_:(List Int)) (x0_':(List Int)) (x1:Int):TrOk (PureRuns Go.Proofs.Try.prog (kf52 Go.Proofs.Try.prog).orc 55 as55 rs55 (((x0_,x0_',()),()),x1,())) (t55 x0_ x0_' x1) :=
  Walks.ok (fun _ _ _=>PureRuns.of) (wk55 x0_ x0_' x1) (by kernel_rfl)

theorem ok55:PureOk Go.Proofs.Try.prog 55 p55:=pureOk_of kf52_ok.base (T:=fun (d:Tys.data as55)=>t55 d.1.1.1 d.1.1.2.1 d.2.1) (by kernel_rfl) (fun (d:Tys.data as55)=>ok55_t d.1.1.1 d.1.1.2.1 d.2.1)
def kf55 (P:Go.Program):Known:=(kf52 P).func 55 p55
theorem kf55_ok:KnownOk Go.Proofs.Try.prog (kf55 Go.Proofs.Try.prog):=kf52_ok.func ok55

/-! (ductility/modal.polynomial).times -/

abbrev as76:List Ty:=[(.pair (.int .i64) (.pair (.int .i64) (.pair (.int .i64) (.pair (.int .i64) (.pair (.int .i64) .unit))))),(.int .i64),(.int .i64)]
abbrev rs76:List Ty:=[(.pair (.int .i64) (.pair (.int .i64) (.pair (.int .i64) (.pair (.int .i64) (.pair (.int .i64) .unit)))))]

def t76 (x0:Int) (x0':Int) (x0'':Int) (x0''':Int) (x0'''':Int) (x1:Int) (x2:Int):Tr (Tys.data rs76) :=
  Tr.fin ((((wrap64 (wrap64 (x1 * x0) + wrap64 (x2 * (0:Int))):Int),((wrap64 (wrap64 (x1 * x0') + wrap64 (x2 * x0)):Int),((wrap64 (wrap64 (x1 * x0'') + wrap64 (x2 * x0')):Int),((wrap64 (wrap64 (x1 * x0''') + wrap64 (x2 * x0'')):Int),((wrap64 (wrap64 (x1 * x0'''') + wrap64 (x2 * x0''')):Int),()))))),()))

def f76 (d:Tys.data as76):Option (Tys.data rs76):=(t76 d.1.1 d.1.2.1 d.1.2.2.1 d.1.2.2.2.1 d.1.2.2.2.2.1 d.2.1 d.2.2.1).val
def g76 (d:Tys.data as76):Tys.data rs76:=(f76 d).getD (Tys.dflt rs76)
def p76:PureC:=pcOf as76 rs76 f76 g76

theorem wk76 (x0:Int) (x0':Int) (x0'':Int) (x0''':Int) (x0'''':Int) (x1:Int) (x2:Int):Walks (runPure (kf55 Go.Proofs.Try.prog).orc Go.Proofs.Try.prog 400 76 as76 rs76 ((x0,x0',x0'',x0''',x0'''',()),x1,x2,())) (t76 x0 x0' x0'' x0''' x0'''' x1 x2) [([],[0,1,1,1,1,1,1,1,1,1,1,1,1,1,1,1])] :=
  ⟨by kernel_rfl,trivial⟩

theorem ok76_t (x0:Int) (x0':Int) (x0'':Int) (x0''':Int) (x0'''':Int) (x1:Int) (x2:Int):TrOk (PureRuns Go.Proofs.Try.prog (kf55 Go.Proofs.Try.prog).orc 76 as76 rs76 ((x0,x0',x0'',x0''',x0'''',()),x1,x2,())) (t76 x0 x0' x0'' x0''' x0'''' x1 x2) :=
  Walks.ok (fun _ _ _=>PureRuns.of) (wk76 x0 x0' x0'' x0''' x0'''' x1 x2) (by kernel_rfl)

theorem ok76:PureOk Go.Proofs.Try.prog 76 p76:=pureOk_of kf55_ok.base (T:=fun (d:Tys.data as76)=>t76 d.1.1 d.1.2.1 d.1.2.2.1 d.1.2.2.2.1 d.1.2.2.2.2.1 d.2.1 d.2.2.1) (by kernel_rfl) (fun (d:Tys.data as76)=>ok76_t d.1.1 d.1.2.1 d.1.2.2.1 d.1.2.2.2.1 d.1.2.2.2.2.1 d.2.1 d.2.2.1)
def kf76 (P:Go.Program):Known:=(kf55 P).func 76 p76
theorem kf76_ok:KnownOk Go.Proofs.Try.prog (kf76 Go.Proofs.Try.prog):=kf55_ok.func ok76

/-! (ductility/modal.polynomial).minus -/

abbrev as77:List Ty:=[(.pair (.int .i64) (.pair (.int .i64) (.pair (.int .i64) (.pair (.int .i64) (.pair (.int .i64) .unit))))),(.pair (.int .i64) (.pair (.int .i64) (.pair (.int .i64) (.pair (.int .i64) (.pair (.int .i64) .unit)))))]
abbrev rs77:List Ty:=[(.pair (.int .i64) (.pair (.int .i64) (.pair (.int .i64) (.pair (.int .i64) (.pair (.int .i64) .unit)))))]

def t77 (x0:Int) (x0':Int) (x0'':Int) (x0''':Int) (x0'''':Int) (x1:Int) (x1':Int) (x1'':Int) (x1''':Int) (x1'''':Int):Tr (Tys.data rs77) :=
  Tr.fin ((((wrap64 (x0 - x1):Int),((wrap64 (x0' - x1'):Int),((wrap64 (x0'' - x1''):Int),((wrap64 (x0''' - x1'''):Int),((wrap64 (x0'''' - x1''''):Int),()))))),()))

def f77 (d:Tys.data as77):Option (Tys.data rs77):=(t77 d.1.1 d.1.2.1 d.1.2.2.1 d.1.2.2.2.1 d.1.2.2.2.2.1 d.2.1.1 d.2.1.2.1 d.2.1.2.2.1 d.2.1.2.2.2.1 d.2.1.2.2.2.2.1).val
def g77 (d:Tys.data as77):Tys.data rs77:=(f77 d).getD (Tys.dflt rs77)
def p77:PureC:=pcOf as77 rs77 f77 g77

theorem wk77 (x0:Int) (x0':Int) (x0'':Int) (x0''':Int) (x0'''':Int) (x1:Int) (x1':Int) (x1'':Int) (x1''':Int) (x1'''':Int):Walks (runPure (kf76 Go.Proofs.Try.prog).orc Go.Proofs.Try.prog 400 77 as77 rs77 ((x0,x0',x0'',x0''',x0'''',()),(x1,x1',x1'',x1''',x1'''',()),())) (t77 x0 x0' x0'' x0''' x0'''' x1 x1' x1'' x1''' x1'''') [([],[0,1,1,1,1,1,1,1,1,1,1,1,1,1,1,1,1,1,1,1,1])] :=
  ⟨by kernel_rfl,trivial⟩

theorem ok77_t (x0:Int) (x0':Int) (x0'':Int) (x0''':Int) (x0'''':Int) (x1:Int) (x1':Int) (x1'':Int) (x1''':Int) (x1'''':Int):TrOk (PureRuns Go.Proofs.Try.prog (kf76 Go.Proofs.Try.prog).orc 77 as77 rs77 ((x0,x0',x0'',x0''',x0'''',()),(x1,x1',x1'',x1''',x1'''',()),())) (t77 x0 x0' x0'' x0''' x0'''' x1 x1' x1'' x1''' x1'''') :=
  Walks.ok (fun _ _ _=>PureRuns.of) (wk77 x0 x0' x0'' x0''' x0'''' x1 x1' x1'' x1''' x1'''') (by kernel_rfl)

theorem ok77:PureOk Go.Proofs.Try.prog 77 p77:=pureOk_of kf76_ok.base (T:=fun (d:Tys.data as77)=>t77 d.1.1 d.1.2.1 d.1.2.2.1 d.1.2.2.2.1 d.1.2.2.2.2.1 d.2.1.1 d.2.1.2.1 d.2.1.2.2.1 d.2.1.2.2.2.1 d.2.1.2.2.2.2.1) (by kernel_rfl) (fun (d:Tys.data as77)=>ok77_t d.1.1 d.1.2.1 d.1.2.2.1 d.1.2.2.2.1 d.1.2.2.2.2.1 d.2.1.1 d.2.1.2.1 d.2.1.2.2.1 d.2.1.2.2.2.1 d.2.1.2.2.2.2.1)
def kf77 (P:Go.Program):Known:=(kf76 P).func 77 p77
theorem kf77_ok:KnownOk Go.Proofs.Try.prog (kf77 Go.Proofs.Try.prog):=kf76_ok.func ok77

/-! ductility/modal.denError -/

abbrev as71:List Ty:=[(.int .i64)]
abbrev rs71:List Ty:=[(.int .i64)]

def t71 (x0:Int):Tr (Tys.data rs71) :=
  Tr.test (Option.isSome (f50 ((1:Int),((50:Int),(([x0]:List Int),())))))
    (let r0:=g50 ((1:Int),((50:Int),(([x0]:List Int),())));
    Tr.test (Option.isSome (f47 ((!r0.1:Bool),((2:Int),()))))
      (let r1:=g47 ((!r0.1:Bool),((2:Int),()));
      Tr.fin ((r1.1,())))
      (Tr.stop))
    (Tr.stop)

def f71 (d:Tys.data as71):Option (Tys.data rs71):=(t71 d.1).val
def g71 (d:Tys.data as71):Tys.data rs71:=(f71 d).getD (Tys.dflt rs71)
def p71:PureC:=pcOf as71 rs71 f71 g71

theorem wk71 (x0:Int):Walks (runPure (kf77 Go.Proofs.Try.prog).orc Go.Proofs.Try.prog 400 71 as71 rs71 (x0,())) (t71 x0) [([true,true],[2,4,1])] :=
  ⟨by kernel_rfl,trivial⟩

theorem ok71_t (x0:Int):TrOk (PureRuns Go.Proofs.Try.prog (kf77 Go.Proofs.Try.prog).orc 71 as71 rs71 (x0,())) (t71 x0) :=
  Walks.ok (fun _ _ _=>PureRuns.of) (wk71 x0) (by kernel_rfl)

theorem ok71:PureOk Go.Proofs.Try.prog 71 p71:=pureOk_of kf77_ok.base (T:=fun (d:Tys.data as71)=>t71 d.1) (by kernel_rfl) (fun (d:Tys.data as71)=>ok71_t d.1)
def kf71 (P:Go.Program):Known:=(kf77 P).func 71 p71
theorem kf71_ok:KnownOk Go.Proofs.Try.prog (kf71 Go.Proofs.Try.prog):=kf77_ok.func ok71

/-! (ductility/modal.polynomial).at -/

abbrev as116:List Ty:=[(.pair (.int .i64) (.pair (.int .i64) (.pair (.int .i64) (.pair (.int .i64) (.pair (.int .i64) .unit))))),(.pair (.int .i64) (.pair (.int .i64) .unit))]
abbrev rs116:List Ty:=[(.int .i64)]

def t116 (x0:Int) (x0':Int) (x0'':Int) (x0''':Int) (x0'''':Int) (x1:Int) (x1':Int):Tr (Tys.data rs116) :=
  Tr.fin (((wrap64 (wrap64 (wrap64 (wrap64 (wrap64 (wrap64 (wrap64 (wrap64 (wrap64 (wrap64 ((0:Int) * x1) + wrap64 (x0'''' * (1:Int))) * x1) + wrap64 (x0''' * wrap64 ((1:Int) * x1'))) * x1) + wrap64 (x0'' * wrap64 (wrap64 ((1:Int) * x1') * x1'))) * x1) + wrap64 (x0' * wrap64 (wrap64 (wrap64 ((1:Int) * x1') * x1') * x1'))) * x1) + wrap64 (x0 * wrap64 (wrap64 (wrap64 (wrap64 ((1:Int) * x1') * x1') * x1') * x1'))):Int),()))

def f116 (d:Tys.data as116):Option (Tys.data rs116):=(t116 d.1.1 d.1.2.1 d.1.2.2.1 d.1.2.2.2.1 d.1.2.2.2.2.1 d.2.1.1 d.2.1.2.1).val
def g116 (d:Tys.data as116):Tys.data rs116:=(f116 d).getD (Tys.dflt rs116)
def p116:PureC:=pcOf as116 rs116 f116 g116

theorem wk116 (x0:Int) (x0':Int) (x0'':Int) (x0''':Int) (x0'''':Int) (x1:Int) (x1':Int):Walks (runPure (kf71 Go.Proofs.Try.prog).orc Go.Proofs.Try.prog 400 116 as116 rs116 ((x0,x0',x0'',x0''',x0'''',()),(x1,x1',()),())) (t116 x0 x0' x0'' x0''' x0'''' x1 x1') [([],[0,0,1,1,0,1,1,0,1,1,0,1,1,0,1,1])] :=
  ⟨by kernel_rfl,trivial⟩

theorem ok116_t (x0:Int) (x0':Int) (x0'':Int) (x0''':Int) (x0'''':Int) (x1:Int) (x1':Int):TrOk (PureRuns Go.Proofs.Try.prog (kf71 Go.Proofs.Try.prog).orc 116 as116 rs116 ((x0,x0',x0'',x0''',x0'''',()),(x1,x1',()),())) (t116 x0 x0' x0'' x0''' x0'''' x1 x1') :=
  Walks.ok (fun _ _ _=>PureRuns.of) (wk116 x0 x0' x0'' x0''' x0'''' x1 x1') (by kernel_rfl)

theorem ok116:PureOk Go.Proofs.Try.prog 116 p116:=pureOk_of kf71_ok.base (T:=fun (d:Tys.data as116)=>t116 d.1.1 d.1.2.1 d.1.2.2.1 d.1.2.2.2.1 d.1.2.2.2.2.1 d.2.1.1 d.2.1.2.1) (by kernel_rfl) (fun (d:Tys.data as116)=>ok116_t d.1.1 d.1.2.1 d.1.2.2.1 d.1.2.2.2.1 d.1.2.2.2.2.1 d.2.1.1 d.2.1.2.1)
def kf116 (P:Go.Program):Known:=(kf71 P).func 116 p116
theorem kf116_ok:KnownOk Go.Proofs.Try.prog (kf116 Go.Proofs.Try.prog):=kf71_ok.func ok116

theorem sc108_0:sameRf Go.Proofs.Try.prog 108 0 = true:=sameRf_ok (by kernel_rfl)

/-! loop 0 of (ductility/modal.frame).determinants$1 -/

abbrev sh75_0 (P:Go.Program):Sh:={ n:=49,slots:=[0,1,3,4,13,14,15],pats:=[.yld 0,.ptr 1 2 0,.ptr 2 5 0,.ptr 3 5 0,.ty (.slice (.int .i64)),.ty (.int .i64),.ty (.int .i64)],boxes:=[.lp (lpOf P 108 0 .ready none 17 [3,5] 4) [.ptr 5 2 0,.ptr 6 1 0],.row [.ty (.slice (.int .i64)),.ty (.slice (.int .i64))],.row [.ty (.int .i64),.ty (.int .i64),.ty (.int .i64),.ty (.int .i64),.ty (.int .i64)],.row [.ty (.int .i64),.ty (.int .i64),.ty (.int .i64),.ty (.int .i64),.ty (.int .i64)],.dfr,.row [.ty (.int .i64),.ty (.int .i64)],.row [.acc (.int .i64)]] }
abbrev shb75_0 (P:Go.Program):Sh:={ n:=49,slots:=[0,4],pats:=[.yld 0,.ptr 3 5 0],boxes:=[.lp (lpOf P 108 0 .ready none 17 [3,5] 4) [.ptr 5 2 0,.ptr 6 1 0],.row [.ty (.slice (.int .i64)),.ty (.slice (.int .i64))],.row [.ty (.int .i64),.ty (.int .i64),.ty (.int .i64),.ty (.int .i64),.ty (.int .i64)],.row [.ty (.int .i64),.ty (.int .i64),.ty (.int .i64),.ty (.int .i64),.ty (.int .i64)],.dfr,.row [.ty (.int .i64),.ty (.int .i64)],.row [.acc (.int .i64)]] }
abbrev shr75_0 (P:Go.Program):Sh:={ n:=49,slots:=[],pats:=[],boxes:=[.lp (lpOf P 108 0 .ready none 17 [3,5] 4) [.ptr 5 2 0,.ptr 6 1 0],.row [.ty (.slice (.int .i64)),.ty (.slice (.int .i64))],.row [.ty (.int .i64),.ty (.int .i64),.ty (.int .i64),.ty (.int .i64),.ty (.int .i64)],.row [.ty (.int .i64),.ty (.int .i64),.ty (.int .i64),.ty (.int .i64),.ty (.int .i64)],.dfr,.row [.ty (.int .i64),.ty (.int .i64)],.row [.acc (.int .i64)]] }

abbrev dt75_0:Type:=(List Int×Int×Int×PUnit)×PUnit×(List Int×List Int×PUnit)×(Int×Int×Int×Int×Int×PUnit)×(Int×Int×Int×Int×Int×PUnit)×(Int×Int×PUnit)×(List Int×PUnit)×PUnit
abbrev db75_0:Type:=PUnit×PUnit×(List Int×List Int×PUnit)×(Int×Int×Int×Int×Int×PUnit)×(Int×Int×Int×Int×Int×PUnit)×(Int×Int×PUnit)×(List Int×PUnit)×PUnit
abbrev dr75_0:Type:=PUnit×PUnit×(List Int×List Int×PUnit)×(Int×Int×Int×Int×Int×PUnit)×(Int×Int×Int×Int×Int×PUnit)×(Int×Int×PUnit)×(List Int×PUnit)×PUnit

def t75_0 (x4:(List Int)) (x5:Int) (x6:Int) (b1_0:(List Int)) (b1_1:(List Int)) (b2_0:Int) (b2_1:Int) (b2_2:Int) (b2_3:Int) (b2_4:Int) (b3_0:Int) (b3_1:Int) (b3_2:Int) (b3_3:Int) (b3_4:Int) (b5_0:Int) (b5_1:Int) (b6_0:(List Int)):Tr (Out dt75_0 db75_0 dr75_0) :=
  Tr.test ((!leF x5 x6:Bool))
    (Tr.test (decide ((0:Int) ≤ x6) && decide (x6 < (↑(List.length x4):Int)))
      (Tr.test (Option.isSome (f116 ((b3_0,(b3_1,(b3_2,(b3_3,(b3_4,()))))),((b5_0,(b5_1,())),()))))
        (Tr.test ((Nat.ble (((2:Nat) * (List.length b6_0 + (1:Nat)) + (192:Nat)) * (8:Nat)) (281474976710656:Nat) && Nat.ble (List.length b6_0 + (1:Nat)) (281474976710656:Nat):Bool))
          (Tr.test ((decide ((0:Int) ≤ x6) && decide (x6 < (↑(List.length b1_1):Int)):Bool))
            (Tr.test (Option.isSome (f55 (((b1_0,(b1_1,())),()),(x6,()))))
              (let r1:=g55 (((b1_0,(b1_1,())),()),(x6,()));
              Tr.test (Option.isSome (f76 ((b3_0,(b3_1,(b3_2,(b3_3,(b3_4,()))))),(r1.1,((Go.IntKind.wrap Go.IntKind.i64 ((0:Int) - List.getD x4 (Int.toNat x6) (0:Int)):Int),())))))
                (Tr.test (Option.isSome (f76 ((b2_0,(b2_1,(b2_2,(b2_3,(b2_4,()))))),((wrap64 (List.getD b1_1 (Int.toNat x6) (0:Int) * List.getD b1_1 (Int.toNat x6) (0:Int)):Int),((0:Int),())))))
                  (let r2:=g76 ((b3_0,(b3_1,(b3_2,(b3_3,(b3_4,()))))),(r1.1,((Go.IntKind.wrap Go.IntKind.i64 ((0:Int) - List.getD x4 (Int.toNat x6) (0:Int)):Int),())));
                  let r3:=g76 ((b2_0,(b2_1,(b2_2,(b2_3,(b2_4,()))))),((wrap64 (List.getD b1_1 (Int.toNat x6) (0:Int) * List.getD b1_1 (Int.toNat x6) (0:Int)):Int),((0:Int),())));
                  Tr.test (Option.isSome (f77 ((r2.1.1,(r2.1.2.1,(r2.1.2.2.1,(r2.1.2.2.2.1,(r2.1.2.2.2.2.1,()))))),((r3.1.1,(r3.1.2.1,(r3.1.2.2.1,(r3.1.2.2.2.1,(r3.1.2.2.2.2.1,()))))),()))))
                    (let r0:=g116 ((b3_0,(b3_1,(b3_2,(b3_3,(b3_4,()))))),((b5_0,(b5_1,())),()));
                    let r4:=g77 ((r2.1.1,(r2.1.2.1,(r2.1.2.2.1,(r2.1.2.2.2.1,(r2.1.2.2.2.2.1,()))))),((r3.1.1,(r3.1.2.1,(r3.1.2.2.1,(r3.1.2.2.2.1,(r3.1.2.2.2.2.1,()))))),()));
                    Tr.fin (.again ((x4,(x5,((wrap64 (x6 + (1:Int)):Int),()))),((),((b1_0,(b1_1,())),((b3_0,(b3_1,(b3_2,(b3_3,(b3_4,()))))),((r4.1.1,(r4.1.2.1,(r4.1.2.2.1,(r4.1.2.2.2.1,(r4.1.2.2.2.2.1,()))))),((b5_0,(b5_1,())),(((b6_0++[r0.1]:List Int),()),())))))))))
                    (Tr.stop))
                  (Tr.stop))
                (Tr.stop))
              (Tr.stop))
            (Tr.stop))
          (Tr.stop))
        (Tr.stop))
      (Tr.stop))
    (Tr.fin (.brk ((),((),((b1_0,(b1_1,())),((b2_0,(b2_1,(b2_2,(b2_3,(b2_4,()))))),((b3_0,(b3_1,(b3_2,(b3_3,(b3_4,()))))),((b5_0,(b5_1,())),((b6_0,()),())))))))))

def s75_0 (d:dt75_0):Option (Out dt75_0 db75_0 dr75_0):=(t75_0 d.1.1 d.1.2.1 d.1.2.2.1 d.2.2.1.1 d.2.2.1.2.1 d.2.2.2.1.1 d.2.2.2.1.2.1 d.2.2.2.1.2.2.1 d.2.2.2.1.2.2.2.1 d.2.2.2.1.2.2.2.2.1 d.2.2.2.2.1.1 d.2.2.2.2.1.2.1 d.2.2.2.2.1.2.2.1 d.2.2.2.2.1.2.2.2.1 d.2.2.2.2.1.2.2.2.2.1 d.2.2.2.2.2.1.1 d.2.2.2.2.2.1.2.1 d.2.2.2.2.2.2.1.1).val
def l75_0 (d:dt75_0):Option (db75_0 ⊕ dr75_0):=itr s75_0 rounds d
def b75_0 (d:dt75_0):db75_0:=outB (((),((),((([]:List Int),(([]:List Int),())),(((0:Int),((0:Int),((0:Int),((0:Int),((0:Int),()))))),(((0:Int),((0:Int),((0:Int),((0:Int),((0:Int),()))))),(((0:Int),((0:Int),())),((([]:List Int),()),())))))))) (l75_0 d)
def lc75_0 (P:Go.Program):LoopC:=lcB (sh75_0 P) (shb75_0 P) (shr75_0 P) l75_0 b75_0

theorem e75_0_0 (x4:(List Int)) (x5:Int) (x6:Int) (b1_0:(List Int)) (b1_1:(List Int)) (b2_0:Int) (b2_1:Int) (b2_2:Int) (b2_3:Int) (b2_4:Int) (b3_0:Int) (b3_1:Int) (b3_2:Int) (b3_3:Int) (b3_4:Int) (b5_0:Int) (b5_1:Int) (b6_0:(List Int)):runBody (kf116 Go.Proofs.Try.prog).orc Go.Proofs.Try.prog 400 75 0 (sh75_0 Go.Proofs.Try.prog) (shb75_0 Go.Proofs.Try.prog) (shr75_0 Go.Proofs.Try.prog) ((x4,x5,x6,()),(),(b1_0,b1_1,()),(b2_0,b2_1,b2_2,b2_3,b2_4,()),(b3_0,b3_1,b3_2,b3_3,b3_4,()),(b5_0,b5_1,()),(b6_0,()),()) [tt,tt,tt,ff,tt,tt,ff,tt,tt,tt,tt,tt] =
    (let r1:=g55 (((b1_0,(b1_1,())),()),(x6,()));let r2:=g76 ((b3_0,(b3_1,(b3_2,(b3_3,(b3_4,()))))),(r1.1,((Go.IntKind.wrap Go.IntKind.i64 ((0:Int) - List.getD x4 (Int.toNat x6) (0:Int)):Int),())));let r3:=g76 ((b2_0,(b2_1,(b2_2,(b2_3,(b2_4,()))))),((wrap64 (List.getD b1_1 (Int.toNat x6) (0:Int) * List.getD b1_1 (Int.toNat x6) (0:Int)):Int),((0:Int),())));let r0:=g116 ((b3_0,(b3_1,(b3_2,(b3_3,(b3_4,()))))),((b5_0,(b5_1,())),()));let r4:=g77 ((r2.1.1,(r2.1.2.1,(r2.1.2.2.1,(r2.1.2.2.2.1,(r2.1.2.2.2.2.1,()))))),((r3.1.1,(r3.1.2.1,(r3.1.2.2.1,(r3.1.2.2.2.1,(r3.1.2.2.2.2.1,()))))),())); some (.again ((x4,(x5,((wrap64 (x6 + (1:Int)):Int),()))),((),((b1_0,(b1_1,())),((b3_0,(b3_1,(b3_2,(b3_3,(b3_4,()))))),((r4.1.1,(r4.1.2.1,(r4.1.2.2.1,(r4.1.2.2.2.1,(r4.1.2.2.2.2.1,()))))),((b5_0,(b5_1,())),(((b6_0++[r0.1]:List Int),()),()))))))),[(sameRf Go.Proofs.Try.prog (nat_lit 108) (nat_lit 0),true),(Option.isSome (f77 ((r2.1.1,(r2.1.2.1,(r2.1.2.2.1,(r2.1.2.2.2.1,(r2.1.2.2.2.2.1,()))))),((r3.1.1,(r3.1.2.1,(r3.1.2.2.1,(r3.1.2.2.2.1,(r3.1.2.2.2.2.1,()))))),()))),true),(Option.isSome (f76 ((b2_0,(b2_1,(b2_2,(b2_3,(b2_4,()))))),((wrap64 (List.getD b1_1 (Int.toNat x6) (0:Int) * List.getD b1_1 (Int.toNat x6) (0:Int)):Int),((0:Int),())))),true),(Option.isSome (f76 ((b3_0,(b3_1,(b3_2,(b3_3,(b3_4,()))))),(r1.1,((Go.IntKind.wrap Go.IntKind.i64 ((0:Int) - List.getD x4 (Int.toNat x6) (0:Int)):Int),())))),true),(Option.isSome (f55 (((b1_0,(b1_1,())),()),(x6,()))),true),(decide ((0:Int) ≤ x6) && decide (x6 < (↑(List.length b1_1):Int)),true),(false,false),(true,true),(Nat.ble (((2:Nat) * (List.length b6_0 + (1:Nat)) + (192:Nat)) * (8:Nat)) (281474976710656:Nat) && Nat.ble (List.length b6_0 + (1:Nat)) (281474976710656:Nat),true),(false,false),(Option.isSome (f116 ((b3_0,(b3_1,(b3_2,(b3_3,(b3_4,()))))),((b5_0,(b5_1,())),()))),true),(decide ((0:Int) ≤ x6) && decide (x6 < (↑(List.length x4):Int)),true),(!leF x5 x6,true)])):=by kernel_rfl
theorem e75_0_4 (x4:(List Int)) (x5:Int) (x6:Int) (b1_0:(List Int)) (b1_1:(List Int)) (b2_0:Int) (b2_1:Int) (b2_2:Int) (b2_3:Int) (b2_4:Int) (b3_0:Int) (b3_1:Int) (b3_2:Int) (b3_3:Int) (b3_4:Int) (b5_0:Int) (b5_1:Int) (b6_0:(List Int)):runBody (kf116 Go.Proofs.Try.prog).orc Go.Proofs.Try.prog 400 75 0 (sh75_0 Go.Proofs.Try.prog) (shb75_0 Go.Proofs.Try.prog) (shr75_0 Go.Proofs.Try.prog) ((x4,x5,x6,()),(),(b1_0,b1_1,()),(b2_0,b2_1,b2_2,b2_3,b2_4,()),(b3_0,b3_1,b3_2,b3_3,b3_4,()),(b5_0,b5_1,()),(b6_0,()),()) [ff] =
    (some (.brk ((),((),((b1_0,(b1_1,())),((b2_0,(b2_1,(b2_2,(b2_3,(b2_4,()))))),((b3_0,(b3_1,(b3_2,(b3_3,(b3_4,()))))),((b5_0,(b5_1,())),((b6_0,()),()))))))),[(sameRf Go.Proofs.Try.prog (nat_lit 108) (nat_lit 0),true),(!leF x5 x6,false)])):=by kernel_rfl

theorem ok75_0_t (x4:(List Int)) (x5:Int) (x6:Int) (b1_0:(List Int)) (b1_1:(List Int)) (b2_0:Int) (b2_1:Int) (b2_2:Int) (b2_3:Int) (b2_4:Int) (b3_0:Int) (b3_1:Int) (b3_2:Int) (b3_3:Int) (b3_4:Int) (b5_0:Int) (b5_1:Int) (b6_0:(List Int)):TrOk (BodyRuns Go.Proofs.Try.prog (kf116 Go.Proofs.Try.prog).orc 75 0 (sh75_0 Go.Proofs.Try.prog) (shb75_0 Go.Proofs.Try.prog) (shr75_0 Go.Proofs.Try.prog) ((x4,x5,x6,()),(),(b1_0,b1_1,()),(b2_0,b2_1,b2_2,b2_3,b2_4,()),(b3_0,b3_1,b3_2,b3_3,b3_4,()),(b5_0,b5_1,()),(b6_0,()),())) (t75_0 x4 x5 x6 b1_0 b1_1 b2_0 b2_1 b2_2 b2_3 b2_4 b3_0 b3_1 b3_2 b3_3 b3_4 b5_0 b5_1 b6_0) :=
  TrOk.ofTest (fun h0=>TrOk.ofTest (fun h1=>TrOk.ofTest (fun h2=>TrOk.ofTest (fun h4=>TrOk.ofTest (fun h7=>TrOk.ofTest (fun h8=>TrOk.ofTest (fun h9=>TrOk.ofTest (fun h10=>TrOk.ofTest (fun h11=>TrOk.ofFin (BodyRuns.of (e75_0_0 x4 x5 x6 b1_0 b1_1 b2_0 b2_1 b2_2 b2_3 b2_4 b3_0 b3_1 b3_2 b3_3 b3_4 b5_0 b5_1 b6_0) (ac (sc108_0) (ac h11 (ac h10 (ac h9 (ac h8 (ac h7 (ac rfl (ac rfl (ac h4 (ac rfl (ac h2 (ac h1 (ac h0 All.nil))))))))))))))) (fun h11=>TrOk.ofStop)) (fun h10=>TrOk.ofStop)) (fun h9=>TrOk.ofStop)) (fun h8=>TrOk.ofStop)) (fun h7=>TrOk.ofStop)) (fun h4=>TrOk.ofStop)) (fun h2=>TrOk.ofStop)) (fun h1=>TrOk.ofStop)) (fun h0=>TrOk.ofFin (BodyRuns.of (e75_0_4 x4 x5 x6 b1_0 b1_1 b2_0 b2_1 b2_2 b2_3 b2_4 b3_0 b3_1 b3_2 b3_3 b3_4 b5_0 b5_1 b6_0) (ac (sc108_0) (ac h0 All.nil))))

theorem ok75_0:LoopOk Go.Proofs.Try.prog 75 0 (lc75_0 Go.Proofs.Try.prog):=loopOk_ofB (sh:=(sh75_0 Go.Proofs.Try.prog)) (shB:=(shb75_0 Go.Proofs.Try.prog)) (shR:=(shr75_0 Go.Proofs.Try.prog)) kf116_ok.base (T:=fun (d:dt75_0)=>t75_0 d.1.1 d.1.2.1 d.1.2.2.1 d.2.2.1.1 d.2.2.1.2.1 d.2.2.2.1.1 d.2.2.2.1.2.1 d.2.2.2.1.2.2.1 d.2.2.2.1.2.2.2.1 d.2.2.2.1.2.2.2.2.1 d.2.2.2.2.1.1 d.2.2.2.2.1.2.1 d.2.2.2.2.1.2.2.1 d.2.2.2.2.1.2.2.2.1 d.2.2.2.2.1.2.2.2.2.1 d.2.2.2.2.2.1.1 d.2.2.2.2.2.1.2.1 d.2.2.2.2.2.2.1.1) (by kernel_rfl) rfl (fun (d:dt75_0)=>ok75_0_t d.1.1 d.1.2.1 d.1.2.2.1 d.2.2.1.1 d.2.2.1.2.1 d.2.2.2.1.1 d.2.2.2.1.2.1 d.2.2.2.1.2.2.1 d.2.2.2.1.2.2.2.1 d.2.2.2.1.2.2.2.2.1 d.2.2.2.2.1.1 d.2.2.2.2.1.2.1 d.2.2.2.2.1.2.2.1 d.2.2.2.2.1.2.2.2.1 d.2.2.2.2.1.2.2.2.2.1 d.2.2.2.2.2.1.1 d.2.2.2.2.2.1.2.1 d.2.2.2.2.2.2.1.1) (fun _=>rfl)
def kl75_0 (P:Go.Program):Known:=(kf116 P).loop 75 0 (lc75_0 P)
theorem kl75_0_ok:KnownOk Go.Proofs.Try.prog (kl75_0 Go.Proofs.Try.prog):=kf116_ok.loop ok75_0

/-! (ductility/modal.frame).valuesAt -/

abbrev as108:List Ty:=[(.pair (.pair (.slice (.int .i64)) (.pair (.slice (.int .i64)) .unit)) .unit),(.pair (.int .i64) (.pair (.int .i64) .unit))]
abbrev rs108:List Ty:=[(.slice (.int .i64))]

def t108 (x0_:(List Int)) (x0_':(List Int)) (x1:Int) (x1':Int):Tr (Tys.data rs108) :=
  Tr.test (isBrk (l75_0 ((x0_,((↑(List.length x0_):Int),((0:Int),()))),((),((x0_,(x0_',())),(((0:Int),((0:Int),((0:Int),((0:Int),((0:Int),()))))),(((1:Int),((0:Int),((0:Int),((0:Int),((0:Int),()))))),((x1,(x1',())),((([]:List Int),()),())))))))))
    (let r0:=b75_0 ((x0_,((↑(List.length x0_):Int),((0:Int),()))),((),((x0_,(x0_',())),(((0:Int),((0:Int),((0:Int),((0:Int),((0:Int),()))))),(((1:Int),((0:Int),((0:Int),((0:Int),((0:Int),()))))),((x1,(x1',())),((([]:List Int),()),())))))));
    Tr.test (Option.isSome (f116 ((r0.2.2.2.2.1.1,(r0.2.2.2.2.1.2.1,(r0.2.2.2.2.1.2.2.1,(r0.2.2.2.2.1.2.2.2.1,(r0.2.2.2.2.1.2.2.2.2.1,()))))),((r0.2.2.2.2.2.1.1,(r0.2.2.2.2.2.1.2.1,())),()))))
      (Tr.test ((Nat.ble (((2:Nat) * (List.length r0.2.2.2.2.2.2.1.1 + (1:Nat)) + (192:Nat)) * (8:Nat)) (281474976710656:Nat) && Nat.ble (List.length r0.2.2.2.2.2.2.1.1 + (1:Nat)) (281474976710656:Nat):Bool))
        (let r1:=g116 ((r0.2.2.2.2.1.1,(r0.2.2.2.2.1.2.1,(r0.2.2.2.2.1.2.2.1,(r0.2.2.2.2.1.2.2.2.1,(r0.2.2.2.2.1.2.2.2.2.1,()))))),((r0.2.2.2.2.2.1.1,(r0.2.2.2.2.2.1.2.1,())),()));
        Tr.fin (((r0.2.2.2.2.2.2.1.1++[r1.1]:List Int),())))
        (Tr.stop))
      (Tr.stop))
    (Tr.stop)

def f108 (d:Tys.data as108):Option (Tys.data rs108):=(t108 d.1.1.1 d.1.1.2.1 d.2.1.1 d.2.1.2.1).val
def g108 (d:Tys.data as108):Tys.data rs108:=(f108 d).getD (Tys.dflt rs108)
def p108:PureC:=pcOf as108 rs108 f108 g108

theorem e108_0 (x0_:(List Int)) (x0_':(List Int)) (x1:Int) (x1':Int):runPure (kl75_0 Go.Proofs.Try.prog).orc Go.Proofs.Try.prog 400 108 as108 rs108 (((x0_,x0_',()),()),(x1,x1',()),()) [tt,tt,tt,tt,ff,tt,tt] =
    (let r0:=b75_0 ((x0_,((↑(List.length x0_):Int),((0:Int),()))),((),((x0_,(x0_',())),(((0:Int),((0:Int),((0:Int),((0:Int),((0:Int),()))))),(((1:Int),((0:Int),((0:Int),((0:Int),((0:Int),()))))),((x1,(x1',())),((([]:List Int),()),())))))));let r1:=g116 ((r0.2.2.2.2.1.1,(r0.2.2.2.2.1.2.1,(r0.2.2.2.2.1.2.2.1,(r0.2.2.2.2.1.2.2.2.1,(r0.2.2.2.2.1.2.2.2.2.1,()))))),((r0.2.2.2.2.2.1.1,(r0.2.2.2.2.2.1.2.1,())),())); some (((r0.2.2.2.2.2.2.1.1++[r1.1]:List Int),()),[(true,true),(Nat.ble (((2:Nat) * (List.length r0.2.2.2.2.2.2.1.1 + (1:Nat)) + (192:Nat)) * (8:Nat)) (281474976710656:Nat) && Nat.ble (List.length r0.2.2.2.2.2.2.1.1 + (1:Nat)) (281474976710656:Nat),true),(false,false),(Option.isSome (f116 ((r0.2.2.2.2.1.1,(r0.2.2.2.2.1.2.1,(r0.2.2.2.2.1.2.2.1,(r0.2.2.2.2.1.2.2.2.1,(r0.2.2.2.2.1.2.2.2.2.1,()))))),((r0.2.2.2.2.2.1.1,(r0.2.2.2.2.2.1.2.1,())),()))),true),(true,true),(isBrk (l75_0 ((x0_,((↑(List.length x0_):Int),((0:Int),()))),((),((x0_,(x0_',())),(((0:Int),((0:Int),((0:Int),((0:Int),((0:Int),()))))),(((1:Int),((0:Int),((0:Int),((0:Int),((0:Int),()))))),((x1,(x1',())),((([]:List Int),()),())))))))),true),(sameRf Go.Proofs.Try.prog (nat_lit 108) (nat_lit 0),true)])):=by kernel_rfl

theorem ok108_t (x0_:(List Int)) (x0_':(List Int)) (x1:Int) (x1':Int):TrOk (PureRuns Go.Proofs.Try.prog (kl75_0 Go.Proofs.Try.prog).orc 108 as108 rs108 (((x0_,x0_',()),()),(x1,x1',()),())) (t108 x0_ x0_' x1 x1') :=
  TrOk.ofTest (fun h1=>TrOk.ofTest (fun h3=>TrOk.ofTest (fun h5=>TrOk.ofFin (PureRuns.of (e108_0 x0_ x0_' x1 x1') (ac rfl (ac h5 (ac rfl (ac h3 (ac rfl (ac h1 (ac (sc108_0) All.nil))))))))) (fun h5=>TrOk.ofStop)) (fun h3=>TrOk.ofStop)) (fun h1=>TrOk.ofStop)

theorem ok108:PureOk Go.Proofs.Try.prog 108 p108:=pureOk_of kl75_0_ok.base (T:=fun (d:Tys.data as108)=>t108 d.1.1.1 d.1.1.2.1 d.2.1.1 d.2.1.2.1) (by kernel_rfl) (fun (d:Tys.data as108)=>ok108_t d.1.1.1 d.1.1.2.1 d.2.1.1 d.2.1.2.1)
def kf108 (P:Go.Program):Known:=(kl75_0 P).func 108 p108
theorem kf108_ok:KnownOk Go.Proofs.Try.prog (kf108 Go.Proofs.Try.prog):=kl75_0_ok.func ok108

/-! ductility/modal.signOf -/

abbrev as115:List Ty:=[(.int .i64)]
abbrev rs115:List Ty:=[(.int .i64)]

def t115 (x0:Int):Tr (Tys.data rs115) :=
  Tr.test ((!leF (0:Int) x0:Bool))
    (Tr.fin (((-1:Int),())))
    (Tr.test (!leF x0 0)
      (Tr.fin (((1:Int),())))
      (Tr.fin (((0:Int),()))))

def f115 (d:Tys.data as115):Option (Tys.data rs115):=(t115 d.1).val
def g115 (d:Tys.data as115):Tys.data rs115:=(f115 d).getD (Tys.dflt rs115)
def p115:PureC:=pcOf as115 rs115 f115 g115

theorem wk115 (x0:Int):Walks (runPure (kf108 Go.Proofs.Try.prog).orc Go.Proofs.Try.prog 400 115 as115 rs115 (x0,())) (t115 x0) [([tt],[2]),([false,true],[2,4]),([false,false],[2,4])] :=
  ⟨by kernel_rfl,by kernel_rfl,by kernel_rfl,trivial⟩

theorem ok115_t (x0:Int):TrOk (PureRuns Go.Proofs.Try.prog (kf108 Go.Proofs.Try.prog).orc 115 as115 rs115 (x0,())) (t115 x0) :=
  Walks.ok (fun _ _ _=>PureRuns.of) (wk115 x0) (by kernel_rfl)

theorem ok115:PureOk Go.Proofs.Try.prog 115 p115:=pureOk_of kf108_ok.base (T:=fun (d:Tys.data as115)=>t115 d.1) (by kernel_rfl) (fun (d:Tys.data as115)=>ok115_t d.1)
def kf115 (P:Go.Program):Known:=(kf108 P).func 115 p115
theorem kf115_ok:KnownOk Go.Proofs.Try.prog (kf115 Go.Proofs.Try.prog):=kf108_ok.func ok115

/-! loop 0 of ductility/modal.changesIn -/

abbrev sh107_0:Sh:={ n:=27,slots:=[3,4,8,9,10],pats:=[.ty (.int .i64),.ty (.int .i64),.ty (.slice (.int .i64)),.ty (.int .i64),.ty (.int .i64)],boxes:=[] }
abbrev shb107_0:Sh:={ n:=27,slots:=[3],pats:=[.ty (.int .i64)],boxes:=[] }
abbrev shr107_0:Sh:={ n:=27,slots:=[],pats:=[],boxes:=[] }

def t107_0 (x0:Int) (x1:Int) (x2:(List Int)) (x3:Int) (x4:Int):Tr (Out sh107_0.data shb107_0.data shr107_0.data) :=
  Tr.test ((!leF x3 x4:Bool))
    (Tr.test (decide ((0:Int) ≤ x4) && decide (x4 < (↑(List.length x2):Int)))
      (Tr.test (Option.isSome (f115 ((List.getD x2 (Int.toNat x4) (0:Int):Int),())))
        (let r0:=g115 ((List.getD x2 (Int.toNat x4) (0:Int):Int),());
        Tr.test ((!leF (0:Int) (wrap64 (r0.1 * x1)):Bool))
          (Tr.test ((!eqF r0.1 0:Bool))
            (Tr.fin (.again (((wrap64 (x0 + (1:Int)):Int),(r0.1,(x2,(x3,((wrap64 (x4 + (1:Int)):Int),()))))),())))
            (Tr.fin (.again (((wrap64 (x0 + (1:Int)):Int),(x1,(x2,(x3,((wrap64 (x4 + (1:Int)):Int),()))))),()))))
          (Tr.test ((!eqF r0.1 0:Bool))
            (Tr.fin (.again ((x0,(r0.1,(x2,(x3,((wrap64 (x4 + (1:Int)):Int),()))))),())))
            (Tr.fin (.again ((x0,(x1,(x2,(x3,((wrap64 (x4 + (1:Int)):Int),()))))),())))))
        (Tr.stop))
      (Tr.stop))
    (Tr.fin (.brk ((x0,()),())))

def s107_0 (d:sh107_0.data):Option (Out sh107_0.data shb107_0.data shr107_0.data):=(t107_0 d.1.1 d.1.2.1 d.1.2.2.1 d.1.2.2.2.1 d.1.2.2.2.2.1).val
def l107_0 (d:sh107_0.data):Option (shb107_0.data ⊕ shr107_0.data):=itr s107_0 rounds d
def b107_0 (d:sh107_0.data):shb107_0.data:=outB shb107_0.dflt (l107_0 d)
def lc107_0:LoopC:=lcB sh107_0 shb107_0 shr107_0 l107_0 b107_0

theorem wk107_0 (x0:Int) (x1:Int) (x2:(List Int)) (x3:Int) (x4:Int):Walks (runBody (kf115 Go.Proofs.Try.prog).orc Go.Proofs.Try.prog 400 107 0 sh107_0 shb107_0 shr107_0 ((x0,x1,x2,x3,x4,()),())) (t107_0 x0 x1 x2 x3 x4) [([true,true,true,true,true],[2,4,6,8,10]),([true,true,true,true,false],[2,4,6,8,10]),([true,true,true,false,true],[2,4,6,8,10]),([true,true,true,false,false],[2,4,6,8,10]),([ff],[2])] :=
  ⟨by kernel_rfl,by kernel_rfl,by kernel_rfl,by kernel_rfl,by kernel_rfl,trivial⟩

theorem ok107_0_t (x0:Int) (x1:Int) (x2:(List Int)) (x3:Int) (x4:Int):TrOk (BodyRuns Go.Proofs.Try.prog (kf115 Go.Proofs.Try.prog).orc 107 0 sh107_0 shb107_0 shr107_0 ((x0,x1,x2,x3,x4,()),())) (t107_0 x0 x1 x2 x3 x4) :=
  Walks.ok (fun _ _ _=>BodyRuns.of) (wk107_0 x0 x1 x2 x3 x4) (by kernel_rfl)

theorem ok107_0:LoopOk Go.Proofs.Try.prog 107 0 lc107_0:=loopOk_ofB (sh:=sh107_0) (shB:=shb107_0) (shR:=shr107_0) kf115_ok.base (T:=fun (d:sh107_0.data)=>t107_0 d.1.1 d.1.2.1 d.1.2.2.1 d.1.2.2.2.1 d.1.2.2.2.2.1) (by kernel_rfl) rfl (fun (d:sh107_0.data)=>ok107_0_t d.1.1 d.1.2.1 d.1.2.2.1 d.1.2.2.2.1 d.1.2.2.2.2.1) (fun _=>rfl)
def kl107_0 (P:Go.Program):Known:=(kf115 P).loop 107 0 lc107_0
theorem kl107_0_ok:KnownOk Go.Proofs.Try.prog (kl107_0 Go.Proofs.Try.prog):=kf115_ok.loop ok107_0

/-! ductility/modal.changesIn -/

abbrev as107:List Ty:=[(.slice (.int .i64))]
abbrev rs107:List Ty:=[(.int .i64)]

def t107 (x0:(List Int)):Tr (Tys.data rs107) :=
  Tr.test (isBrk (l107_0 (((0:Int),((0:Int),(x0,((↑(List.length x0):Int),((0:Int),()))))),())))
    (let r0:=b107_0 (((0:Int),((0:Int),(x0,((↑(List.length x0):Int),((0:Int),()))))),());
    Tr.fin ((r0.1.1,())))
    (Tr.stop)

def f107 (d:Tys.data as107):Option (Tys.data rs107):=(t107 d.1).val
def g107 (d:Tys.data as107):Tys.data rs107:=(f107 d).getD (Tys.dflt rs107)
def p107:PureC:=pcOf as107 rs107 f107 g107

theorem wk107 (x0:(List Int)):Walks (runPure (kl107_0 Go.Proofs.Try.prog).orc Go.Proofs.Try.prog 400 107 as107 rs107 (x0,())) (t107 x0) [([tt],[1,2])] :=
  ⟨by kernel_rfl,trivial⟩

theorem ok107_t (x0:(List Int)):TrOk (PureRuns Go.Proofs.Try.prog (kl107_0 Go.Proofs.Try.prog).orc 107 as107 rs107 (x0,())) (t107 x0) :=
  Walks.ok (fun _ _ _=>PureRuns.of) (wk107 x0) (by kernel_rfl)

theorem ok107:PureOk Go.Proofs.Try.prog 107 p107:=pureOk_of kl107_0_ok.base (T:=fun (d:Tys.data as107)=>t107 d.1) (by kernel_rfl) (fun (d:Tys.data as107)=>ok107_t d.1)
def kf107 (P:Go.Program):Known:=(kl107_0 P).func 107 p107
theorem kf107_ok:KnownOk Go.Proofs.Try.prog (kf107 Go.Proofs.Try.prog):=kl107_0_ok.func ok107

/-! (ductility/modal.frame).countBelow -/

abbrev as91:List Ty:=[(.pair (.pair (.slice (.int .i64)) (.pair (.slice (.int .i64)) .unit)) .unit),(.pair (.int .i64) (.pair (.int .i64) .unit))]
abbrev rs91:List Ty:=[(.int .i64)]

def t91 (x0_:(List Int)) (x0_':(List Int)) (x1:Int) (x1':Int):Tr (Tys.data rs91) :=
  Tr.test (Option.isSome (f108 (((x0_,(x0_',())),()),((x1,(x1',())),()))))
    (let r0:=g108 (((x0_,(x0_',())),()),((x1,(x1',())),()));
    Tr.test (Option.isSome (f107 (r0.1,())))
      (let r1:=g107 (r0.1,());
      Tr.fin ((r1.1,())))
      (Tr.stop))
    (Tr.stop)

def f91 (d:Tys.data as91):Option (Tys.data rs91):=(t91 d.1.1.1 d.1.1.2.1 d.2.1.1 d.2.1.2.1).val
def g91 (d:Tys.data as91):Tys.data rs91:=(f91 d).getD (Tys.dflt rs91)
def p91:PureC:=pcOf as91 rs91 f91 g91

theorem wk91 (x0_:(List Int)) (x0_':(List Int)) (x1:Int) (x1':Int):Walks (runPure (kf107 Go.Proofs.Try.prog).orc Go.Proofs.Try.prog 400 91 as91 rs91 (((x0_,x0_',()),()),(x1,x1',()),())) (t91 x0_ x0_' x1 x1') [([true,true],[2,4])] :=
  ⟨by kernel_rfl,trivial⟩

theorem ok91_t (x0_:(List Int)) (x0_':(List Int)) (x1:Int) (x1':Int):TrOk (PureRuns Go.Proofs.Try.prog (kf107 Go.Proofs.Try.prog).orc 91 as91 rs91 (((x0_,x0_',()),()),(x1,x1',()),())) (t91 x0_ x0_' x1 x1') :=
  Walks.ok (fun _ _ _=>PureRuns.of) (wk91 x0_ x0_' x1 x1') (by kernel_rfl)

theorem ok91:PureOk Go.Proofs.Try.prog 91 p91:=pureOk_of kf107_ok.base (T:=fun (d:Tys.data as91)=>t91 d.1.1.1 d.1.1.2.1 d.2.1.1 d.2.1.2.1) (by kernel_rfl) (fun (d:Tys.data as91)=>ok91_t d.1.1.1 d.1.1.2.1 d.2.1.1 d.2.1.2.1)
def kf91 (P:Go.Program):Known:=(kf107 P).func 91 p91
theorem kf91_ok:KnownOk Go.Proofs.Try.prog (kf91 Go.Proofs.Try.prog):=kf107_ok.func ok91

/-! (ductility/modal.frame).isMode -/

abbrev as109:List Ty:=[(.pair (.pair (.slice (.int .i64)) (.pair (.slice (.int .i64)) .unit)) .unit),(.pair (.int .i64) (.pair (.int .i64) .unit))]
abbrev rs109:List Ty:=[.bool]

def t109 (x0_:(List Int)) (x0_':(List Int)) (x1:Int) (x1':Int):Tr (Tys.data rs109) :=
  Tr.test (Option.isSome (f108 (((x0_,(x0_',())),()),((x1,(x1',())),()))))
    (let r0:=g108 (((x0_,(x0_',())),()),((x1,(x1',())),()));
    Tr.test ((decide ((0:Int) ≤ wrap64 ((↑(List.length r0.1):Int) - (1:Int))) && decide (wrap64 ((↑(List.length r0.1):Int) - (1:Int)) < (↑(List.length r0.1):Int)):Bool))
      (Tr.fin (((eqF (List.getD r0.1 (Int.toNat (wrap64 ((↑(List.length r0.1):Int) - (1:Int)))) (0:Int)) (0:Int):Bool),())))
      (Tr.stop))
    (Tr.stop)

def f109 (d:Tys.data as109):Option (Tys.data rs109):=(t109 d.1.1.1 d.1.1.2.1 d.2.1.1 d.2.1.2.1).val
def g109 (d:Tys.data as109):Tys.data rs109:=(f109 d).getD (Tys.dflt rs109)
def p109:PureC:=pcOf as109 rs109 f109 g109

theorem wk109 (x0_:(List Int)) (x0_':(List Int)) (x1:Int) (x1':Int):Walks (runPure (kf91 Go.Proofs.Try.prog).orc Go.Proofs.Try.prog 400 109 as109 rs109 (((x0_,x0_',()),()),(x1,x1',()),())) (t109 x0_ x0_' x1 x1') [([true,true],[2,4])] :=
  ⟨by kernel_rfl,trivial⟩

theorem ok109_t (x0_:(List Int)) (x0_':(List Int)) (x1:Int) (x1':Int):TrOk (PureRuns Go.Proofs.Try.prog (kf91 Go.Proofs.Try.prog).orc 109 as109 rs109 (((x0_,x0_',()),()),(x1,x1',()),())) (t109 x0_ x0_' x1 x1') :=
  Walks.ok (fun _ _ _=>PureRuns.of) (wk109 x0_ x0_' x1 x1') (by kernel_rfl)

theorem ok109:PureOk Go.Proofs.Try.prog 109 p109:=pureOk_of kf91_ok.base (T:=fun (d:Tys.data as109)=>t109 d.1.1.1 d.1.1.2.1 d.2.1.1 d.2.1.2.1) (by kernel_rfl) (fun (d:Tys.data as109)=>ok109_t d.1.1.1 d.1.1.2.1 d.2.1.1 d.2.1.2.1)
def kf109 (P:Go.Program):Known:=(kf91 P).func 109 p109
theorem kf109_ok:KnownOk Go.Proofs.Try.prog (kf109 Go.Proofs.Try.prog):=kf91_ok.func ok109

/-! (ductility/modal.frame).countUpTo -/

abbrev as93:List Ty:=[(.pair (.pair (.slice (.int .i64)) (.pair (.slice (.int .i64)) .unit)) .unit),(.pair (.int .i64) (.pair (.int .i64) .unit))]
abbrev rs93:List Ty:=[(.int .i64)]

def t93 (x0_:(List Int)) (x0_':(List Int)) (x1:Int) (x1':Int):Tr (Tys.data rs93) :=
  Tr.test (Option.isSome (f109 (((x0_,(x0_',())),()),((x1,(x1',())),()))))
    (let r0:=g109 (((x0_,(x0_',())),()),((x1,(x1',())),()));
    Tr.test (r0.1)
      (Tr.test (Option.isSome (f91 (((x0_,(x0_',())),()),((x1,(x1',())),()))))
        (let r1:=g91 (((x0_,(x0_',())),()),((x1,(x1',())),()));
        Tr.fin (((wrap64 (r1.1 + (1:Int)):Int),())))
        (Tr.stop))
      (Tr.test (Option.isSome (f91 (((x0_,(x0_',())),()),((x1,(x1',())),()))))
        (let r1:=g91 (((x0_,(x0_',())),()),((x1,(x1',())),()));
        Tr.fin ((r1.1,())))
        (Tr.stop)))
    (Tr.stop)

def f93 (d:Tys.data as93):Option (Tys.data rs93):=(t93 d.1.1.1 d.1.1.2.1 d.2.1.1 d.2.1.2.1).val
def g93 (d:Tys.data as93):Tys.data rs93:=(f93 d).getD (Tys.dflt rs93)
def p93:PureC:=pcOf as93 rs93 f93 g93

theorem wk93 (x0_:(List Int)) (x0_':(List Int)) (x1:Int) (x1':Int):Walks (runPure (kf109 Go.Proofs.Try.prog).orc Go.Proofs.Try.prog 400 93 as93 rs93 (((x0_,x0_',()),()),(x1,x1',()),())) (t93 x0_ x0_' x1 x1') [([true,true,true],[2,4,6]),([true,false,true],[2,4,6])] :=
  ⟨by kernel_rfl,by kernel_rfl,trivial⟩

theorem ok93_t (x0_:(List Int)) (x0_':(List Int)) (x1:Int) (x1':Int):TrOk (PureRuns Go.Proofs.Try.prog (kf109 Go.Proofs.Try.prog).orc 93 as93 rs93 (((x0_,x0_',()),()),(x1,x1',()),())) (t93 x0_ x0_' x1 x1') :=
  Walks.ok (fun _ _ _=>PureRuns.of) (wk93 x0_ x0_' x1 x1') (by kernel_rfl)

theorem ok93:PureOk Go.Proofs.Try.prog 93 p93:=pureOk_of kf109_ok.base (T:=fun (d:Tys.data as93)=>t93 d.1.1.1 d.1.1.2.1 d.2.1.1 d.2.1.2.1) (by kernel_rfl) (fun (d:Tys.data as93)=>ok93_t d.1.1.1 d.1.1.2.1 d.2.1.1 d.2.1.2.1)
def kf93 (P:Go.Program):Known:=(kf109 P).func 93 p93
theorem kf93_ok:KnownOk Go.Proofs.Try.prog (kf93 Go.Proofs.Try.prog):=kf109_ok.func ok93

/-! loop 0 of sort.Search -/

abbrev sh89_0:Sh:={ n:=26,slots:=[1,5,6],pats:=[.fn 90 [(0,2),(1,1),(2,1)],.ty (.int .i64),.ty (.int .i64)],boxes:=[.row [.ty (.slice (.int .i64)),.ty (.slice (.int .i64))],.row [.ty (.int .i64)],.row [.ty (.int .i64)]] }
abbrev shb89_0:Sh:={ n:=26,slots:=[5],pats:=[.ty (.int .i64)],boxes:=[.row [.ty (.slice (.int .i64)),.ty (.slice (.int .i64))],.row [.ty (.int .i64)],.row [.ty (.int .i64)]] }
abbrev shr89_0:Sh:={ n:=26,slots:=[],pats:=[],boxes:=[.row [.ty (.slice (.int .i64)),.ty (.slice (.int .i64))],.row [.ty (.int .i64)],.row [.ty (.int .i64)]] }

def t89_0 (x1:Int) (x2:Int) (b0_0:(List Int)) (b0_1:(List Int)) (b1_0:Int) (b2_0:Int):Tr (Out sh89_0.data shb89_0.data shr89_0.data) :=
  Tr.test ((!leF x2 x1:Bool))
    (Tr.test (Option.isSome (f91 (((b0_0,(b0_1,())),()),(((Go.IntKind.wrap Go.IntKind.i64 (Int.fdiv (Go.IntKind.wrap Go.IntKind.u64 (wrap64 (x1 + x2))) (2:Int)):Int),(b1_0,())),()))))
      (let r0:=g91 (((b0_0,(b0_1,())),()),(((Go.IntKind.wrap Go.IntKind.i64 (Int.fdiv (Go.IntKind.wrap Go.IntKind.u64 (wrap64 (x1 + x2))) (2:Int)):Int),(b1_0,())),()));
      Tr.test ((!!leF r0.1 b2_0:Bool))
        (Tr.fin (.again (((wrap64 (Go.IntKind.wrap Go.IntKind.i64 (Int.fdiv (Go.IntKind.wrap Go.IntKind.u64 (wrap64 (x1 + x2))) (2:Int)) + (1:Int)):Int),(x2,())),((b0_0,(b0_1,())),((b1_0,()),((b2_0,()),()))))))
        (Tr.fin (.again ((x1,((Go.IntKind.wrap Go.IntKind.i64 (Int.fdiv (Go.IntKind.wrap Go.IntKind.u64 (wrap64 (x1 + x2))) (2:Int)):Int),())),((b0_0,(b0_1,())),((b1_0,()),((b2_0,()),())))))))
      (Tr.stop))
    (Tr.fin (.brk ((x1,()),((b0_0,(b0_1,())),((b1_0,()),((b2_0,()),()))))))

def s89_0 (d:sh89_0.data):Option (Out sh89_0.data shb89_0.data shr89_0.data):=(t89_0 d.1.1 d.1.2.1 d.2.1.1 d.2.1.2.1 d.2.2.1.1 d.2.2.2.1.1).val
def l89_0 (d:sh89_0.data):Option (shb89_0.data ⊕ shr89_0.data):=itr s89_0 rounds d
def b89_0 (d:sh89_0.data):shb89_0.data:=outB shb89_0.dflt (l89_0 d)
def lc89_0:LoopC:=lcB sh89_0 shb89_0 shr89_0 l89_0 b89_0

theorem wk89_0 (x1:Int) (x2:Int) (b0_0:(List Int)) (b0_1:(List Int)) (b1_0:Int) (b2_0:Int):Walks (runBody (kf93 Go.Proofs.Try.prog).orc Go.Proofs.Try.prog 400 89 0 sh89_0 shb89_0 shr89_0 ((x1,x2,()),(b0_0,b0_1,()),(b1_0,()),(b2_0,()),())) (t89_0 x1 x2 b0_0 b0_1 b1_0 b2_0) [([true,true,true],[2,4,6]),([true,true,false],[2,4,6]),([ff],[2])] :=
  ⟨by kernel_rfl,by kernel_rfl,by kernel_rfl,trivial⟩

theorem ok89_0_t (x1:Int) (x2:Int) (b0_0:(List Int)) (b0_1:(List Int)) (b1_0:Int) (b2_0:Int):TrOk (BodyRuns Go.Proofs.Try.prog (kf93 Go.Proofs.Try.prog).orc 89 0 sh89_0 shb89_0 shr89_0 ((x1,x2,()),(b0_0,b0_1,()),(b1_0,()),(b2_0,()),())) (t89_0 x1 x2 b0_0 b0_1 b1_0 b2_0) :=
  Walks.ok (fun _ _ _=>BodyRuns.of) (wk89_0 x1 x2 b0_0 b0_1 b1_0 b2_0) (by kernel_rfl)

theorem ok89_0:LoopOk Go.Proofs.Try.prog 89 0 lc89_0:=loopOk_ofB (sh:=sh89_0) (shB:=shb89_0) (shR:=shr89_0) kf93_ok.base (T:=fun (d:sh89_0.data)=>t89_0 d.1.1 d.1.2.1 d.2.1.1 d.2.1.2.1 d.2.2.1.1 d.2.2.2.1.1) (by kernel_rfl) rfl (fun (d:sh89_0.data)=>ok89_0_t d.1.1 d.1.2.1 d.2.1.1 d.2.1.2.1 d.2.2.1.1 d.2.2.2.1.1) (fun _=>rfl)
def kl89_0 (P:Go.Program):Known:=(kf93 P).loop 89 0 lc89_0
theorem kl89_0_ok:KnownOk Go.Proofs.Try.prog (kl89_0 Go.Proofs.Try.prog):=kf93_ok.loop ok89_0

/-! loop 0 of sort.Search -/

abbrev sh89_0_1:Sh:={ n:=26,slots:=[1,5,6],pats:=[.fn 92 [(0,2),(1,1),(2,1)],.ty (.int .i64),.ty (.int .i64)],boxes:=[.row [.ty (.slice (.int .i64)),.ty (.slice (.int .i64))],.row [.ty (.int .i64)],.row [.ty (.int .i64)]] }
abbrev shb89_0_1:Sh:={ n:=26,slots:=[5],pats:=[.ty (.int .i64)],boxes:=[.row [.ty (.slice (.int .i64)),.ty (.slice (.int .i64))],.row [.ty (.int .i64)],.row [.ty (.int .i64)]] }
abbrev shr89_0_1:Sh:={ n:=26,slots:=[],pats:=[],boxes:=[.row [.ty (.slice (.int .i64)),.ty (.slice (.int .i64))],.row [.ty (.int .i64)],.row [.ty (.int .i64)]] }

def t89_0_1 (x1:Int) (x2:Int) (b0_0:(List Int)) (b0_1:(List Int)) (b1_0:Int) (b2_0:Int):Tr (Out sh89_0_1.data shb89_0_1.data shr89_0_1.data) :=
  Tr.test ((!leF x2 x1:Bool))
    (Tr.test (Option.isSome (f93 (((b0_0,(b0_1,())),()),(((Go.IntKind.wrap Go.IntKind.i64 (Int.fdiv (Go.IntKind.wrap Go.IntKind.u64 (wrap64 (x1 + x2))) (2:Int)):Int),(b1_0,())),()))))
      (let r0:=g93 (((b0_0,(b0_1,())),()),(((Go.IntKind.wrap Go.IntKind.i64 (Int.fdiv (Go.IntKind.wrap Go.IntKind.u64 (wrap64 (x1 + x2))) (2:Int)):Int),(b1_0,())),()));
      Tr.test ((!!leF r0.1 b2_0:Bool))
        (Tr.fin (.again (((wrap64 (Go.IntKind.wrap Go.IntKind.i64 (Int.fdiv (Go.IntKind.wrap Go.IntKind.u64 (wrap64 (x1 + x2))) (2:Int)) + (1:Int)):Int),(x2,())),((b0_0,(b0_1,())),((b1_0,()),((b2_0,()),()))))))
        (Tr.fin (.again ((x1,((Go.IntKind.wrap Go.IntKind.i64 (Int.fdiv (Go.IntKind.wrap Go.IntKind.u64 (wrap64 (x1 + x2))) (2:Int)):Int),())),((b0_0,(b0_1,())),((b1_0,()),((b2_0,()),())))))))
      (Tr.stop))
    (Tr.fin (.brk ((x1,()),((b0_0,(b0_1,())),((b1_0,()),((b2_0,()),()))))))

def s89_0_1 (d:sh89_0_1.data):Option (Out sh89_0_1.data shb89_0_1.data shr89_0_1.data):=(t89_0_1 d.1.1 d.1.2.1 d.2.1.1 d.2.1.2.1 d.2.2.1.1 d.2.2.2.1.1).val
def l89_0_1 (d:sh89_0_1.data):Option (shb89_0_1.data ⊕ shr89_0_1.data):=itr s89_0_1 rounds d
def b89_0_1 (d:sh89_0_1.data):shb89_0_1.data:=outB shb89_0_1.dflt (l89_0_1 d)
def lc89_0_1:LoopC:=lcB sh89_0_1 shb89_0_1 shr89_0_1 l89_0_1 b89_0_1

theorem wk89_0_1 (x1:Int) (x2:Int) (b0_0:(List Int)) (b0_1:(List Int)) (b1_0:Int) (b2_0:Int):Walks (runBody (kl89_0 Go.Proofs.Try.prog).orc Go.Proofs.Try.prog 400 89 0 sh89_0_1 shb89_0_1 shr89_0_1 ((x1,x2,()),(b0_0,b0_1,()),(b1_0,()),(b2_0,()),())) (t89_0_1 x1 x2 b0_0 b0_1 b1_0 b2_0) [([true,true,true],[2,4,6]),([true,true,false],[2,4,6]),([ff],[2])] :=
  ⟨by kernel_rfl,by kernel_rfl,by kernel_rfl,trivial⟩

theorem ok89_0_1_t (x1:Int) (x2:Int) (b0_0:(List Int)) (b0_1:(List Int)) (b1_0:Int) (b2_0:Int):TrOk (BodyRuns Go.Proofs.Try.prog (kl89_0 Go.Proofs.Try.prog).orc 89 0 sh89_0_1 shb89_0_1 shr89_0_1 ((x1,x2,()),(b0_0,b0_1,()),(b1_0,()),(b2_0,()),())) (t89_0_1 x1 x2 b0_0 b0_1 b1_0 b2_0) :=
  Walks.ok (fun _ _ _=>BodyRuns.of) (wk89_0_1 x1 x2 b0_0 b0_1 b1_0 b2_0) (by kernel_rfl)

theorem ok89_0_1:LoopOk Go.Proofs.Try.prog 89 0 lc89_0_1:=loopOk_ofB (sh:=sh89_0_1) (shB:=shb89_0_1) (shR:=shr89_0_1) kl89_0_ok.base (T:=fun (d:sh89_0_1.data)=>t89_0_1 d.1.1 d.1.2.1 d.2.1.1 d.2.1.2.1 d.2.2.1.1 d.2.2.2.1.1) (by kernel_rfl) rfl (fun (d:sh89_0_1.data)=>ok89_0_1_t d.1.1 d.1.2.1 d.2.1.1 d.2.1.2.1 d.2.2.1.1 d.2.2.2.1.1) (fun _=>rfl)
def kl89_0_1 (P:Go.Program):Known:=(kl89_0 P).loop 89 0 lc89_0_1
theorem kl89_0_1_ok:KnownOk Go.Proofs.Try.prog (kl89_0_1 Go.Proofs.Try.prog):=kl89_0_ok.loop ok89_0_1

/-! (ductility/modal.frame).enclosure -/

abbrev as72:List Ty:=[(.pair (.pair (.slice (.int .i64)) (.pair (.slice (.int .i64)) .unit)) .unit),(.int .i64),(.int .i64)]
abbrev rs72:List Ty:=[(.pair (.int .i64) (.pair (.int .i64) .unit))]

def t72 (x0_:(List Int)) (x0_':(List Int)) (x1:Int) (x2:Int):Tr (Tys.data rs72) :=
  Tr.test (isBrk (l89_0 (((0:Int),((4001:Int),())),((x0_,(x0_',())),((x2,()),((x1,()),()))))))
    (let r0:=b89_0 (((0:Int),((4001:Int),())),((x0_,(x0_',())),((x2,()),((x1,()),()))));
    Tr.test (isBrk (l89_0_1 (((0:Int),((4000:Int),())),((r0.2.1.1,(r0.2.1.2.1,())),((r0.2.2.1.1,()),((r0.2.2.2.1.1,()),()))))))
      (let r1:=b89_0_1 (((0:Int),((4000:Int),())),((r0.2.1.1,(r0.2.1.2.1,())),((r0.2.2.1.1,()),((r0.2.2.2.1.1,()),()))));
      Tr.fin ((((wrap64 (r0.1.1 - (1:Int)):Int),(r1.1.1,())),())))
      (Tr.stop))
    (Tr.stop)

def f72 (d:Tys.data as72):Option (Tys.data rs72):=(t72 d.1.1.1 d.1.1.2.1 d.2.1 d.2.2.1).val
def g72 (d:Tys.data as72):Tys.data rs72:=(f72 d).getD (Tys.dflt rs72)
def p72:PureC:=pcOf as72 rs72 f72 g72

theorem wk72 (x0_:(List Int)) (x0_':(List Int)) (x1:Int) (x2:Int):Walks (runPure (kl89_0_1 Go.Proofs.Try.prog).orc Go.Proofs.Try.prog 400 72 as72 rs72 (((x0_,x0_',()),()),x1,x2,())) (t72 x0_ x0_' x1 x2) [([true,true],[1,2,1,4])] :=
  ⟨by kernel_rfl,trivial⟩

theorem ok72_t (x0_:(List Int)) (x0_':(List Int)) (x1:Int) (x2:Int):TrOk (PureRuns Go.Proofs.Try.prog (kl89_0_1 Go.Proofs.Try.prog).orc 72 as72 rs72 (((x0_,x0_',()),()),x1,x2,())) (t72 x0_ x0_' x1 x2) :=
  Walks.ok (fun _ _ _=>PureRuns.of) (wk72 x0_ x0_' x1 x2) (by kernel_rfl)

theorem ok72:PureOk Go.Proofs.Try.prog 72 p72:=pureOk_of kl89_0_1_ok.base (T:=fun (d:Tys.data as72)=>t72 d.1.1.1 d.1.1.2.1 d.2.1 d.2.2.1) (by kernel_rfl) (fun (d:Tys.data as72)=>ok72_t d.1.1.1 d.1.1.2.1 d.2.1 d.2.2.1)
def kf72 (P:Go.Program):Known:=(kl89_0_1 P).func 72 p72
theorem kf72_ok:KnownOk Go.Proofs.Try.prog (kf72 Go.Proofs.Try.prog):=kl89_0_1_ok.func ok72

/-! ductility/modal.EnclosureOf -/

abbrev as43:List Ty:=[(.pair (.slice (.int .i64)) (.pair (.slice (.int .i64)) .unit)),(.int .i64),(.int .i64)]
abbrev rs43:List Ty:=[(.pair (.int .i64) (.pair (.int .i64) .unit)),(.int .i64)]

def t43 (x0:(List Int)) (x0':(List Int)) (x1:Int) (x2:Int):Tr (Tys.data rs43) :=
  Tr.test (Option.isSome (f50 ((0:Int),((wrap64 ((↑(List.length x0):Int) - (1:Int)):Int),(([x1]:List Int),())))))
    (let r0:=g50 ((0:Int),((wrap64 ((↑(List.length x0):Int) - (1:Int)):Int),(([x1]:List Int),())));
    Tr.test (Option.isSome (f47 ((!r0.1:Bool),((6:Int),()))))
      (Tr.test (Option.isSome (f71 (x2,())))
        (Tr.test (Option.isSome (f9 ((x0,(x0',())),())))
          (let r1:=g47 ((!r0.1:Bool),((6:Int),()));
          let r2:=g71 (x2,());
          Tr.test (Option.isSome (f46 (([r1.1,r2.1]:List Int),())))
            (let r3:=g9 ((x0,(x0',())),());
            let r4:=g46 (([r1.1,r2.1]:List Int),());
            Tr.test (Option.isSome (f46 (([r3.2.1,r4.1]:List Int),())))
              (let r5:=g46 (([r3.2.1,r4.1]:List Int),());
              Tr.test ((!eqF r5.1 0:Bool))
                (Tr.fin ((((0:Int),((0:Int),())),(r5.1,()))))
                (Tr.test (Option.isSome (f72 (((x0,(x0',())),()),(x1,(x2,())))))
                  (let r6:=g72 (((x0,(x0',())),()),(x1,(x2,())));
                  Tr.fin (((r6.1.1,(r6.1.2.1,())),((0:Int),()))))
                  (Tr.stop)))
              (Tr.stop))
            (Tr.stop))
          (Tr.stop))
        (Tr.stop))
      (Tr.stop))
    (Tr.stop)

def f43 (d:Tys.data as43):Option (Tys.data rs43):=(t43 d.1.1 d.1.2.1 d.2.1 d.2.2.1).val
def g43 (d:Tys.data as43):Tys.data rs43:=(f43 d).getD (Tys.dflt rs43)
def p43:PureC:=pcOf as43 rs43 f43 g43

theorem wk43 (x0:(List Int)) (x0':(List Int)) (x1:Int) (x2:Int):Walks (runPure (kf72 Go.Proofs.Try.prog).orc Go.Proofs.Try.prog 400 43 as43 rs43 ((x0,x0',()),x1,x2,())) (t43 x0 x0' x1 x2) [([true,true,true,true,true,true,true],[2,2,4,1,6,1,8,10,12,14,1]),([true,true,true,true,true,true,false,true],[2,0,4,6,1,8,1,10,12,14,16,1])] :=
  ⟨by kernel_rfl,by kernel_rfl,trivial⟩

theorem ok43_t (x0:(List Int)) (x0':(List Int)) (x1:Int) (x2:Int):TrOk (PureRuns Go.Proofs.Try.prog (kf72 Go.Proofs.Try.prog).orc 43 as43 rs43 ((x0,x0',()),x1,x2,())) (t43 x0 x0' x1 x2) :=
  Walks.ok (fun _ _ _=>PureRuns.of) (wk43 x0 x0' x1 x2) (by kernel_rfl)

theorem ok43:PureOk Go.Proofs.Try.prog 43 p43:=pureOk_of kf72_ok.base (T:=fun (d:Tys.data as43)=>t43 d.1.1 d.1.2.1 d.2.1 d.2.2.1) (by kernel_rfl) (fun (d:Tys.data as43)=>ok43_t d.1.1 d.1.2.1 d.2.1 d.2.2.1)
def kf43 (P:Go.Program):Known:=(kf72 P).func 43 p43
theorem kf43_ok:KnownOk Go.Proofs.Try.prog (kf43 Go.Proofs.Try.prog):=kf72_ok.func ok43

/-! ductility/ductilitylaw06.Decay -/

abbrev as44:List Ty:=[]
abbrev rs44:List Ty:=[(.pair (.slice (.int .i64)) (.pair (.int .i64) .unit))]

def t44 :Tr (Tys.data rs44) :=
  Tr.fin (((([(-3:Int),(5:Int),(8:Int),(4:Int),(-6:Int),(-2:Int),(3:Int),(5:Int),(-4:Int),(-1:Int),(4:Int)]:List Int),((2:Int),())),()))

def f44 (d:Tys.data as44):Option (Tys.data rs44):=(t44 ).val
def g44 (d:Tys.data as44):Tys.data rs44:=(f44 d).getD (Tys.dflt rs44)
def p44:PureC:=pcOf as44 rs44 f44 g44

theorem wk44 :Walks (runPure (kf43 Go.Proofs.Try.prog).orc Go.Proofs.Try.prog 400 44 as44 rs44 ()) (t44 ) [([],[1])] :=
  ⟨by kernel_rfl,trivial⟩

theorem ok44_t :TrOk (PureRuns Go.Proofs.Try.prog (kf43 Go.Proofs.Try.prog).orc 44 as44 rs44 ()) (t44 ) :=
  Walks.ok (fun _ _ _=>PureRuns.of) (wk44 ) (by kernel_rfl)

theorem ok44:PureOk Go.Proofs.Try.prog 44 p44:=pureOk_of kf43_ok.base (T:=fun (d:Tys.data as44)=>t44 ) (by kernel_rfl) (fun (d:Tys.data as44)=>ok44_t )
def kf44 (P:Go.Program):Known:=(kf43 P).func 44 p44
theorem kf44_ok:KnownOk Go.Proofs.Try.prog (kf44 Go.Proofs.Try.prog):=kf43_ok.func ok44

/-! ductility/modal.countError -/

abbrev as84:List Ty:=[(.int .i64),(.int .i64)]
abbrev rs84:List Ty:=[(.int .i64)]

def t84 (x0:Int) (x1:Int):Tr (Tys.data rs84) :=
  Tr.test (Option.isSome (f47 ((eqF x0 0:Bool),((10:Int),()))))
    (Tr.test (Option.isSome (f47 (!leF x0 x1,((8:Int),()))))
      (let r0:=g47 ((eqF x0 0:Bool),((10:Int),()));
      let r1:=g47 ((!leF x0 x1:Bool),((8:Int),()));
      Tr.test (Option.isSome (f46 (([r0.1,r1.1]:List Int),())))
        (let r2:=g46 (([r0.1,r1.1]:List Int),());
        Tr.fin ((r2.1,())))
        (Tr.stop))
      (Tr.stop))
    (Tr.stop)

def f84 (d:Tys.data as84):Option (Tys.data rs84):=(t84 d.1 d.2.1).val
def g84 (d:Tys.data as84):Tys.data rs84:=(f84 d).getD (Tys.dflt rs84)
def p84:PureC:=pcOf as84 rs84 f84 g84

theorem wk84 (x0:Int) (x1:Int):Walks (runPure (kf44 Go.Proofs.Try.prog).orc Go.Proofs.Try.prog 400 84 as84 rs84 (x0,x1,())) (t84 x0 x1) [([true,true,true],[2,1,4,6])] :=
  ⟨by kernel_rfl,trivial⟩

theorem ok84_t (x0:Int) (x1:Int):TrOk (PureRuns Go.Proofs.Try.prog (kf44 Go.Proofs.Try.prog).orc 84 as84 rs84 (x0,x1,())) (t84 x0 x1) :=
  Walks.ok (fun _ _ _=>PureRuns.of) (wk84 x0 x1) (by kernel_rfl)

theorem ok84:PureOk Go.Proofs.Try.prog 84 p84:=pureOk_of kf44_ok.base (T:=fun (d:Tys.data as84)=>t84 d.1 d.2.1) (by kernel_rfl) (fun (d:Tys.data as84)=>ok84_t d.1 d.2.1)
def kf84 (P:Go.Program):Known:=(kf44 P).func 84 p84
theorem kf84_ok:KnownOk Go.Proofs.Try.prog (kf84 Go.Proofs.Try.prog):=kf44_ok.func ok84

/-! ductility/modal.limitError -/

abbrev as85:List Ty:=[(.int .i64),(.slice (.int .i64))]
abbrev rs85:List Ty:=[(.int .i64)]

def t85 (x0:Int) (x1:(List Int)):Tr (Tys.data rs85) :=
  Tr.test (Option.isSome (f50 ((Go.IntKind.wrap Go.IntKind.i64 ((0:Int) - x0):Int),(x0,(x1,())))))
    (let r0:=g50 ((Go.IntKind.wrap Go.IntKind.i64 ((0:Int) - x0):Int),(x0,(x1,())));
    Tr.test (Option.isSome (f47 ((!r0.1:Bool),((2:Int),()))))
      (let r1:=g47 ((!r0.1:Bool),((2:Int),()));
      Tr.fin ((r1.1,())))
      (Tr.stop))
    (Tr.stop)

def f85 (d:Tys.data as85):Option (Tys.data rs85):=(t85 d.1 d.2.1).val
def g85 (d:Tys.data as85):Tys.data rs85:=(f85 d).getD (Tys.dflt rs85)
def p85:PureC:=pcOf as85 rs85 f85 g85

theorem wk85 (x0:Int) (x1:(List Int)):Walks (runPure (kf84 Go.Proofs.Try.prog).orc Go.Proofs.Try.prog 400 85 as85 rs85 (x0,x1,())) (t85 x0 x1) [([true,true],[2,4])] :=
  ⟨by kernel_rfl,trivial⟩

theorem ok85_t (x0:Int) (x1:(List Int)):TrOk (PureRuns Go.Proofs.Try.prog (kf84 Go.Proofs.Try.prog).orc 85 as85 rs85 (x0,x1,())) (t85 x0 x1) :=
  Walks.ok (fun _ _ _=>PureRuns.of) (wk85 x0 x1) (by kernel_rfl)

theorem ok85:PureOk Go.Proofs.Try.prog 85 p85:=pureOk_of kf84_ok.base (T:=fun (d:Tys.data as85)=>t85 d.1 d.2.1) (by kernel_rfl) (fun (d:Tys.data as85)=>ok85_t d.1 d.2.1)
def kf85 (P:Go.Program):Known:=(kf84 P).func 85 p85
theorem kf85_ok:KnownOk Go.Proofs.Try.prog (kf85 Go.Proofs.Try.prog):=kf84_ok.func ok85

/-! ductility/modal.decayOf -/

abbrev as62:List Ty:=[(.pair (.slice (.int .i64)) (.pair (.int .i64) .unit))]
abbrev rs62:List Ty:=[(.pair (.pair (.slice (.int .i64)) (.pair (.int .i64) .unit)) .unit),(.int .i64)]

def t62 (x0:(List Int)) (x0':Int):Tr (Tys.data rs62) :=
  Tr.test (Option.isSome (f50 ((0:Int),((10000:Int),(([x0']:List Int),())))))
    (Tr.test (Option.isSome (f84 ((↑(List.length x0):Int),((60:Int),()))))
      (Tr.test (Option.isSome (f85 ((10000:Int),(x0,()))))
        (let r0:=g50 ((0:Int),((10000:Int),(([x0']:List Int),())));
        Tr.test (Option.isSome (f47 ((!r0.1:Bool),((2:Int),()))))
          (let r1:=g84 ((↑(List.length x0):Int),((60:Int),()));
          let r2:=g85 ((10000:Int),(x0,()));
          let r3:=g47 ((!r0.1:Bool),((2:Int),()));
          Tr.test (Option.isSome (f46 (([r1.1,r2.1,r3.1]:List Int),())))
            (let r4:=g46 (([r1.1,r2.1,r3.1]:List Int),());
            Tr.test ((!eqF r4.1 0:Bool))
              (Tr.fin ((((([]:List Int),((0:Int),())),()),(r4.1,()))))
              (Tr.fin ((((x0,(x0',())),()),((0:Int),())))))
            (Tr.stop))
          (Tr.stop))
        (Tr.stop))
      (Tr.stop))
    (Tr.stop)

def f62 (d:Tys.data as62):Option (Tys.data rs62):=(t62 d.1.1 d.1.2.1).val
def g62 (d:Tys.data as62):Tys.data rs62:=(f62 d).getD (Tys.dflt rs62)
def p62:PureC:=pcOf as62 rs62 f62 g62

theorem wk62 (x0:(List Int)) (x0':Int):Walks (runPure (kf85 Go.Proofs.Try.prog).orc Go.Proofs.Try.prog 400 62 as62 rs62 ((x0,x0',()),())) (t62 x0 x0') [([true,true,true,true,true,true],[2,4,1,6,8,10,12,1]),([true,true,true,true,true,false],[2,4,1,6,8,10,12,1])] :=
  ⟨by kernel_rfl,by kernel_rfl,trivial⟩

theorem ok62_t (x0:(List Int)) (x0':Int):TrOk (PureRuns Go.Proofs.Try.prog (kf85 Go.Proofs.Try.prog).orc 62 as62 rs62 ((x0,x0',()),())) (t62 x0 x0') :=
  Walks.ok (fun _ _ _=>PureRuns.of) (wk62 x0 x0') (by kernel_rfl)

theorem ok62:PureOk Go.Proofs.Try.prog 62 p62:=pureOk_of kf85_ok.base (T:=fun (d:Tys.data as62)=>t62 d.1.1 d.1.2.1) (by kernel_rfl) (fun (d:Tys.data as62)=>ok62_t d.1.1 d.1.2.1)
def kf62 (P:Go.Program):Known:=(kf85 P).func 62 p62
theorem kf62_ok:KnownOk Go.Proofs.Try.prog (kf62 Go.Proofs.Try.prog):=kf85_ok.func ok62

/-! loop 0 of (ductility/modal.decay).crossings -/

abbrev sh63_0:Sh:={ n:=40,slots:=[1,3,4,9,10,11],pats:=[.ptr 0 2 0,.acc (.pair (.int .i64) (.pair (.int .i64) .unit)),.ty (.int .i64),.ty (.slice (.int .i64)),.ty (.int .i64),.ty (.int .i64)],boxes:=[.row [.ty (.slice (.int .i64)),.ty (.int .i64)]] }
abbrev shb63_0:Sh:={ n:=40,slots:=[3],pats:=[.acc (.pair (.int .i64) (.pair (.int .i64) .unit))],boxes:=[.row [.ty (.slice (.int .i64)),.ty (.int .i64)]] }
abbrev shr63_0:Sh:={ n:=40,slots:=[],pats:=[],boxes:=[.row [.ty (.slice (.int .i64)),.ty (.int .i64)]] }

def t63_0 (x1:(List (Int×(Int×Unit)))) (x2:Int) (x3:(List Int)) (x4:Int) (x5:Int) (b0_0:(List Int)) (b0_1:Int):Tr (Out sh63_0.data shb63_0.data shr63_0.data) :=
  Tr.test ((!leF x4 x5:Bool))
    (Tr.test (decide ((0:Int) ≤ x5) && decide (x5 < (↑(List.length x3):Int)))
      (Tr.test ((!leF (Go.IntKind.wrap Go.IntKind.i64 ((0:Int) - b0_1)) (List.getD x3 (Int.toNat x5) (0:Int)):Bool))
        (Tr.test ((!leF (List.getD x3 (Int.toNat x5) (0:Int)) b0_1:Bool))
          (Tr.test ((!eqF x5 (-1):Bool))
            (Tr.test ((Nat.ble (((2:Nat) * (List.length x1 + (1:Nat)) + (192:Nat)) * (16:Nat)) (281474976710656:Nat) && Nat.ble (List.length x1 + (1:Nat)) (281474976710656:Nat):Bool))
              (Tr.fin (.again (((x1++[(x5,x5,())]:List (Int×Int×PUnit)),((-1:Int),(x3,(x4,((wrap64 (x5 + (1:Int)):Int),()))))),((b0_0,(b0_1,())),()))))
              (Tr.stop))
            (Tr.fin (.again ((x1,(x5,(x3,(x4,((wrap64 (x5 + (1:Int)):Int),()))))),((b0_0,(b0_1,())),())))))
          (Tr.fin (.again ((x1,(x5,(x3,(x4,((wrap64 (x5 + (1:Int)):Int),()))))),((b0_0,(b0_1,())),())))))
        (Tr.test ((!leF (List.getD x3 (Int.toNat x5) (0:Int)) b0_1:Bool))
          (Tr.test ((!eqF x2 (-1):Bool))
            (Tr.test ((Nat.ble (((2:Nat) * (List.length x1 + (1:Nat)) + (192:Nat)) * (16:Nat)) (281474976710656:Nat) && Nat.ble (List.length x1 + (1:Nat)) (281474976710656:Nat):Bool))
              (Tr.fin (.again (((x1++[(x2,x5,())]:List (Int×Int×PUnit)),((-1:Int),(x3,(x4,((wrap64 (x5 + (1:Int)):Int),()))))),((b0_0,(b0_1,())),()))))
              (Tr.stop))
            (Tr.fin (.again ((x1,(x2,(x3,(x4,((wrap64 (x5 + (1:Int)):Int),()))))),((b0_0,(b0_1,())),())))))
          (Tr.fin (.again ((x1,(x2,(x3,(x4,((wrap64 (x5 + (1:Int)):Int),()))))),((b0_0,(b0_1,())),()))))))
      (Tr.stop))
    (Tr.fin (.brk ((x1,()),((b0_0,(b0_1,())),()))))

def s63_0 (d:sh63_0.data):Option (Out sh63_0.data shb63_0.data shr63_0.data):=(t63_0 d.1.1 d.1.2.1 d.1.2.2.1 d.1.2.2.2.1 d.1.2.2.2.2.1 d.2.1.1 d.2.1.2.1).val
def l63_0 (d:sh63_0.data):Option (shb63_0.data ⊕ shr63_0.data):=itr s63_0 rounds d
def b63_0 (d:sh63_0.data):shb63_0.data:=outB shb63_0.dflt (l63_0 d)
def lc63_0:LoopC:=lcB sh63_0 shb63_0 shr63_0 l63_0 b63_0

theorem wk63_0 (x1:(List (Int×(Int×Unit)))) (x2:Int) (x3:(List Int)) (x4:Int) (x5:Int) (b0_0:(List Int)) (b0_1:Int):Walks (runBody (kf62 Go.Proofs.Try.prog).orc Go.Proofs.Try.prog 400 63 0 sh63_0 shb63_0 shr63_0 ((x1,x2,x3,x4,x5,()),(b0_0,b0_1,()),())) (t63_0 x1 x2 x3 x4 x5 b0_0 b0_1) [([true,true,true,true,true,true],[1,2,0,4,6,6,6,8,10,12]),([true,true,true,true,false],[2,4,4,4,6,8,10]),([true,true,true,false],[0,2,2,2,4,6,8]),([true,true,false,true,true,true],[1,2,0,4,6,6,6,8,10,12]),([true,true,false,true,false],[2,4,4,4,6,8,10]),([true,true,false,false],[0,2,2,2,4,6,8]),([ff],[2])] :=
  ⟨by kernel_rfl,by kernel_rfl,by kernel_rfl,by kernel_rfl,by kernel_rfl,by kernel_rfl,by kernel_rfl,trivial⟩

theorem ok63_0_t (x1:(List (Int×(Int×Unit)))) (x2:Int) (x3:(List Int)) (x4:Int) (x5:Int) (b0_0:(List Int)) (b0_1:Int):TrOk (BodyRuns Go.Proofs.Try.prog (kf62 Go.Proofs.Try.prog).orc 63 0 sh63_0 shb63_0 shr63_0 ((x1,x2,x3,x4,x5,()),(b0_0,b0_1,()),())) (t63_0 x1 x2 x3 x4 x5 b0_0 b0_1) :=
  Walks.ok (fun _ _ _=>BodyRuns.of) (wk63_0 x1 x2 x3 x4 x5 b0_0 b0_1) (by kernel_rfl)

theorem ok63_0:LoopOk Go.Proofs.Try.prog 63 0 lc63_0:=loopOk_ofB (sh:=sh63_0) (shB:=shb63_0) (shR:=shr63_0) kf62_ok.base (T:=fun (d:sh63_0.data)=>t63_0 d.1.1 d.1.2.1 d.1.2.2.1 d.1.2.2.2.1 d.1.2.2.2.2.1 d.2.1.1 d.2.1.2.1) (by kernel_rfl) rfl (fun (d:sh63_0.data)=>ok63_0_t d.1.1 d.1.2.1 d.1.2.2.1 d.1.2.2.2.1 d.1.2.2.2.2.1 d.2.1.1 d.2.1.2.1) (fun _=>rfl)
def kl63_0 (P:Go.Program):Known:=(kf62 P).loop 63 0 lc63_0
theorem kl63_0_ok:KnownOk Go.Proofs.Try.prog (kl63_0 Go.Proofs.Try.prog):=kf62_ok.loop ok63_0

/-! (ductility/modal.decay).crossings -/

abbrev as63:List Ty:=[(.pair (.pair (.slice (.int .i64)) (.pair (.int .i64) .unit)) .unit)]
abbrev rs63:List Ty:=[(.slice (.pair (.int .i64) (.pair (.int .i64) .unit)))]

def t63 (x0_:(List Int)) (x0_':Int):Tr (Tys.data rs63) :=
  Tr.test (isBrk (l63_0 ((([]:List (Int×Int×PUnit)),((-1:Int),(x0_,((↑(List.length x0_):Int),((0:Int),()))))),((x0_,(x0_',())),()))))
    (let r0:=b63_0 ((([]:List (Int×Int×PUnit)),((-1:Int),(x0_,((↑(List.length x0_):Int),((0:Int),()))))),((x0_,(x0_',())),()));
    Tr.fin ((r0.1.1,())))
    (Tr.stop)

def f63 (d:Tys.data as63):Option (Tys.data rs63):=(t63 d.1.1.1 d.1.1.2.1).val
def g63 (d:Tys.data as63):Tys.data rs63:=(f63 d).getD (Tys.dflt rs63)
def p63:PureC:=pcOf as63 rs63 f63 g63

theorem wk63 (x0_:(List Int)) (x0_':Int):Walks (runPure (kl63_0 Go.Proofs.Try.prog).orc Go.Proofs.Try.prog 400 63 as63 rs63 (((x0_,x0_',()),()),())) (t63 x0_ x0_') [([tt],[1,2])] :=
  ⟨by kernel_rfl,trivial⟩

theorem ok63_t (x0_:(List Int)) (x0_':Int):TrOk (PureRuns Go.Proofs.Try.prog (kl63_0 Go.Proofs.Try.prog).orc 63 as63 rs63 (((x0_,x0_',()),()),())) (t63 x0_ x0_') :=
  Walks.ok (fun _ _ _=>PureRuns.of) (wk63 x0_ x0_') (by kernel_rfl)

theorem ok63:PureOk Go.Proofs.Try.prog 63 p63:=pureOk_of kl63_0_ok.base (T:=fun (d:Tys.data as63)=>t63 d.1.1.1 d.1.1.2.1) (by kernel_rfl) (fun (d:Tys.data as63)=>ok63_t d.1.1.1 d.1.1.2.1)
def kf63 (P:Go.Program):Known:=(kl63_0 P).func 63 p63
theorem kf63_ok:KnownOk Go.Proofs.Try.prog (kf63 Go.Proofs.Try.prog):=kl63_0_ok.func ok63

/-! loop 2 of ductility/modal.divisorOf -/

abbrev sh78_2:Sh:={ n:=26,slots:=[5,7,9,10,11],pats:=[.ty (.int .i64),.ty (.int .i64),.ty (.slice (.int .i64)),.ty (.int .i64),.ty (.int .i64)],boxes:=[] }
abbrev shb78_2:Sh:={ n:=26,slots:=[5,9,10,11],pats:=[.ty (.int .i64),.ty (.slice (.int .i64)),.ty (.int .i64),.ty (.int .i64)],boxes:=[] }
abbrev shr78_2:Sh:={ n:=26,slots:=[],pats:=[],boxes:=[] }

def t78_2 (x0:Int) (x1:Int) (x2:(List Int)) (x3:Int) (x4:Int):Tr (Out sh78_2.data shb78_2.data shr78_2.data) :=
  Tr.test ((!eqF x1 0:Bool))
    (Tr.test (x1 == (0:Int))
      (Tr.stop)
      (Tr.fin (.again ((x1,((Int.tmod x0 x1:Int),(x2,(x3,(x4,()))))),()))))
    (Tr.fin (.brk ((x0,(x2,(x3,(x4,())))),())))

def s78_2 (d:sh78_2.data):Option (Out sh78_2.data shb78_2.data shr78_2.data):=(t78_2 d.1.1 d.1.2.1 d.1.2.2.1 d.1.2.2.2.1 d.1.2.2.2.2.1).val
def l78_2 (d:sh78_2.data):Option (shb78_2.data ⊕ shr78_2.data):=itr s78_2 rounds d
def b78_2 (d:sh78_2.data):shb78_2.data:=outB shb78_2.dflt (l78_2 d)
def lc78_2:LoopC:=lcB sh78_2 shb78_2 shr78_2 l78_2 b78_2

theorem wk78_2 (x0:Int) (x1:Int) (x2:(List Int)) (x3:Int) (x4:Int):Walks (runBody (kf63 Go.Proofs.Try.prog).orc Go.Proofs.Try.prog 400 78 2 sh78_2 shb78_2 shr78_2 ((x0,x1,x2,x3,x4,()),())) (t78_2 x0 x1 x2 x3 x4) [([true,false],[2,4]),([ff],[2])] :=
  ⟨by kernel_rfl,by kernel_rfl,trivial⟩

theorem ok78_2_t (x0:Int) (x1:Int) (x2:(List Int)) (x3:Int) (x4:Int):TrOk (BodyRuns Go.Proofs.Try.prog (kf63 Go.Proofs.Try.prog).orc 78 2 sh78_2 shb78_2 shr78_2 ((x0,x1,x2,x3,x4,()),())) (t78_2 x0 x1 x2 x3 x4) :=
  Walks.ok (fun _ _ _=>BodyRuns.of) (wk78_2 x0 x1 x2 x3 x4) (by kernel_rfl)

theorem ok78_2:LoopOk Go.Proofs.Try.prog 78 2 lc78_2:=loopOk_ofB (sh:=sh78_2) (shB:=shb78_2) (shR:=shr78_2) kf63_ok.base (T:=fun (d:sh78_2.data)=>t78_2 d.1.1 d.1.2.1 d.1.2.2.1 d.1.2.2.2.1 d.1.2.2.2.2.1) (by kernel_rfl) rfl (fun (d:sh78_2.data)=>ok78_2_t d.1.1 d.1.2.1 d.1.2.2.1 d.1.2.2.2.1 d.1.2.2.2.2.1) (fun _=>rfl)
def kl78_2 (P:Go.Program):Known:=(kf63 P).loop 78 2 lc78_2
theorem kl78_2_ok:KnownOk Go.Proofs.Try.prog (kl78_2 Go.Proofs.Try.prog):=kf63_ok.loop ok78_2

/-! loop 0 of ductility/modal.divisorOf -/

abbrev sh78_0:Sh:={ n:=26,slots:=[5,9,10,11],pats:=[.ty (.int .i64),.ty (.slice (.int .i64)),.ty (.int .i64),.ty (.int .i64)],boxes:=[] }
abbrev shb78_0:Sh:={ n:=26,slots:=[5],pats:=[.ty (.int .i64)],boxes:=[] }
abbrev shr78_0:Sh:={ n:=26,slots:=[],pats:=[],boxes:=[] }

def t78_0 (x0:Int) (x1:(List Int)) (x2:Int) (x3:Int):Tr (Out sh78_0.data shb78_0.data shr78_0.data) :=
  Tr.test ((!leF x2 x3:Bool))
    (Tr.test (decide ((0:Int) ≤ x3) && decide (x3 < (↑(List.length x1):Int)))
      (Tr.test (isBrk (l78_2 ((x0,((List.getD x1 (Int.toNat x3) (0:Int):Int),(x1,(x2,(x3,()))))),())))
        (let r0:=b78_2 ((x0,((List.getD x1 (Int.toNat x3) (0:Int):Int),(x1,(x2,(x3,()))))),());
        Tr.fin (.again ((r0.1.1,(r0.1.2.1,(r0.1.2.2.1,((wrap64 (r0.1.2.2.2.1 + (1:Int)):Int),())))),())))
        (Tr.stop))
      (Tr.stop))
    (Tr.fin (.brk ((x0,()),())))

def s78_0 (d:sh78_0.data):Option (Out sh78_0.data shb78_0.data shr78_0.data):=(t78_0 d.1.1 d.1.2.1 d.1.2.2.1 d.1.2.2.2.1).val
def l78_0 (d:sh78_0.data):Option (shb78_0.data ⊕ shr78_0.data):=itr s78_0 rounds d
def b78_0 (d:sh78_0.data):shb78_0.data:=outB shb78_0.dflt (l78_0 d)
def lc78_0:LoopC:=lcB sh78_0 shb78_0 shr78_0 l78_0 b78_0

theorem wk78_0 (x0:Int) (x1:(List Int)) (x2:Int) (x3:Int):Walks (runBody (kl78_2 Go.Proofs.Try.prog).orc Go.Proofs.Try.prog 400 78 0 sh78_0 shb78_0 shr78_0 ((x0,x1,x2,x3,()),())) (t78_0 x0 x1 x2 x3) [([true,true,true],[1,2,4,6]),([ff],[2])] :=
  ⟨by kernel_rfl,by kernel_rfl,trivial⟩

theorem ok78_0_t (x0:Int) (x1:(List Int)) (x2:Int) (x3:Int):TrOk (BodyRuns Go.Proofs.Try.prog (kl78_2 Go.Proofs.Try.prog).orc 78 0 sh78_0 shb78_0 shr78_0 ((x0,x1,x2,x3,()),())) (t78_0 x0 x1 x2 x3) :=
  Walks.ok (fun _ _ _=>BodyRuns.of) (wk78_0 x0 x1 x2 x3) (by kernel_rfl)

theorem ok78_0:LoopOk Go.Proofs.Try.prog 78 0 lc78_0:=loopOk_ofB (sh:=sh78_0) (shB:=shb78_0) (shR:=shr78_0) kl78_2_ok.base (T:=fun (d:sh78_0.data)=>t78_0 d.1.1 d.1.2.1 d.1.2.2.1 d.1.2.2.2.1) (by kernel_rfl) rfl (fun (d:sh78_0.data)=>ok78_0_t d.1.1 d.1.2.1 d.1.2.2.1 d.1.2.2.2.1) (fun _=>rfl)
def kl78_0 (P:Go.Program):Known:=(kl78_2 P).loop 78 0 lc78_0
theorem kl78_0_ok:KnownOk Go.Proofs.Try.prog (kl78_0 Go.Proofs.Try.prog):=kl78_2_ok.loop ok78_0

/-! ductility/modal.divisorOf -/

abbrev as78:List Ty:=[(.int .i64),(.slice (.int .i64))]
abbrev rs78:List Ty:=[(.int .i64)]

def t78 (x0:Int) (x1:(List Int)):Tr (Tys.data rs78) :=
  Tr.test (isBrk (l78_0 ((x0,(x1,((↑(List.length x1):Int),((0:Int),())))),())))
    (let r0:=b78_0 ((x0,(x1,((↑(List.length x1):Int),((0:Int),())))),());
    Tr.fin (((if r0.1.1 < Go.IntKind.wrap Go.IntKind.i64 ((0:Int) - r0.1.1) then Go.IntKind.wrap Go.IntKind.i64 ((0:Int) - r0.1.1) else r0.1.1:Int),())))
    (Tr.stop)

def f78 (d:Tys.data as78):Option (Tys.data rs78):=(t78 d.1 d.2.1).val
def g78 (d:Tys.data as78):Tys.data rs78:=(f78 d).getD (Tys.dflt rs78)
def p78:PureC:=pcOf as78 rs78 f78 g78

theorem wk78 (x0:Int) (x1:(List Int)):Walks (runPure (kl78_0 Go.Proofs.Try.prog).orc Go.Proofs.Try.prog 400 78 as78 rs78 (x0,x1,())) (t78 x0 x1) [([tt],[1,2])] :=
  ⟨by kernel_rfl,trivial⟩

theorem ok78_t (x0:Int) (x1:(List Int)):TrOk (PureRuns Go.Proofs.Try.prog (kl78_0 Go.Proofs.Try.prog).orc 78 as78 rs78 (x0,x1,())) (t78 x0 x1) :=
  Walks.ok (fun _ _ _=>PureRuns.of) (wk78 x0 x1) (by kernel_rfl)

theorem ok78:PureOk Go.Proofs.Try.prog 78 p78:=pureOk_of kl78_0_ok.base (T:=fun (d:Tys.data as78)=>t78 d.1 d.2.1) (by kernel_rfl) (fun (d:Tys.data as78)=>ok78_t d.1 d.2.1)
def kf78 (P:Go.Program):Known:=(kl78_0 P).func 78 p78
theorem kf78_ok:KnownOk Go.Proofs.Try.prog (kf78 Go.Proofs.Try.prog):=kl78_0_ok.func ok78

/-! ductility/modal.fraction -/

abbrev as56:List Ty:=[(.int .i64),(.int .i64)]
abbrev rs56:List Ty:=[(.pair (.int .i64) (.pair (.int .i64) .unit))]

def t56 (x0:Int) (x1:Int):Tr (Tys.data rs56) :=
  Tr.test (Option.isSome (f78 (x1,(([x0]:List Int),()))))
    (let r0:=g78 (x1,(([x0]:List Int),()));
    Tr.test ((r0.1 == (0:Int):Bool))
      (Tr.stop)
      (Tr.fin ((((Go.IntKind.wrap Go.IntKind.i64 (Int.tdiv x0 r0.1):Int),((Go.IntKind.wrap Go.IntKind.i64 (Int.tdiv x1 r0.1):Int),())),()))))
    (Tr.stop)

def f56 (d:Tys.data as56):Option (Tys.data rs56):=(t56 d.1 d.2.1).val
def g56 (d:Tys.data as56):Tys.data rs56:=(f56 d).getD (Tys.dflt rs56)
def p56:PureC:=pcOf as56 rs56 f56 g56

theorem wk56 (x0:Int) (x1:Int):Walks (runPure (kf78 Go.Proofs.Try.prog).orc Go.Proofs.Try.prog 400 56 as56 rs56 (x0,x1,())) (t56 x0 x1) [([true,false],[2,2,4,1])] :=
  ⟨by kernel_rfl,trivial⟩

theorem ok56_t (x0:Int) (x1:Int):TrOk (PureRuns Go.Proofs.Try.prog (kf78 Go.Proofs.Try.prog).orc 56 as56 rs56 (x0,x1,())) (t56 x0 x1) :=
  Walks.ok (fun _ _ _=>PureRuns.of) (wk56 x0 x1) (by kernel_rfl)

theorem ok56:PureOk Go.Proofs.Try.prog 56 p56:=pureOk_of kf78_ok.base (T:=fun (d:Tys.data as56)=>t56 d.1 d.2.1) (by kernel_rfl) (fun (d:Tys.data as56)=>ok56_t d.1 d.2.1)
def kf56 (P:Go.Program):Known:=(kf78 P).func 56 p56
theorem kf56_ok:KnownOk Go.Proofs.Try.prog (kf56 Go.Proofs.Try.prog):=kf78_ok.func ok56

/-! ductility/modal.PeriodIn -/

abbrev as20:List Ty:=[(.pair (.slice (.int .i64)) (.pair (.int .i64) .unit))]
abbrev rs20:List Ty:=[(.pair (.pair (.int .i64) (.pair (.int .i64) .unit)) (.pair (.pair (.int .i64) (.pair (.int .i64) .unit)) .unit)),(.int .i64)]

def t20 (x0:(List Int)) (x0':Int):Tr (Tys.data rs20) :=
  Tr.test (Option.isSome (f62 ((x0,(x0',())),())))
    (let r0:=g62 ((x0,(x0',())),());
    Tr.test ((!eqF r0.2.1 0:Bool))
      (Tr.fin (((((0:Int),((0:Int),())),(((0:Int),((0:Int),())),())),(r0.2.1,()))))
      (Tr.test (Option.isSome (f63 (((r0.1.1.1,(r0.1.1.2.1,())),()),())))
        (let r1:=g63 (((r0.1.1.1,(r0.1.1.2.1,())),()),());
        Tr.test ((!leF (1:Int) (wrap64 ((↑(List.length r1.1):Int) - (1:Int))):Bool))
          (Tr.fin (((((0:Int),((0:Int),())),(((0:Int),((0:Int),())),())),((12:Int),()))))
          (Tr.test ((true && decide ((0:Int) < (↑(List.length r1.1):Int)):Bool))
            (Tr.test ((decide ((0:Int) ≤ wrap64 ((↑(List.length r1.1):Int) - (1:Int))) && decide (wrap64 ((↑(List.length r1.1):Int) - (1:Int)) < (↑(List.length r1.1):Int)):Bool))
              (Tr.test (Option.isSome (f56 ((wrap64 ((List.getD r1.1 (Int.toNat (wrap64 ((↑(List.length r1.1):Int) - (1:Int)))) ((0:Int),(0:Int),())).1 - (List.getD r1.1 (0:Nat) ((0:Int),(0:Int),())).2.1):Int),((wrap64 ((↑(List.length r1.1):Int) - (1:Int)):Int),()))))
                (Tr.test (Option.isSome (f56 ((wrap64 ((List.getD r1.1 (Int.toNat (wrap64 ((↑(List.length r1.1):Int) - (1:Int)))) ((0:Int),(0:Int),())).2.1 - (List.getD r1.1 (0:Nat) ((0:Int),(0:Int),())).1):Int),((wrap64 ((↑(List.length r1.1):Int) - (1:Int)):Int),()))))
                  (let r2:=g56 ((wrap64 ((List.getD r1.1 (Int.toNat (wrap64 ((↑(List.length r1.1):Int) - (1:Int)))) ((0:Int),(0:Int),())).1 - (List.getD r1.1 (0:Nat) ((0:Int),(0:Int),())).2.1):Int),((wrap64 ((↑(List.length r1.1):Int) - (1:Int)):Int),()));
                  let r3:=g56 ((wrap64 ((List.getD r1.1 (Int.toNat (wrap64 ((↑(List.length r1.1):Int) - (1:Int)))) ((0:Int),(0:Int),())).2.1 - (List.getD r1.1 (0:Nat) ((0:Int),(0:Int),())).1):Int),((wrap64 ((↑(List.length r1.1):Int) - (1:Int)):Int),()));
                  Tr.fin ((((r2.1.1,(r2.1.2.1,())),((r3.1.1,(r3.1.2.1,())),())),((0:Int),()))))
                  (Tr.stop))
                (Tr.stop))
              (Tr.stop))
            (Tr.stop)))
        (Tr.stop)))
    (Tr.stop)

def f20 (d:Tys.data as20):Option (Tys.data rs20):=(t20 d.1.1 d.1.2.1).val
def g20 (d:Tys.data as20):Tys.data rs20:=(f20 d).getD (Tys.dflt rs20)
def p20:PureC:=pcOf as20 rs20 f20 g20

theorem wk20 (x0:(List Int)) (x0':Int):Walks (runPure (kf56 Go.Proofs.Try.prog).orc Go.Proofs.Try.prog 400 20 as20 rs20 ((x0,x0',()),())) (t20 x0 x0') [([true,true],[2,4]),([true,false,true,true],[2,4,6,8]),([true,false,true,false,true,true,true,true],[2,4,6,8,10,12,14,16])] :=
  ⟨by kernel_rfl,by kernel_rfl,by kernel_rfl,trivial⟩

theorem ok20_t (x0:(List Int)) (x0':Int):TrOk (PureRuns Go.Proofs.Try.prog (kf56 Go.Proofs.Try.prog).orc 20 as20 rs20 ((x0,x0',()),())) (t20 x0 x0') :=
  Walks.ok (fun _ _ _=>PureRuns.of) (wk20 x0 x0') (by kernel_rfl)

theorem ok20:PureOk Go.Proofs.Try.prog 20 p20:=pureOk_of kf56_ok.base (T:=fun (d:Tys.data as20)=>t20 d.1.1 d.1.2.1) (by kernel_rfl) (fun (d:Tys.data as20)=>ok20_t d.1.1 d.1.2.1)
def kf20 (P:Go.Program):Known:=(kf56 P).func 20 p20
theorem kf20_ok:KnownOk Go.Proofs.Try.prog (kf20 Go.Proofs.Try.prog):=kf56_ok.func ok20

/-! loop 0 of ductility/modal.checkItems[ductility/api.Range] -/

abbrev sh105_0:Sh:={ n:=25,slots:=[1,9,10,11],pats:=[.fn 106 [(0,1),(1,1)],.ty (.slice (.pair (.int .i64) (.pair (.int .i64) .unit))),.ty (.int .i64),.ty (.int .i64)],boxes:=[.row [.ty (.int .i64)],.row [.ty (.int .i64)]] }
abbrev shb105_0:Sh:={ n:=25,slots:=[],pats:=[],boxes:=[.row [.ty (.int .i64)],.row [.ty (.int .i64)]] }
abbrev shr105_0:Sh:={ n:=25,slots:=[4,5],pats:=[.ty (.int .i64),.ty (.int .i64)],boxes:=[.row [.ty (.int .i64)],.row [.ty (.int .i64)]] }

def t105_0 (x1:(List (Int×(Int×Unit)))) (x2:Int) (x3:Int) (b0_0:Int) (b1_0:Int):Tr (Out sh105_0.data shb105_0.data shr105_0.data) :=
  Tr.test ((!leF x2 x3:Bool))
    (Tr.test (decide ((0:Int) ≤ x3) && decide (x3 < (↑(List.length x1):Int)))
      (Tr.test (Option.isSome (f50 (b0_0,(b1_0,(([(List.getD x1 (Int.toNat x3) ((0:Int),(0:Int),())).1,(List.getD x1 (Int.toNat x3) ((0:Int),(0:Int),())).2.1]:List Int),())))))
        (let r0:=g50 (b0_0,(b1_0,(([(List.getD x1 (Int.toNat x3) ((0:Int),(0:Int),())).1,(List.getD x1 (Int.toNat x3) ((0:Int),(0:Int),())).2.1]:List Int),())));
        Tr.test (Option.isSome (f47 ((!r0.1:Bool),((2:Int),()))))
          (Tr.test (Option.isSome (f47 ((!leF (List.getD x1 (Int.toNat x3) ((0:Int),(0:Int),())).1 (List.getD x1 (Int.toNat x3) ((0:Int),(0:Int),())).2.1:Bool),((9:Int),()))))
            (let r1:=g47 ((!r0.1:Bool),((2:Int),()));
            let r2:=g47 ((!leF (List.getD x1 (Int.toNat x3) ((0:Int),(0:Int),())).1 (List.getD x1 (Int.toNat x3) ((0:Int),(0:Int),())).2.1:Bool),((9:Int),()));
            Tr.test (Option.isSome (f46 (([r1.1,r2.1]:List Int),())))
              (let r3:=g46 (([r1.1,r2.1]:List Int),());
              Tr.test ((!eqF r3.1 0:Bool))
                (Tr.fin (.ret ((x3,(r3.1,())),((b0_0,()),((b1_0,()),())))))
                (Tr.fin (.again ((x1,(x2,((wrap64 (x3 + (1:Int)):Int),()))),((b0_0,()),((b1_0,()),()))))))
              (Tr.stop))
            (Tr.stop))
          (Tr.stop))
        (Tr.stop))
      (Tr.stop))
    (Tr.fin (.brk ((),((b0_0,()),((b1_0,()),())))))

def s105_0 (d:sh105_0.data):Option (Out sh105_0.data shb105_0.data shr105_0.data):=(t105_0 d.1.1 d.1.2.1 d.1.2.2.1 d.2.1.1 d.2.2.1.1).val
def l105_0 (d:sh105_0.data):Option (shb105_0.data ⊕ shr105_0.data):=itr s105_0 rounds d
def b105_0 (d:sh105_0.data):shb105_0.data:=outB shb105_0.dflt (l105_0 d)
def r105_0 (d:sh105_0.data):shr105_0.data:=outR shr105_0.dflt (l105_0 d)
def lc105_0:LoopC:=lcOf sh105_0 shb105_0 shr105_0 l105_0 b105_0 r105_0

theorem wk105_0 (x1:(List (Int×(Int×Unit)))) (x2:Int) (x3:Int) (b0_0:Int) (b1_0:Int):Walks (runBody (kf20 Go.Proofs.Try.prog).orc Go.Proofs.Try.prog 400 105 0 sh105_0 shb105_0 shr105_0 ((x1,x2,x3,()),(b0_0,()),(b1_0,()),())) (t105_0 x1 x2 x3 b0_0 b1_0) [([true,true,true,true,true,true,true],[2,4,1,6,8,10,1,12,14]),([true,true,true,true,true,true,false],[2,4,1,6,8,10,1,12,14]),([ff],[2])] :=
  ⟨by kernel_rfl,by kernel_rfl,by kernel_rfl,trivial⟩

theorem ok105_0_t (x1:(List (Int×(Int×Unit)))) (x2:Int) (x3:Int) (b0_0:Int) (b1_0:Int):TrOk (BodyRuns Go.Proofs.Try.prog (kf20 Go.Proofs.Try.prog).orc 105 0 sh105_0 shb105_0 shr105_0 ((x1,x2,x3,()),(b0_0,()),(b1_0,()),())) (t105_0 x1 x2 x3 b0_0 b1_0) :=
  Walks.ok (fun _ _ _=>BodyRuns.of) (wk105_0 x1 x2 x3 b0_0 b1_0) (by kernel_rfl)

theorem ok105_0:LoopOk Go.Proofs.Try.prog 105 0 lc105_0:=loopOk_of (sh:=sh105_0) (shB:=shb105_0) (shR:=shr105_0) kf20_ok.base (T:=fun (d:sh105_0.data)=>t105_0 d.1.1 d.1.2.1 d.1.2.2.1 d.2.1.1 d.2.2.1.1) (by kernel_rfl) rfl (fun (d:sh105_0.data)=>ok105_0_t d.1.1 d.1.2.1 d.1.2.2.1 d.2.1.1 d.2.2.1.1) (fun _=>rfl)
def kl105_0 (P:Go.Program):Known:=(kf20 P).loop 105 0 lc105_0
theorem kl105_0_ok:KnownOk Go.Proofs.Try.prog (kl105_0 Go.Proofs.Try.prog):=kf20_ok.loop ok105_0

/-! ductility/modal.endsError -/

abbrev as88:List Ty:=[(.slice (.pair (.int .i64) (.pair (.int .i64) .unit))),(.int .i64),(.int .i64)]
abbrev rs88:List Ty:=[(.int .i64)]

def t88 (x0:(List (Int×(Int×Unit)))) (x1:Int) (x2:Int):Tr (Tys.data rs88) :=
  Tr.test (Option.isSome (l105_0 ((x0,((↑(List.length x0):Int),((0:Int),()))),((x1,()),((x2,()),())))))
    (Tr.test (isRet (l105_0 ((x0,((↑(List.length x0):Int),((0:Int),()))),((x1,()),((x2,()),())))))
      (let r0:=r105_0 ((x0,((↑(List.length x0):Int),((0:Int),()))),((x1,()),((x2,()),())));
      Tr.fin ((r0.1.2.1,())))
      (Tr.fin (((0:Int),()))))
    (Tr.stop)

def f88 (d:Tys.data as88):Option (Tys.data rs88):=(t88 d.1 d.2.1 d.2.2.1).val
def g88 (d:Tys.data as88):Tys.data rs88:=(f88 d).getD (Tys.dflt rs88)
def p88:PureC:=pcOf as88 rs88 f88 g88

theorem wk88 (x0:(List (Int×(Int×Unit)))) (x1:Int) (x2:Int):Walks (runPure (kl105_0 Go.Proofs.Try.prog).orc Go.Proofs.Try.prog 400 88 as88 rs88 (x0,x1,x2,())) (t88 x0 x1 x2) [([true,true],[2,4]),([true,false],[2,4])] :=
  ⟨by kernel_rfl,by kernel_rfl,trivial⟩

theorem ok88_t (x0:(List (Int×(Int×Unit)))) (x1:Int) (x2:Int):TrOk (PureRuns Go.Proofs.Try.prog (kl105_0 Go.Proofs.Try.prog).orc 88 as88 rs88 (x0,x1,x2,())) (t88 x0 x1 x2) :=
  Walks.ok (fun _ _ _=>PureRuns.of) (wk88 x0 x1 x2) (by kernel_rfl)

theorem ok88:PureOk Go.Proofs.Try.prog 88 p88:=pureOk_of kl105_0_ok.base (T:=fun (d:Tys.data as88)=>t88 d.1 d.2.1 d.2.2.1) (by kernel_rfl) (fun (d:Tys.data as88)=>ok88_t d.1 d.2.1 d.2.2.1)
def kf88 (P:Go.Program):Known:=(kl105_0 P).func 88 p88
theorem kf88_ok:KnownOk Go.Proofs.Try.prog (kf88 Go.Proofs.Try.prog):=kl105_0_ok.func ok88

/-! ductility/modal.afterError -/

abbrev as73:List Ty:=[(.pair (.int .i64) (.pair (.slice (.pair (.int .i64) (.pair (.int .i64) .unit))) .unit)),(.int .i64)]
abbrev rs73:List Ty:=[(.int .i64)]

def t73 (x0:Int) (x0':(List (Int×(Int×Unit)))) (x1:Int):Tr (Tys.data rs73) :=
  Tr.test (Option.isSome (f71 (x0,())))
    (Tr.test (Option.isSome (f47 (!eqF (↑(List.length x0'):Int) x1,((10:Int),()))))
      (let r0:=g71 (x0,());
      let r1:=g47 ((!eqF (↑(List.length x0'):Int) x1:Bool),((10:Int),()));
      Tr.test (Option.isSome (f46 (([r0.1,r1.1]:List Int),())))
        (let r2:=g46 (([r0.1,r1.1]:List Int),());
        Tr.test ((!eqF r2.1 0:Bool))
          (Tr.fin ((r2.1,())))
          (Tr.test (Option.isSome (f88 (x0',((0:Int),((1000000000:Int),())))))
            (let r3:=g88 (x0',((0:Int),((1000000000:Int),())));
            Tr.fin ((r3.1,())))
            (Tr.stop)))
        (Tr.stop))
      (Tr.stop))
    (Tr.stop)

def f73 (d:Tys.data as73):Option (Tys.data rs73):=(t73 d.1.1 d.1.2.1 d.2.1).val
def g73 (d:Tys.data as73):Tys.data rs73:=(f73 d).getD (Tys.dflt rs73)
def p73:PureC:=pcOf as73 rs73 f73 g73

theorem wk73 (x0:Int) (x0':(List (Int×(Int×Unit)))) (x1:Int):Walks (runPure (kf88 Go.Proofs.Try.prog).orc Go.Proofs.Try.prog 400 73 as73 rs73 ((x0,x0',()),x1,())) (t73 x0 x0' x1) [([true,true,true,true],[2,4,1,6,8]),([true,true,true,false,true],[2,4,6,1,8,10])] :=
  ⟨by kernel_rfl,by kernel_rfl,trivial⟩

theorem ok73_t (x0:Int) (x0':(List (Int×(Int×Unit)))) (x1:Int):TrOk (PureRuns Go.Proofs.Try.prog (kf88 Go.Proofs.Try.prog).orc 73 as73 rs73 ((x0,x0',()),x1,())) (t73 x0 x0' x1) :=
  Walks.ok (fun _ _ _=>PureRuns.of) (wk73 x0 x0' x1) (by kernel_rfl)

theorem ok73:PureOk Go.Proofs.Try.prog 73 p73:=pureOk_of kf88_ok.base (T:=fun (d:Tys.data as73)=>t73 d.1.1 d.1.2.1 d.2.1) (by kernel_rfl) (fun (d:Tys.data as73)=>ok73_t d.1.1 d.1.2.1 d.2.1)
def kf73 (P:Go.Program):Known:=(kf88 P).func 73 p73
theorem kf73_ok:KnownOk Go.Proofs.Try.prog (kf73 Go.Proofs.Try.prog):=kf88_ok.func ok73

/-! loop 0 of ductility/modal.agreed -/

abbrev sh69_0:Sh:={ n:=34,slots:=[4,6,10,11,12],pats:=[.ptr 0 2 0,.ptr 1 2 0,.ty (.slice (.pair (.int .i64) (.pair (.int .i64) .unit))),.ty (.int .i64),.ty (.int .i64)],boxes:=[.row [.ty (.int .i64),.ty (.int .i64)],.row [.ty (.int .i64),.ty (.int .i64)]] }
abbrev shb69_0:Sh:={ n:=34,slots:=[4,6],pats:=[.ptr 0 2 0,.ptr 1 2 0],boxes:=[.row [.ty (.int .i64),.ty (.int .i64)],.row [.ty (.int .i64),.ty (.int .i64)]] }
abbrev shr69_0:Sh:={ n:=34,slots:=[],pats:=[],boxes:=[.row [.ty (.int .i64),.ty (.int .i64)],.row [.ty (.int .i64),.ty (.int .i64)]] }

def t69_0 (x2:(List (Int×(Int×Unit)))) (x3:Int) (x4:Int) (b0_0:Int) (b0_1:Int) (b1_0:Int) (b1_1:Int):Tr (Out sh69_0.data shb69_0.data shr69_0.data) :=
  Tr.test ((!leF x3 x4:Bool))
    (Tr.test (decide ((0:Int) ≤ x4) && decide (x4 < (↑(List.length x2):Int)))
      (Tr.fin (.again ((x2,(x3,((wrap64 (x4 + (1:Int)):Int),()))),((b0_0,(b0_1,())),(((if b1_0 < (List.getD x2 (Int.toNat x4) ((0:Int),(0:Int),())).1 then (List.getD x2 (Int.toNat x4) ((0:Int),(0:Int),())).1 else b1_0:Int),((if (List.getD x2 (Int.toNat x4) ((0:Int),(0:Int),())).2.1 < b1_1 then (List.getD x2 (Int.toNat x4) ((0:Int),(0:Int),())).2.1 else b1_1:Int),())),())))))
      (Tr.stop))
    (Tr.fin (.brk ((),((b0_0,(b0_1,())),((b1_0,(b1_1,())),())))))

def s69_0 (d:sh69_0.data):Option (Out sh69_0.data shb69_0.data shr69_0.data):=(t69_0 d.1.1 d.1.2.1 d.1.2.2.1 d.2.1.1 d.2.1.2.1 d.2.2.1.1 d.2.2.1.2.1).val
def l69_0 (d:sh69_0.data):Option (shb69_0.data ⊕ shr69_0.data):=itr s69_0 rounds d
def b69_0 (d:sh69_0.data):shb69_0.data:=outB shb69_0.dflt (l69_0 d)
def lc69_0:LoopC:=lcB sh69_0 shb69_0 shr69_0 l69_0 b69_0

theorem wk69_0 (x2:(List (Int×(Int×Unit)))) (x3:Int) (x4:Int) (b0_0:Int) (b0_1:Int) (b1_0:Int) (b1_1:Int):Walks (runBody (kf73 Go.Proofs.Try.prog).orc Go.Proofs.Try.prog 400 69 0 sh69_0 shb69_0 shr69_0 ((x2,x3,x4,()),(b0_0,b0_1,()),(b1_0,b1_1,()),())) (t69_0 x2 x3 x4 b0_0 b0_1 b1_0 b1_1) [([true,true],[2,4]),([ff],[2])] :=
  ⟨by kernel_rfl,by kernel_rfl,trivial⟩

theorem ok69_0_t (x2:(List (Int×(Int×Unit)))) (x3:Int) (x4:Int) (b0_0:Int) (b0_1:Int) (b1_0:Int) (b1_1:Int):TrOk (BodyRuns Go.Proofs.Try.prog (kf73 Go.Proofs.Try.prog).orc 69 0 sh69_0 shb69_0 shr69_0 ((x2,x3,x4,()),(b0_0,b0_1,()),(b1_0,b1_1,()),())) (t69_0 x2 x3 x4 b0_0 b0_1 b1_0 b1_1) :=
  Walks.ok (fun _ _ _=>BodyRuns.of) (wk69_0 x2 x3 x4 b0_0 b0_1 b1_0 b1_1) (by kernel_rfl)

theorem ok69_0:LoopOk Go.Proofs.Try.prog 69 0 lc69_0:=loopOk_ofB (sh:=sh69_0) (shB:=shb69_0) (shR:=shr69_0) kf73_ok.base (T:=fun (d:sh69_0.data)=>t69_0 d.1.1 d.1.2.1 d.1.2.2.1 d.2.1.1 d.2.1.2.1 d.2.2.1.1 d.2.2.1.2.1) (by kernel_rfl) rfl (fun (d:sh69_0.data)=>ok69_0_t d.1.1 d.1.2.1 d.1.2.2.1 d.2.1.1 d.2.1.2.1 d.2.2.1.1 d.2.2.1.2.1) (fun _=>rfl)
def kl69_0 (P:Go.Program):Known:=(kf73 P).loop 69 0 lc69_0
theorem kl69_0_ok:KnownOk Go.Proofs.Try.prog (kl69_0 Go.Proofs.Try.prog):=kf73_ok.loop ok69_0

/-! ductility/modal.agreed -/

abbrev as69:List Ty:=[(.pair (.int .i64) (.pair (.int .i64) .unit)),(.slice (.pair (.int .i64) (.pair (.int .i64) .unit)))]
abbrev rs69:List Ty:=[(.pair (.int .i64) (.pair (.int .i64) .unit)),.bool]

def t69 (x0:Int) (x0':Int) (x1:(List (Int×(Int×Unit)))):Tr (Tys.data rs69) :=
  Tr.test (isBrk (l69_0 ((x1,((↑(List.length x1):Int),((0:Int),()))),(((0:Int),((0:Int),())),((x0,(x0',())),())))))
    (let r0:=b69_0 ((x1,((↑(List.length x1):Int),((0:Int),()))),(((0:Int),((0:Int),())),((x0,(x0',())),())));
    Tr.fin (((r0.2.2.1.1,(r0.2.2.1.2.1,())),((decide (r0.2.2.1.1 ≤ r0.2.2.1.2.1):Bool),()))))
    (Tr.stop)

def f69 (d:Tys.data as69):Option (Tys.data rs69):=(t69 d.1.1 d.1.2.1 d.2.1).val
def g69 (d:Tys.data as69):Tys.data rs69:=(f69 d).getD (Tys.dflt rs69)
def p69:PureC:=pcOf as69 rs69 f69 g69

theorem wk69 (x0:Int) (x0':Int) (x1:(List (Int×(Int×Unit)))):Walks (runPure (kl69_0 Go.Proofs.Try.prog).orc Go.Proofs.Try.prog 400 69 as69 rs69 ((x0,x0',()),x1,())) (t69 x0 x0' x1) [([tt],[1,2])] :=
  ⟨by kernel_rfl,trivial⟩

theorem ok69_t (x0:Int) (x0':Int) (x1:(List (Int×(Int×Unit)))):TrOk (PureRuns Go.Proofs.Try.prog (kl69_0 Go.Proofs.Try.prog).orc 69 as69 rs69 ((x0,x0',()),x1,())) (t69 x0 x0' x1) :=
  Walks.ok (fun _ _ _=>PureRuns.of) (wk69 x0 x0' x1) (by kernel_rfl)

theorem ok69:PureOk Go.Proofs.Try.prog 69 p69:=pureOk_of kl69_0_ok.base (T:=fun (d:Tys.data as69)=>t69 d.1.1 d.1.2.1 d.2.1) (by kernel_rfl) (fun (d:Tys.data as69)=>ok69_t d.1.1 d.1.2.1 d.2.1)
def kf69 (P:Go.Program):Known:=(kl69_0 P).func 69 p69
theorem kf69_ok:KnownOk Go.Proofs.Try.prog (kf69 Go.Proofs.Try.prog):=kl69_0_ok.func ok69

/-! loop 0 of ductility/modal.checkItems[ductility/api.Range] -/

abbrev sh105_0_1:Sh:={ n:=25,slots:=[1,9,10,11],pats:=[.fn 110 [(0,2),(1,2)],.ty (.slice (.pair (.int .i64) (.pair (.int .i64) .unit))),.ty (.int .i64),.ty (.int .i64)],boxes:=[.row [.ty (.slice (.int .i64)),.ty (.slice (.int .i64))],.row [.ty (.int .i64),.ty (.slice (.pair (.int .i64) (.pair (.int .i64) .unit)))]] }
abbrev shb105_0_1:Sh:={ n:=25,slots:=[],pats:=[],boxes:=[.row [.ty (.slice (.int .i64)),.ty (.slice (.int .i64))],.row [.ty (.int .i64),.ty (.slice (.pair (.int .i64) (.pair (.int .i64) .unit)))]] }
abbrev shr105_0_1:Sh:={ n:=25,slots:=[4,5],pats:=[.ty (.int .i64),.ty (.int .i64)],boxes:=[.row [.ty (.slice (.int .i64)),.ty (.slice (.int .i64))],.row [.ty (.int .i64),.ty (.slice (.pair (.int .i64) (.pair (.int .i64) .unit)))]] }

def t105_0_1 (x1:(List (Int×(Int×Unit)))) (x2:Int) (x3:Int) (b0_0:(List Int)) (b0_1:(List Int)) (b1_0:Int) (b1_1:(List (Int×(Int×Unit)))):Tr (Out sh105_0_1.data shb105_0_1.data shr105_0_1.data) :=
  Tr.test ((!leF x2 x3:Bool))
    (Tr.test (decide ((0:Int) ≤ x3) && decide (x3 < (↑(List.length x1):Int)))
      (Tr.test (Option.isSome (f72 (((b0_0,(b0_1,())),()),(x3,(b1_0,())))))
        (let r0:=g72 (((b0_0,(b0_1,())),()),(x3,(b1_0,())));
        Tr.test (Option.isSome (f69 ((r0.1.1,(r0.1.2.1,())),(([((List.getD x1 (Int.toNat x3) ((0:Int),(0:Int),())).1,(List.getD x1 (Int.toNat x3) ((0:Int),(0:Int),())).2.1,())]:List (Int×Int×PUnit)),()))))
          (let r1:=g69 ((r0.1.1,(r0.1.2.1,())),(([((List.getD x1 (Int.toNat x3) ((0:Int),(0:Int),())).1,(List.getD x1 (Int.toNat x3) ((0:Int),(0:Int),())).2.1,())]:List (Int×Int×PUnit)),()));
          Tr.test (Option.isSome (f47 ((!r1.2.1:Bool),((19:Int),()))))
            (let r2:=g47 ((!r1.2.1:Bool),((19:Int),()));
            Tr.test ((!eqF r2.1 0:Bool))
              (Tr.fin (.ret ((x3,(r2.1,())),((b0_0,(b0_1,())),((b1_0,(b1_1,())),())))))
              (Tr.fin (.again ((x1,(x2,((wrap64 (x3 + (1:Int)):Int),()))),((b0_0,(b0_1,())),((b1_0,(b1_1,())),()))))))
            (Tr.stop))
          (Tr.stop))
        (Tr.stop))
      (Tr.stop))
    (Tr.fin (.brk ((),((b0_0,(b0_1,())),((b1_0,(b1_1,())),())))))

def s105_0_1 (d:sh105_0_1.data):Option (Out sh105_0_1.data shb105_0_1.data shr105_0_1.data):=(t105_0_1 d.1.1 d.1.2.1 d.1.2.2.1 d.2.1.1 d.2.1.2.1 d.2.2.1.1 d.2.2.1.2.1).val
def l105_0_1 (d:sh105_0_1.data):Option (shb105_0_1.data ⊕ shr105_0_1.data):=itr s105_0_1 rounds d
def b105_0_1 (d:sh105_0_1.data):shb105_0_1.data:=outB shb105_0_1.dflt (l105_0_1 d)
def r105_0_1 (d:sh105_0_1.data):shr105_0_1.data:=outR shr105_0_1.dflt (l105_0_1 d)
def lc105_0_1:LoopC:=lcOf sh105_0_1 shb105_0_1 shr105_0_1 l105_0_1 b105_0_1 r105_0_1

theorem wk105_0_1 (x1:(List (Int×(Int×Unit)))) (x2:Int) (x3:Int) (b0_0:(List Int)) (b0_1:(List Int)) (b1_0:Int) (b1_1:(List (Int×(Int×Unit)))):Walks (runBody (kf69 Go.Proofs.Try.prog).orc Go.Proofs.Try.prog 400 105 0 sh105_0_1 shb105_0_1 shr105_0_1 ((x1,x2,x3,()),(b0_0,b0_1,()),(b1_0,b1_1,()),())) (t105_0_1 x1 x2 x3 b0_0 b0_1 b1_0 b1_1) [([true,true,true,true,true,true],[2,4,6,1,8,10,12]),([true,true,true,true,true,false],[2,4,6,1,8,10,12]),([ff],[2])] :=
  ⟨by kernel_rfl,by kernel_rfl,by kernel_rfl,trivial⟩

theorem ok105_0_1_t (x1:(List (Int×(Int×Unit)))) (x2:Int) (x3:Int) (b0_0:(List Int)) (b0_1:(List Int)) (b1_0:Int) (b1_1:(List (Int×(Int×Unit)))):TrOk (BodyRuns Go.Proofs.Try.prog (kf69 Go.Proofs.Try.prog).orc 105 0 sh105_0_1 shb105_0_1 shr105_0_1 ((x1,x2,x3,()),(b0_0,b0_1,()),(b1_0,b1_1,()),())) (t105_0_1 x1 x2 x3 b0_0 b0_1 b1_0 b1_1) :=
  Walks.ok (fun _ _ _=>BodyRuns.of) (wk105_0_1 x1 x2 x3 b0_0 b0_1 b1_0 b1_1) (by kernel_rfl)

theorem ok105_0_1:LoopOk Go.Proofs.Try.prog 105 0 lc105_0_1:=loopOk_of (sh:=sh105_0_1) (shB:=shb105_0_1) (shR:=shr105_0_1) kf69_ok.base (T:=fun (d:sh105_0_1.data)=>t105_0_1 d.1.1 d.1.2.1 d.1.2.2.1 d.2.1.1 d.2.1.2.1 d.2.2.1.1 d.2.2.1.2.1) (by kernel_rfl) rfl (fun (d:sh105_0_1.data)=>ok105_0_1_t d.1.1 d.1.2.1 d.1.2.2.1 d.2.1.1 d.2.1.2.1 d.2.2.1.1 d.2.2.1.2.1) (fun _=>rfl)
def kl105_0_1 (P:Go.Program):Known:=(kf69 P).loop 105 0 lc105_0_1
theorem kl105_0_1_ok:KnownOk Go.Proofs.Try.prog (kl105_0_1 Go.Proofs.Try.prog):=kf69_ok.loop ok105_0_1

/-! (ductility/modal.frame).proofError -/

abbrev as95:List Ty:=[(.pair (.pair (.slice (.int .i64)) (.pair (.slice (.int .i64)) .unit)) .unit),(.pair (.int .i64) (.pair (.slice (.pair (.int .i64) (.pair (.int .i64) .unit))) .unit))]
abbrev rs95:List Ty:=[(.int .i64),(.int .i64)]

def t95 (x0_:(List Int)) (x0_':(List Int)) (x1:Int) (x1':(List (Int×(Int×Unit)))):Tr (Tys.data rs95) :=
  Tr.test (Option.isSome (l105_0_1 ((x1',((↑(List.length x1'):Int),((0:Int),()))),((x0_,(x0_',())),((x1,(x1',())),())))))
    (Tr.test (isRet (l105_0_1 ((x1',((↑(List.length x1'):Int),((0:Int),()))),((x0_,(x0_',())),((x1,(x1',())),())))))
      (let r0:=r105_0_1 ((x1',((↑(List.length x1'):Int),((0:Int),()))),((x0_,(x0_',())),((x1,(x1',())),())));
      Tr.fin ((r0.1.1,(r0.1.2.1,()))))
      (Tr.fin (((0:Int),((0:Int),())))))
    (Tr.stop)

def f95 (d:Tys.data as95):Option (Tys.data rs95):=(t95 d.1.1.1 d.1.1.2.1 d.2.1.1 d.2.1.2.1).val
def g95 (d:Tys.data as95):Tys.data rs95:=(f95 d).getD (Tys.dflt rs95)
def p95:PureC:=pcOf as95 rs95 f95 g95

theorem wk95 (x0_:(List Int)) (x0_':(List Int)) (x1:Int) (x1':(List (Int×(Int×Unit)))):Walks (runPure (kl105_0_1 Go.Proofs.Try.prog).orc Go.Proofs.Try.prog 400 95 as95 rs95 (((x0_,x0_',()),()),(x1,x1',()),())) (t95 x0_ x0_' x1 x1') [([true,true],[2,4]),([true,false],[2,4])] :=
  ⟨by kernel_rfl,by kernel_rfl,trivial⟩

theorem ok95_t (x0_:(List Int)) (x0_':(List Int)) (x1:Int) (x1':(List (Int×(Int×Unit)))):TrOk (PureRuns Go.Proofs.Try.prog (kl105_0_1 Go.Proofs.Try.prog).orc 95 as95 rs95 (((x0_,x0_',()),()),(x1,x1',()),())) (t95 x0_ x0_' x1 x1') :=
  Walks.ok (fun _ _ _=>PureRuns.of) (wk95 x0_ x0_' x1 x1') (by kernel_rfl)

theorem ok95:PureOk Go.Proofs.Try.prog 95 p95:=pureOk_of kl105_0_1_ok.base (T:=fun (d:Tys.data as95)=>t95 d.1.1.1 d.1.1.2.1 d.2.1.1 d.2.1.2.1) (by kernel_rfl) (fun (d:Tys.data as95)=>ok95_t d.1.1.1 d.1.1.2.1 d.2.1.1 d.2.1.2.1)
def kf95 (P:Go.Program):Known:=(kl105_0_1 P).func 95 p95
theorem kf95_ok:KnownOk Go.Proofs.Try.prog (kf95 Go.Proofs.Try.prog):=kl105_0_1_ok.func ok95

/-! loop 0 of ductility/ductilitybase.Ints -/

abbrev sh14_0:Sh:={ n:=26,slots:=[0,1,5],pats:=[.ty (.slice (.int .i64)),.ty (.slice (.int .i64)),.ty (.int .i64)],boxes:=[] }
abbrev shb14_0:Sh:={ n:=26,slots:=[],pats:=[],boxes:=[] }
abbrev shr14_0:Sh:={ n:=26,slots:=[4],pats:=[.ty .bool],boxes:=[] }

def t14_0 (x0:(List Int)) (x1:(List Int)) (x2:Int):Tr (Out sh14_0.data shb14_0.data shr14_0.data) :=
  Tr.test ((!leF (↑(List.length x0):Int) x2:Bool))
    (Tr.test (decide ((0:Int) ≤ x2) && decide (x2 < (↑(List.length x0):Int)))
      (Tr.test ((decide ((0:Int) ≤ x2) && decide (x2 < (↑(List.length x1):Int)):Bool))
        (Tr.test ((!eqF (List.getD x0 (Int.toNat x2) (0:Int)) (List.getD x1 (Int.toNat x2) (0:Int)):Bool))
          (Tr.fin (.ret (((false:Bool),()),())))
          (Tr.fin (.again ((x0,(x1,((wrap64 (x2 + (1:Int)):Int),()))),()))))
        (Tr.stop))
      (Tr.stop))
    (Tr.fin (.brk ((),())))

def s14_0 (d:sh14_0.data):Option (Out sh14_0.data shb14_0.data shr14_0.data):=(t14_0 d.1.1 d.1.2.1 d.1.2.2.1).val
def l14_0 (d:sh14_0.data):Option (shb14_0.data ⊕ shr14_0.data):=itr s14_0 rounds d
def b14_0 (d:sh14_0.data):shb14_0.data:=outB shb14_0.dflt (l14_0 d)
def r14_0 (d:sh14_0.data):shr14_0.data:=outR shr14_0.dflt (l14_0 d)
def lc14_0:LoopC:=lcOf sh14_0 shb14_0 shr14_0 l14_0 b14_0 r14_0

theorem wk14_0 (x0:(List Int)) (x1:(List Int)) (x2:Int):Walks (runBody (kf95 Go.Proofs.Try.prog).orc Go.Proofs.Try.prog 400 14 0 sh14_0 shb14_0 shr14_0 ((x0,x1,x2,()),())) (t14_0 x0 x1 x2) [([true,true,true,true],[2,4,6,8]),([true,true,true,false],[2,4,6,8]),([ff],[2])] :=
  ⟨by kernel_rfl,by kernel_rfl,by kernel_rfl,trivial⟩

theorem ok14_0_t (x0:(List Int)) (x1:(List Int)) (x2:Int):TrOk (BodyRuns Go.Proofs.Try.prog (kf95 Go.Proofs.Try.prog).orc 14 0 sh14_0 shb14_0 shr14_0 ((x0,x1,x2,()),())) (t14_0 x0 x1 x2) :=
  Walks.ok (fun _ _ _=>BodyRuns.of) (wk14_0 x0 x1 x2) (by kernel_rfl)

theorem ok14_0:LoopOk Go.Proofs.Try.prog 14 0 lc14_0:=loopOk_of (sh:=sh14_0) (shB:=shb14_0) (shR:=shr14_0) kf95_ok.base (T:=fun (d:sh14_0.data)=>t14_0 d.1.1 d.1.2.1 d.1.2.2.1) (by kernel_rfl) rfl (fun (d:sh14_0.data)=>ok14_0_t d.1.1 d.1.2.1 d.1.2.2.1) (fun _=>rfl)
def kl14_0 (P:Go.Program):Known:=(kf95 P).loop 14 0 lc14_0
theorem kl14_0_ok:KnownOk Go.Proofs.Try.prog (kl14_0 Go.Proofs.Try.prog):=kf95_ok.loop ok14_0

/-! ductility/ductilitybase.Ints -/

abbrev as14:List Ty:=[(.slice (.int .i64)),(.slice (.int .i64))]
abbrev rs14:List Ty:=[.bool]

def t14 (x0:(List Int)) (x1:(List Int)):Tr (Tys.data rs14) :=
  Tr.test ((!eqF (↑(List.length x0):Int) (↑(List.length x1):Int):Bool))
    (Tr.fin ((false,())))
    (Tr.test (Option.isSome (l14_0 ((x0,(x1,((0:Int),()))),())))
      (Tr.test (isRet (l14_0 ((x0,(x1,((0:Int),()))),())))
        (let r0:=r14_0 ((x0,(x1,((0:Int),()))),());
        Tr.fin ((r0.1.1,())))
        (Tr.fin (((true:Bool),()))))
      (Tr.stop))

def f14 (d:Tys.data as14):Option (Tys.data rs14):=(t14 d.1 d.2.1).val
def g14 (d:Tys.data as14):Tys.data rs14:=(f14 d).getD (Tys.dflt rs14)
def p14:PureC:=pcOf as14 rs14 f14 g14

theorem wk14 (x0:(List Int)) (x1:(List Int)):Walks (runPure (kl14_0 Go.Proofs.Try.prog).orc Go.Proofs.Try.prog 400 14 as14 rs14 (x0,x1,())) (t14 x0 x1) [([tt],[2]),([false,true,true],[2,4,6]),([false,true,false],[2,4,6])] :=
  ⟨by kernel_rfl,by kernel_rfl,by kernel_rfl,trivial⟩

theorem ok14_t (x0:(List Int)) (x1:(List Int)):TrOk (PureRuns Go.Proofs.Try.prog (kl14_0 Go.Proofs.Try.prog).orc 14 as14 rs14 (x0,x1,())) (t14 x0 x1) :=
  Walks.ok (fun _ _ _=>PureRuns.of) (wk14 x0 x1) (by kernel_rfl)

theorem ok14:PureOk Go.Proofs.Try.prog 14 p14:=pureOk_of kl14_0_ok.base (T:=fun (d:Tys.data as14)=>t14 d.1 d.2.1) (by kernel_rfl) (fun (d:Tys.data as14)=>ok14_t d.1 d.2.1)
def kf14 (P:Go.Program):Known:=(kl14_0 P).func 14 p14
theorem kf14_ok:KnownOk Go.Proofs.Try.prog (kf14 Go.Proofs.Try.prog):=kl14_0_ok.func ok14

/-! ductility/ductilitylaw06.awake -/

abbrev as7:List Ty:=[]
abbrev rs7:List Ty:=[.bool]
def f7 (_:Tys.data as7):Option (Tys.data rs7):=some (true,())
def g7 (_:Tys.data as7):Tys.data rs7:=(true,())
def p7:PureC:=pcOf as7 rs7 f7 g7

theorem e7:runAsk (kf14 Go.Proofs.Try.prog).orc Go.Proofs.Try.prog 400 7 as7 rs7 () none = some ((true,()),[]):=by kernel_rfl
theorem ok7:PureOk Go.Proofs.Try.prog 7 p7:=pureOk_closed kf14_ok.base (by kernel_rfl) e7 All.nil
def kf7 (P:Go.Program):Known:=(kf14 P).func 7 p7
theorem kf7_ok:KnownOk Go.Proofs.Try.prog (kf7 Go.Proofs.Try.prog):=kf14_ok.func ok7

/-! ductility/ductilitybase.Within -/

abbrev as30:List Ty:=[(.int .i64),(.int .i64),(.int .i64)]
abbrev rs30:List Ty:=[.bool]

def t30 (x0:Int) (x1:Int) (x2:Int):Tr (Tys.data rs30) :=
  Tr.test ((leF x1 x0:Bool))
    (Tr.fin ((leF x0 x2,())))
    (Tr.fin ((false,())))

def f30 (d:Tys.data as30):Option (Tys.data rs30):=(t30 d.1 d.2.1 d.2.2.1).val
def g30 (d:Tys.data as30):Tys.data rs30:=(f30 d).getD (Tys.dflt rs30)
def p30:PureC:=pcOf as30 rs30 f30 g30

theorem wk30 (x0:Int) (x1:Int) (x2:Int):Walks (runPure (kf7 Go.Proofs.Try.prog).orc Go.Proofs.Try.prog 400 30 as30 rs30 (x0,x1,x2,())) (t30 x0 x1 x2) [([tt],[2,2,2,2]),([ff],[2,2,2,2])] :=
  ⟨by kernel_rfl,by kernel_rfl,trivial⟩

theorem ok30_t (x0:Int) (x1:Int) (x2:Int):TrOk (PureRuns Go.Proofs.Try.prog (kf7 Go.Proofs.Try.prog).orc 30 as30 rs30 (x0,x1,x2,())) (t30 x0 x1 x2) :=
  Walks.ok (fun _ _ _=>PureRuns.of) (wk30 x0 x1 x2) (by kernel_rfl)

theorem ok30:PureOk Go.Proofs.Try.prog 30 p30:=pureOk_of kf7_ok.base (T:=fun (d:Tys.data as30)=>t30 d.1 d.2.1 d.2.2.1) (by kernel_rfl) (fun (d:Tys.data as30)=>ok30_t d.1 d.2.1 d.2.2.1)
def kf30 (P:Go.Program):Known:=(kf7 P).func 30 p30
theorem kf30_ok:KnownOk Go.Proofs.Try.prog (kf30 Go.Proofs.Try.prog):=kf7_ok.func ok30

/-! loop 0 of ductility/ductilityref06.DecayErr -/

abbrev sh23_0:Sh:={ n:=30,slots:=[1,3],pats:=[.ptr 0 2 0,.ty (.int .i64)],boxes:=[.row [.ty (.slice (.int .i64)),.ty (.int .i64)]] }
abbrev shb23_0:Sh:={ n:=30,slots:=[1],pats:=[.ptr 0 2 0],boxes:=[.row [.ty (.slice (.int .i64)),.ty (.int .i64)]] }
abbrev shr23_0:Sh:={ n:=30,slots:=[2],pats:=[.ty (.int .i64)],boxes:=[.row [.ty (.slice (.int .i64)),.ty (.int .i64)]] }

def t23_0 (x1:Int) (b0_0:(List Int)) (b0_1:Int):Tr (Out sh23_0.data shb23_0.data shr23_0.data) :=
  Tr.test ((!leF (↑(List.length b0_0):Int) x1:Bool))
    (Tr.test (decide ((0:Int) ≤ x1) && decide (x1 < (↑(List.length b0_0):Int)))
      (Tr.test (Option.isSome (f30 ((List.getD b0_0 (Int.toNat x1) (0:Int):Int),((-10000:Int),((10000:Int),())))))
        (let r0:=g30 ((List.getD b0_0 (Int.toNat x1) (0:Int):Int),((-10000:Int),((10000:Int),())));
        Tr.test ((!r0.1:Bool))
          (Tr.fin (.ret (((2:Int),()),((b0_0,(b0_1,())),()))))
          (Tr.fin (.again (((wrap64 (x1 + (1:Int)):Int),()),((b0_0,(b0_1,())),())))))
        (Tr.stop))
      (Tr.stop))
    (Tr.fin (.brk ((),((b0_0,(b0_1,())),()))))

def s23_0 (d:sh23_0.data):Option (Out sh23_0.data shb23_0.data shr23_0.data):=(t23_0 d.1.1 d.2.1.1 d.2.1.2.1).val
def l23_0 (d:sh23_0.data):Option (shb23_0.data ⊕ shr23_0.data):=itr s23_0 rounds d
def b23_0 (d:sh23_0.data):shb23_0.data:=outB shb23_0.dflt (l23_0 d)
def r23_0 (d:sh23_0.data):shr23_0.data:=outR shr23_0.dflt (l23_0 d)
def lc23_0:LoopC:=lcOf sh23_0 shb23_0 shr23_0 l23_0 b23_0 r23_0

theorem wk23_0 (x1:Int) (b0_0:(List Int)) (b0_1:Int):Walks (runBody (kf30 Go.Proofs.Try.prog).orc Go.Proofs.Try.prog 400 23 0 sh23_0 shb23_0 shr23_0 ((x1,()),(b0_0,b0_1,()),())) (t23_0 x1 b0_0 b0_1) [([true,true,true,true],[2,4,6,8]),([true,true,true,false],[2,4,6,8]),([ff],[2])] :=
  ⟨by kernel_rfl,by kernel_rfl,by kernel_rfl,trivial⟩

theorem ok23_0_t (x1:Int) (b0_0:(List Int)) (b0_1:Int):TrOk (BodyRuns Go.Proofs.Try.prog (kf30 Go.Proofs.Try.prog).orc 23 0 sh23_0 shb23_0 shr23_0 ((x1,()),(b0_0,b0_1,()),())) (t23_0 x1 b0_0 b0_1) :=
  Walks.ok (fun _ _ _=>BodyRuns.of) (wk23_0 x1 b0_0 b0_1) (by kernel_rfl)

theorem ok23_0:LoopOk Go.Proofs.Try.prog 23 0 lc23_0:=loopOk_of (sh:=sh23_0) (shB:=shb23_0) (shR:=shr23_0) kf30_ok.base (T:=fun (d:sh23_0.data)=>t23_0 d.1.1 d.2.1.1 d.2.1.2.1) (by kernel_rfl) rfl (fun (d:sh23_0.data)=>ok23_0_t d.1.1 d.2.1.1 d.2.1.2.1) (fun _=>rfl)
def kl23_0 (P:Go.Program):Known:=(kf30 P).loop 23 0 lc23_0
theorem kl23_0_ok:KnownOk Go.Proofs.Try.prog (kl23_0 Go.Proofs.Try.prog):=kf30_ok.loop ok23_0

/-! ductility/ductilityref06.DecayErr -/

abbrev as23:List Ty:=[(.pair (.slice (.int .i64)) (.pair (.int .i64) .unit))]
abbrev rs23:List Ty:=[(.int .i64)]

def t23 (x0:(List Int)) (x0':Int):Tr (Tys.data rs23) :=
  Tr.test ((eqF (↑(List.length x0):Int) (0:Int):Bool))
    (Tr.fin (((10:Int),())))
    (Tr.test (!leF (↑(List.length x0):Int) (60:Int))
      (Tr.fin (((8:Int),())))
      (Tr.test (Option.isSome (l23_0 (((0:Int),()),((x0,(x0',())),()))))
        (Tr.test (isRet (l23_0 (((0:Int),()),((x0,(x0',())),()))))
          (let r0:=r23_0 (((0:Int),()),((x0,(x0',())),()));
          Tr.fin ((r0.1.1,())))
          (let r1:=b23_0 (((0:Int),()),((x0,(x0',())),()));
          Tr.test (Option.isSome (f30 (r1.2.1.2.1,((0:Int),((10000:Int),())))))
            (let r2:=g30 (r1.2.1.2.1,((0:Int),((10000:Int),())));
            Tr.test ((!r2.1:Bool))
              (Tr.fin (((2:Int),())))
              (Tr.fin (((0:Int),()))))
            (Tr.stop)))
        (Tr.stop)))

def f23 (d:Tys.data as23):Option (Tys.data rs23):=(t23 d.1.1 d.1.2.1).val
def g23 (d:Tys.data as23):Tys.data rs23:=(f23 d).getD (Tys.dflt rs23)
def p23:PureC:=pcOf as23 rs23 f23 g23

theorem wk23 (x0:(List Int)) (x0':Int):Walks (runPure (kl23_0 Go.Proofs.Try.prog).orc Go.Proofs.Try.prog 400 23 as23 rs23 ((x0,x0',()),())) (t23 x0 x0') [([tt],[2]),([false,true],[2,4]),([false,false,true,true],[2,4,6,8]),([false,false,true,false,true,true],[2,4,6,8,10,12]),([false,false,true,false,true,false],[2,4,6,8,10,12])] :=
  ⟨by kernel_rfl,by kernel_rfl,by kernel_rfl,by kernel_rfl,by kernel_rfl,trivial⟩

theorem ok23_t (x0:(List Int)) (x0':Int):TrOk (PureRuns Go.Proofs.Try.prog (kl23_0 Go.Proofs.Try.prog).orc 23 as23 rs23 ((x0,x0',()),())) (t23 x0 x0') :=
  Walks.ok (fun _ _ _=>PureRuns.of) (wk23 x0 x0') (by kernel_rfl)

theorem ok23:PureOk Go.Proofs.Try.prog 23 p23:=pureOk_of kl23_0_ok.base (T:=fun (d:Tys.data as23)=>t23 d.1.1 d.1.2.1) (by kernel_rfl) (fun (d:Tys.data as23)=>ok23_t d.1.1 d.1.2.1)
def kf23 (P:Go.Program):Known:=(kl23_0 P).func 23 p23
theorem kf23_ok:KnownOk Go.Proofs.Try.prog (kf23 Go.Proofs.Try.prog):=kl23_0_ok.func ok23

/-! ductility/ductilitybase.Mod -/

abbrev as29:List Ty:=[(.int .i64),(.int .i64)]
abbrev rs29:List Ty:=[(.int .i64)]

def t29 (x0:Int) (x1:Int):Tr (Tys.data rs29) :=
  Tr.test ((x1 == (0:Int):Bool))
    (Tr.stop)
    (Tr.test (!leF (0:Int) (Int.tmod x0 x1))
      (Tr.fin (((wrap64 (Int.tmod x0 x1 + x1):Int),())))
      (Tr.fin (((Int.tmod x0 x1:Int),()))))

def f29 (d:Tys.data as29):Option (Tys.data rs29):=(t29 d.1 d.2.1).val
def g29 (d:Tys.data as29):Tys.data rs29:=(f29 d).getD (Tys.dflt rs29)
def p29:PureC:=pcOf as29 rs29 f29 g29

theorem wk29 (x0:Int) (x1:Int):Walks (runPure (kf23 Go.Proofs.Try.prog).orc Go.Proofs.Try.prog 400 29 as29 rs29 (x0,x1,())) (t29 x0 x1) [([false,true],[2,4]),([false,false],[2,4])] :=
  ⟨by kernel_rfl,by kernel_rfl,trivial⟩

theorem ok29_t (x0:Int) (x1:Int):TrOk (PureRuns Go.Proofs.Try.prog (kf23 Go.Proofs.Try.prog).orc 29 as29 rs29 (x0,x1,())) (t29 x0 x1) :=
  Walks.ok (fun _ _ _=>PureRuns.of) (wk29 x0 x1) (by kernel_rfl)

theorem ok29:PureOk Go.Proofs.Try.prog 29 p29:=pureOk_of kf23_ok.base (T:=fun (d:Tys.data as29)=>t29 d.1 d.2.1) (by kernel_rfl) (fun (d:Tys.data as29)=>ok29_t d.1 d.2.1)
def kf29 (P:Go.Program):Known:=(kf23 P).func 29 p29
theorem kf29_ok:KnownOk Go.Proofs.Try.prog (kf29 Go.Proofs.Try.prog):=kf23_ok.func ok29

/-! ductility/ductilitybase.CopyInts -/

abbrev as51:List Ty:=[(.slice (.int .i64))]
abbrev rs51:List Ty:=[(.slice (.int .i64))]

def t51 (x0:(List Int)):Tr (Tys.data rs51) :=
  Tr.test ((Nat.beq (List.length x0) (0:Nat):Bool))
    (Tr.fin ((([]:List Int),())))
    (Tr.test (Nat.ble ((0:Nat) + List.length x0) (0:Nat))
      (Tr.stop)
      (Tr.test ((Nat.ble (((2:Nat) * ((0:Nat) + List.length x0) + (192:Nat)) * (8:Nat)) (281474976710656:Nat) && Nat.ble ((0:Nat) + List.length x0) (281474976710656:Nat):Bool))
        (Tr.test ((Nat.beq ((0:Nat) + List.length x0) (List.length ([]++x0)):Bool))
          (Tr.fin ((([]++x0:List Int),())))
          (Tr.stop))
        (Tr.stop)))

def f51 (d:Tys.data as51):Option (Tys.data rs51):=(t51 d.1).val
def g51 (d:Tys.data as51):Tys.data rs51:=(f51 d).getD (Tys.dflt rs51)
def p51:PureC:=pcOf as51 rs51 f51 g51

theorem wk51 (x0:(List Int)):Walks (runPure (kf29 Go.Proofs.Try.prog).orc Go.Proofs.Try.prog 400 51 as51 rs51 (x0,())) (t51 x0) [([tt],[2]),([false,false,true,true],[2,4,6,8])] :=
  ⟨by kernel_rfl,by kernel_rfl,trivial⟩

theorem ok51_t (x0:(List Int)):TrOk (PureRuns Go.Proofs.Try.prog (kf29 Go.Proofs.Try.prog).orc 51 as51 rs51 (x0,())) (t51 x0) :=
  Walks.ok (fun _ _ _=>PureRuns.of) (wk51 x0) (by kernel_rfl)

theorem ok51:PureOk Go.Proofs.Try.prog 51 p51:=pureOk_of kf29_ok.base (T:=fun (d:Tys.data as51)=>t51 d.1) (by kernel_rfl) (fun (d:Tys.data as51)=>ok51_t d.1)
def kf51 (P:Go.Program):Known:=(kf29 P).func 51 p51
theorem kf51_ok:KnownOk Go.Proofs.Try.prog (kf51 Go.Proofs.Try.prog):=kf29_ok.func ok51

/-! ductility/ductilityref06.CopyDecay -/

abbrev as19:List Ty:=[(.pair (.slice (.int .i64)) (.pair (.int .i64) .unit))]
abbrev rs19:List Ty:=[(.pair (.slice (.int .i64)) (.pair (.int .i64) .unit))]

def t19 (x0:(List Int)) (x0':Int):Tr (Tys.data rs19) :=
  Tr.test (Option.isSome (f51 (x0,())))
    (let r0:=g51 (x0,());
    Tr.fin (((r0.1,(x0',())),())))
    (Tr.stop)

def f19 (d:Tys.data as19):Option (Tys.data rs19):=(t19 d.1.1 d.1.2.1).val
def g19 (d:Tys.data as19):Tys.data rs19:=(f19 d).getD (Tys.dflt rs19)
def p19:PureC:=pcOf as19 rs19 f19 g19

theorem wk19 (x0:(List Int)) (x0':Int):Walks (runPure (kf51 Go.Proofs.Try.prog).orc Go.Proofs.Try.prog 400 19 as19 rs19 ((x0,x0',()),())) (t19 x0 x0') [([tt],[2])] :=
  ⟨by kernel_rfl,trivial⟩

theorem ok19_t (x0:(List Int)) (x0':Int):TrOk (PureRuns Go.Proofs.Try.prog (kf51 Go.Proofs.Try.prog).orc 19 as19 rs19 ((x0,x0',()),())) (t19 x0 x0') :=
  Walks.ok (fun _ _ _=>PureRuns.of) (wk19 x0 x0') (by kernel_rfl)

theorem ok19:PureOk Go.Proofs.Try.prog 19 p19:=pureOk_of kf51_ok.base (T:=fun (d:Tys.data as19)=>t19 d.1.1 d.1.2.1) (by kernel_rfl) (fun (d:Tys.data as19)=>ok19_t d.1.1 d.1.2.1)
def kf19 (P:Go.Program):Known:=(kf51 P).func 19 p19
theorem kf19_ok:KnownOk Go.Proofs.Try.prog (kf19 Go.Proofs.Try.prog):=kf51_ok.func ok19

/-! ductility/modal.CrossingsIn -/

abbrev as18:List Ty:=[(.pair (.slice (.int .i64)) (.pair (.int .i64) .unit))]
abbrev rs18:List Ty:=[(.slice (.pair (.int .i64) (.pair (.int .i64) .unit))),(.int .i64)]

def t18 (x0:(List Int)) (x0':Int):Tr (Tys.data rs18) :=
  Tr.test (Option.isSome (f62 ((x0,(x0',())),())))
    (let r0:=g62 ((x0,(x0',())),());
    Tr.test ((!eqF r0.2.1 0:Bool))
      (Tr.fin ((([]:List (Int×Int×PUnit)),(r0.2.1,()))))
      (Tr.test (Option.isSome (f63 (((r0.1.1.1,(r0.1.1.2.1,())),()),())))
        (let r1:=g63 (((r0.1.1.1,(r0.1.1.2.1,())),()),());
        Tr.fin ((r1.1,((0:Int),()))))
        (Tr.stop)))
    (Tr.stop)

def f18 (d:Tys.data as18):Option (Tys.data rs18):=(t18 d.1.1 d.1.2.1).val
def g18 (d:Tys.data as18):Tys.data rs18:=(f18 d).getD (Tys.dflt rs18)
def p18:PureC:=pcOf as18 rs18 f18 g18

theorem wk18 (x0:(List Int)) (x0':Int):Walks (runPure (kf19 Go.Proofs.Try.prog).orc Go.Proofs.Try.prog 400 18 as18 rs18 ((x0,x0',()),())) (t18 x0 x0') [([true,true],[2,4]),([true,false,true],[2,4,6])] :=
  ⟨by kernel_rfl,by kernel_rfl,trivial⟩

theorem ok18_t (x0:(List Int)) (x0':Int):TrOk (PureRuns Go.Proofs.Try.prog (kf19 Go.Proofs.Try.prog).orc 18 as18 rs18 ((x0,x0',()),())) (t18 x0 x0') :=
  Walks.ok (fun _ _ _=>PureRuns.of) (wk18 x0 x0') (by kernel_rfl)

theorem ok18:PureOk Go.Proofs.Try.prog 18 p18:=pureOk_of kf19_ok.base (T:=fun (d:Tys.data as18)=>t18 d.1.1 d.1.2.1) (by kernel_rfl) (fun (d:Tys.data as18)=>ok18_t d.1.1 d.1.2.1)
def kf18 (P:Go.Program):Known:=(kf19 P).func 18 p18
theorem kf18_ok:KnownOk Go.Proofs.Try.prog (kf18 Go.Proofs.Try.prog):=kf19_ok.func ok18

/-! loop 0 of slices.Max[[]int,int] -/

abbrev sh86_0:Sh:={ n:=25,slots:=[0,3,4],pats:=[.ty (.slice (.int .i64)),.ty (.int .i64),.ty (.int .i64)],boxes:=[] }
abbrev shb86_0:Sh:={ n:=25,slots:=[3],pats:=[.ty (.int .i64)],boxes:=[] }
abbrev shr86_0:Sh:={ n:=25,slots:=[],pats:=[],boxes:=[] }

def t86_0 (x0:(List Int)) (x1:Int) (x2:Int):Tr (Out sh86_0.data shb86_0.data shr86_0.data) :=
  Tr.test ((!leF (↑(List.length x0):Int) x2:Bool))
    (Tr.test (decide ((0:Int) ≤ x2) && decide (x2 < (↑(List.length x0):Int)))
      (Tr.fin (.again ((x0,((if x1 < List.getD x0 (Int.toNat x2) (0:Int) then List.getD x0 (Int.toNat x2) (0:Int) else x1:Int),((wrap64 (x2 + (1:Int)):Int),()))),())))
      (Tr.stop))
    (Tr.fin (.brk ((x1,()),())))

def s86_0 (d:sh86_0.data):Option (Out sh86_0.data shb86_0.data shr86_0.data):=(t86_0 d.1.1 d.1.2.1 d.1.2.2.1).val
def l86_0 (d:sh86_0.data):Option (shb86_0.data ⊕ shr86_0.data):=itr s86_0 rounds d
def b86_0 (d:sh86_0.data):shb86_0.data:=outB shb86_0.dflt (l86_0 d)
def lc86_0:LoopC:=lcB sh86_0 shb86_0 shr86_0 l86_0 b86_0

theorem wk86_0 (x0:(List Int)) (x1:Int) (x2:Int):Walks (runBody (kf18 Go.Proofs.Try.prog).orc Go.Proofs.Try.prog 400 86 0 sh86_0 shb86_0 shr86_0 ((x0,x1,x2,()),())) (t86_0 x0 x1 x2) [([true,true],[2,4]),([ff],[2])] :=
  ⟨by kernel_rfl,by kernel_rfl,trivial⟩

theorem ok86_0_t (x0:(List Int)) (x1:Int) (x2:Int):TrOk (BodyRuns Go.Proofs.Try.prog (kf18 Go.Proofs.Try.prog).orc 86 0 sh86_0 shb86_0 shr86_0 ((x0,x1,x2,()),())) (t86_0 x0 x1 x2) :=
  Walks.ok (fun _ _ _=>BodyRuns.of) (wk86_0 x0 x1 x2) (by kernel_rfl)

theorem ok86_0:LoopOk Go.Proofs.Try.prog 86 0 lc86_0:=loopOk_ofB (sh:=sh86_0) (shB:=shb86_0) (shR:=shr86_0) kf18_ok.base (T:=fun (d:sh86_0.data)=>t86_0 d.1.1 d.1.2.1 d.1.2.2.1) (by kernel_rfl) rfl (fun (d:sh86_0.data)=>ok86_0_t d.1.1 d.1.2.1 d.1.2.2.1) (fun _=>rfl)
def kl86_0 (P:Go.Program):Known:=(kf18 P).loop 86 0 lc86_0
theorem kl86_0_ok:KnownOk Go.Proofs.Try.prog (kl86_0 Go.Proofs.Try.prog):=kf18_ok.loop ok86_0

/-! slices.Max[[]int,int] -/

abbrev as86:List Ty:=[(.slice (.int .i64))]
abbrev rs86:List Ty:=[(.int .i64)]

def t86 (x0:(List Int)):Tr (Tys.data rs86) :=
  Tr.test ((!leF (1:Int) (↑(List.length x0):Int):Bool))
    (Tr.stop)
    (Tr.test (true && decide ((0:Int) < (↑(List.length x0):Int)))
      (Tr.test (isBrk (l86_0 ((x0,((List.getD x0 (0:Nat) (0:Int):Int),((1:Int),()))),())))
        (let r0:=b86_0 ((x0,((List.getD x0 (0:Nat) (0:Int):Int),((1:Int),()))),());
        Tr.fin ((r0.1.1,())))
        (Tr.stop))
      (Tr.stop))

def f86 (d:Tys.data as86):Option (Tys.data rs86):=(t86 d.1).val
def g86 (d:Tys.data as86):Tys.data rs86:=(f86 d).getD (Tys.dflt rs86)
def p86:PureC:=pcOf as86 rs86 f86 g86

theorem wk86 (x0:(List Int)):Walks (runPure (kl86_0 Go.Proofs.Try.prog).orc Go.Proofs.Try.prog 400 86 as86 rs86 (x0,())) (t86 x0) [([false,true,true],[1,2,4,6])] :=
  ⟨by kernel_rfl,trivial⟩

theorem ok86_t (x0:(List Int)):TrOk (PureRuns Go.Proofs.Try.prog (kl86_0 Go.Proofs.Try.prog).orc 86 as86 rs86 (x0,())) (t86 x0) :=
  Walks.ok (fun _ _ _=>PureRuns.of) (wk86 x0) (by kernel_rfl)

theorem ok86:PureOk Go.Proofs.Try.prog 86 p86:=pureOk_of kl86_0_ok.base (T:=fun (d:Tys.data as86)=>t86 d.1) (by kernel_rfl) (fun (d:Tys.data as86)=>ok86_t d.1)
def kf86 (P:Go.Program):Known:=(kl86_0 P).func 86 p86
theorem kf86_ok:KnownOk Go.Proofs.Try.prog (kf86 Go.Proofs.Try.prog):=kl86_0_ok.func ok86

/-! loop 0 of (ductility/modal.decay).swings -/

abbrev sh64_0:Sh:={ n:=48,slots:=[1,3,4,11,12],pats:=[.ptr 0 2 0,.acc (.pair (.int .i64) (.pair (.int .i64) .unit)),.ty (.slice (.pair (.int .i64) (.pair (.int .i64) .unit))),.ty (.int .i64),.ty (.int .i64)],boxes:=[.row [.ty (.slice (.int .i64)),.ty (.int .i64)]] }
abbrev shb64_0:Sh:={ n:=48,slots:=[3],pats:=[.acc (.pair (.int .i64) (.pair (.int .i64) .unit))],boxes:=[.row [.ty (.slice (.int .i64)),.ty (.int .i64)]] }
abbrev shr64_0:Sh:={ n:=48,slots:=[],pats:=[],boxes:=[.row [.ty (.slice (.int .i64)),.ty (.int .i64)]] }

def t64_0 (x1:(List (Int×(Int×Unit)))) (x2:(List (Int×(Int×Unit)))) (x3:Int) (x4:Int) (b0_0:(List Int)) (b0_1:Int):Tr (Out sh64_0.data shb64_0.data shr64_0.data) :=
  Tr.test ((!leF x3 x4:Bool))
    (Tr.test (decide ((0:Int) ≤ x4) && decide (x4 < (↑(List.length x2):Int)))
      (Tr.test ((decide ((0:Int) ≤ wrap64 (x4 + (1:Int))) && decide (wrap64 (x4 + (1:Int)) < (↑(List.length x2):Int)):Bool))
        (Tr.test ((decide ((0:Int) ≤ wrap64 ((List.getD x2 (Int.toNat (wrap64 (x4 + (1:Int)))) ((0:Int),(0:Int),())).1 + (1:Int))) && decide (wrap64 ((List.getD x2 (Int.toNat (wrap64 (x4 + (1:Int)))) ((0:Int),(0:Int),())).1 + (1:Int)) ≤ (↑(List.length b0_0):Int)):Bool))
          (Tr.test ((decide ((0:Int) ≤ (List.getD x2 (Int.toNat x4) ((0:Int),(0:Int),())).2.1) && decide ((List.getD x2 (Int.toNat x4) ((0:Int),(0:Int),())).2.1 ≤ (↑(Int.toNat (wrap64 ((List.getD x2 (Int.toNat (wrap64 (x4 + (1:Int)))) ((0:Int),(0:Int),())).1 + (1:Int)))):Int)):Bool))
            (Tr.test (Option.isSome (f86 ((List.take (Int.toNat (wrap64 ((List.getD x2 (Int.toNat (wrap64 (x4 + (1:Int)))) ((0:Int),(0:Int),())).1 + (1:Int))) - Int.toNat (List.getD x2 (Int.toNat x4) ((0:Int),(0:Int),())).2.1) (List.drop (Int.toNat (List.getD x2 (Int.toNat x4) ((0:Int),(0:Int),())).2.1) b0_0):List Int),())))
              (Tr.test ((Nat.ble (((2:Nat) * (List.length x1 + (1:Nat)) + (192:Nat)) * (16:Nat)) (281474976710656:Nat) && Nat.ble (List.length x1 + (1:Nat)) (281474976710656:Nat):Bool))
                (let r0:=g86 ((List.take (Int.toNat (wrap64 ((List.getD x2 (Int.toNat (wrap64 (x4 + (1:Int)))) ((0:Int),(0:Int),())).1 + (1:Int))) - Int.toNat (List.getD x2 (Int.toNat x4) ((0:Int),(0:Int),())).2.1) (List.drop (Int.toNat (List.getD x2 (Int.toNat x4) ((0:Int),(0:Int),())).2.1) b0_0):List Int),());
                Tr.fin (.again (((x1++[(wrap64 (r0.1 - b0_1),wrap64 (r0.1 + b0_1),())]:List (Int×Int×PUnit)),(x2,(x3,((wrap64 (x4 + (1:Int)):Int),())))),((b0_0,(b0_1,())),()))))
                (Tr.stop))
              (Tr.stop))
            (Tr.stop))
          (Tr.stop))
        (Tr.stop))
      (Tr.stop))
    (Tr.fin (.brk ((x1,()),((b0_0,(b0_1,())),()))))

def s64_0 (d:sh64_0.data):Option (Out sh64_0.data shb64_0.data shr64_0.data):=(t64_0 d.1.1 d.1.2.1 d.1.2.2.1 d.1.2.2.2.1 d.2.1.1 d.2.1.2.1).val
def l64_0 (d:sh64_0.data):Option (shb64_0.data ⊕ shr64_0.data):=itr s64_0 rounds d
def b64_0 (d:sh64_0.data):shb64_0.data:=outB shb64_0.dflt (l64_0 d)
def lc64_0:LoopC:=lcB sh64_0 shb64_0 shr64_0 l64_0 b64_0

theorem wk64_0 (x1:(List (Int×(Int×Unit)))) (x2:(List (Int×(Int×Unit)))) (x3:Int) (x4:Int) (b0_0:(List Int)) (b0_1:Int):Walks (runBody (kf86 Go.Proofs.Try.prog).orc Go.Proofs.Try.prog 400 64 0 sh64_0 shb64_0 shr64_0 ((x1,x2,x3,x4,()),(b0_0,b0_1,()),())) (t64_0 x1 x2 x3 x4 b0_0 b0_1) [([true,true,true,true,true,true,true],[1,2,0,4,6,8,10,12,14]),([ff],[2])] :=
  ⟨by kernel_rfl,by kernel_rfl,trivial⟩

theorem ok64_0_t (x1:(List (Int×(Int×Unit)))) (x2:(List (Int×(Int×Unit)))) (x3:Int) (x4:Int) (b0_0:(List Int)) (b0_1:Int):TrOk (BodyRuns Go.Proofs.Try.prog (kf86 Go.Proofs.Try.prog).orc 64 0 sh64_0 shb64_0 shr64_0 ((x1,x2,x3,x4,()),(b0_0,b0_1,()),())) (t64_0 x1 x2 x3 x4 b0_0 b0_1) :=
  Walks.ok (fun _ _ _=>BodyRuns.of) (wk64_0 x1 x2 x3 x4 b0_0 b0_1) (by kernel_rfl)

theorem ok64_0:LoopOk Go.Proofs.Try.prog 64 0 lc64_0:=loopOk_ofB (sh:=sh64_0) (shB:=shb64_0) (shR:=shr64_0) kf86_ok.base (T:=fun (d:sh64_0.data)=>t64_0 d.1.1 d.1.2.1 d.1.2.2.1 d.1.2.2.2.1 d.2.1.1 d.2.1.2.1) (by kernel_rfl) rfl (fun (d:sh64_0.data)=>ok64_0_t d.1.1 d.1.2.1 d.1.2.2.1 d.1.2.2.2.1 d.2.1.1 d.2.1.2.1) (fun _=>rfl)
def kl64_0 (P:Go.Program):Known:=(kf86 P).loop 64 0 lc64_0
theorem kl64_0_ok:KnownOk Go.Proofs.Try.prog (kl64_0 Go.Proofs.Try.prog):=kf86_ok.loop ok64_0

/-! (ductility/modal.decay).swings -/

abbrev as64:List Ty:=[(.pair (.pair (.slice (.int .i64)) (.pair (.int .i64) .unit)) .unit)]
abbrev rs64:List Ty:=[(.slice (.pair (.int .i64) (.pair (.int .i64) .unit)))]

def t64 (x0_:(List Int)) (x0_':Int):Tr (Tys.data rs64) :=
  Tr.test (Option.isSome (f63 (((x0_,(x0_',())),()),())))
    (let r0:=g63 (((x0_,(x0_',())),()),());
    Tr.test (isBrk (l64_0 ((([]:List (Int×Int×PUnit)),(r0.1,((wrap64 ((↑(List.length r0.1):Int) - (1:Int)):Int),((0:Int),())))),((x0_,(x0_',())),()))))
      (let r1:=b64_0 ((([]:List (Int×Int×PUnit)),(r0.1,((wrap64 ((↑(List.length r0.1):Int) - (1:Int)):Int),((0:Int),())))),((x0_,(x0_',())),()));
      Tr.fin ((r1.1.1,())))
      (Tr.stop))
    (Tr.stop)

def f64 (d:Tys.data as64):Option (Tys.data rs64):=(t64 d.1.1.1 d.1.1.2.1).val
def g64 (d:Tys.data as64):Tys.data rs64:=(f64 d).getD (Tys.dflt rs64)
def p64:PureC:=pcOf as64 rs64 f64 g64

theorem wk64 (x0_:(List Int)) (x0_':Int):Walks (runPure (kl64_0 Go.Proofs.Try.prog).orc Go.Proofs.Try.prog 400 64 as64 rs64 (((x0_,x0_',()),()),())) (t64 x0_ x0_') [([true,true],[1,2,4])] :=
  ⟨by kernel_rfl,trivial⟩

theorem ok64_t (x0_:(List Int)) (x0_':Int):TrOk (PureRuns Go.Proofs.Try.prog (kl64_0 Go.Proofs.Try.prog).orc 64 as64 rs64 (((x0_,x0_',()),()),())) (t64 x0_ x0_') :=
  Walks.ok (fun _ _ _=>PureRuns.of) (wk64 x0_ x0_') (by kernel_rfl)

theorem ok64:PureOk Go.Proofs.Try.prog 64 p64:=pureOk_of kl64_0_ok.base (T:=fun (d:Tys.data as64)=>t64 d.1.1.1 d.1.1.2.1) (by kernel_rfl) (fun (d:Tys.data as64)=>ok64_t d.1.1.1 d.1.1.2.1)
def kf64 (P:Go.Program):Known:=(kl64_0 P).func 64 p64
theorem kf64_ok:KnownOk Go.Proofs.Try.prog (kf64 Go.Proofs.Try.prog):=kl64_0_ok.func ok64

/-! ductility/modal.SwingsIn -/

abbrev as21:List Ty:=[(.pair (.slice (.int .i64)) (.pair (.int .i64) .unit))]
abbrev rs21:List Ty:=[(.slice (.pair (.int .i64) (.pair (.int .i64) .unit))),(.int .i64)]

def t21 (x0:(List Int)) (x0':Int):Tr (Tys.data rs21) :=
  Tr.test (Option.isSome (f62 ((x0,(x0',())),())))
    (let r0:=g62 ((x0,(x0',())),());
    Tr.test ((!eqF r0.2.1 0:Bool))
      (Tr.fin ((([]:List (Int×Int×PUnit)),(r0.2.1,()))))
      (Tr.test (Option.isSome (f64 (((r0.1.1.1,(r0.1.1.2.1,())),()),())))
        (let r1:=g64 (((r0.1.1.1,(r0.1.1.2.1,())),()),());
        Tr.fin ((r1.1,((0:Int),()))))
        (Tr.stop)))
    (Tr.stop)

def f21 (d:Tys.data as21):Option (Tys.data rs21):=(t21 d.1.1 d.1.2.1).val
def g21 (d:Tys.data as21):Tys.data rs21:=(f21 d).getD (Tys.dflt rs21)
def p21:PureC:=pcOf as21 rs21 f21 g21

theorem wk21 (x0:(List Int)) (x0':Int):Walks (runPure (kf64 Go.Proofs.Try.prog).orc Go.Proofs.Try.prog 400 21 as21 rs21 ((x0,x0',()),())) (t21 x0 x0') [([true,true],[2,4]),([true,false,true],[2,4,6])] :=
  ⟨by kernel_rfl,by kernel_rfl,trivial⟩

theorem ok21_t (x0:(List Int)) (x0':Int):TrOk (PureRuns Go.Proofs.Try.prog (kf64 Go.Proofs.Try.prog).orc 21 as21 rs21 ((x0,x0',()),())) (t21 x0 x0') :=
  Walks.ok (fun _ _ _=>PureRuns.of) (wk21 x0 x0') (by kernel_rfl)

theorem ok21:PureOk Go.Proofs.Try.prog 21 p21:=pureOk_of kf64_ok.base (T:=fun (d:Tys.data as21)=>t21 d.1.1 d.1.2.1) (by kernel_rfl) (fun (d:Tys.data as21)=>ok21_t d.1.1 d.1.2.1)
def kf21 (P:Go.Program):Known:=(kf64 P).func 21 p21
theorem kf21_ok:KnownOk Go.Proofs.Try.prog (kf21 Go.Proofs.Try.prog):=kf64_ok.func ok21

/-! ductility/ductilitybase.Size -/

abbrev as87:List Ty:=[(.int .i64)]
abbrev rs87:List Ty:=[(.int .i64)]

def t87 (x0:Int):Tr (Tys.data rs87) :=
  Tr.fin (((if x0 < Go.IntKind.wrap Go.IntKind.i64 ((0:Int) - x0) then Go.IntKind.wrap Go.IntKind.i64 ((0:Int) - x0) else x0:Int),()))

def f87 (d:Tys.data as87):Option (Tys.data rs87):=(t87 d.1).val
def g87 (d:Tys.data as87):Tys.data rs87:=(f87 d).getD (Tys.dflt rs87)
def p87:PureC:=pcOf as87 rs87 f87 g87

theorem wk87 (x0:Int):Walks (runPure (kf21 Go.Proofs.Try.prog).orc Go.Proofs.Try.prog 400 87 as87 rs87 (x0,())) (t87 x0) [([],[])] :=
  ⟨by kernel_rfl,trivial⟩

theorem ok87_t (x0:Int):TrOk (PureRuns Go.Proofs.Try.prog (kf21 Go.Proofs.Try.prog).orc 87 as87 rs87 (x0,())) (t87 x0) :=
  Walks.ok (fun _ _ _=>PureRuns.of) (wk87 x0) (by kernel_rfl)

theorem ok87:PureOk Go.Proofs.Try.prog 87 p87:=pureOk_of kf21_ok.base (T:=fun (d:Tys.data as87)=>t87 d.1) (by kernel_rfl) (fun (d:Tys.data as87)=>ok87_t d.1)
def kf87 (P:Go.Program):Known:=(kf21 P).func 87 p87
theorem kf87_ok:KnownOk Go.Proofs.Try.prog (kf87 Go.Proofs.Try.prog):=kf21_ok.func ok87

/-! loop 0 of ductility/ductilitybase.Gcd -/

abbrev sh66_0:Sh:={ n:=13,slots:=[0,1],pats:=[.ty (.int .i64),.ty (.int .i64)],boxes:=[] }
abbrev shb66_0:Sh:={ n:=13,slots:=[0],pats:=[.ty (.int .i64)],boxes:=[] }
abbrev shr66_0:Sh:={ n:=13,slots:=[],pats:=[],boxes:=[] }

def t66_0 (x0:Int) (x1:Int):Tr (Out sh66_0.data shb66_0.data shr66_0.data) :=
  Tr.test ((!eqF x1 0:Bool))
    (Tr.test (x1 == (0:Int))
      (Tr.stop)
      (Tr.fin (.again ((x1,((Int.tmod x0 x1:Int),())),()))))
    (Tr.fin (.brk ((x0,()),())))

def s66_0 (d:sh66_0.data):Option (Out sh66_0.data shb66_0.data shr66_0.data):=(t66_0 d.1.1 d.1.2.1).val
def l66_0 (d:sh66_0.data):Option (shb66_0.data ⊕ shr66_0.data):=itr s66_0 rounds d
def b66_0 (d:sh66_0.data):shb66_0.data:=outB shb66_0.dflt (l66_0 d)
def lc66_0:LoopC:=lcB sh66_0 shb66_0 shr66_0 l66_0 b66_0

theorem wk66_0 (x0:Int) (x1:Int):Walks (runBody (kf87 Go.Proofs.Try.prog).orc Go.Proofs.Try.prog 400 66 0 sh66_0 shb66_0 shr66_0 ((x0,x1,()),())) (t66_0 x0 x1) [([true,false],[2,4]),([ff],[2])] :=
  ⟨by kernel_rfl,by kernel_rfl,trivial⟩

theorem ok66_0_t (x0:Int) (x1:Int):TrOk (BodyRuns Go.Proofs.Try.prog (kf87 Go.Proofs.Try.prog).orc 66 0 sh66_0 shb66_0 shr66_0 ((x0,x1,()),())) (t66_0 x0 x1) :=
  Walks.ok (fun _ _ _=>BodyRuns.of) (wk66_0 x0 x1) (by kernel_rfl)

theorem ok66_0:LoopOk Go.Proofs.Try.prog 66 0 lc66_0:=loopOk_ofB (sh:=sh66_0) (shB:=shb66_0) (shR:=shr66_0) kf87_ok.base (T:=fun (d:sh66_0.data)=>t66_0 d.1.1 d.1.2.1) (by kernel_rfl) rfl (fun (d:sh66_0.data)=>ok66_0_t d.1.1 d.1.2.1) (fun _=>rfl)
def kl66_0 (P:Go.Program):Known:=(kf87 P).loop 66 0 lc66_0
theorem kl66_0_ok:KnownOk Go.Proofs.Try.prog (kl66_0 Go.Proofs.Try.prog):=kf87_ok.loop ok66_0

/-! ductility/ductilitybase.Gcd -/

abbrev as66:List Ty:=[(.int .i64),(.int .i64)]
abbrev rs66:List Ty:=[(.int .i64)]

def t66 (x0:Int) (x1:Int):Tr (Tys.data rs66) :=
  Tr.test (isBrk (l66_0 ((x0,(x1,())),())))
    (let r0:=b66_0 ((x0,(x1,())),());
    Tr.test (Option.isSome (f87 (r0.1.1,())))
      (let r1:=g87 (r0.1.1,());
      Tr.fin ((r1.1,())))
      (Tr.stop))
    (Tr.stop)

def f66 (d:Tys.data as66):Option (Tys.data rs66):=(t66 d.1 d.2.1).val
def g66 (d:Tys.data as66):Tys.data rs66:=(f66 d).getD (Tys.dflt rs66)
def p66:PureC:=pcOf as66 rs66 f66 g66

theorem wk66 (x0:Int) (x1:Int):Walks (runPure (kl66_0 Go.Proofs.Try.prog).orc Go.Proofs.Try.prog 400 66 as66 rs66 (x0,x1,())) (t66 x0 x1) [([true,true],[2,1,4])] :=
  ⟨by kernel_rfl,trivial⟩

theorem ok66_t (x0:Int) (x1:Int):TrOk (PureRuns Go.Proofs.Try.prog (kl66_0 Go.Proofs.Try.prog).orc 66 as66 rs66 (x0,x1,())) (t66 x0 x1) :=
  Walks.ok (fun _ _ _=>PureRuns.of) (wk66 x0 x1) (by kernel_rfl)

theorem ok66:PureOk Go.Proofs.Try.prog 66 p66:=pureOk_of kl66_0_ok.base (T:=fun (d:Tys.data as66)=>t66 d.1 d.2.1) (by kernel_rfl) (fun (d:Tys.data as66)=>ok66_t d.1 d.2.1)
def kf66 (P:Go.Program):Known:=(kl66_0 P).func 66 p66
theorem kf66_ok:KnownOk Go.Proofs.Try.prog (kf66 Go.Proofs.Try.prog):=kl66_0_ok.func ok66

/-! ductility/ductilitybase.IsLowest -/

abbrev as31:List Ty:=[(.pair (.int .i64) (.pair (.int .i64) .unit))]
abbrev rs31:List Ty:=[.bool]

def t31 (x0:Int) (x0':Int):Tr (Tys.data rs31) :=
  Tr.test ((!leF x0' 0:Bool))
    (Tr.test (Option.isSome (f66 (x0,(x0',()))))
      (let r0:=g66 (x0,(x0',()));
      Tr.fin (((eqF r0.1 1:Bool),())))
      (Tr.stop))
    (Tr.fin ((false,())))

def f31 (d:Tys.data as31):Option (Tys.data rs31):=(t31 d.1.1 d.1.2.1).val
def g31 (d:Tys.data as31):Tys.data rs31:=(f31 d).getD (Tys.dflt rs31)
def p31:PureC:=pcOf as31 rs31 f31 g31

theorem wk31 (x0:Int) (x0':Int):Walks (runPure (kf66 Go.Proofs.Try.prog).orc Go.Proofs.Try.prog 400 31 as31 rs31 ((x0,x0',()),())) (t31 x0 x0') [([true,true],[4,4,2,4,4,4,4,4]),([ff],[2,2,2,2,2,2,2])] :=
  ⟨by kernel_rfl,by kernel_rfl,trivial⟩

theorem ok31_t (x0:Int) (x0':Int):TrOk (PureRuns Go.Proofs.Try.prog (kf66 Go.Proofs.Try.prog).orc 31 as31 rs31 ((x0,x0',()),())) (t31 x0 x0') :=
  Walks.ok (fun _ _ _=>PureRuns.of) (wk31 x0 x0') (by kernel_rfl)

theorem ok31:PureOk Go.Proofs.Try.prog 31 p31:=pureOk_of kf66_ok.base (T:=fun (d:Tys.data as31)=>t31 d.1.1 d.1.2.1) (by kernel_rfl) (fun (d:Tys.data as31)=>ok31_t d.1.1 d.1.2.1)
def kf31 (P:Go.Program):Known:=(kf66 P).func 31 p31
theorem kf31_ok:KnownOk Go.Proofs.Try.prog (kf31 Go.Proofs.Try.prog):=kf66_ok.func ok31

/-! ductility/ductilitybase.IsSmall -/

abbrev as32:List Ty:=[(.pair (.int .i64) (.pair (.int .i64) .unit))]
abbrev rs32:List Ty:=[.bool]

def t32 (x0:Int) (x0':Int):Tr (Tys.data rs32) :=
  Tr.test (Option.isSome (f30 (x0,((-1000000000:Int),((1000000000:Int),())))))
    (let r0:=g30 (x0,((-1000000000:Int),((1000000000:Int),())));
    Tr.test (r0.1)
      (Tr.test (Option.isSome (f30 (x0',((1:Int),((1000000000:Int),())))))
        (let r1:=g30 (x0',((1:Int),((1000000000:Int),())));
        Tr.fin ((r1.1,())))
        (Tr.stop))
      (Tr.fin (((false:Bool),()))))
    (Tr.stop)

def f32 (d:Tys.data as32):Option (Tys.data rs32):=(t32 d.1.1 d.1.2.1).val
def g32 (d:Tys.data as32):Tys.data rs32:=(f32 d).getD (Tys.dflt rs32)
def p32:PureC:=pcOf as32 rs32 f32 g32

theorem wk32 (x0:Int) (x0':Int):Walks (runPure (kf31 Go.Proofs.Try.prog).orc Go.Proofs.Try.prog 400 32 as32 rs32 ((x0,x0',()),())) (t32 x0 x0') [([true,true,true],[4,2,4,4,4,6]),([true,false],[2,2,2,2,4])] :=
  ⟨by kernel_rfl,by kernel_rfl,trivial⟩

theorem ok32_t (x0:Int) (x0':Int):TrOk (PureRuns Go.Proofs.Try.prog (kf31 Go.Proofs.Try.prog).orc 32 as32 rs32 ((x0,x0',()),())) (t32 x0 x0') :=
  Walks.ok (fun _ _ _=>PureRuns.of) (wk32 x0 x0') (by kernel_rfl)

theorem ok32:PureOk Go.Proofs.Try.prog 32 p32:=pureOk_of kf31_ok.base (T:=fun (d:Tys.data as32)=>t32 d.1.1 d.1.2.1) (by kernel_rfl) (fun (d:Tys.data as32)=>ok32_t d.1.1 d.1.2.1)
def kf32 (P:Go.Program):Known:=(kf31 P).func 32 p32
theorem kf32_ok:KnownOk Go.Proofs.Try.prog (kf32 Go.Proofs.Try.prog):=kf31_ok.func ok32

/-! ductility/ductilitybase.Floor -/

abbrev as67:List Ty:=[(.int .i64),(.int .i64)]
abbrev rs67:List Ty:=[(.int .i64)]

def t67 (x0:Int) (x1:Int):Tr (Tys.data rs67) :=
  Tr.test ((x1 == (0:Int):Bool))
    (Tr.stop)
    (Tr.test (!leF (0:Int) (Int.tmod x0 x1))
      (Tr.fin (((wrap64 (Go.IntKind.wrap Go.IntKind.i64 (Int.tdiv x0 x1) - (1:Int)):Int),())))
      (Tr.fin (((Go.IntKind.wrap Go.IntKind.i64 (Int.tdiv x0 x1):Int),()))))

def f67 (d:Tys.data as67):Option (Tys.data rs67):=(t67 d.1 d.2.1).val
def g67 (d:Tys.data as67):Tys.data rs67:=(f67 d).getD (Tys.dflt rs67)
def p67:PureC:=pcOf as67 rs67 f67 g67

theorem wk67 (x0:Int) (x1:Int):Walks (runPure (kf32 Go.Proofs.Try.prog).orc Go.Proofs.Try.prog 400 67 as67 rs67 (x0,x1,())) (t67 x0 x1) [([false,true],[2,4,4]),([false,false],[2,4,4])] :=
  ⟨by kernel_rfl,by kernel_rfl,trivial⟩

theorem ok67_t (x0:Int) (x1:Int):TrOk (PureRuns Go.Proofs.Try.prog (kf32 Go.Proofs.Try.prog).orc 67 as67 rs67 (x0,x1,())) (t67 x0 x1) :=
  Walks.ok (fun _ _ _=>PureRuns.of) (wk67 x0 x1) (by kernel_rfl)

theorem ok67:PureOk Go.Proofs.Try.prog 67 p67:=pureOk_of kf32_ok.base (T:=fun (d:Tys.data as67)=>t67 d.1 d.2.1) (by kernel_rfl) (fun (d:Tys.data as67)=>ok67_t d.1 d.2.1)
def kf67 (P:Go.Program):Known:=(kf32 P).func 67 p67
theorem kf67_ok:KnownOk Go.Proofs.Try.prog (kf67 Go.Proofs.Try.prog):=kf32_ok.func ok67

/-! loop 0 of ductility/ductilitybase.Compare -/

abbrev sh33_0:Sh:={ n:=47,slots:=[0,1,2,3],pats:=[.ty (.int .i64),.ty (.int .i64),.ty (.int .i64),.ty (.int .i64)],boxes:=[] }
abbrev shb33_0:Sh:={ n:=47,slots:=[],pats:=[],boxes:=[] }
abbrev shr33_0:Sh:={ n:=47,slots:=[8],pats:=[.ty (.int .i64)],boxes:=[] }

def t33_0 (x0:Int) (x1:Int) (x2:Int) (x3:Int):Tr (Out sh33_0.data shb33_0.data shr33_0.data) :=
  Tr.test (Option.isSome (f67 (x0,(x1,()))))
    (Tr.test (Option.isSome (f67 (x2,(x3,()))))
      (let r0:=g67 (x0,(x1,()));
      let r1:=g67 (x2,(x3,()));
      Tr.test ((!leF r1.1 r0.1:Bool))
        (Tr.fin (.ret (((-1:Int),()),())))
        (Tr.test ((!leF r0.1 r1.1:Bool))
          (Tr.fin (.ret (((1:Int),()),())))
          (Tr.test ((eqF (wrap64 (x0 - wrap64 (r0.1 * x1))) (0:Int):Bool))
            (Tr.test ((eqF (wrap64 (x2 - wrap64 (r1.1 * x3))) (0:Int):Bool))
              (Tr.fin (.ret (((0:Int),()),())))
              (Tr.fin (.ret (((-1:Int),()),()))))
            (Tr.test ((eqF (wrap64 (x2 - wrap64 (r1.1 * x3))) (0:Int):Bool))
              (Tr.fin (.ret (((1:Int),()),())))
              (Tr.fin (.again ((x3,((wrap64 (x2 - wrap64 (r1.1 * x3)):Int),(x1,((wrap64 (x0 - wrap64 (r0.1 * x1)):Int),())))),())))))))
      (Tr.stop))
    (Tr.stop)

def s33_0 (d:sh33_0.data):Option (Out sh33_0.data shb33_0.data shr33_0.data):=(t33_0 d.1.1 d.1.2.1 d.1.2.2.1 d.1.2.2.2.1).val
def l33_0 (d:sh33_0.data):Option (shb33_0.data ⊕ shr33_0.data):=itr s33_0 rounds d
def r33_0 (d:sh33_0.data):shr33_0.data:=outR shr33_0.dflt (l33_0 d)
def lc33_0:LoopC:=lcR sh33_0 shb33_0 shr33_0 l33_0 r33_0

theorem wk33_0 (x0:Int) (x1:Int) (x2:Int) (x3:Int):Walks (runBody (kf67 Go.Proofs.Try.prog).orc Go.Proofs.Try.prog 400 33 0 sh33_0 shb33_0 shr33_0 ((x0,x1,x2,x3,()),())) (t33_0 x0 x1 x2 x3) [([true,true,true],[2,4,6]),([true,true,false,true],[2,4,6,8]),([true,true,false,false,true,true],[2,4,4,4,6,8,10,12]),([true,true,false,false,true,false],[4,2,4,4,4,6,8,10,12]),([true,true,false,false,false,true],[2,4,0,4,4,4,6,8,10,12]),([true,true,false,false,false,false],[2,4,0,4,4,4,6,8,10,12])] :=
  ⟨by kernel_rfl,by kernel_rfl,by kernel_rfl,by kernel_rfl,by kernel_rfl,by kernel_rfl,trivial⟩

theorem ok33_0_t (x0:Int) (x1:Int) (x2:Int) (x3:Int):TrOk (BodyRuns Go.Proofs.Try.prog (kf67 Go.Proofs.Try.prog).orc 33 0 sh33_0 shb33_0 shr33_0 ((x0,x1,x2,x3,()),())) (t33_0 x0 x1 x2 x3) :=
  Walks.ok (fun _ _ _=>BodyRuns.of) (wk33_0 x0 x1 x2 x3) (by kernel_rfl)

theorem ok33_0:LoopOk Go.Proofs.Try.prog 33 0 lc33_0:=loopOk_ofR (sh:=sh33_0) (shB:=shb33_0) (shR:=shr33_0) kf67_ok.base (T:=fun (d:sh33_0.data)=>t33_0 d.1.1 d.1.2.1 d.1.2.2.1 d.1.2.2.2.1) (by kernel_rfl) rfl (fun (d:sh33_0.data)=>ok33_0_t d.1.1 d.1.2.1 d.1.2.2.1 d.1.2.2.2.1) (fun _=>rfl)
def kl33_0 (P:Go.Program):Known:=(kf67 P).loop 33 0 lc33_0
theorem kl33_0_ok:KnownOk Go.Proofs.Try.prog (kl33_0 Go.Proofs.Try.prog):=kf67_ok.loop ok33_0

/-! ductility/ductilitybase.Compare -/

abbrev as33:List Ty:=[(.int .i64),(.int .i64),(.int .i64),(.int .i64)]
abbrev rs33:List Ty:=[(.int .i64)]

def t33 (x0:Int) (x1:Int) (x2:Int) (x3:Int):Tr (Tys.data rs33) :=
  Tr.test (endsRet (l33_0 ((x0,(x1,(x2,(x3,())))),())))
    (let r0:=r33_0 ((x0,(x1,(x2,(x3,())))),());
    Tr.fin ((r0.1.1,())))
    (Tr.stop)

def f33 (d:Tys.data as33):Option (Tys.data rs33):=(t33 d.1 d.2.1 d.2.2.1 d.2.2.2.1).val
def g33 (d:Tys.data as33):Tys.data rs33:=(f33 d).getD (Tys.dflt rs33)
def p33:PureC:=pcOf as33 rs33 f33 g33

theorem wk33 (x0:Int) (x1:Int) (x2:Int) (x3:Int):Walks (runPure (kl33_0 Go.Proofs.Try.prog).orc Go.Proofs.Try.prog 400 33 as33 rs33 (x0,x1,x2,x3,())) (t33 x0 x1 x2 x3) [([tt],[1,2])] :=
  ⟨by kernel_rfl,trivial⟩

theorem ok33_t (x0:Int) (x1:Int) (x2:Int) (x3:Int):TrOk (PureRuns Go.Proofs.Try.prog (kl33_0 Go.Proofs.Try.prog).orc 33 as33 rs33 (x0,x1,x2,x3,())) (t33 x0 x1 x2 x3) :=
  Walks.ok (fun _ _ _=>PureRuns.of) (wk33 x0 x1 x2 x3) (by kernel_rfl)

theorem ok33:PureOk Go.Proofs.Try.prog 33 p33:=pureOk_of kl33_0_ok.base (T:=fun (d:Tys.data as33)=>t33 d.1 d.2.1 d.2.2.1 d.2.2.2.1) (by kernel_rfl) (fun (d:Tys.data as33)=>ok33_t d.1 d.2.1 d.2.2.1 d.2.2.2.1)
def kf33 (P:Go.Program):Known:=(kl33_0 P).func 33 p33
theorem kf33_ok:KnownOk Go.Proofs.Try.prog (kf33 Go.Proofs.Try.prog):=kl33_0_ok.func ok33

/-! loop 0 of ductility/ductilitylaw06.ModalTrue -/

abbrev sh5_0:Sh:={ n:=334,slots:=[1,2,5,6],pats:=[.ty (.slice (.int .i64)),.ptr 0 2 0,.ptr 1 2 0,.ty (.int .i64)],boxes:=[.row [.ty (.slice (.int .i64)),.ty (.int .i64)],.row [.acc (.int .i64),.ty (.int .i64)]] }
abbrev shb5_0:Sh:={ n:=334,slots:=[2,5],pats:=[.ptr 0 2 0,.ptr 1 2 0],boxes:=[.row [.ty (.slice (.int .i64)),.ty (.int .i64)],.row [.acc (.int .i64),.ty (.int .i64)]] }
abbrev shr5_0:Sh:={ n:=334,slots:=[4],pats:=[.ty .bool],boxes:=[.row [.ty (.slice (.int .i64)),.ty (.int .i64)],.row [.acc (.int .i64),.ty (.int .i64)]] }

def t5_0 (x0:(List Int)) (x3:Int) (b0_0:(List Int)) (b0_1:Int) (b1_0:(List Int)) (b1_1:Int):Tr (Out sh5_0.data shb5_0.data shr5_0.data) :=
  Tr.test ((!leF (↑(List.length b0_0):Int) x3:Bool))
    (Tr.test (decide ((0:Int) ≤ x3) && decide (x3 < (↑(List.length b0_0):Int)))
      (Tr.test ((↑(List.length x0):Int) == (0:Int))
        (Tr.stop)
        (Tr.test ((decide ((0:Int) ≤ Int.tmod x3 (↑(List.length x0):Int)) && decide (Int.tmod x3 (↑(List.length x0):Int) < (↑(List.length x0):Int)):Bool))
          (Tr.test (Option.isSome (f29 ((List.getD x0 (Int.toNat (Int.tmod x3 (↑(List.length x0):Int))) (0:Int):Int),((wrap64 (wrap64 ((2:Int) * b0_1) + (1:Int)):Int),()))))
            (let r0:=g29 ((List.getD x0 (Int.toNat (Int.tmod x3 (↑(List.length x0):Int))) (0:Int):Int),((wrap64 (wrap64 ((2:Int) * b0_1) + (1:Int)):Int),()));
            Tr.test (Option.isSome (f30 ((wrap64 (wrap64 (List.getD b0_0 (Int.toNat x3) (0:Int) + r0.1) - b0_1):Int),((-10000:Int),((10000:Int),())))))
              (let r1:=g30 ((wrap64 (wrap64 (List.getD b0_0 (Int.toNat x3) (0:Int) + r0.1) - b0_1):Int),((-10000:Int),((10000:Int),())));
              Tr.test ((!r1.1:Bool))
                (Tr.fin (.ret (((true:Bool),()),((b0_0,(b0_1,())),((b1_0,(b1_1,())),())))))
                (Tr.test ((Nat.ble (((2:Nat) * (List.length b1_0 + (1:Nat)) + (192:Nat)) * (8:Nat)) (281474976710656:Nat) && Nat.ble (List.length b1_0 + (1:Nat)) (281474976710656:Nat):Bool))
                  (Tr.fin (.again ((x0,((wrap64 (x3 + (1:Int)):Int),())),((b0_0,(b0_1,())),(((b1_0++[wrap64 (wrap64 (List.getD b0_0 (Int.toNat x3) (0:Int) + r0.1) - b0_1)]:List Int),(b1_1,())),())))))
                  (Tr.stop)))
              (Tr.stop))
            (Tr.stop))
          (Tr.stop)))
      (Tr.stop))
    (Tr.fin (.brk ((),((b0_0,(b0_1,())),((b1_0,(b1_1,())),())))))

def s5_0 (d:sh5_0.data):Option (Out sh5_0.data shb5_0.data shr5_0.data):=(t5_0 d.1.1 d.1.2.1 d.2.1.1 d.2.1.2.1 d.2.2.1.1 d.2.2.1.2.1).val
def l5_0 (d:sh5_0.data):Option (shb5_0.data ⊕ shr5_0.data):=itr s5_0 rounds d
def b5_0 (d:sh5_0.data):shb5_0.data:=outB shb5_0.dflt (l5_0 d)
def r5_0 (d:sh5_0.data):shr5_0.data:=outR shr5_0.dflt (l5_0 d)
def lc5_0:LoopC:=lcOf sh5_0 shb5_0 shr5_0 l5_0 b5_0 r5_0

theorem wk5_0 (x0:(List Int)) (x3:Int) (b0_0:(List Int)) (b0_1:Int) (b1_0:(List Int)) (b1_1:Int):Walks (runBody (kf33 Go.Proofs.Try.prog).orc Go.Proofs.Try.prog 400 5 0 sh5_0 shb5_0 shr5_0 ((x0,x3,()),(b0_0,b0_1,()),(b1_0,b1_1,()),())) (t5_0 x0 x3 b0_0 b0_1 b1_0 b1_1) [([true,true,false,true,true,true,true],[2,4,6,8,10,12,14]),([true,true,false,true,true,true,false,true],[1,2,0,4,6,8,10,12,14,16]),([ff],[2])] :=
  ⟨by kernel_rfl,by kernel_rfl,by kernel_rfl,trivial⟩

theorem ok5_0_t (x0:(List Int)) (x3:Int) (b0_0:(List Int)) (b0_1:Int) (b1_0:(List Int)) (b1_1:Int):TrOk (BodyRuns Go.Proofs.Try.prog (kf33 Go.Proofs.Try.prog).orc 5 0 sh5_0 shb5_0 shr5_0 ((x0,x3,()),(b0_0,b0_1,()),(b1_0,b1_1,()),())) (t5_0 x0 x3 b0_0 b0_1 b1_0 b1_1) :=
  Walks.ok (fun _ _ _=>BodyRuns.of) (wk5_0 x0 x3 b0_0 b0_1 b1_0 b1_1) (by kernel_rfl)

theorem ok5_0:LoopOk Go.Proofs.Try.prog 5 0 lc5_0:=loopOk_of (sh:=sh5_0) (shB:=shb5_0) (shR:=shr5_0) kf33_ok.base (T:=fun (d:sh5_0.data)=>t5_0 d.1.1 d.1.2.1 d.2.1.1 d.2.1.2.1 d.2.2.1.1 d.2.2.1.2.1) (by kernel_rfl) rfl (fun (d:sh5_0.data)=>ok5_0_t d.1.1 d.1.2.1 d.2.1.1 d.2.1.2.1 d.2.2.1.1 d.2.2.1.2.1) (fun _=>rfl)
def kl5_0 (P:Go.Program):Known:=(kf33 P).loop 5 0 lc5_0
theorem kl5_0_ok:KnownOk Go.Proofs.Try.prog (kl5_0 Go.Proofs.Try.prog):=kf33_ok.loop ok5_0

/-! loop 4 of ductility/ductilitylaw06.ModalTrue -/

abbrev sh5_4:Sh:={ n:=334,slots:=[2,5,8,10,12,14,15,16,17],pats:=[.ptr 0 2 0,.ptr 1 2 0,.ty (.slice (.pair (.int .i64) (.pair (.int .i64) .unit))),.ty (.slice (.pair (.int .i64) (.pair (.int .i64) .unit))),.ty (.slice (.pair (.int .i64) (.pair (.int .i64) .unit))),.acc (.pair (.int .i64) (.pair (.int .i64) .unit)),.ty (.int .i64),.ty .bool,.ty (.int .i64)],boxes:=[.row [.ty (.slice (.int .i64)),.ty (.int .i64)],.row [.acc (.int .i64),.ty (.int .i64)]] }
abbrev shb5_4:Sh:={ n:=334,slots:=[2,5,8,10,12,14,15,16],pats:=[.ptr 0 2 0,.ptr 1 2 0,.ty (.slice (.pair (.int .i64) (.pair (.int .i64) .unit))),.ty (.slice (.pair (.int .i64) (.pair (.int .i64) .unit))),.ty (.slice (.pair (.int .i64) (.pair (.int .i64) .unit))),.acc (.pair (.int .i64) (.pair (.int .i64) .unit)),.ty (.int .i64),.ty .bool],boxes:=[.row [.ty (.slice (.int .i64)),.ty (.int .i64)],.row [.acc (.int .i64),.ty (.int .i64)]] }
abbrev shr5_4:Sh:={ n:=334,slots:=[],pats:=[],boxes:=[.row [.ty (.slice (.int .i64)),.ty (.int .i64)],.row [.acc (.int .i64),.ty (.int .i64)]] }

def t5_4 (x2:(List (Int×(Int×Unit)))) (x3:(List (Int×(Int×Unit)))) (x4:(List (Int×(Int×Unit)))) (x5:(List (Int×(Int×Unit)))) (x6:Int) (x7:Bool) (x8:Int) (b0_0:(List Int)) (b0_1:Int) (b1_0:(List Int)) (b1_1:Int):Tr (Out sh5_4.data shb5_4.data shr5_4.data) :=
  Tr.test ((!leF (↑(List.length x3):Int) x8:Bool))
    (Tr.test (!x7)
      (Tr.test ((decide ((0:Int) ≤ x6) && decide (x6 < (↑(List.length x2):Int)):Bool))
        (Tr.test ((decide ((0:Int) ≤ x8) && decide (x8 < (↑(List.length x3):Int)):Bool))
          (Tr.test ((leF (List.getD x2 (Int.toNat x6) ((0:Int),(0:Int),())).1 (List.getD x3 (Int.toNat x8) ((0:Int),(0:Int),())).1:Bool))
            (Tr.test ((leF (List.getD x3 (Int.toNat x8) ((0:Int),(0:Int),())).2.1 (List.getD x2 (Int.toNat x6) ((0:Int),(0:Int),())).2.1:Bool))
              (Tr.test ((Nat.ble (((2:Nat) * (List.length x5 + (1:Nat)) + (192:Nat)) * (16:Nat)) (281474976710656:Nat) && Nat.ble (List.length x5 + (1:Nat)) (281474976710656:Nat):Bool))
                (Tr.fin (.again ((x2,(x3,(x4,((x5++[((List.getD x3 (Int.toNat x8) ((0:Int),(0:Int),())).1,(List.getD x3 (Int.toNat x8) ((0:Int),(0:Int),())).2.1,())]:List (Int×Int×PUnit)),(x6,((true:Bool),((wrap64 (x8 + (1:Int)):Int),()))))))),((b0_0,(b0_1,())),((b1_0,(b1_1,())),())))))
                (Tr.stop))
              (Tr.fin (.again ((x2,(x3,(x4,(x5,(x6,(x7,((wrap64 (x8 + (1:Int)):Int),()))))))),((b0_0,(b0_1,())),((b1_0,(b1_1,())),()))))))
            (Tr.fin (.again ((x2,(x3,(x4,(x5,(x6,(x7,((wrap64 (x8 + (1:Int)):Int),()))))))),((b0_0,(b0_1,())),((b1_0,(b1_1,())),()))))))
          (Tr.stop))
        (Tr.stop))
      (Tr.fin (.brk ((x2,(x3,(x4,(x5,(x6,(x7,())))))),((b0_0,(b0_1,())),((b1_0,(b1_1,())),()))))))
    (Tr.fin (.brk ((x2,(x3,(x4,(x5,(x6,(x7,())))))),((b0_0,(b0_1,())),((b1_0,(b1_1,())),())))))

def s5_4 (d:sh5_4.data):Option (Out sh5_4.data shb5_4.data shr5_4.data):=(t5_4 d.1.1 d.1.2.1 d.1.2.2.1 d.1.2.2.2.1 d.1.2.2.2.2.1 d.1.2.2.2.2.2.1 d.1.2.2.2.2.2.2.1 d.2.1.1 d.2.1.2.1 d.2.2.1.1 d.2.2.1.2.1).val
def l5_4 (d:sh5_4.data):Option (shb5_4.data ⊕ shr5_4.data):=itr s5_4 rounds d
def b5_4 (d:sh5_4.data):shb5_4.data:=outB shb5_4.dflt (l5_4 d)
def lc5_4:LoopC:=lcB sh5_4 shb5_4 shr5_4 l5_4 b5_4

theorem wk5_4 (x2:(List (Int×(Int×Unit)))) (x3:(List (Int×(Int×Unit)))) (x4:(List (Int×(Int×Unit)))) (x5:(List (Int×(Int×Unit)))) (x6:Int) (x7:Bool) (x8:Int) (b0_0:(List Int)) (b0_1:Int) (b1_0:(List Int)) (b1_1:Int):Walks (runBody (kl5_0 Go.Proofs.Try.prog).orc Go.Proofs.Try.prog 400 5 4 sh5_4 shb5_4 shr5_4 ((x2,x3,x4,x5,x6,x7,x8,()),(b0_0,b0_1,()),(b1_0,b1_1,()),())) (t5_4 x2 x3 x4 x5 x6 x7 x8 b0_0 b0_1 b1_0 b1_1) [([true,true,true,true,true,true,true],[1,2,0,8,4,6,6,6,6,10,6,6,6,6,6,8,6,6,6,8,10,12,14,14,14]),([true,true,true,true,true,false],[2,4,4,4,4,8,4,4,4,4,4,6,4,4,4,6,8,10,12,12,12]),([true,true,true,true,false],[0,2,2,2,2,2,2,2,2,2,2,2,2,4,6,8,10,10,10]),([true,false],[2,4,4,4]),([ff],[0,2,2,2])] :=
  ⟨by kernel_rfl,by kernel_rfl,by kernel_rfl,by kernel_rfl,by kernel_rfl,trivial⟩

theorem ok5_4_t (x2:(List (Int×(Int×Unit)))) (x3:(List (Int×(Int×Unit)))) (x4:(List (Int×(Int×Unit)))) (x5:(List (Int×(Int×Unit)))) (x6:Int) (x7:Bool) (x8:Int) (b0_0:(List Int)) (b0_1:Int) (b1_0:(List Int)) (b1_1:Int):TrOk (BodyRuns Go.Proofs.Try.prog (kl5_0 Go.Proofs.Try.prog).orc 5 4 sh5_4 shb5_4 shr5_4 ((x2,x3,x4,x5,x6,x7,x8,()),(b0_0,b0_1,()),(b1_0,b1_1,()),())) (t5_4 x2 x3 x4 x5 x6 x7 x8 b0_0 b0_1 b1_0 b1_1) :=
  Walks.ok (fun _ _ _=>BodyRuns.of) (wk5_4 x2 x3 x4 x5 x6 x7 x8 b0_0 b0_1 b1_0 b1_1) (by kernel_rfl)

theorem ok5_4:LoopOk Go.Proofs.Try.prog 5 4 lc5_4:=loopOk_ofB (sh:=sh5_4) (shB:=shb5_4) (shR:=shr5_4) kl5_0_ok.base (T:=fun (d:sh5_4.data)=>t5_4 d.1.1 d.1.2.1 d.1.2.2.1 d.1.2.2.2.1 d.1.2.2.2.2.1 d.1.2.2.2.2.2.1 d.1.2.2.2.2.2.2.1 d.2.1.1 d.2.1.2.1 d.2.2.1.1 d.2.2.1.2.1) (by kernel_rfl) rfl (fun (d:sh5_4.data)=>ok5_4_t d.1.1 d.1.2.1 d.1.2.2.1 d.1.2.2.2.1 d.1.2.2.2.2.1 d.1.2.2.2.2.2.1 d.1.2.2.2.2.2.2.1 d.2.1.1 d.2.1.2.1 d.2.2.1.1 d.2.2.1.2.1) (fun _=>rfl)
def kl5_4 (P:Go.Program):Known:=(kl5_0 P).loop 5 4 lc5_4
theorem kl5_4_ok:KnownOk Go.Proofs.Try.prog (kl5_4 Go.Proofs.Try.prog):=kl5_0_ok.loop ok5_4

/-! loop 2 of ductility/ductilitylaw06.ModalTrue -/

abbrev sh5_2:Sh:={ n:=334,slots:=[2,5,8,10,12,14,15],pats:=[.ptr 0 2 0,.ptr 1 2 0,.ty (.slice (.pair (.int .i64) (.pair (.int .i64) .unit))),.ty (.slice (.pair (.int .i64) (.pair (.int .i64) .unit))),.ty (.slice (.pair (.int .i64) (.pair (.int .i64) .unit))),.acc (.pair (.int .i64) (.pair (.int .i64) .unit)),.ty (.int .i64)],boxes:=[.row [.ty (.slice (.int .i64)),.ty (.int .i64)],.row [.acc (.int .i64),.ty (.int .i64)]] }
abbrev shb5_2:Sh:={ n:=334,slots:=[2,5,8,12,14],pats:=[.ptr 0 2 0,.ptr 1 2 0,.ty (.slice (.pair (.int .i64) (.pair (.int .i64) .unit))),.ty (.slice (.pair (.int .i64) (.pair (.int .i64) .unit))),.acc (.pair (.int .i64) (.pair (.int .i64) .unit))],boxes:=[.row [.ty (.slice (.int .i64)),.ty (.int .i64)],.row [.acc (.int .i64),.ty (.int .i64)]] }
abbrev shr5_2:Sh:={ n:=334,slots:=[4],pats:=[.ty .bool],boxes:=[.row [.ty (.slice (.int .i64)),.ty (.int .i64)],.row [.acc (.int .i64),.ty (.int .i64)]] }

def t5_2 (x2:(List (Int×(Int×Unit)))) (x3:(List (Int×(Int×Unit)))) (x4:(List (Int×(Int×Unit)))) (x5:(List (Int×(Int×Unit)))) (x6:Int) (b0_0:(List Int)) (b0_1:Int) (b1_0:(List Int)) (b1_1:Int):Tr (Out sh5_2.data shb5_2.data shr5_2.data) :=
  Tr.test ((!leF (↑(List.length x2):Int) x6:Bool))
    (Tr.test (decide ((0:Int) ≤ x6) && decide (x6 < (↑(List.length x2):Int)))
      (Tr.test (Option.isSome (f30 (((List.getD x2 (Int.toNat x6) ((0:Int),(0:Int),())).1:Int),((0:Int),((wrap64 ((List.getD x2 (Int.toNat x6) ((0:Int),(0:Int),())).2.1 - (1:Int)):Int),())))))
        (let r0:=g30 (((List.getD x2 (Int.toNat x6) ((0:Int),(0:Int),())).1:Int),((0:Int),((wrap64 ((List.getD x2 (Int.toNat x6) ((0:Int),(0:Int),())).2.1 - (1:Int)):Int),())));
        Tr.test ((!r0.1:Bool))
          (Tr.fin (.ret (((false:Bool),()),((b0_0,(b0_1,())),((b1_0,(b1_1,())),())))))
          (Tr.test ((leF (↑(List.length b0_0):Int) (List.getD x2 (Int.toNat x6) ((0:Int),(0:Int),())).2.1:Bool))
            (Tr.fin (.ret (((false:Bool),()),((b0_0,(b0_1,())),((b1_0,(b1_1,())),())))))
            (Tr.test ((!leF x6 0:Bool))
              (Tr.test ((decide ((0:Int) ≤ wrap64 (x6 - (1:Int))) && decide (wrap64 (x6 - (1:Int)) < (↑(List.length x2):Int)):Bool))
                (Tr.test ((!leF (List.getD x2 (Int.toNat (wrap64 (x6 - (1:Int)))) ((0:Int),(0:Int),())).2.1 (List.getD x2 (Int.toNat x6) ((0:Int),(0:Int),())).1:Bool))
                  (Tr.fin (.ret (((false:Bool),()),((b0_0,(b0_1,())),((b1_0,(b1_1,())),())))))
                  (Tr.test (isBrk (l5_4 ((x2,(x3,(x4,(x5,(x6,((false:Bool),((0:Int),()))))))),((b0_0,(b0_1,())),((b1_0,(b1_1,())),())))))
                    (let r1:=b5_4 ((x2,(x3,(x4,(x5,(x6,((false:Bool),((0:Int),()))))))),((b0_0,(b0_1,())),((b1_0,(b1_1,())),())));
                    Tr.test ((!r1.1.2.2.2.2.2.1:Bool))
                      (Tr.fin (.ret (((false:Bool),()),((r1.2.1.1,(r1.2.1.2.1,())),((r1.2.2.1.1,(r1.2.2.1.2.1,())),())))))
                      (Tr.fin (.again ((r1.1.1,(r1.1.2.1,(r1.1.2.2.1,(r1.1.2.2.2.1,((wrap64 (r1.1.2.2.2.2.1 + (1:Int)):Int),()))))),((r1.2.1.1,(r1.2.1.2.1,())),((r1.2.2.1.1,(r1.2.2.1.2.1,())),()))))))
                    (Tr.stop)))
                (Tr.stop))
              (Tr.test (isBrk (l5_4 ((x2,(x3,(x4,(x5,(x6,((false:Bool),((0:Int),()))))))),((b0_0,(b0_1,())),((b1_0,(b1_1,())),())))))
                (let r1:=b5_4 ((x2,(x3,(x4,(x5,(x6,((false:Bool),((0:Int),()))))))),((b0_0,(b0_1,())),((b1_0,(b1_1,())),())));
                Tr.test ((!r1.1.2.2.2.2.2.1:Bool))
                  (Tr.fin (.ret (((false:Bool),()),((r1.2.1.1,(r1.2.1.2.1,())),((r1.2.2.1.1,(r1.2.2.1.2.1,())),())))))
                  (Tr.fin (.again ((r1.1.1,(r1.1.2.1,(r1.1.2.2.1,(r1.1.2.2.2.1,((wrap64 (r1.1.2.2.2.2.1 + (1:Int)):Int),()))))),((r1.2.1.1,(r1.2.1.2.1,())),((r1.2.2.1.1,(r1.2.2.1.2.1,())),()))))))
                (Tr.stop)))))
        (Tr.stop))
      (Tr.stop))
    (Tr.fin (.brk ((x2,(x4,(x5,()))),((b0_0,(b0_1,())),((b1_0,(b1_1,())),())))))

def s5_2 (d:sh5_2.data):Option (Out sh5_2.data shb5_2.data shr5_2.data):=(t5_2 d.1.1 d.1.2.1 d.1.2.2.1 d.1.2.2.2.1 d.1.2.2.2.2.1 d.2.1.1 d.2.1.2.1 d.2.2.1.1 d.2.2.1.2.1).val
def l5_2 (d:sh5_2.data):Option (shb5_2.data ⊕ shr5_2.data):=itr s5_2 rounds d
def b5_2 (d:sh5_2.data):shb5_2.data:=outB shb5_2.dflt (l5_2 d)
def r5_2 (d:sh5_2.data):shr5_2.data:=outR shr5_2.dflt (l5_2 d)
def lc5_2:LoopC:=lcOf sh5_2 shb5_2 shr5_2 l5_2 b5_2 r5_2

theorem wk5_2 (x2:(List (Int×(Int×Unit)))) (x3:(List (Int×(Int×Unit)))) (x4:(List (Int×(Int×Unit)))) (x5:(List (Int×(Int×Unit)))) (x6:Int) (b0_0:(List Int)) (b0_1:Int) (b1_0:(List Int)) (b1_1:Int):Walks (runBody (kl5_4 Go.Proofs.Try.prog).orc Go.Proofs.Try.prog 400 5 2 sh5_2 shb5_2 shr5_2 ((x2,x3,x4,x5,x6,()),(b0_0,b0_1,()),(b1_0,b1_1,()),())) (t5_2 x2 x3 x4 x5 x6 b0_0 b0_1 b1_0 b1_1) [([true,true,true,true],[1,1,1,1,1,1,2,2,2,2,2,2,2,2,2,2,4,6,6,8]),([true,true,true,false,true],[1,2,2,2,2,2,4,4,4,4,4,4,4,8,4,4,4,6,8,8,10]),([true,true,true,false,false,true,true,true],[2,8,6,8,6,6,6,4,6,6,6,6,6,6,14,6,6,6,8,8,8,10,10,10,10,10,10,10,14,10,10,10,12,14,14,16]),([true,true,true,false,false,true,true,false,true,true],[2,1,4,6,12,10,12,10,10,10,8,10,10,10,10,10,10,18,10,10,10,12,12,12,14,14,14,14,14,14,14,18,14,14,14,16,18,18,20]),([true,true,true,false,false,true,true,false,true,false],[2,1,4,6,12,10,12,10,10,10,8,10,10,10,10,10,10,18,10,10,10,12,12,12,14,14,14,14,14,14,14,18,14,14,14,16,18,18,20]),([true,true,true,false,false,false,true,true],[2,1,4,0,8,6,8,6,6,6,6,6,6,6,6,6,6,6,6,8,8,8,10,10,10,10,10,10,10,14,10,10,10,12,14,14,16]),([true,true,true,false,false,false,true,false],[2,1,4,0,8,6,8,6,6,6,6,6,6,6,6,6,6,6,6,8,8,8,10,10,10,10,10,10,10,14,10,10,10,12,14,14,16]),([ff],[2])] :=
  ⟨by kernel_rfl,by kernel_rfl,by kernel_rfl,by kernel_rfl,by kernel_rfl,by kernel_rfl,by kernel_rfl,by kernel_rfl,trivial⟩

theorem ok5_2_t (x2:(List (Int×(Int×Unit)))) (x3:(List (Int×(Int×Unit)))) (x4:(List (Int×(Int×Unit)))) (x5:(List (Int×(Int×Unit)))) (x6:Int) (b0_0:(List Int)) (b0_1:Int) (b1_0:(List Int)) (b1_1:Int):TrOk (BodyRuns Go.Proofs.Try.prog (kl5_4 Go.Proofs.Try.prog).orc 5 2 sh5_2 shb5_2 shr5_2 ((x2,x3,x4,x5,x6,()),(b0_0,b0_1,()),(b1_0,b1_1,()),())) (t5_2 x2 x3 x4 x5 x6 b0_0 b0_1 b1_0 b1_1) :=
  Walks.ok (fun _ _ _=>BodyRuns.of) (wk5_2 x2 x3 x4 x5 x6 b0_0 b0_1 b1_0 b1_1) (by kernel_rfl)

theorem ok5_2:LoopOk Go.Proofs.Try.prog 5 2 lc5_2:=loopOk_of (sh:=sh5_2) (shB:=shb5_2) (shR:=shr5_2) kl5_4_ok.base (T:=fun (d:sh5_2.data)=>t5_2 d.1.1 d.1.2.1 d.1.2.2.1 d.1.2.2.2.1 d.1.2.2.2.2.1 d.2.1.1 d.2.1.2.1 d.2.2.1.1 d.2.2.1.2.1) (by kernel_rfl) rfl (fun (d:sh5_2.data)=>ok5_2_t d.1.1 d.1.2.1 d.1.2.2.1 d.1.2.2.2.1 d.1.2.2.2.2.1 d.2.1.1 d.2.1.2.1 d.2.2.1.1 d.2.2.1.2.1) (fun _=>rfl)
def kl5_2 (P:Go.Program):Known:=(kl5_4 P).loop 5 2 lc5_2
theorem kl5_2_ok:KnownOk Go.Proofs.Try.prog (kl5_2 Go.Proofs.Try.prog):=kl5_4_ok.loop ok5_2

/-! loop 8 of ductility/ductilitylaw06.ModalTrue -/

abbrev sh5_8:Sh:={ n:=334,slots:=[2,5,8,12,14,18,19,20],pats:=[.ptr 0 2 0,.ptr 1 2 0,.ty (.slice (.pair (.int .i64) (.pair (.int .i64) .unit))),.ty (.slice (.pair (.int .i64) (.pair (.int .i64) .unit))),.acc (.pair (.int .i64) (.pair (.int .i64) .unit)),.ty (.int .i64),.ty (.int .i64),.ty (.int .i64)],boxes:=[.row [.ty (.slice (.int .i64)),.ty (.int .i64)],.row [.acc (.int .i64),.ty (.int .i64)]] }
abbrev shb5_8:Sh:={ n:=334,slots:=[2,5,8,12,14,18,19],pats:=[.ptr 0 2 0,.ptr 1 2 0,.ty (.slice (.pair (.int .i64) (.pair (.int .i64) .unit))),.ty (.slice (.pair (.int .i64) (.pair (.int .i64) .unit))),.acc (.pair (.int .i64) (.pair (.int .i64) .unit)),.ty (.int .i64),.ty (.int .i64)],boxes:=[.row [.ty (.slice (.int .i64)),.ty (.int .i64)],.row [.acc (.int .i64),.ty (.int .i64)]] }
abbrev shr5_8:Sh:={ n:=334,slots:=[],pats:=[],boxes:=[.row [.ty (.slice (.int .i64)),.ty (.int .i64)],.row [.acc (.int .i64),.ty (.int .i64)]] }

def t5_8 (x2:(List (Int×(Int×Unit)))) (x3:(List (Int×(Int×Unit)))) (x4:(List (Int×(Int×Unit)))) (x5:Int) (x6:Int) (x7:Int) (b0_0:(List Int)) (b0_1:Int) (b1_0:(List Int)) (b1_1:Int):Tr (Out sh5_8.data shb5_8.data shr5_8.data) :=
  Tr.test ((decide ((0:Int) ≤ wrap64 (x5 + (1:Int))) && decide (wrap64 (x5 + (1:Int)) < (↑(List.length x2):Int)):Bool))
    (Tr.test (leF x7 (List.getD x2 (Int.toNat (wrap64 (x5 + (1:Int)))) ((0:Int),(0:Int),())).1)
      (Tr.test ((decide ((0:Int) ≤ x7) && decide (x7 < (↑(List.length b1_0):Int)):Bool))
        (Tr.fin (.again ((x2,(x3,(x4,(x5,((if x6 < List.getD b1_0 (Int.toNat x7) (0:Int) then List.getD b1_0 (Int.toNat x7) (0:Int) else x6:Int),((wrap64 (x7 + (1:Int)):Int),())))))),((b0_0,(b0_1,())),((b1_0,(b1_1,())),())))))
        (Tr.stop))
      (Tr.fin (.brk ((x2,(x3,(x4,(x5,(x6,()))))),((b0_0,(b0_1,())),((b1_0,(b1_1,())),()))))))
    (Tr.stop)

def s5_8 (d:sh5_8.data):Option (Out sh5_8.data shb5_8.data shr5_8.data):=(t5_8 d.1.1 d.1.2.1 d.1.2.2.1 d.1.2.2.2.1 d.1.2.2.2.2.1 d.1.2.2.2.2.2.1 d.2.1.1 d.2.1.2.1 d.2.2.1.1 d.2.2.1.2.1).val
def l5_8 (d:sh5_8.data):Option (shb5_8.data ⊕ shr5_8.data):=itr s5_8 rounds d
def b5_8 (d:sh5_8.data):shb5_8.data:=outB shb5_8.dflt (l5_8 d)
def lc5_8:LoopC:=lcB sh5_8 shb5_8 shr5_8 l5_8 b5_8

theorem wk5_8 (x2:(List (Int×(Int×Unit)))) (x3:(List (Int×(Int×Unit)))) (x4:(List (Int×(Int×Unit)))) (x5:Int) (x6:Int) (x7:Int) (b0_0:(List Int)) (b0_1:Int) (b1_0:(List Int)) (b1_1:Int):Walks (runBody (kl5_2 Go.Proofs.Try.prog).orc Go.Proofs.Try.prog 400 5 8 sh5_8 shb5_8 shr5_8 ((x2,x3,x4,x5,x6,x7,()),(b0_0,b0_1,()),(b1_0,b1_1,()),())) (t5_8 x2 x3 x4 x5 x6 x7 b0_0 b0_1 b1_0 b1_1) [([true,true,true],[2,4,6]),([true,false],[2,4])] :=
  ⟨by kernel_rfl,by kernel_rfl,trivial⟩

theorem ok5_8_t (x2:(List (Int×(Int×Unit)))) (x3:(List (Int×(Int×Unit)))) (x4:(List (Int×(Int×Unit)))) (x5:Int) (x6:Int) (x7:Int) (b0_0:(List Int)) (b0_1:Int) (b1_0:(List Int)) (b1_1:Int):TrOk (BodyRuns Go.Proofs.Try.prog (kl5_2 Go.Proofs.Try.prog).orc 5 8 sh5_8 shb5_8 shr5_8 ((x2,x3,x4,x5,x6,x7,()),(b0_0,b0_1,()),(b1_0,b1_1,()),())) (t5_8 x2 x3 x4 x5 x6 x7 b0_0 b0_1 b1_0 b1_1) :=
  Walks.ok (fun _ _ _=>BodyRuns.of) (wk5_8 x2 x3 x4 x5 x6 x7 b0_0 b0_1 b1_0 b1_1) (by kernel_rfl)

theorem ok5_8:LoopOk Go.Proofs.Try.prog 5 8 lc5_8:=loopOk_ofB (sh:=sh5_8) (shB:=shb5_8) (shR:=shr5_8) kl5_2_ok.base (T:=fun (d:sh5_8.data)=>t5_8 d.1.1 d.1.2.1 d.1.2.2.1 d.1.2.2.2.1 d.1.2.2.2.2.1 d.1.2.2.2.2.2.1 d.2.1.1 d.2.1.2.1 d.2.2.1.1 d.2.2.1.2.1) (by kernel_rfl) rfl (fun (d:sh5_8.data)=>ok5_8_t d.1.1 d.1.2.1 d.1.2.2.1 d.1.2.2.2.1 d.1.2.2.2.2.1 d.1.2.2.2.2.2.1 d.2.1.1 d.2.1.2.1 d.2.2.1.1 d.2.2.1.2.1) (fun _=>rfl)
def kl5_8 (P:Go.Program):Known:=(kl5_2 P).loop 5 8 lc5_8
theorem kl5_8_ok:KnownOk Go.Proofs.Try.prog (kl5_8 Go.Proofs.Try.prog):=kl5_2_ok.loop ok5_8

/-! loop 6 of ductility/ductilitylaw06.ModalTrue -/

abbrev sh5_6:Sh:={ n:=334,slots:=[2,5,8,12,14,18],pats:=[.ptr 0 2 0,.ptr 1 2 0,.ty (.slice (.pair (.int .i64) (.pair (.int .i64) .unit))),.ty (.slice (.pair (.int .i64) (.pair (.int .i64) .unit))),.acc (.pair (.int .i64) (.pair (.int .i64) .unit)),.ty (.int .i64)],boxes:=[.row [.ty (.slice (.int .i64)),.ty (.int .i64)],.row [.acc (.int .i64),.ty (.int .i64)]] }
abbrev shb5_6:Sh:={ n:=334,slots:=[2,8,14],pats:=[.ptr 0 2 0,.ty (.slice (.pair (.int .i64) (.pair (.int .i64) .unit))),.acc (.pair (.int .i64) (.pair (.int .i64) .unit))],boxes:=[.row [.ty (.slice (.int .i64)),.ty (.int .i64)],.row [.acc (.int .i64),.ty (.int .i64)]] }
abbrev shr5_6:Sh:={ n:=334,slots:=[4],pats:=[.ty .bool],boxes:=[.row [.ty (.slice (.int .i64)),.ty (.int .i64)],.row [.acc (.int .i64),.ty (.int .i64)]] }

def t5_6 (x2:(List (Int×(Int×Unit)))) (x3:(List (Int×(Int×Unit)))) (x4:(List (Int×(Int×Unit)))) (x5:Int) (b0_0:(List Int)) (b0_1:Int) (b1_0:(List Int)) (b1_1:Int):Tr (Out sh5_6.data shb5_6.data shr5_6.data) :=
  Tr.test ((!leF (↑(List.length x3):Int) x5:Bool))
    (Tr.test (decide ((0:Int) ≤ x5) && decide (x5 < (↑(List.length x2):Int)))
      (Tr.test ((decide ((0:Int) ≤ (List.getD x2 (Int.toNat x5) ((0:Int),(0:Int),())).2.1) && decide ((List.getD x2 (Int.toNat x5) ((0:Int),(0:Int),())).2.1 < (↑(List.length b1_0):Int)):Bool))
        (Tr.test (isBrk (l5_8 ((x2,(x3,(x4,(x5,((List.getD b1_0 (Int.toNat (List.getD x2 (Int.toNat x5) ((0:Int),(0:Int),())).2.1) (0:Int):Int),(((List.getD x2 (Int.toNat x5) ((0:Int),(0:Int),())).2.1:Int),())))))),((b0_0,(b0_1,())),((b1_0,(b1_1,())),())))))
          (let r0:=b5_8 ((x2,(x3,(x4,(x5,((List.getD b1_0 (Int.toNat (List.getD x2 (Int.toNat x5) ((0:Int),(0:Int),())).2.1) (0:Int):Int),(((List.getD x2 (Int.toNat x5) ((0:Int),(0:Int),())).2.1:Int),())))))),((b0_0,(b0_1,())),((b1_0,(b1_1,())),())));
          Tr.test ((decide ((0:Int) ≤ r0.1.2.2.2.1) && decide (r0.1.2.2.2.1 < (↑(List.length r0.1.2.1):Int)):Bool))
            (Tr.test (Option.isSome (f30 (r0.1.2.2.2.2.1,(((List.getD r0.1.2.1 (Int.toNat r0.1.2.2.2.1) ((0:Int),(0:Int),())).1:Int),(((List.getD r0.1.2.1 (Int.toNat r0.1.2.2.2.1) ((0:Int),(0:Int),())).2.1:Int),())))))
              (let r1:=g30 (r0.1.2.2.2.2.1,(((List.getD r0.1.2.1 (Int.toNat r0.1.2.2.2.1) ((0:Int),(0:Int),())).1:Int),(((List.getD r0.1.2.1 (Int.toNat r0.1.2.2.2.1) ((0:Int),(0:Int),())).2.1:Int),())));
              Tr.test ((!r1.1:Bool))
                (Tr.fin (.ret (((false:Bool),()),((r0.2.1.1,(r0.2.1.2.1,())),((r0.2.2.1.1,(r0.2.2.1.2.1,())),())))))
                (Tr.fin (.again ((r0.1.1,(r0.1.2.1,(r0.1.2.2.1,((wrap64 (r0.1.2.2.2.1 + (1:Int)):Int),())))),((r0.2.1.1,(r0.2.1.2.1,())),((r0.2.2.1.1,(r0.2.2.1.2.1,())),()))))))
              (Tr.stop))
            (Tr.stop))
          (Tr.stop))
        (Tr.stop))
      (Tr.stop))
    (Tr.fin (.brk ((x2,(x4,())),((b0_0,(b0_1,())),((b1_0,(b1_1,())),())))))

def s5_6 (d:sh5_6.data):Option (Out sh5_6.data shb5_6.data shr5_6.data):=(t5_6 d.1.1 d.1.2.1 d.1.2.2.1 d.1.2.2.2.1 d.2.1.1 d.2.1.2.1 d.2.2.1.1 d.2.2.1.2.1).val
def l5_6 (d:sh5_6.data):Option (shb5_6.data ⊕ shr5_6.data):=itr s5_6 rounds d
def b5_6 (d:sh5_6.data):shb5_6.data:=outB shb5_6.dflt (l5_6 d)
def r5_6 (d:sh5_6.data):shr5_6.data:=outR shr5_6.dflt (l5_6 d)
def lc5_6:LoopC:=lcOf sh5_6 shb5_6 shr5_6 l5_6 b5_6 r5_6

theorem wk5_6 (x2:(List (Int×(Int×Unit)))) (x3:(List (Int×(Int×Unit)))) (x4:(List (Int×(Int×Unit)))) (x5:Int) (b0_0:(List Int)) (b0_1:Int) (b1_0:(List Int)) (b1_1:Int):Walks (runBody (kl5_8 Go.Proofs.Try.prog).orc Go.Proofs.Try.prog 400 5 6 sh5_6 shb5_6 shr5_6 ((x2,x3,x4,x5,()),(b0_0,b0_1,()),(b1_0,b1_1,()),())) (t5_6 x2 x3 x4 x5 b0_0 b0_1 b1_0 b1_1) [([true,true,true,true,true,true,true],[2,4,6,6,1,8,12,10,12,14]),([true,true,true,true,true,true,false],[2,4,6,6,1,8,12,10,12,14]),([ff],[2])] :=
  ⟨by kernel_rfl,by kernel_rfl,by kernel_rfl,trivial⟩

theorem ok5_6_t (x2:(List (Int×(Int×Unit)))) (x3:(List (Int×(Int×Unit)))) (x4:(List (Int×(Int×Unit)))) (x5:Int) (b0_0:(List Int)) (b0_1:Int) (b1_0:(List Int)) (b1_1:Int):TrOk (BodyRuns Go.Proofs.Try.prog (kl5_8 Go.Proofs.Try.prog).orc 5 6 sh5_6 shb5_6 shr5_6 ((x2,x3,x4,x5,()),(b0_0,b0_1,()),(b1_0,b1_1,()),())) (t5_6 x2 x3 x4 x5 b0_0 b0_1 b1_0 b1_1) :=
  Walks.ok (fun _ _ _=>BodyRuns.of) (wk5_6 x2 x3 x4 x5 b0_0 b0_1 b1_0 b1_1) (by kernel_rfl)

theorem ok5_6:LoopOk Go.Proofs.Try.prog 5 6 lc5_6:=loopOk_of (sh:=sh5_6) (shB:=shb5_6) (shR:=shr5_6) kl5_8_ok.base (T:=fun (d:sh5_6.data)=>t5_6 d.1.1 d.1.2.1 d.1.2.2.1 d.1.2.2.2.1 d.2.1.1 d.2.1.2.1 d.2.2.1.1 d.2.2.1.2.1) (by kernel_rfl) rfl (fun (d:sh5_6.data)=>ok5_6_t d.1.1 d.1.2.1 d.1.2.2.1 d.1.2.2.2.1 d.2.1.1 d.2.1.2.1 d.2.2.1.1 d.2.2.1.2.1) (fun _=>rfl)
def kl5_6 (P:Go.Program):Known:=(kl5_8 P).loop 5 6 lc5_6
theorem kl5_6_ok:KnownOk Go.Proofs.Try.prog (kl5_6 Go.Proofs.Try.prog):=kl5_8_ok.loop ok5_6

/-! ductility/ductilitylaw06.ModalTrue -/

abbrev as5:List Ty:=[(.pair (.slice (.int .i64)) (.pair (.int .i64) .unit)),(.slice (.int .i64))]
abbrev rs5:List Ty:=[.bool]

def t5 (x0:(List Int)) (x0':Int) (x1:(List Int)):Tr (Tys.data rs5) :=
  Tr.test (Option.isSome (f23 ((x0,(x0',())),())))
    (let r0:=g23 ((x0,(x0',())),());
    Tr.test ((!eqF r0.1 0:Bool))
      (Tr.fin (((true:Bool),())))
      (Tr.test ((eqF (↑(List.length x1):Int) (0:Int):Bool))
        (Tr.fin (((true:Bool),())))
        (Tr.test ((!leF (↑(List.length x1):Int) (60:Int):Bool))
          (Tr.fin (((true:Bool),())))
          (Tr.test (Option.isSome (l5_0 ((x1,((0:Int),())),((x0,(x0',())),((([]:List Int),((0:Int),())),())))))
            (Tr.test (isRet (l5_0 ((x1,((0:Int),())),((x0,(x0',())),((([]:List Int),((0:Int),())),())))))
              (let r1:=r5_0 ((x1,((0:Int),())),((x0,(x0',())),((([]:List Int),((0:Int),())),())));
              Tr.fin ((r1.1.1,())))
              (let r2:=b5_0 ((x1,((0:Int),())),((x0,(x0',())),((([]:List Int),((0:Int),())),())));
              Tr.test (Option.isSome (f19 ((r2.2.1.1,(r2.2.1.2.1,())),())))
                (let r3:=g19 ((r2.2.1.1,(r2.2.1.2.1,())),());
                Tr.test (Option.isSome (f18 ((r3.1.1,(r3.1.2.1,())),())))
                  (Tr.test (Option.isSome (f19 ((r2.2.2.1.1,(r2.2.2.1.2.1,())),())))
                    (let r5:=g19 ((r2.2.2.1.1,(r2.2.2.1.2.1,())),());
                    Tr.test (Option.isSome (f18 ((r5.1.1,(r5.1.2.1,())),())))
                      (Tr.test (Option.isSome (f21 ((r3.1.1,(r3.1.2.1,())),())))
                        (let r4:=g18 ((r3.1.1,(r3.1.2.1,())),());
                        Tr.test ((!eqF r4.2.1 0:Bool))
                          (Tr.fin (((false:Bool),())))
                          (let r6:=g18 ((r5.1.1,(r5.1.2.1,())),());
                          Tr.test ((!eqF r6.2.1 0:Bool))
                            (Tr.fin (((false:Bool),())))
                            (let r7:=g21 ((r3.1.1,(r3.1.2.1,())),());
                            Tr.test ((!eqF r7.2.1 0:Bool))
                              (Tr.fin (((false:Bool),())))
                              (Tr.test ((!eqF (↑(List.length r7.1):Int) (if (0:Int) < wrap64 ((↑(List.length r4.1):Int) - (1:Int)) then wrap64 ((↑(List.length r4.1):Int) - (1:Int)) else (0:Int)):Bool))
                                (Tr.fin (((false:Bool),())))
                                (Tr.test (Option.isSome (l5_2 ((r4.1,(r6.1,(r7.1,(([]:List (Int×Int×PUnit)),((0:Int),()))))),((r2.2.1.1,(r2.2.1.2.1,())),((r2.2.2.1.1,(r2.2.2.1.2.1,())),())))))
                                  (Tr.test (isRet (l5_2 ((r4.1,(r6.1,(r7.1,(([]:List (Int×Int×PUnit)),((0:Int),()))))),((r2.2.1.1,(r2.2.1.2.1,())),((r2.2.2.1.1,(r2.2.2.1.2.1,())),())))))
                                    (let r8:=r5_2 ((r4.1,(r6.1,(r7.1,(([]:List (Int×Int×PUnit)),((0:Int),()))))),((r2.2.1.1,(r2.2.1.2.1,())),((r2.2.2.1.1,(r2.2.2.1.2.1,())),())));
                                    Tr.fin ((r8.1.1,())))
                                    (let r9:=b5_2 ((r4.1,(r6.1,(r7.1,(([]:List (Int×Int×PUnit)),((0:Int),()))))),((r2.2.1.1,(r2.2.1.2.1,())),((r2.2.2.1.1,(r2.2.2.1.2.1,())),())));
                                    Tr.test (Option.isSome (l5_6 ((r9.1.1,(r9.1.2.1,(r9.1.2.2.1,((0:Int),())))),((r9.2.1.1,(r9.2.1.2.1,())),((r9.2.2.1.1,(r9.2.2.1.2.1,())),())))))
                                      (Tr.test (isRet (l5_6 ((r9.1.1,(r9.1.2.1,(r9.1.2.2.1,((0:Int),())))),((r9.2.1.1,(r9.2.1.2.1,())),((r9.2.2.1.1,(r9.2.2.1.2.1,())),())))))
                                        (let r10:=r5_6 ((r9.1.1,(r9.1.2.1,(r9.1.2.2.1,((0:Int),())))),((r9.2.1.1,(r9.2.1.2.1,())),((r9.2.2.1.1,(r9.2.2.1.2.1,())),())));
                                        Tr.fin ((r10.1.1,())))
                                        (let r11:=b5_6 ((r9.1.1,(r9.1.2.1,(r9.1.2.2.1,((0:Int),())))),((r9.2.1.1,(r9.2.1.2.1,())),((r9.2.2.1.1,(r9.2.2.1.2.1,())),())));
                                        Tr.test ((!leF (2:Int) (↑(List.length r11.1.1):Int):Bool))
                                          (Tr.fin (((true:Bool),())))
                                          (Tr.test (Option.isSome (f19 ((r11.2.1.1,(r11.2.1.2.1,())),())))
                                            (let r12:=g19 ((r11.2.1.1,(r11.2.1.2.1,())),());
                                            Tr.test (Option.isSome (f20 ((r12.1.1,(r12.1.2.1,())),())))
                                              (let r13:=g20 ((r12.1.1,(r12.1.2.1,())),());
                                              Tr.test ((!eqF r13.2.1 0:Bool))
                                                (Tr.fin (((false:Bool),())))
                                                (Tr.test (Option.isSome (f31 ((r13.1.1.1,(r13.1.1.2.1,())),())))
                                                  (let r14:=g31 ((r13.1.1.1,(r13.1.1.2.1,())),());
                                                  Tr.test ((!r14.1:Bool))
                                                    (Tr.fin (((false:Bool),())))
                                                    (Tr.test (Option.isSome (f31 ((r13.1.2.1.1,(r13.1.2.1.2.1,())),())))
                                                      (let r15:=g31 ((r13.1.2.1.1,(r13.1.2.1.2.1,())),());
                                                      Tr.test ((!r15.1:Bool))
                                                        (Tr.fin (((false:Bool),())))
                                                        (Tr.test (Option.isSome (f32 ((r13.1.1.1,(r13.1.1.2.1,())),())))
                                                          (let r16:=g32 ((r13.1.1.1,(r13.1.1.2.1,())),());
                                                          Tr.test ((!r16.1:Bool))
                                                            (Tr.fin (((false:Bool),())))
                                                            (Tr.test (Option.isSome (f32 ((r13.1.2.1.1,(r13.1.2.1.2.1,())),())))
                                                              (let r17:=g32 ((r13.1.2.1.1,(r13.1.2.1.2.1,())),());
                                                              Tr.test ((!r17.1:Bool))
                                                                (Tr.fin (((false:Bool),())))
                                                                (Tr.test ((true && decide ((0:Int) < (↑(List.length r11.1.2.1):Int)):Bool))
                                                                  (Tr.test ((decide ((0:Int) ≤ Go.IntKind.wrap Go.IntKind.i64 ((↑(List.length r11.1.2.1):Int) - (1:Int))) && decide (Go.IntKind.wrap Go.IntKind.i64 ((↑(List.length r11.1.2.1):Int) - (1:Int)) < (↑(List.length r11.1.2.1):Int)):Bool))
                                                                    (Tr.test (Option.isSome (f33 ((wrap64 ((List.getD r11.1.2.1 (Int.toNat (Go.IntKind.wrap Go.IntKind.i64 ((↑(List.length r11.1.2.1):Int) - (1:Int)))) ((0:Int),(0:Int),())).1 - (List.getD r11.1.2.1 (0:Nat) ((0:Int),(0:Int),())).2.1):Int),((Go.IntKind.wrap Go.IntKind.i64 ((↑(List.length r11.1.1):Int) - (1:Int)):Int),(r13.1.1.1,(r13.1.1.2.1,()))))))
                                                                      (let r18:=g33 ((wrap64 ((List.getD r11.1.2.1 (Int.toNat (Go.IntKind.wrap Go.IntKind.i64 ((↑(List.length r11.1.2.1):Int) - (1:Int)))) ((0:Int),(0:Int),())).1 - (List.getD r11.1.2.1 (0:Nat) ((0:Int),(0:Int),())).2.1):Int),((Go.IntKind.wrap Go.IntKind.i64 ((↑(List.length r11.1.1):Int) - (1:Int)):Int),(r13.1.1.1,(r13.1.1.2.1,()))));
                                                                      Tr.test ((leF (0:Int) r18.1:Bool))
                                                                        (Tr.test (Option.isSome (f33 ((wrap64 ((List.getD r11.1.2.1 (Int.toNat (Go.IntKind.wrap Go.IntKind.i64 ((↑(List.length r11.1.2.1):Int) - (1:Int)))) ((0:Int),(0:Int),())).2.1 - (List.getD r11.1.2.1 (0:Nat) ((0:Int),(0:Int),())).1):Int),((Go.IntKind.wrap Go.IntKind.i64 ((↑(List.length r11.1.1):Int) - (1:Int)):Int),(r13.1.2.1.1,(r13.1.2.1.2.1,()))))))
                                                                          (let r19:=g33 ((wrap64 ((List.getD r11.1.2.1 (Int.toNat (Go.IntKind.wrap Go.IntKind.i64 ((↑(List.length r11.1.2.1):Int) - (1:Int)))) ((0:Int),(0:Int),())).2.1 - (List.getD r11.1.2.1 (0:Nat) ((0:Int),(0:Int),())).1):Int),((Go.IntKind.wrap Go.IntKind.i64 ((↑(List.length r11.1.1):Int) - (1:Int)):Int),(r13.1.2.1.1,(r13.1.2.1.2.1,()))));
                                                                          Tr.fin (((leF r19.1 0:Bool),())))
                                                                          (Tr.stop))
                                                                        (Tr.fin (((false:Bool),()))))
                                                                      (Tr.stop))
                                                                    (Tr.stop))
                                                                  (Tr.stop)))
                                                              (Tr.stop)))
                                                          (Tr.stop)))
                                                      (Tr.stop)))
                                                  (Tr.stop)))
                                              (Tr.stop))
                                            (Tr.stop))))
                                      (Tr.stop)))
                                  (Tr.stop))))))
                        (Tr.stop))
                      (Tr.stop))
                    (Tr.stop))
                  (Tr.stop))
                (Tr.stop)))
            (Tr.stop)))))
    (Tr.stop)

def f5 (d:Tys.data as5):Option (Tys.data rs5):=(t5 d.1.1 d.1.2.1 d.2.1).val
def g5 (d:Tys.data as5):Tys.data rs5:=(f5 d).getD (Tys.dflt rs5)
def p5:PureC:=pcOf as5 rs5 f5 g5

theorem wk5 (x0:(List Int)) (x0':Int) (x1:(List Int)):Walks (runPure (kl5_6 Go.Proofs.Try.prog).orc Go.Proofs.Try.prog 400 5 as5 rs5 ((x0,x0',()),x1,())) (t5 x0 x0' x1) [([true,true],[1,1,1,1,1,2,2,2,2,4,0,1]),([true,false,true],[1,2,2,2,2,4,4,4,4,6,0,1]),([true,false,false,true],[2,4,4,4,4,6,6,6,6,8,0,1]),([true,false,false,false,true,true],[2,4,6,8,8,8,8,10,10,10,10,12,0,1]),([true,false,false,false,true,false,true,true,true,true,true,true],[1,1,1,1,1,1,1,1,1,1,1,1,2,2,2,4,12,6,8,10,12,14,16,18,20,20,20,20,22,22,22,22,24,0,1]),([true,false,false,false,true,false,true,true,true,true,true,false,true],[1,1,1,1,1,1,1,1,1,2,2,2,4,4,4,6,14,8,10,12,14,16,18,20,22,22,22,22,24,24,24,24,26,0,1]),([true,false,false,false,true,false,true,true,true,true,true,false,false,true],[1,2,2,2,2,2,2,2,2,4,4,4,6,6,6,8,16,10,12,14,16,18,20,22,24,24,24,24,26,26,26,26,28,0,1]),([true,false,false,false,true,false,true,true,true,true,true,false,false,false,true],[2,4,4,4,4,4,4,4,4,6,6,6,8,8,8,10,18,12,14,16,18,20,22,24,26,26,26,26,28,28,28,28,30,0,1]),([true,false,false,false,true,false,true,true,true,true,true,false,false,false,false,true,true],[2,4,6,8,8,8,8,8,8,8,8,10,10,10,12,12,12,14,22,16,18,20,22,24,26,28,30,30,30,30,32,32,32,32,34,0,1]),([true,false,false,false,true,false,true,true,true,true,true,false,false,false,false,true,false,true,true],[2,4,6,8,10,12,12,12,12,12,12,12,12,14,14,14,16,16,16,18,26,20,22,24,26,28,30,32,34,34,34,34,36,36,36,36,38,0,1]),([true,false,false,false,true,false,true,true,true,true,true,false,false,false,false,true,false,true,false,true],[2,4,6,8,10,12,14,14,14,14,14,14,14,14,16,16,16,18,18,18,20,28,22,24,26,28,30,32,34,36,36,36,36,38,38,38,38,40,0,1]),([true,false,false,false,true,false,true,true,true,true,true,false,false,false,false,true,false,true,false,false,true,true,true],[1,1,1,1,1,1,1,1,1,1,1,1,1,1,1,1,2,2,2,2,2,4,6,8,10,12,14,16,18,20,20,20,20,20,20,20,20,22,22,22,24,24,24,26,34,28,30,32,34,36,38,40,42,42,42,42,44,44,44,44,46,0,1]),([true,false,false,false,true,false,true,true,true,true,true,false,false,false,false,true,false,true,false,false,true,true,false,true,true],[1,1,1,1,1,1,1,1,1,1,1,2,2,2,2,2,6,6,4,6,6,6,8,10,12,14,16,18,20,22,24,24,24,24,24,24,24,24,26,26,26,28,28,28,30,38,32,34,36,38,40,42,44,46,46,46,46,48,48,48,48,50,0,1]),([true,false,false,false,true,false,true,true,true,true,true,false,false,false,false,true,false,true,false,false,true,true,false,true,false,true,true],[1,1,1,1,1,1,2,2,2,2,2,6,6,4,6,6,6,10,10,8,10,10,10,12,14,16,18,20,22,24,26,28,28,28,28,28,28,28,28,30,30,30,32,32,32,34,42,36,38,40,42,44,46,48,50,50,50,50,52,52,52,52,54,0,1]),([true,false,false,false,true,false,true,true,true,true,true,false,false,false,false,true,false,true,false,false,true,true,false,true,false,true,false,true,true],[1,2,2,2,2,2,6,6,4,6,6,6,10,10,8,10,10,10,14,14,12,14,14,14,16,18,20,22,24,26,28,30,32,32,32,32,32,32,32,32,34,34,34,36,36,36,38,46,40,42,44,46,48,50,52,54,54,54,54,56,56,56,56,58,0,1]),([true,false,false,false,true,false,true,true,true,true,true,false,false,false,false,true,false,true,false,false,true,true,false,true,false,true,false,true,false,true,true],[2,6,6,4,6,6,6,10,10,8,10,10,10,14,14,12,14,14,14,18,18,16,18,18,18,20,22,24,26,28,30,32,34,36,36,36,36,36,36,36,36,38,38,38,40,40,40,42,50,44,46,48,50,52,54,56,58,58,58,58,60,60,60,60,62,0,1]),([true,false,false,false,true,false,true,true,true,true,true,false,false,false,false,true,false,true,false,false,true,true,false,true,false,true,false,true,false,true,false,true,true,true,true,true],[4,4,2,4,4,4,4,4,4,4,4,4,4,4,4,4,6,8,10,12,16,16,14,16,16,16,20,20,18,20,20,20,24,24,22,24,24,24,28,28,26,28,28,28,30,32,34,36,38,40,42,44,46,46,46,46,46,46,46,46,48,48,48,50,50,50,52,60,54,56,58,60,62,64,66,68,68,68,68,70,70,70,70,72,0,1]),([true,false,false,false,true,false,true,true,true,true,true,false,false,false,false,true,false,true,false,false,true,true,false,true,false,true,false,true,false,true,false,true,true,true,false],[2,2,2,2,2,2,2,2,2,2,2,2,2,2,2,4,6,8,10,14,14,12,14,14,14,18,18,16,18,18,18,22,22,20,22,22,22,26,26,24,26,26,26,28,30,32,34,36,38,40,42,44,44,44,44,44,44,44,44,46,46,46,48,48,48,50,58,52,54,56,58,60,62,64,66,66,66,66,68,68,68,68,70,0,1])] :=
  ⟨by kernel_rfl,by kernel_rfl,by kernel_rfl,by kernel_rfl,by kernel_rfl,by kernel_rfl,by kernel_rfl,by kernel_rfl,by kernel_rfl,by kernel_rfl,by kernel_rfl,by kernel_rfl,by kernel_rfl,by kernel_rfl,by kernel_rfl,by kernel_rfl,by kernel_rfl,by kernel_rfl,trivial⟩

theorem ok5_t (x0:(List Int)) (x0':Int) (x1:(List Int)):TrOk (PureRuns Go.Proofs.Try.prog (kl5_6 Go.Proofs.Try.prog).orc 5 as5 rs5 ((x0,x0',()),x1,())) (t5 x0 x0' x1) :=
  Walks.ok (fun _ _ _=>PureRuns.of) (wk5 x0 x0' x1) (by kernel_rfl)

theorem ok5:PureOk Go.Proofs.Try.prog 5 p5:=pureOk_of kl5_6_ok.base (T:=fun (d:Tys.data as5)=>t5 d.1.1 d.1.2.1 d.2.1) (by kernel_rfl) (fun (d:Tys.data as5)=>ok5_t d.1.1 d.1.2.1 d.2.1)

end Go.Vm.Mo
