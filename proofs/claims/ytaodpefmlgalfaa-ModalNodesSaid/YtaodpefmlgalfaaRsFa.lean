import Derived.Test.YtaodpefmlgalfaaA4
import Derived.KernelRfl
import Derived.Test.YtaodpefmlgalfaaProg
set_option linter.unusedVariables false
set_option linter.unusedSimpArgs false

namespace Go.Vm.Mo
open Go
set_option linter.unusedVariables false

def kn0 (_:Go.Program):Known:=⟨[],[]⟩

abbrev tt:Bool:=true
abbrev ff:Bool:=false
theorem nn {b v:Bool} (h:(!b) = v):(!b) = !(!v):=not_of (of_not h)
theorem ac {b d:Bool} {r:List (Bool×Bool)} (h:b = d) (t:All r):All ((b, d) :: r):=All.cons h t

theorem plainP:Plain Go.Proofs.Try.prog:=by
  have h : (Go.Proofs.Try.prog.funcs.toList.all fun fn => !(fn.body.isSome && fn.name == "runtime.NumGoroutine")) = true := by kernel_rfl
  intro f fn hf hb
  have hm:fn ∈ Go.Proofs.Try.prog.funcs.toList:=by
    have:=Array.getElem?_eq_some_iff.1 hf
    obtain ⟨hlt,rfl⟩:=this
    simp
  have:=List.all_eq_true.1 h fn hm
  rw [hb] at this
  simpa using this

theorem kn0_ok:KnownOk Go.Proofs.Try.prog (kn0 Go.Proofs.Try.prog):=⟨plainP,by kernel_rfl,(fun _ h=>by cases h),(fun _ h=>by cases h)⟩

/-! ductility/ductilitylaw06.Frame -/

abbrev as40:List Ty:=[]
abbrev rs40:List Ty:=[(.pair (.slice (.int .i64)) (.pair (.slice (.int .i64)) .unit))]

def t40 :Tr (Tys.data rs40) :=
  Tr.fin (((([(1:Int),(1:Int)]:List Int),(([(2:Int),(1:Int)]:List Int),())),()))

def f40 (d:Tys.data as40):Option (Tys.data rs40):=(t40 ).val
def g40 (d:Tys.data as40):Tys.data rs40:=(f40 d).getD (Tys.dflt rs40)
def p40:PureC:=pcOf as40 rs40 f40 g40

theorem wk40 :Walks (runPure (kn0 Go.Proofs.Try.prog).orc Go.Proofs.Try.prog 400 40 as40 rs40 ()) (t40 ) [([],[1,1])] :=
  ⟨by kernel_rfl,trivial⟩

theorem ok40_t :TrOk (PureRuns Go.Proofs.Try.prog (kn0 Go.Proofs.Try.prog).orc 40 as40 rs40 ()) (t40 ) :=
  Walks.ok (fun _ _ _=>PureRuns.of) (wk40 ) (by kernel_rfl)

theorem ok40:PureOk Go.Proofs.Try.prog 40 p40:=pureOk_of kn0_ok.base (T:=fun (d:Tys.data as40)=>t40 ) (by kernel_rfl) (fun (d:Tys.data as40)=>ok40_t )
def kf40 (P:Go.Program):Known:=(kn0 P).func 40 p40
theorem kf40_ok:KnownOk Go.Proofs.Try.prog (kf40 Go.Proofs.Try.prog):=kn0_ok.func ok40

/-! ductility/modal.when -/

abbrev as45:List Ty:=[.bool,(.int .i64)]
abbrev rs45:List Ty:=[(.int .i64)]

def t45 (x0:Bool) (x1:Int):Tr (Tys.data rs45) :=
  Tr.test (x0)
    (Tr.fin ((x1,())))
    (Tr.fin (((0:Int),())))

def f45 (d:Tys.data as45):Option (Tys.data rs45):=(t45 d.1 d.2.1).val
def g45 (d:Tys.data as45):Tys.data rs45:=(f45 d).getD (Tys.dflt rs45)
def p45:PureC:=pcOf as45 rs45 f45 g45

theorem wk45 (x0:Bool) (x1:Int):Walks (runPure (kf40 Go.Proofs.Try.prog).orc Go.Proofs.Try.prog 400 45 as45 rs45 (x0,x1,())) (t45 x0 x1) [([tt],[2]),([ff],[2])] :=
  ⟨by kernel_rfl,by kernel_rfl,trivial⟩

theorem ok45_t (x0:Bool) (x1:Int):TrOk (PureRuns Go.Proofs.Try.prog (kf40 Go.Proofs.Try.prog).orc 45 as45 rs45 (x0,x1,())) (t45 x0 x1) :=
  Walks.ok (fun _ _ _=>PureRuns.of) (wk45 x0 x1) (by kernel_rfl)

theorem ok45:PureOk Go.Proofs.Try.prog 45 p45:=pureOk_of kf40_ok.base (T:=fun (d:Tys.data as45)=>t45 d.1 d.2.1) (by kernel_rfl) (fun (d:Tys.data as45)=>ok45_t d.1 d.2.1)
def kf45 (P:Go.Program):Known:=(kf40 P).func 45 p45
theorem kf45_ok:KnownOk Go.Proofs.Try.prog (kf45 Go.Proofs.Try.prog):=kf40_ok.func ok45

/-! loop 0 of ductility/modal.firstOf -/

abbrev sh44_0:Sh:={ n:=15,slots:=[5,6,7],pats:=[.ty (.slice (.int .i64)),.ty (.int .i64),.ty (.int .i64)],boxes:=[] }
abbrev shb44_0:Sh:={ n:=15,slots:=[],pats:=[],boxes:=[] }
abbrev shr44_0:Sh:={ n:=15,slots:=[2],pats:=[.ty (.int .i64)],boxes:=[] }

def t44_0 (x0:(List Int)) (x1:Int) (x2:Int):Tr (Out sh44_0.data shb44_0.data shr44_0.data) :=
  Tr.test ((!leF x1 x2:Bool))
    (Tr.test (decide ((0:Int) ≤ x2) && decide (x2 < (↑(List.length x0):Int)))
      (Tr.test ((!eqF (List.getD x0 (Int.toNat x2) (0:Int)) (0:Int):Bool))
        (Tr.fin (.ret (((List.getD x0 (Int.toNat x2) (0:Int):Int),()),())))
        (Tr.fin (.again ((x0,(x1,((wrap64 (x2 + (1:Int)):Int),()))),()))))
      (Tr.stop))
    (Tr.fin (.brk ((),())))

def s44_0 (d:sh44_0.data):Option (Out sh44_0.data shb44_0.data shr44_0.data):=(t44_0 d.1.1 d.1.2.1 d.1.2.2.1).val
def l44_0 (d:sh44_0.data):Option (shb44_0.data ⊕ shr44_0.data):=itr s44_0 rounds d
def b44_0 (d:sh44_0.data):shb44_0.data:=outB shb44_0.dflt (l44_0 d)
def r44_0 (d:sh44_0.data):shr44_0.data:=outR shr44_0.dflt (l44_0 d)
def lc44_0:LoopC:=lcOf sh44_0 shb44_0 shr44_0 l44_0 b44_0 r44_0

theorem wk44_0 (x0:(List Int)) (x1:Int) (x2:Int):Walks (runBody (kf45 Go.Proofs.Try.prog).orc Go.Proofs.Try.prog 400 44 0 sh44_0 shb44_0 shr44_0 ((x0,x1,x2,()),())) (t44_0 x0 x1 x2) [([true,true,true],[2,4,6]),([true,true,false],[2,4,6]),([ff],[2])] :=
  ⟨by kernel_rfl,by kernel_rfl,by kernel_rfl,trivial⟩

theorem ok44_0_t (x0:(List Int)) (x1:Int) (x2:Int):TrOk (BodyRuns Go.Proofs.Try.prog (kf45 Go.Proofs.Try.prog).orc 44 0 sh44_0 shb44_0 shr44_0 ((x0,x1,x2,()),())) (t44_0 x0 x1 x2) :=
  Walks.ok (fun _ _ _=>BodyRuns.of) (wk44_0 x0 x1 x2) (by kernel_rfl)

theorem ok44_0:LoopOk Go.Proofs.Try.prog 44 0 lc44_0:=loopOk_of (sh:=sh44_0) (shB:=shb44_0) (shR:=shr44_0) kf45_ok.base (T:=fun (d:sh44_0.data)=>t44_0 d.1.1 d.1.2.1 d.1.2.2.1) (by kernel_rfl) rfl (fun (d:sh44_0.data)=>ok44_0_t d.1.1 d.1.2.1 d.1.2.2.1) (fun _=>rfl)
def kl44_0 (P:Go.Program):Known:=(kf45 P).loop 44 0 lc44_0
theorem kl44_0_ok:KnownOk Go.Proofs.Try.prog (kl44_0 Go.Proofs.Try.prog):=kf45_ok.loop ok44_0

/-! ductility/modal.firstOf -/

abbrev as44:List Ty:=[(.slice (.int .i64))]
abbrev rs44:List Ty:=[(.int .i64)]

def t44 (x0:(List Int)):Tr (Tys.data rs44) :=
  Tr.test (Option.isSome (l44_0 ((x0,((↑(List.length x0):Int),((0:Int),()))),())))
    (Tr.test (isRet (l44_0 ((x0,((↑(List.length x0):Int),((0:Int),()))),())))
      (let r0:=r44_0 ((x0,((↑(List.length x0):Int),((0:Int),()))),());
      Tr.fin ((r0.1.1,())))
      (Tr.fin (((0:Int),()))))
    (Tr.stop)

def f44 (d:Tys.data as44):Option (Tys.data rs44):=(t44 d.1).val
def g44 (d:Tys.data as44):Tys.data rs44:=(f44 d).getD (Tys.dflt rs44)
def p44:PureC:=pcOf as44 rs44 f44 g44

theorem wk44 (x0:(List Int)):Walks (runPure (kl44_0 Go.Proofs.Try.prog).orc Go.Proofs.Try.prog 400 44 as44 rs44 (x0,())) (t44 x0) [([true,true],[2,4]),([true,false],[2,4])] :=
  ⟨by kernel_rfl,by kernel_rfl,trivial⟩

theorem ok44_t (x0:(List Int)):TrOk (PureRuns Go.Proofs.Try.prog (kl44_0 Go.Proofs.Try.prog).orc 44 as44 rs44 (x0,())) (t44 x0) :=
  Walks.ok (fun _ _ _=>PureRuns.of) (wk44 x0) (by kernel_rfl)

theorem ok44:PureOk Go.Proofs.Try.prog 44 p44:=pureOk_of kl44_0_ok.base (T:=fun (d:Tys.data as44)=>t44 d.1) (by kernel_rfl) (fun (d:Tys.data as44)=>ok44_t d.1)
def kf44 (P:Go.Program):Known:=(kl44_0 P).func 44 p44
theorem kf44_ok:KnownOk Go.Proofs.Try.prog (kf44 Go.Proofs.Try.prog):=kl44_0_ok.func ok44

/-! loop 0 of ductility/modal.areWithin -/

abbrev sh48_0:Sh:={ n:=24,slots:=[0,1,9,10,11],pats:=[.ty (.int .i64),.ty (.int .i64),.ty (.slice (.int .i64)),.ty (.int .i64),.ty (.int .i64)],boxes:=[] }
abbrev shb48_0:Sh:={ n:=24,slots:=[],pats:=[],boxes:=[] }
abbrev shr48_0:Sh:={ n:=24,slots:=[6],pats:=[.ty .bool],boxes:=[] }

def t48_0 (x0:Int) (x1:Int) (x2:(List Int)) (x3:Int) (x4:Int):Tr (Out sh48_0.data shb48_0.data shr48_0.data) :=
  Tr.test ((!leF x3 x4:Bool))
    (Tr.test (decide ((0:Int) ≤ x4) && decide (x4 < (↑(List.length x2):Int)))
      (Tr.test ((!leF x0 (List.getD x2 (Int.toNat x4) (0:Int)):Bool))
        (Tr.fin (.ret (((false:Bool),()),())))
        (Tr.test ((!leF (List.getD x2 (Int.toNat x4) (0:Int)) x1:Bool))
          (Tr.fin (.ret (((false:Bool),()),())))
          (Tr.fin (.again ((x0,(x1,(x2,(x3,((wrap64 (x4 + (1:Int)):Int),()))))),())))))
      (Tr.stop))
    (Tr.fin (.brk ((),())))

def s48_0 (d:sh48_0.data):Option (Out sh48_0.data shb48_0.data shr48_0.data):=(t48_0 d.1.1 d.1.2.1 d.1.2.2.1 d.1.2.2.2.1 d.1.2.2.2.2.1).val
def l48_0 (d:sh48_0.data):Option (shb48_0.data ⊕ shr48_0.data):=itr s48_0 rounds d
def b48_0 (d:sh48_0.data):shb48_0.data:=outB shb48_0.dflt (l48_0 d)
def r48_0 (d:sh48_0.data):shr48_0.data:=outR shr48_0.dflt (l48_0 d)
def lc48_0:LoopC:=lcOf sh48_0 shb48_0 shr48_0 l48_0 b48_0 r48_0

theorem wk48_0 (x0:Int) (x1:Int) (x2:(List Int)) (x3:Int) (x4:Int):Walks (runBody (kf44 Go.Proofs.Try.prog).orc Go.Proofs.Try.prog 400 48 0 sh48_0 shb48_0 shr48_0 ((x0,x1,x2,x3,x4,()),())) (t48_0 x0 x1 x2 x3 x4) [([true,true,true],[1,2,2,2,2,4,6]),([true,true,false,true],[2,4,4,4,4,6,8]),([true,true,false,false],[2,4,4,4,4,6,8]),([ff],[2])] :=
  ⟨by kernel_rfl,by kernel_rfl,by kernel_rfl,by kernel_rfl,trivial⟩

theorem ok48_0_t (x0:Int) (x1:Int) (x2:(List Int)) (x3:Int) (x4:Int):TrOk (BodyRuns Go.Proofs.Try.prog (kf44 Go.Proofs.Try.prog).orc 48 0 sh48_0 shb48_0 shr48_0 ((x0,x1,x2,x3,x4,()),())) (t48_0 x0 x1 x2 x3 x4) :=
  Walks.ok (fun _ _ _=>BodyRuns.of) (wk48_0 x0 x1 x2 x3 x4) (by kernel_rfl)

theorem ok48_0:LoopOk Go.Proofs.Try.prog 48 0 lc48_0:=loopOk_of (sh:=sh48_0) (shB:=shb48_0) (shR:=shr48_0) kf44_ok.base (T:=fun (d:sh48_0.data)=>t48_0 d.1.1 d.1.2.1 d.1.2.2.1 d.1.2.2.2.1 d.1.2.2.2.2.1) (by kernel_rfl) rfl (fun (d:sh48_0.data)=>ok48_0_t d.1.1 d.1.2.1 d.1.2.2.1 d.1.2.2.2.1 d.1.2.2.2.2.1) (fun _=>rfl)
def kl48_0 (P:Go.Program):Known:=(kf44 P).loop 48 0 lc48_0
theorem kl48_0_ok:KnownOk Go.Proofs.Try.prog (kl48_0 Go.Proofs.Try.prog):=kf44_ok.loop ok48_0

/-! ductility/modal.areWithin -/

abbrev as48:List Ty:=[(.int .i64),(.int .i64),(.slice (.int .i64))]
abbrev rs48:List Ty:=[.bool]

def t48 (x0:Int) (x1:Int) (x2:(List Int)):Tr (Tys.data rs48) :=
  Tr.test (Option.isSome (l48_0 ((x0,(x1,(x2,((↑(List.length x2):Int),((0:Int),()))))),())))
    (Tr.test (isRet (l48_0 ((x0,(x1,(x2,((↑(List.length x2):Int),((0:Int),()))))),())))
      (let r0:=r48_0 ((x0,(x1,(x2,((↑(List.length x2):Int),((0:Int),()))))),());
      Tr.fin ((r0.1.1,())))
      (Tr.fin (((true:Bool),()))))
    (Tr.stop)

def f48 (d:Tys.data as48):Option (Tys.data rs48):=(t48 d.1 d.2.1 d.2.2.1).val
def g48 (d:Tys.data as48):Tys.data rs48:=(f48 d).getD (Tys.dflt rs48)
def p48:PureC:=pcOf as48 rs48 f48 g48

theorem wk48 (x0:Int) (x1:Int) (x2:(List Int)):Walks (runPure (kl48_0 Go.Proofs.Try.prog).orc Go.Proofs.Try.prog 400 48 as48 rs48 (x0,x1,x2,())) (t48 x0 x1 x2) [([true,true],[2,4]),([true,false],[2,4])] :=
  ⟨by kernel_rfl,by kernel_rfl,trivial⟩

theorem ok48_t (x0:Int) (x1:Int) (x2:(List Int)):TrOk (PureRuns Go.Proofs.Try.prog (kl48_0 Go.Proofs.Try.prog).orc 48 as48 rs48 (x0,x1,x2,())) (t48 x0 x1 x2) :=
  Walks.ok (fun _ _ _=>PureRuns.of) (wk48 x0 x1 x2) (by kernel_rfl)

theorem ok48:PureOk Go.Proofs.Try.prog 48 p48:=pureOk_of kl48_0_ok.base (T:=fun (d:Tys.data as48)=>t48 d.1 d.2.1 d.2.2.1) (by kernel_rfl) (fun (d:Tys.data as48)=>ok48_t d.1 d.2.1 d.2.2.1)
def kf48 (P:Go.Program):Known:=(kl48_0 P).func 48 p48
theorem kf48_ok:KnownOk Go.Proofs.Try.prog (kf48 Go.Proofs.Try.prog):=kl48_0_ok.func ok48

/-! loop 0 of ductility/modal.checkItems[int] -/

abbrev sh46_0:Sh:={ n:=25,slots:=[1,9,10,11],pats:=[.fn 47 [(0,2)],.ty (.slice (.int .i64)),.ty (.int .i64),.ty (.int .i64)],boxes:=[.row [.ty (.slice (.int .i64)),.ty (.slice (.int .i64))]] }
abbrev shb46_0:Sh:={ n:=25,slots:=[],pats:=[],boxes:=[.row [.ty (.slice (.int .i64)),.ty (.slice (.int .i64))]] }
abbrev shr46_0:Sh:={ n:=25,slots:=[4,5],pats:=[.ty (.int .i64),.ty (.int .i64)],boxes:=[.row [.ty (.slice (.int .i64)),.ty (.slice (.int .i64))]] }

def t46_0 (x1:(List Int)) (x2:Int) (x3:Int) (b0_0:(List Int)) (b0_1:(List Int)):Tr (Out sh46_0.data shb46_0.data shr46_0.data) :=
  Tr.test ((!leF x2 x3:Bool))
    (Tr.test (decide ((0:Int) ≤ x3) && decide (x3 < (↑(List.length x1):Int)))
      (Tr.test (Option.isSome (f48 ((1:Int),((10:Int),(([List.getD x1 (Int.toNat x3) (0:Int)]:List Int),())))))
        (let r0:=g48 ((1:Int),((10:Int),(([List.getD x1 (Int.toNat x3) (0:Int)]:List Int),())));
        Tr.test ((!r0.1:Bool))
          (Tr.test (Option.isSome (f45 ((true:Bool),((2:Int),()))))
            (let r2:=g45 ((true:Bool),((2:Int),()));
            Tr.test ((!eqF r2.1 0:Bool))
              (Tr.fin (.ret ((x3,(r2.1,())),((b0_0,(b0_1,())),()))))
              (Tr.fin (.again ((x1,(x2,((wrap64 (x3 + (1:Int)):Int),()))),((b0_0,(b0_1,())),())))))
            (Tr.stop))
          (Tr.test ((decide ((0:Int) ≤ x3) && decide (x3 < (↑(List.length b0_1):Int)):Bool))
            (Tr.test (Option.isSome (f48 ((1:Int),((20:Int),(([List.getD b0_1 (Int.toNat x3) (0:Int)]:List Int),())))))
              (let r1:=g48 ((1:Int),((20:Int),(([List.getD b0_1 (Int.toNat x3) (0:Int)]:List Int),())));
              Tr.test (Option.isSome (f45 ((!r1.1:Bool),((2:Int),()))))
                (let r3:=g45 ((!r1.1:Bool),((2:Int),()));
                Tr.test ((!eqF r3.1 0:Bool))
                  (Tr.fin (.ret ((x3,(r3.1,())),((b0_0,(b0_1,())),()))))
                  (Tr.fin (.again ((x1,(x2,((wrap64 (x3 + (1:Int)):Int),()))),((b0_0,(b0_1,())),())))))
                (Tr.stop))
              (Tr.stop))
            (Tr.stop)))
        (Tr.stop))
      (Tr.stop))
    (Tr.fin (.brk ((),((b0_0,(b0_1,())),()))))

def s46_0 (d:sh46_0.data):Option (Out sh46_0.data shb46_0.data shr46_0.data):=(t46_0 d.1.1 d.1.2.1 d.1.2.2.1 d.2.1.1 d.2.1.2.1).val
def l46_0 (d:sh46_0.data):Option (shb46_0.data ⊕ shr46_0.data):=itr s46_0 rounds d
def b46_0 (d:sh46_0.data):shb46_0.data:=outB shb46_0.dflt (l46_0 d)
def r46_0 (d:sh46_0.data):shr46_0.data:=outR shr46_0.dflt (l46_0 d)
def lc46_0:LoopC:=lcOf sh46_0 shb46_0 shr46_0 l46_0 b46_0 r46_0

theorem wk46_0 (x1:(List Int)) (x2:Int) (x3:Int) (b0_0:(List Int)) (b0_1:(List Int)):Walks (runBody (kf48 Go.Proofs.Try.prog).orc Go.Proofs.Try.prog 400 46 0 sh46_0 shb46_0 shr46_0 ((x1,x2,x3,()),(b0_0,b0_1,()),())) (t46_0 x1 x2 x3 b0_0 b0_1) [([true,true,true,true,true,true],[2,4,6,6,6,6,6,6,6,6,6,8,1,10,12]),([true,true,true,true,true,false],[2,4,6,6,6,6,6,6,6,6,6,8,1,10,12]),([true,true,true,false,true,true,true,true],[2,4,10,10,6,1,10,10,10,8,10,10,10,10,12,1,14,16]),([true,true,true,false,true,true,true,false],[2,4,10,10,6,1,10,10,10,8,10,10,10,10,12,1,14,16]),([ff],[2])] :=
  ⟨by kernel_rfl,by kernel_rfl,by kernel_rfl,by kernel_rfl,by kernel_rfl,trivial⟩

theorem ok46_0_t (x1:(List Int)) (x2:Int) (x3:Int) (b0_0:(List Int)) (b0_1:(List Int)):TrOk (BodyRuns Go.Proofs.Try.prog (kf48 Go.Proofs.Try.prog).orc 46 0 sh46_0 shb46_0 shr46_0 ((x1,x2,x3,()),(b0_0,b0_1,()),())) (t46_0 x1 x2 x3 b0_0 b0_1) :=
  Walks.ok (fun _ _ _=>BodyRuns.of) (wk46_0 x1 x2 x3 b0_0 b0_1) (by kernel_rfl)

theorem ok46_0:LoopOk Go.Proofs.Try.prog 46 0 lc46_0:=loopOk_of (sh:=sh46_0) (shB:=shb46_0) (shR:=shr46_0) kf48_ok.base (T:=fun (d:sh46_0.data)=>t46_0 d.1.1 d.1.2.1 d.1.2.2.1 d.2.1.1 d.2.1.2.1) (by kernel_rfl) rfl (fun (d:sh46_0.data)=>ok46_0_t d.1.1 d.1.2.1 d.1.2.2.1 d.2.1.1 d.2.1.2.1) (fun _=>rfl)
def kl46_0 (P:Go.Program):Known:=(kf48 P).loop 46 0 lc46_0
theorem kl46_0_ok:KnownOk Go.Proofs.Try.prog (kl46_0 Go.Proofs.Try.prog):=kf48_ok.loop ok46_0

/-! ductility/modal.CheckFrame -/

abbrev as9:List Ty:=[(.pair (.slice (.int .i64)) (.pair (.slice (.int .i64)) .unit))]
abbrev rs9:List Ty:=[(.int .i64),(.int .i64)]

def t9 (x0:(List Int)) (x0':(List Int)):Tr (Tys.data rs9) :=
  Tr.test ((eqF (↑(List.length x0):Int) (0:Int):Bool))
    (Tr.test (Option.isSome (f45 (true,((10:Int),()))))
      (Tr.test (Option.isSome (f45 ((!leF (↑(List.length x0):Int) (4:Int):Bool),((8:Int),()))))
        (let r0:=g45 ((true:Bool),((10:Int),()));
        let r1:=g45 ((!leF (↑(List.length x0):Int) (4:Int):Bool),((8:Int),()));
        Tr.test (Option.isSome (f44 (([r0.1,r1.1]:List Int),())))
          (let r2:=g44 (([r0.1,r1.1]:List Int),());
          Tr.test ((!eqF r2.1 0:Bool))
            (Tr.fin (((0:Int),(r2.1,()))))
            (Tr.test (Option.isSome (l46_0 ((x0,((↑(List.length x0):Int),((0:Int),()))),((x0,(x0',())),()))))
              (Tr.test (isRet (l46_0 ((x0,((↑(List.length x0):Int),((0:Int),()))),((x0,(x0',())),()))))
                (let r3:=r46_0 ((x0,((↑(List.length x0):Int),((0:Int),()))),((x0,(x0',())),()));
                Tr.fin ((r3.1.1,(r3.1.2.1,()))))
                (Tr.fin (((0:Int),((0:Int),())))))
              (Tr.stop)))
          (Tr.stop))
        (Tr.stop))
      (Tr.stop))
    (Tr.test (Option.isSome (f45 (!eqF (↑(List.length x0'):Int) (↑(List.length x0):Int),((10:Int),()))))
      (Tr.test (Option.isSome (f45 ((!leF (↑(List.length x0):Int) (4:Int):Bool),((8:Int),()))))
        (let r1:=g45 ((!leF (↑(List.length x0):Int) (4:Int):Bool),((8:Int),()));
        let r5:=g45 ((!eqF (↑(List.length x0'):Int) (↑(List.length x0):Int):Bool),((10:Int),()));
        Tr.test (Option.isSome (f44 (([r5.1,r1.1]:List Int),())))
          (let r6:=g44 (([r5.1,r1.1]:List Int),());
          Tr.test ((!eqF r6.1 0:Bool))
            (Tr.fin (((0:Int),(r6.1,()))))
            (Tr.test (Option.isSome (l46_0 ((x0,((↑(List.length x0):Int),((0:Int),()))),((x0,(x0',())),()))))
              (Tr.test (isRet (l46_0 ((x0,((↑(List.length x0):Int),((0:Int),()))),((x0,(x0',())),()))))
                (let r3:=r46_0 ((x0,((↑(List.length x0):Int),((0:Int),()))),((x0,(x0',())),()));
                Tr.fin ((r3.1.1,(r3.1.2.1,()))))
                (Tr.fin (((0:Int),((0:Int),())))))
              (Tr.stop)))
          (Tr.stop))
        (Tr.stop))
      (Tr.stop))

def f9 (d:Tys.data as9):Option (Tys.data rs9):=(t9 d.1.1 d.1.2.1).val
def g9 (d:Tys.data as9):Tys.data rs9:=(f9 d).getD (Tys.dflt rs9)
def p9:PureC:=pcOf as9 rs9 f9 g9

theorem wk9 (x0:(List Int)) (x0':(List Int)):Walks (runPure (kl46_0 Go.Proofs.Try.prog).orc Go.Proofs.Try.prog 400 9 as9 rs9 ((x0,x0',()),())) (t9 x0 x0') [([true,true,true,true,true],[2,4,1,6,8,10,10,10,10,10,10]),([true,true,true,true,false,true,true],[2,4,6,8,1,10,12,14,14,14,14,14,14]),([true,true,true,true,false,true,false],[2,4,6,8,1,10,12,14,14,14,14,14,14]),([false,true,true,true,true],[2,4,1,6,8,10,10,10,10,10,10]),([false,true,true,true,false,true,true],[2,4,6,8,1,10,12,14,14,14,14,14,14]),([false,true,true,true,false,true,false],[2,4,6,8,1,10,12,14,14,14,14,14,14])] :=
  ⟨by kernel_rfl,by kernel_rfl,by kernel_rfl,by kernel_rfl,by kernel_rfl,by kernel_rfl,trivial⟩

theorem ok9_t (x0:(List Int)) (x0':(List Int)):TrOk (PureRuns Go.Proofs.Try.prog (kl46_0 Go.Proofs.Try.prog).orc 9 as9 rs9 ((x0,x0',()),())) (t9 x0 x0') :=
  Walks.ok (fun _ _ _=>PureRuns.of) (wk9 x0 x0') (by kernel_rfl)

theorem ok9:PureOk Go.Proofs.Try.prog 9 p9:=pureOk_of kl46_0_ok.base (T:=fun (d:Tys.data as9)=>t9 d.1.1 d.1.2.1) (by kernel_rfl) (fun (d:Tys.data as9)=>ok9_t d.1.1 d.1.2.1)
def kf9 (P:Go.Program):Known:=(kl46_0 P).func 9 p9
theorem kf9_ok:KnownOk Go.Proofs.Try.prog (kf9 Go.Proofs.Try.prog):=kl46_0_ok.func ok9

/-! ductility/modal.frameOf -/

abbrev as49:List Ty:=[(.pair (.slice (.int .i64)) (.pair (.slice (.int .i64)) .unit)),(.slice (.int .i64))]
abbrev rs49:List Ty:=[(.pair (.pair (.slice (.int .i64)) (.pair (.slice (.int .i64)) .unit)) .unit),(.int .i64)]

def t49 (x0:(List Int)) (x0':(List Int)) (x1:(List Int)):Tr (Tys.data rs49) :=
  Tr.test (Option.isSome (f9 ((x0,(x0',())),())))
    (Tr.test (Option.isSome (f44 (x1,())))
      (let r0:=g9 ((x0,(x0',())),());
      let r1:=g44 (x1,());
      Tr.test (Option.isSome (f44 (([r0.2.1,r1.1]:List Int),())))
        (let r2:=g44 (([r0.2.1,r1.1]:List Int),());
        Tr.test ((!eqF r2.1 0:Bool))
          (Tr.fin ((((([]:List Int),(([]:List Int),())),()),(r2.1,()))))
          (Tr.fin ((((x0,(x0',())),()),((0:Int),())))))
        (Tr.stop))
      (Tr.stop))
    (Tr.stop)

def f49 (d:Tys.data as49):Option (Tys.data rs49):=(t49 d.1.1 d.1.2.1 d.2.1).val
def g49 (d:Tys.data as49):Tys.data rs49:=(f49 d).getD (Tys.dflt rs49)
def p49:PureC:=pcOf as49 rs49 f49 g49

theorem wk49 (x0:(List Int)) (x0':(List Int)) (x1:(List Int)):Walks (runPure (kf9 Go.Proofs.Try.prog).orc Go.Proofs.Try.prog 400 49 as49 rs49 ((x0,x0',()),x1,())) (t49 x0 x0' x1) [([true,true,true,true],[2,4,1,6,8]),([true,true,true,false],[2,4,1,6,8])] :=
  ⟨by kernel_rfl,by kernel_rfl,trivial⟩

theorem ok49_t (x0:(List Int)) (x0':(List Int)) (x1:(List Int)):TrOk (PureRuns Go.Proofs.Try.prog (kf9 Go.Proofs.Try.prog).orc 49 as49 rs49 ((x0,x0',()),x1,())) (t49 x0 x0' x1) :=
  Walks.ok (fun _ _ _=>PureRuns.of) (wk49 x0 x0' x1) (by kernel_rfl)

theorem ok49:PureOk Go.Proofs.Try.prog 49 p49:=pureOk_of kf9_ok.base (T:=fun (d:Tys.data as49)=>t49 d.1.1 d.1.2.1 d.2.1) (by kernel_rfl) (fun (d:Tys.data as49)=>ok49_t d.1.1 d.1.2.1 d.2.1)
def kf49 (P:Go.Program):Known:=(kf9 P).func 49 p49
theorem kf49_ok:KnownOk Go.Proofs.Try.prog (kf49 Go.Proofs.Try.prog):=kf9_ok.func ok49

/-! (ductility/modal.frame).stiffness -/

abbrev as52:List Ty:=[(.pair (.pair (.slice (.int .i64)) (.pair (.slice (.int .i64)) .unit)) .unit),(.int .i64)]
abbrev rs52:List Ty:=[(.int .i64)]

def t52 (x0_:(List Int)) (x0_':(List Int)) (x1:Int):Tr (Tys.data rs52) :=
  Tr.test ((eqF (wrap64 (x1 + (1:Int))) (↑(List.length x0_'):Int):Bool))
    (Tr.test (decide ((0:Int) ≤ x1) && decide (x1 < (↑(List.length x0_'):Int)))
      (Tr.fin (((List.getD x0_' (Int.toNat x1) (0:Int):Int),())))
      (Tr.stop))
    (Tr.test (decide ((0:Int) ≤ x1) && decide (x1 < (↑(List.length x0_'):Int)))
      (Tr.test ((decide ((0:Int) ≤ wrap64 (x1 + (1:Int))) && decide (wrap64 (x1 + (1:Int)) < (↑(List.length x0_'):Int)):Bool))
        (Tr.fin (((wrap64 (List.getD x0_' (Int.toNat x1) (0:Int) + List.getD x0_' (Int.toNat (wrap64 (x1 + (1:Int)))) (0:Int)):Int),())))
        (Tr.stop))
      (Tr.stop))

def f52 (d:Tys.data as52):Option (Tys.data rs52):=(t52 d.1.1.1 d.1.1.2.1 d.2.1).val
def g52 (d:Tys.data as52):Tys.data rs52:=(f52 d).getD (Tys.dflt rs52)
def p52:PureC:=pcOf as52 rs52 f52 g52

theorem wk52 (x0_:(List Int)) (x0_':(List Int)) (x1:Int):Walks (runPure (kf49 Go.Proofs.Try.prog).orc Go.Proofs.Try.prog 400 52 as52 rs52 (((x0_,x0_',()),()),x1,())) (t52 x0_ x0_' x1) [([true,true],[2,4]),([false,true,true],[2,4,6])] :=
  ⟨by kernel_rfl,by kernel_rfl,trivial⟩

theorem ok52_t (x0_:(List Int)) (x0_':(List Int)) (x1:Int):TrOk (PureRuns Go.Proofs.Try.prog (kf49 Go.Proofs.Try.prog).orc 52 as52 rs52 (((x0_,x0_',()),()),x1,())) (t52 x0_ x0_' x1) :=
  Walks.ok (fun _ _ _=>PureRuns.of) (wk52 x0_ x0_' x1) (by kernel_rfl)

theorem ok52:PureOk Go.Proofs.Try.prog 52 p52:=pureOk_of kf49_ok.base (T:=fun (d:Tys.data as52)=>t52 d.1.1.1 d.1.1.2.1 d.2.1) (by kernel_rfl) (fun (d:Tys.data as52)=>ok52_t d.1.1.1 d.1.1.2.1 d.2.1)
def kf52 (P:Go.Program):Known:=(kf49 P).func 52 p52
theorem kf52_ok:KnownOk Go.Proofs.Try.prog (kf52 Go.Proofs.Try.prog):=kf49_ok.func ok52

/-! (ductility/modal.polynomial).times -/

abbrev as78:List Ty:=[(.pair (.int .i64) (.pair (.int .i64) (.pair (.int .i64) (.pair (.int .i64) (.pair (.int .i64) .unit))))),(.int .i64),(.int .i64)]
abbrev rs78:List Ty:=[(.pair (.int .i64) (.pair (.int .i64) (.pair (.int .i64) (.pair (.int .i64) (.pair (.int .i64) .unit)))))]

def t78 (x0:Int) (x0':Int) (x0'':Int) (x0''':Int) (x0'''':Int) (x1:Int) (x2:Int):Tr (Tys.data rs78) :=
  Tr.fin ((((wrap64 (wrap64 (x1 * x0) + wrap64 (x2 * (0:Int))):Int),((wrap64 (wrap64 (x1 * x0') + wrap64 (x2 * x0)):Int),((wrap64 (wrap64 (x1 * x0'') + wrap64 (x2 * x0')):Int),((wrap64 (wrap64 (x1 * x0''') + wrap64 (x2 * x0'')):Int),((wrap64 (wrap64 (x1 * x0'''') + wrap64 (x2 * x0''')):Int),()))))),()))

def f78 (d:Tys.data as78):Option (Tys.data rs78):=(t78 d.1.1 d.1.2.1 d.1.2.2.1 d.1.2.2.2.1 d.1.2.2.2.2.1 d.2.1 d.2.2.1).val
def g78 (d:Tys.data as78):Tys.data rs78:=(f78 d).getD (Tys.dflt rs78)
def p78:PureC:=pcOf as78 rs78 f78 g78

theorem wk78 (x0:Int) (x0':Int) (x0'':Int) (x0''':Int) (x0'''':Int) (x1:Int) (x2:Int):Walks (runPure (kf52 Go.Proofs.Try.prog).orc Go.Proofs.Try.prog 400 78 as78 rs78 ((x0,x0',x0'',x0''',x0'''',()),x1,x2,())) (t78 x0 x0' x0'' x0''' x0'''' x1 x2) [([],[0,1,1,1,1,1,1,1,1,1,1,1,1,1,1,1])] :=
  ⟨by kernel_rfl,trivial⟩

theorem ok78_t (x0:Int) (x0':Int) (x0'':Int) (x0''':Int) (x0'''':Int) (x1:Int) (x2:Int):TrOk (PureRuns Go.Proofs.Try.prog (kf52 Go.Proofs.Try.prog).orc 78 as78 rs78 ((x0,x0',x0'',x0''',x0'''',()),x1,x2,())) (t78 x0 x0' x0'' x0''' x0'''' x1 x2) :=
  Walks.ok (fun _ _ _=>PureRuns.of) (wk78 x0 x0' x0'' x0''' x0'''' x1 x2) (by kernel_rfl)

theorem ok78:PureOk Go.Proofs.Try.prog 78 p78:=pureOk_of kf52_ok.base (T:=fun (d:Tys.data as78)=>t78 d.1.1 d.1.2.1 d.1.2.2.1 d.1.2.2.2.1 d.1.2.2.2.2.1 d.2.1 d.2.2.1) (by kernel_rfl) (fun (d:Tys.data as78)=>ok78_t d.1.1 d.1.2.1 d.1.2.2.1 d.1.2.2.2.1 d.1.2.2.2.2.1 d.2.1 d.2.2.1)
def kf78 (P:Go.Program):Known:=(kf52 P).func 78 p78
theorem kf78_ok:KnownOk Go.Proofs.Try.prog (kf78 Go.Proofs.Try.prog):=kf52_ok.func ok78

/-! (ductility/modal.polynomial).minus -/

abbrev as79:List Ty:=[(.pair (.int .i64) (.pair (.int .i64) (.pair (.int .i64) (.pair (.int .i64) (.pair (.int .i64) .unit))))),(.pair (.int .i64) (.pair (.int .i64) (.pair (.int .i64) (.pair (.int .i64) (.pair (.int .i64) .unit)))))]
abbrev rs79:List Ty:=[(.pair (.int .i64) (.pair (.int .i64) (.pair (.int .i64) (.pair (.int .i64) (.pair (.int .i64) .unit)))))]

def t79 (x0:Int) (x0':Int) (x0'':Int) (x0''':Int) (x0'''':Int) (x1:Int) (x1':Int) (x1'':Int) (x1''':Int) (x1'''':Int):Tr (Tys.data rs79) :=
  Tr.fin ((((wrap64 (x0 - x1):Int),((wrap64 (x0' - x1'):Int),((wrap64 (x0'' - x1''):Int),((wrap64 (x0''' - x1'''):Int),((wrap64 (x0'''' - x1''''):Int),()))))),()))

def f79 (d:Tys.data as79):Option (Tys.data rs79):=(t79 d.1.1 d.1.2.1 d.1.2.2.1 d.1.2.2.2.1 d.1.2.2.2.2.1 d.2.1.1 d.2.1.2.1 d.2.1.2.2.1 d.2.1.2.2.2.1 d.2.1.2.2.2.2.1).val
def g79 (d:Tys.data as79):Tys.data rs79:=(f79 d).getD (Tys.dflt rs79)
def p79:PureC:=pcOf as79 rs79 f79 g79

theorem wk79 (x0:Int) (x0':Int) (x0'':Int) (x0''':Int) (x0'''':Int) (x1:Int) (x1':Int) (x1'':Int) (x1''':Int) (x1'''':Int):Walks (runPure (kf78 Go.Proofs.Try.prog).orc Go.Proofs.Try.prog 400 79 as79 rs79 ((x0,x0',x0'',x0''',x0'''',()),(x1,x1',x1'',x1''',x1'''',()),())) (t79 x0 x0' x0'' x0''' x0'''' x1 x1' x1'' x1''' x1'''') [([],[0,1,1,1,1,1,1,1,1,1,1,1,1,1,1,1,1,1,1,1,1])] :=
  ⟨by kernel_rfl,trivial⟩

theorem ok79_t (x0:Int) (x0':Int) (x0'':Int) (x0''':Int) (x0'''':Int) (x1:Int) (x1':Int) (x1'':Int) (x1''':Int) (x1'''':Int):TrOk (PureRuns Go.Proofs.Try.prog (kf78 Go.Proofs.Try.prog).orc 79 as79 rs79 ((x0,x0',x0'',x0''',x0'''',()),(x1,x1',x1'',x1''',x1'''',()),())) (t79 x0 x0' x0'' x0''' x0'''' x1 x1' x1'' x1''' x1'''') :=
  Walks.ok (fun _ _ _=>PureRuns.of) (wk79 x0 x0' x0'' x0''' x0'''' x1 x1' x1'' x1''' x1'''') (by kernel_rfl)

theorem ok79:PureOk Go.Proofs.Try.prog 79 p79:=pureOk_of kf78_ok.base (T:=fun (d:Tys.data as79)=>t79 d.1.1 d.1.2.1 d.1.2.2.1 d.1.2.2.2.1 d.1.2.2.2.2.1 d.2.1.1 d.2.1.2.1 d.2.1.2.2.1 d.2.1.2.2.2.1 d.2.1.2.2.2.2.1) (by kernel_rfl) (fun (d:Tys.data as79)=>ok79_t d.1.1 d.1.2.1 d.1.2.2.1 d.1.2.2.2.1 d.1.2.2.2.2.1 d.2.1.1 d.2.1.2.1 d.2.1.2.2.1 d.2.1.2.2.2.1 d.2.1.2.2.2.2.1)
def kf79 (P:Go.Program):Known:=(kf78 P).func 79 p79
theorem kf79_ok:KnownOk Go.Proofs.Try.prog (kf79 Go.Proofs.Try.prog):=kf78_ok.func ok79

/-! slices.Clone[[]int,int] -/

abbrev as51:List Ty:=[(.slice (.int .i64))]
abbrev rs51:List Ty:=[(.slice (.int .i64))]

def t51 (x0:(List Int)):Tr (Tys.data rs51) :=
  Tr.test ((Nat.beq (List.length x0) (0:Nat):Bool))
    (Tr.stop)
    (Tr.test (Nat.ble ((0:Nat) + List.length x0) (0:Nat))
      (Tr.stop)
      (Tr.test ((Nat.ble (((2:Nat) * ((0:Nat) + List.length x0) + (192:Nat)) * (8:Nat)) (281474976710656:Nat) && Nat.ble ((0:Nat) + List.length x0) (281474976710656:Nat):Bool))
        (Tr.test ((Nat.beq ((0:Nat) + List.length x0) (List.length ([]++x0)):Bool))
          (Tr.fin ((([]++x0:List Int),())))
          (Tr.stop))
        (Tr.stop)))

def f51 (d:Tys.data as51):Option (Tys.data rs51):=(t51 d.1).val
def g51 (d:Tys.data as51):Tys.data rs51:=(f51 d).getD (Tys.dflt rs51)
def p51:PureC:=pcOf as51 rs51 f51 g51

theorem wk51 (x0:(List Int)):Walks (runPure (kf79 Go.Proofs.Try.prog).orc Go.Proofs.Try.prog 400 51 as51 rs51 (x0,())) (t51 x0) [([false,false,true,true],[2,4,6,8,0,8])] :=
  ⟨by kernel_rfl,trivial⟩

theorem ok51_t (x0:(List Int)):TrOk (PureRuns Go.Proofs.Try.prog (kf79 Go.Proofs.Try.prog).orc 51 as51 rs51 (x0,())) (t51 x0) :=
  Walks.ok (fun _ _ _=>PureRuns.of) (wk51 x0) (by kernel_rfl)

theorem ok51:PureOk Go.Proofs.Try.prog 51 p51:=pureOk_of kf79_ok.base (T:=fun (d:Tys.data as51)=>t51 d.1) (by kernel_rfl) (fun (d:Tys.data as51)=>ok51_t d.1)
def kf51 (P:Go.Program):Known:=(kf79 P).func 51 p51
theorem kf51_ok:KnownOk Go.Proofs.Try.prog (kf51 Go.Proofs.Try.prog):=kf79_ok.func ok51

theorem sc11_0:sameRf Go.Proofs.Try.prog 11 0 = true:=sameRf_ok (by kernel_rfl)

/-! loop 0 of (ductility/modal.frame).determinants$1 -/

abbrev sh77_0 (P:Go.Program):Sh:={ n:=49,slots:=[0,1,3,4,13,14,15],pats:=[.yld 0,.ptr 1 2 0,.ptr 2 5 0,.ptr 3 5 0,.ty (.slice (.int .i64)),.ty (.int .i64),.ty (.int .i64)],boxes:=[.lp (lpOf P 11 0 .ready none 26 [6] 4) [.ptr 5 5 0],.row [.ty (.slice (.int .i64)),.ty (.slice (.int .i64))],.row [.ty (.int .i64),.ty (.int .i64),.ty (.int .i64),.ty (.int .i64),.ty (.int .i64)],.row [.ty (.int .i64),.ty (.int .i64),.ty (.int .i64),.ty (.int .i64),.ty (.int .i64)],.dfr,.row [.ty (.int .i64),.ty (.int .i64),.ty (.int .i64),.ty (.int .i64),.ty (.int .i64)]] }
abbrev shb77_0 (P:Go.Program):Sh:={ n:=49,slots:=[0,4],pats:=[.yld 0,.ptr 3 5 0],boxes:=[.lp (lpOf P 11 0 .ready none 26 [6] 4) [.ptr 5 5 0],.row [.ty (.slice (.int .i64)),.ty (.slice (.int .i64))],.row [.ty (.int .i64),.ty (.int .i64),.ty (.int .i64),.ty (.int .i64),.ty (.int .i64)],.row [.ty (.int .i64),.ty (.int .i64),.ty (.int .i64),.ty (.int .i64),.ty (.int .i64)],.dfr,.row [.ty (.int .i64),.ty (.int .i64),.ty (.int .i64),.ty (.int .i64),.ty (.int .i64)]] }
abbrev shr77_0 (P:Go.Program):Sh:={ n:=49,slots:=[],pats:=[],boxes:=[.lp (lpOf P 11 0 .ready none 26 [6] 4) [.ptr 5 5 0],.row [.ty (.slice (.int .i64)),.ty (.slice (.int .i64))],.row [.ty (.int .i64),.ty (.int .i64),.ty (.int .i64),.ty (.int .i64),.ty (.int .i64)],.row [.ty (.int .i64),.ty (.int .i64),.ty (.int .i64),.ty (.int .i64),.ty (.int .i64)],.dfr,.row [.ty (.int .i64),.ty (.int .i64),.ty (.int .i64),.ty (.int .i64),.ty (.int .i64)]] }

abbrev dt77_0:Type:=(List Int×Int×Int×PUnit)×PUnit×(List Int×List Int×PUnit)×(Int×Int×Int×Int×Int×PUnit)×(Int×Int×Int×Int×Int×PUnit)×(Int×Int×Int×Int×Int×PUnit)×PUnit
abbrev db77_0:Type:=PUnit×PUnit×(List Int×List Int×PUnit)×(Int×Int×Int×Int×Int×PUnit)×(Int×Int×Int×Int×Int×PUnit)×(Int×Int×Int×Int×Int×PUnit)×PUnit
abbrev dr77_0:Type:=PUnit×PUnit×(List Int×List Int×PUnit)×(Int×Int×Int×Int×Int×PUnit)×(Int×Int×Int×Int×Int×PUnit)×(Int×Int×Int×Int×Int×PUnit)×PUnit

def t77_0 (x4:(List Int)) (x5:Int) (x6:Int) (b1_0:(List Int)) (b1_1:(List Int)) (b2_0:Int) (b2_1:Int) (b2_2:Int) (b2_3:Int) (b2_4:Int) (b3_0:Int) (b3_1:Int) (b3_2:Int) (b3_3:Int) (b3_4:Int) (b5_0:Int) (b5_1:Int) (b5_2:Int) (b5_3:Int) (b5_4:Int):Tr (Out dt77_0 db77_0 dr77_0) :=
  Tr.test ((!leF x5 x6:Bool))
    (Tr.test (decide ((0:Int) ≤ x6) && decide (x6 < (↑(List.length x4):Int)))
      (Tr.test ((decide ((0:Int) ≤ x6) && decide (x6 < (↑(List.length b1_1):Int)):Bool))
        (Tr.test (Option.isSome (f52 (((b1_0,(b1_1,())),()),(x6,()))))
          (let r0:=g52 (((b1_0,(b1_1,())),()),(x6,()));
          Tr.test (Option.isSome (f78 ((b3_0,(b3_1,(b3_2,(b3_3,(b3_4,()))))),(r0.1,((Go.IntKind.wrap Go.IntKind.i64 ((0:Int) - List.getD x4 (Int.toNat x6) (0:Int)):Int),())))))
            (Tr.test (Option.isSome (f78 ((b2_0,(b2_1,(b2_2,(b2_3,(b2_4,()))))),((wrap64 (List.getD b1_1 (Int.toNat x6) (0:Int) * List.getD b1_1 (Int.toNat x6) (0:Int)):Int),((0:Int),())))))
              (let r1:=g78 ((b3_0,(b3_1,(b3_2,(b3_3,(b3_4,()))))),(r0.1,((Go.IntKind.wrap Go.IntKind.i64 ((0:Int) - List.getD x4 (Int.toNat x6) (0:Int)):Int),())));
              let r2:=g78 ((b2_0,(b2_1,(b2_2,(b2_3,(b2_4,()))))),((wrap64 (List.getD b1_1 (Int.toNat x6) (0:Int) * List.getD b1_1 (Int.toNat x6) (0:Int)):Int),((0:Int),())));
              Tr.test (Option.isSome (f79 ((r1.1.1,(r1.1.2.1,(r1.1.2.2.1,(r1.1.2.2.2.1,(r1.1.2.2.2.2.1,()))))),((r2.1.1,(r2.1.2.1,(r2.1.2.2.1,(r2.1.2.2.2.1,(r2.1.2.2.2.2.1,()))))),()))))
                (let r3:=g79 ((r1.1.1,(r1.1.2.1,(r1.1.2.2.1,(r1.1.2.2.2.1,(r1.1.2.2.2.2.1,()))))),((r2.1.1,(r2.1.2.1,(r2.1.2.2.1,(r2.1.2.2.2.1,(r2.1.2.2.2.2.1,()))))),()));
                Tr.fin (.again ((x4,(x5,((wrap64 (x6 + (1:Int)):Int),()))),((),((b1_0,(b1_1,())),((b3_0,(b3_1,(b3_2,(b3_3,(b3_4,()))))),((r3.1.1,(r3.1.2.1,(r3.1.2.2.1,(r3.1.2.2.2.1,(r3.1.2.2.2.2.1,()))))),((b3_0,(b3_1,(b3_2,(b3_3,(b3_4,()))))),()))))))))
                (Tr.stop))
              (Tr.stop))
            (Tr.stop))
          (Tr.stop))
        (Tr.stop))
      (Tr.stop))
    (Tr.fin (.brk ((),((),((b1_0,(b1_1,())),((b2_0,(b2_1,(b2_2,(b2_3,(b2_4,()))))),((b3_0,(b3_1,(b3_2,(b3_3,(b3_4,()))))),((b5_0,(b5_1,(b5_2,(b5_3,(b5_4,()))))),()))))))))

def s77_0 (d:dt77_0):Option (Out dt77_0 db77_0 dr77_0):=(t77_0 d.1.1 d.1.2.1 d.1.2.2.1 d.2.2.1.1 d.2.2.1.2.1 d.2.2.2.1.1 d.2.2.2.1.2.1 d.2.2.2.1.2.2.1 d.2.2.2.1.2.2.2.1 d.2.2.2.1.2.2.2.2.1 d.2.2.2.2.1.1 d.2.2.2.2.1.2.1 d.2.2.2.2.1.2.2.1 d.2.2.2.2.1.2.2.2.1 d.2.2.2.2.1.2.2.2.2.1 d.2.2.2.2.2.1.1 d.2.2.2.2.2.1.2.1 d.2.2.2.2.2.1.2.2.1 d.2.2.2.2.2.1.2.2.2.1 d.2.2.2.2.2.1.2.2.2.2.1).val
def l77_0 (d:dt77_0):Option (db77_0 ⊕ dr77_0):=itr s77_0 rounds d
def b77_0 (d:dt77_0):db77_0:=outB (((),((),((([]:List Int),(([]:List Int),())),(((0:Int),((0:Int),((0:Int),((0:Int),((0:Int),()))))),(((0:Int),((0:Int),((0:Int),((0:Int),((0:Int),()))))),(((0:Int),((0:Int),((0:Int),((0:Int),((0:Int),()))))),()))))))) (l77_0 d)
def lc77_0 (P:Go.Program):LoopC:=lcB (sh77_0 P) (shb77_0 P) (shr77_0 P) l77_0 b77_0

theorem e77_0_0 (x4:(List Int)) (x5:Int) (x6:Int) (b1_0:(List Int)) (b1_1:(List Int)) (b2_0:Int) (b2_1:Int) (b2_2:Int) (b2_3:Int) (b2_4:Int) (b3_0:Int) (b3_1:Int) (b3_2:Int) (b3_3:Int) (b3_4:Int) (b5_0:Int) (b5_1:Int) (b5_2:Int) (b5_3:Int) (b5_4:Int):runBody (kf51 Go.Proofs.Try.prog).orc Go.Proofs.Try.prog 400 77 0 (sh77_0 Go.Proofs.Try.prog) (shb77_0 Go.Proofs.Try.prog) (shr77_0 Go.Proofs.Try.prog) ((x4,x5,x6,()),(),(b1_0,b1_1,()),(b2_0,b2_1,b2_2,b2_3,b2_4,()),(b3_0,b3_1,b3_2,b3_3,b3_4,()),(b5_0,b5_1,b5_2,b5_3,b5_4,()),()) [tt,tt,ff,tt,tt,tt,tt,tt] =
    (let r0:=g52 (((b1_0,(b1_1,())),()),(x6,()));let r1:=g78 ((b3_0,(b3_1,(b3_2,(b3_3,(b3_4,()))))),(r0.1,((Go.IntKind.wrap Go.IntKind.i64 ((0:Int) - List.getD x4 (Int.toNat x6) (0:Int)):Int),())));let r2:=g78 ((b2_0,(b2_1,(b2_2,(b2_3,(b2_4,()))))),((wrap64 (List.getD b1_1 (Int.toNat x6) (0:Int) * List.getD b1_1 (Int.toNat x6) (0:Int)):Int),((0:Int),())));let r3:=g79 ((r1.1.1,(r1.1.2.1,(r1.1.2.2.1,(r1.1.2.2.2.1,(r1.1.2.2.2.2.1,()))))),((r2.1.1,(r2.1.2.1,(r2.1.2.2.1,(r2.1.2.2.2.1,(r2.1.2.2.2.2.1,()))))),())); some (.again ((x4,(x5,((wrap64 (x6 + (1:Int)):Int),()))),((),((b1_0,(b1_1,())),((b3_0,(b3_1,(b3_2,(b3_3,(b3_4,()))))),((r3.1.1,(r3.1.2.1,(r3.1.2.2.1,(r3.1.2.2.2.1,(r3.1.2.2.2.2.1,()))))),((b3_0,(b3_1,(b3_2,(b3_3,(b3_4,()))))),())))))),[(sameRf Go.Proofs.Try.prog (nat_lit 11) (nat_lit 0),true),(Option.isSome (f79 ((r1.1.1,(r1.1.2.1,(r1.1.2.2.1,(r1.1.2.2.2.1,(r1.1.2.2.2.2.1,()))))),((r2.1.1,(r2.1.2.1,(r2.1.2.2.1,(r2.1.2.2.2.1,(r2.1.2.2.2.2.1,()))))),()))),true),(Option.isSome (f78 ((b2_0,(b2_1,(b2_2,(b2_3,(b2_4,()))))),((wrap64 (List.getD b1_1 (Int.toNat x6) (0:Int) * List.getD b1_1 (Int.toNat x6) (0:Int)):Int),((0:Int),())))),true),(Option.isSome (f78 ((b3_0,(b3_1,(b3_2,(b3_3,(b3_4,()))))),(r0.1,((Go.IntKind.wrap Go.IntKind.i64 ((0:Int) - List.getD x4 (Int.toNat x6) (0:Int)):Int),())))),true),(Option.isSome (f52 (((b1_0,(b1_1,())),()),(x6,()))),true),(decide ((0:Int) ≤ x6) && decide (x6 < (↑(List.length b1_1):Int)),true),(false,false),(decide ((0:Int) ≤ x6) && decide (x6 < (↑(List.length x4):Int)),true),(!leF x5 x6,true)])):=by kernel_rfl
theorem e77_0_3 (x4:(List Int)) (x5:Int) (x6:Int) (b1_0:(List Int)) (b1_1:(List Int)) (b2_0:Int) (b2_1:Int) (b2_2:Int) (b2_3:Int) (b2_4:Int) (b3_0:Int) (b3_1:Int) (b3_2:Int) (b3_3:Int) (b3_4:Int) (b5_0:Int) (b5_1:Int) (b5_2:Int) (b5_3:Int) (b5_4:Int):runBody (kf51 Go.Proofs.Try.prog).orc Go.Proofs.Try.prog 400 77 0 (sh77_0 Go.Proofs.Try.prog) (shb77_0 Go.Proofs.Try.prog) (shr77_0 Go.Proofs.Try.prog) ((x4,x5,x6,()),(),(b1_0,b1_1,()),(b2_0,b2_1,b2_2,b2_3,b2_4,()),(b3_0,b3_1,b3_2,b3_3,b3_4,()),(b5_0,b5_1,b5_2,b5_3,b5_4,()),()) [ff] =
    (some (.brk ((),((),((b1_0,(b1_1,())),((b2_0,(b2_1,(b2_2,(b2_3,(b2_4,()))))),((b3_0,(b3_1,(b3_2,(b3_3,(b3_4,()))))),((b5_0,(b5_1,(b5_2,(b5_3,(b5_4,()))))),())))))),[(sameRf Go.Proofs.Try.prog (nat_lit 11) (nat_lit 0),true),(!leF x5 x6,false)])):=by kernel_rfl

theorem ok77_0_t (x4:(List Int)) (x5:Int) (x6:Int) (b1_0:(List Int)) (b1_1:(List Int)) (b2_0:Int) (b2_1:Int) (b2_2:Int) (b2_3:Int) (b2_4:Int) (b3_0:Int) (b3_1:Int) (b3_2:Int) (b3_3:Int) (b3_4:Int) (b5_0:Int) (b5_1:Int) (b5_2:Int) (b5_3:Int) (b5_4:Int):TrOk (BodyRuns Go.Proofs.Try.prog (kf51 Go.Proofs.Try.prog).orc 77 0 (sh77_0 Go.Proofs.Try.prog) (shb77_0 Go.Proofs.Try.prog) (shr77_0 Go.Proofs.Try.prog) ((x4,x5,x6,()),(),(b1_0,b1_1,()),(b2_0,b2_1,b2_2,b2_3,b2_4,()),(b3_0,b3_1,b3_2,b3_3,b3_4,()),(b5_0,b5_1,b5_2,b5_3,b5_4,()),())) (t77_0 x4 x5 x6 b1_0 b1_1 b2_0 b2_1 b2_2 b2_3 b2_4 b3_0 b3_1 b3_2 b3_3 b3_4 b5_0 b5_1 b5_2 b5_3 b5_4) :=
  TrOk.ofTest (fun h0=>TrOk.ofTest (fun h1=>TrOk.ofTest (fun h3=>TrOk.ofTest (fun h4=>TrOk.ofTest (fun h5=>TrOk.ofTest (fun h6=>TrOk.ofTest (fun h7=>TrOk.ofFin (BodyRuns.of (e77_0_0 x4 x5 x6 b1_0 b1_1 b2_0 b2_1 b2_2 b2_3 b2_4 b3_0 b3_1 b3_2 b3_3 b3_4 b5_0 b5_1 b5_2 b5_3 b5_4) (ac (sc11_0) (ac h7 (ac h6 (ac h5 (ac h4 (ac h3 (ac rfl (ac h1 (ac h0 All.nil))))))))))) (fun h7=>TrOk.ofStop)) (fun h6=>TrOk.ofStop)) (fun h5=>TrOk.ofStop)) (fun h4=>TrOk.ofStop)) (fun h3=>TrOk.ofStop)) (fun h1=>TrOk.ofStop)) (fun h0=>TrOk.ofFin (BodyRuns.of (e77_0_3 x4 x5 x6 b1_0 b1_1 b2_0 b2_1 b2_2 b2_3 b2_4 b3_0 b3_1 b3_2 b3_3 b3_4 b5_0 b5_1 b5_2 b5_3 b5_4) (ac (sc11_0) (ac h0 All.nil))))

theorem ok77_0:LoopOk Go.Proofs.Try.prog 77 0 (lc77_0 Go.Proofs.Try.prog):=loopOk_ofB (sh:=(sh77_0 Go.Proofs.Try.prog)) (shB:=(shb77_0 Go.Proofs.Try.prog)) (shR:=(shr77_0 Go.Proofs.Try.prog)) kf51_ok.base (T:=fun (d:dt77_0)=>t77_0 d.1.1 d.1.2.1 d.1.2.2.1 d.2.2.1.1 d.2.2.1.2.1 d.2.2.2.1.1 d.2.2.2.1.2.1 d.2.2.2.1.2.2.1 d.2.2.2.1.2.2.2.1 d.2.2.2.1.2.2.2.2.1 d.2.2.2.2.1.1 d.2.2.2.2.1.2.1 d.2.2.2.2.1.2.2.1 d.2.2.2.2.1.2.2.2.1 d.2.2.2.2.1.2.2.2.2.1 d.2.2.2.2.2.1.1 d.2.2.2.2.2.1.2.1 d.2.2.2.2.2.1.2.2.1 d.2.2.2.2.2.1.2.2.2.1 d.2.2.2.2.2.1.2.2.2.2.1) (by kernel_rfl) rfl (fun (d:dt77_0)=>ok77_0_t d.1.1 d.1.2.1 d.1.2.2.1 d.2.2.1.1 d.2.2.1.2.1 d.2.2.2.1.1 d.2.2.2.1.2.1 d.2.2.2.1.2.2.1 d.2.2.2.1.2.2.2.1 d.2.2.2.1.2.2.2.2.1 d.2.2.2.2.1.1 d.2.2.2.2.1.2.1 d.2.2.2.2.1.2.2.1 d.2.2.2.2.1.2.2.2.1 d.2.2.2.2.1.2.2.2.2.1 d.2.2.2.2.2.1.1 d.2.2.2.2.2.1.2.1 d.2.2.2.2.2.1.2.2.1 d.2.2.2.2.2.1.2.2.2.1 d.2.2.2.2.2.1.2.2.2.2.1) (fun _=>rfl)
def kl77_0 (P:Go.Program):Known:=(kf51 P).loop 77 0 (lc77_0 P)
theorem kl77_0_ok:KnownOk Go.Proofs.Try.prog (kl77_0 Go.Proofs.Try.prog):=kf51_ok.loop ok77_0

/-! ductility/modal.PolynomialOf -/

abbrev as11:List Ty:=[(.pair (.slice (.int .i64)) (.pair (.slice (.int .i64)) .unit))]
abbrev rs11:List Ty:=[(.slice (.int .i64)),(.int .i64)]

def t11 (x0:(List Int)) (x0':(List Int)):Tr (Tys.data rs11) :=
  Tr.test (Option.isSome (f49 ((x0,(x0',())),(([]:List Int),()))))
    (let r0:=g49 ((x0,(x0',())),(([]:List Int),()));
    Tr.test ((!eqF r0.2.1 0:Bool))
      (Tr.fin ((([]:List Int),(r0.2.1,()))))
      (Tr.test (isBrk (l77_0 ((r0.1.1.1,((↑(List.length r0.1.1.1):Int),((0:Int),()))),((),((r0.1.1.1,(r0.1.1.2.1,())),(((0:Int),((0:Int),((0:Int),((0:Int),((0:Int),()))))),(((1:Int),((0:Int),((0:Int),((0:Int),((0:Int),()))))),(((0:Int),((0:Int),((0:Int),((0:Int),((0:Int),()))))),()))))))))
        (Tr.test ((decide ((0:Int) ≤ wrap64 ((↑(List.length x0):Int) + (1:Int))) && decide (wrap64 ((↑(List.length x0):Int) + (1:Int)) ≤ (5:Int)):Bool))
          (Tr.test ((Nat.ble ((0:Nat) + (Int.toNat (wrap64 ((↑(List.length x0):Int) + (1:Int))) - (0:Nat)) * (1:Nat)) (5:Nat):Bool))
            (Tr.test ((Nat.beq (Int.toNat (wrap64 ((↑(List.length x0):Int) + (1:Int))) - (0:Nat)) (5:Nat):Bool))
              (let r1:=b77_0 ((r0.1.1.1,((↑(List.length r0.1.1.1):Int),((0:Int),()))),((),((r0.1.1.1,(r0.1.1.2.1,())),(((0:Int),((0:Int),((0:Int),((0:Int),((0:Int),()))))),(((1:Int),((0:Int),((0:Int),((0:Int),((0:Int),()))))),(((0:Int),((0:Int),((0:Int),((0:Int),((0:Int),()))))),()))))));
              Tr.test (Option.isSome (f51 (([r1.2.2.2.2.1.1,r1.2.2.2.2.1.2.1,r1.2.2.2.2.1.2.2.1,r1.2.2.2.2.1.2.2.2.1,r1.2.2.2.2.1.2.2.2.2.1]:List Int),())))
                (let r2:=g51 (([r1.2.2.2.2.1.1,r1.2.2.2.2.1.2.1,r1.2.2.2.2.1.2.2.1,r1.2.2.2.2.1.2.2.2.1,r1.2.2.2.2.1.2.2.2.2.1]:List Int),());
                Tr.fin ((r2.1,((0:Int),()))))
                (Tr.stop))
              (let r1:=b77_0 ((r0.1.1.1,((↑(List.length r0.1.1.1):Int),((0:Int),()))),((),((r0.1.1.1,(r0.1.1.2.1,())),(((0:Int),((0:Int),((0:Int),((0:Int),((0:Int),()))))),(((1:Int),((0:Int),((0:Int),((0:Int),((0:Int),()))))),(((0:Int),((0:Int),((0:Int),((0:Int),((0:Int),()))))),()))))));
              Tr.test (Option.isSome (f51 ((List.take (Int.toNat (wrap64 ((↑(List.length x0):Int) + (1:Int))) - (0:Nat)) [r1.2.2.2.2.1.1,r1.2.2.2.2.1.2.1,r1.2.2.2.2.1.2.2.1,r1.2.2.2.2.1.2.2.2.1,r1.2.2.2.2.1.2.2.2.2.1]:List Int),())))
                (let r3:=g51 ((List.take (Int.toNat (wrap64 ((↑(List.length x0):Int) + (1:Int))) - (0:Nat)) [r1.2.2.2.2.1.1,r1.2.2.2.2.1.2.1,r1.2.2.2.2.1.2.2.1,r1.2.2.2.2.1.2.2.2.1,r1.2.2.2.2.1.2.2.2.2.1]:List Int),());
                Tr.fin ((r3.1,((0:Int),()))))
                (Tr.stop)))
            (Tr.stop /- a known call [op 5 of region 8 of F11] -/))
          (Tr.stop))
        (Tr.stop)))
    (Tr.stop)

def f11 (d:Tys.data as11):Option (Tys.data rs11):=(t11 d.1.1 d.1.2.1).val
def g11 (d:Tys.data as11):Tys.data rs11:=(f11 d).getD (Tys.dflt rs11)
def p11:PureC:=pcOf as11 rs11 f11 g11

theorem e11_0 (x0:(List Int)) (x0':(List Int)):runPure (kl77_0 Go.Proofs.Try.prog).orc Go.Proofs.Try.prog 400 11 as11 rs11 ((x0,x0',()),()) [tt,tt] =
    (let r0:=g49 ((x0,(x0',())),(([]:List Int),())); some ((([]:List Int),(r0.2.1,())),[(!eqF r0.2.1 0,true),(Option.isSome (f49 ((x0,(x0',())),(([]:List Int),()))),true)])):=by kernel_rfl
theorem e11_1 (x0:(List Int)) (x0':(List Int)):runPure (kl77_0 Go.Proofs.Try.prog).orc Go.Proofs.Try.prog 400 11 as11 rs11 ((x0,x0',()),()) [tt,ff,tt,tt,tt,tt,tt,tt,tt] =
    (let r0:=g49 ((x0,(x0',())),(([]:List Int),()));let r1:=b77_0 ((r0.1.1.1,((↑(List.length r0.1.1.1):Int),((0:Int),()))),((),((r0.1.1.1,(r0.1.1.2.1,())),(((0:Int),((0:Int),((0:Int),((0:Int),((0:Int),()))))),(((1:Int),((0:Int),((0:Int),((0:Int),((0:Int),()))))),(((0:Int),((0:Int),((0:Int),((0:Int),((0:Int),()))))),()))))));let r2:=g51 (([r1.2.2.2.2.1.1,r1.2.2.2.2.1.2.1,r1.2.2.2.2.1.2.2.1,r1.2.2.2.2.1.2.2.2.1,r1.2.2.2.2.1.2.2.2.2.1]:List Int),()); some ((r2.1,((0:Int),())),[(Option.isSome (f51 (([r1.2.2.2.2.1.1,r1.2.2.2.2.1.2.1,r1.2.2.2.2.1.2.2.1,r1.2.2.2.2.1.2.2.2.1,r1.2.2.2.2.1.2.2.2.2.1]:List Int),())),true),(Nat.beq (Int.toNat (wrap64 ((↑(List.length x0):Int) + (1:Int))) - (0:Nat)) (5:Nat),true),(Nat.ble ((0:Nat) + (Int.toNat (wrap64 ((↑(List.length x0):Int) + (1:Int))) - (0:Nat)) * (1:Nat)) (5:Nat),true),(decide ((0:Int) ≤ wrap64 ((↑(List.length x0):Int) + (1:Int))) && decide (wrap64 ((↑(List.length x0):Int) + (1:Int)) ≤ (5:Int)),true),(true,true),(isBrk (l77_0 ((r0.1.1.1,((↑(List.length r0.1.1.1):Int),((0:Int),()))),((),((r0.1.1.1,(r0.1.1.2.1,())),(((0:Int),((0:Int),((0:Int),((0:Int),((0:Int),()))))),(((1:Int),((0:Int),((0:Int),((0:Int),((0:Int),()))))),(((0:Int),((0:Int),((0:Int),((0:Int),((0:Int),()))))),()))))))),true),(sameRf Go.Proofs.Try.prog (nat_lit 11) (nat_lit 0),true),(!eqF r0.2.1 0,false),(Option.isSome (f49 ((x0,(x0',())),(([]:List Int),()))),true)])):=by kernel_rfl
theorem e11_2 (x0:(List Int)) (x0':(List Int)):runPure (kl77_0 Go.Proofs.Try.prog).orc Go.Proofs.Try.prog 400 11 as11 rs11 ((x0,x0',()),()) [tt,ff,tt,tt,tt,tt,tt,ff,tt] =
    (let r0:=g49 ((x0,(x0',())),(([]:List Int),()));let r1:=b77_0 ((r0.1.1.1,((↑(List.length r0.1.1.1):Int),((0:Int),()))),((),((r0.1.1.1,(r0.1.1.2.1,())),(((0:Int),((0:Int),((0:Int),((0:Int),((0:Int),()))))),(((1:Int),((0:Int),((0:Int),((0:Int),((0:Int),()))))),(((0:Int),((0:Int),((0:Int),((0:Int),((0:Int),()))))),()))))));let r3:=g51 ((List.take (Int.toNat (wrap64 ((↑(List.length x0):Int) + (1:Int))) - (0:Nat)) [r1.2.2.2.2.1.1,r1.2.2.2.2.1.2.1,r1.2.2.2.2.1.2.2.1,r1.2.2.2.2.1.2.2.2.1,r1.2.2.2.2.1.2.2.2.2.1]:List Int),()); some ((r3.1,((0:Int),())),[(Option.isSome (f51 ((List.take (Int.toNat (wrap64 ((↑(List.length x0):Int) + (1:Int))) - (0:Nat)) [r1.2.2.2.2.1.1,r1.2.2.2.2.1.2.1,r1.2.2.2.2.1.2.2.1,r1.2.2.2.2.1.2.2.2.1,r1.2.2.2.2.1.2.2.2.2.1]:List Int),())),true),(Nat.beq (Int.toNat (wrap64 ((↑(List.length x0):Int) + (1:Int))) - (0:Nat)) (5:Nat),false),(Nat.ble ((0:Nat) + (Int.toNat (wrap64 ((↑(List.length x0):Int) + (1:Int))) - (0:Nat)) * (1:Nat)) (5:Nat),true),(decide ((0:Int) ≤ wrap64 ((↑(List.length x0):Int) + (1:Int))) && decide (wrap64 ((↑(List.length x0):Int) + (1:Int)) ≤ (5:Int)),true),(true,true),(isBrk (l77_0 ((r0.1.1.1,((↑(List.length r0.1.1.1):Int),((0:Int),()))),((),((r0.1.1.1,(r0.1.1.2.1,())),(((0:Int),((0:Int),((0:Int),((0:Int),((0:Int),()))))),(((1:Int),((0:Int),((0:Int),((0:Int),((0:Int),()))))),(((0:Int),((0:Int),((0:Int),((0:Int),((0:Int),()))))),()))))))),true),(sameRf Go.Proofs.Try.prog (nat_lit 11) (nat_lit 0),true),(!eqF r0.2.1 0,false),(Option.isSome (f49 ((x0,(x0',())),(([]:List Int),()))),true)])):=by kernel_rfl

theorem ok11_t (x0:(List Int)) (x0':(List Int)):TrOk (PureRuns Go.Proofs.Try.prog (kl77_0 Go.Proofs.Try.prog).orc 11 as11 rs11 ((x0,x0',()),())) (t11 x0 x0') :=
  TrOk.ofTest (fun h0=>TrOk.ofTest (fun h1=>TrOk.ofFin (PureRuns.of (e11_0 x0 x0') (ac h1 (ac h0 All.nil)))) (fun h1=>TrOk.ofTest (fun h3=>TrOk.ofTest (fun h5=>TrOk.ofTest (fun h6=>TrOk.ofTest (fun h7=>TrOk.ofTest (fun h8=>TrOk.ofFin (PureRuns.of (e11_1 x0 x0') (ac h8 (ac h7 (ac h6 (ac h5 (ac rfl (ac h3 (ac (sc11_0) (ac h1 (ac h0 All.nil))))))))))) (fun h8=>TrOk.ofStop)) (fun h7=>TrOk.ofTest (fun h8=>TrOk.ofFin (PureRuns.of (e11_2 x0 x0') (ac h8 (ac h7 (ac h6 (ac h5 (ac rfl (ac h3 (ac (sc11_0) (ac h1 (ac h0 All.nil))))))))))) (fun h8=>TrOk.ofStop))) (fun h6=>TrOk.ofStop)) (fun h5=>TrOk.ofStop)) (fun h3=>TrOk.ofStop))) (fun h0=>TrOk.ofStop)

theorem ok11:PureOk Go.Proofs.Try.prog 11 p11:=pureOk_of kl77_0_ok.base (T:=fun (d:Tys.data as11)=>t11 d.1.1 d.1.2.1) (by kernel_rfl) (fun (d:Tys.data as11)=>ok11_t d.1.1 d.1.2.1)
def kf11 (P:Go.Program):Known:=(kl77_0 P).func 11 p11
theorem kf11_ok:KnownOk Go.Proofs.Try.prog (kf11 Go.Proofs.Try.prog):=kl77_0_ok.func ok11

/-! ductility/modal.denError -/

abbrev as56:List Ty:=[(.int .i64)]
abbrev rs56:List Ty:=[(.int .i64)]

def t56 (x0:Int):Tr (Tys.data rs56) :=
  Tr.test (Option.isSome (f48 ((1:Int),((50:Int),(([x0]:List Int),())))))
    (let r0:=g48 ((1:Int),((50:Int),(([x0]:List Int),())));
    Tr.test (Option.isSome (f45 ((!r0.1:Bool),((2:Int),()))))
      (let r1:=g45 ((!r0.1:Bool),((2:Int),()));
      Tr.fin ((r1.1,())))
      (Tr.stop))
    (Tr.stop)

def f56 (d:Tys.data as56):Option (Tys.data rs56):=(t56 d.1).val
def g56 (d:Tys.data as56):Tys.data rs56:=(f56 d).getD (Tys.dflt rs56)
def p56:PureC:=pcOf as56 rs56 f56 g56

theorem wk56 (x0:Int):Walks (runPure (kf11 Go.Proofs.Try.prog).orc Go.Proofs.Try.prog 400 56 as56 rs56 (x0,())) (t56 x0) [([true,true],[2,4,1])] :=
  ⟨by kernel_rfl,trivial⟩

theorem ok56_t (x0:Int):TrOk (PureRuns Go.Proofs.Try.prog (kf11 Go.Proofs.Try.prog).orc 56 as56 rs56 (x0,())) (t56 x0) :=
  Walks.ok (fun _ _ _=>PureRuns.of) (wk56 x0) (by kernel_rfl)

theorem ok56:PureOk Go.Proofs.Try.prog 56 p56:=pureOk_of kf11_ok.base (T:=fun (d:Tys.data as56)=>t56 d.1) (by kernel_rfl) (fun (d:Tys.data as56)=>ok56_t d.1)
def kf56 (P:Go.Program):Known:=(kf11 P).func 56 p56
theorem kf56_ok:KnownOk Go.Proofs.Try.prog (kf56 Go.Proofs.Try.prog):=kf11_ok.func ok56

/-! (ductility/modal.polynomial).at -/

abbrev as89:List Ty:=[(.pair (.int .i64) (.pair (.int .i64) (.pair (.int .i64) (.pair (.int .i64) (.pair (.int .i64) .unit))))),(.pair (.int .i64) (.pair (.int .i64) .unit))]
abbrev rs89:List Ty:=[(.int .i64)]

def t89 (x0:Int) (x0':Int) (x0'':Int) (x0''':Int) (x0'''':Int) (x1:Int) (x1':Int):Tr (Tys.data rs89) :=
  Tr.fin (((wrap64 (wrap64 (wrap64 (wrap64 (wrap64 (wrap64 (wrap64 (wrap64 (wrap64 (wrap64 ((0:Int) * x1) + wrap64 (x0'''' * (1:Int))) * x1) + wrap64 (x0''' * wrap64 ((1:Int) * x1'))) * x1) + wrap64 (x0'' * wrap64 (wrap64 ((1:Int) * x1') * x1'))) * x1) + wrap64 (x0' * wrap64 (wrap64 (wrap64 ((1:Int) * x1') * x1') * x1'))) * x1) + wrap64 (x0 * wrap64 (wrap64 (wrap64 (wrap64 ((1:Int) * x1') * x1') * x1') * x1'))):Int),()))

def f89 (d:Tys.data as89):Option (Tys.data rs89):=(t89 d.1.1 d.1.2.1 d.1.2.2.1 d.1.2.2.2.1 d.1.2.2.2.2.1 d.2.1.1 d.2.1.2.1).val
def g89 (d:Tys.data as89):Tys.data rs89:=(f89 d).getD (Tys.dflt rs89)
def p89:PureC:=pcOf as89 rs89 f89 g89

theorem wk89 (x0:Int) (x0':Int) (x0'':Int) (x0''':Int) (x0'''':Int) (x1:Int) (x1':Int):Walks (runPure (kf56 Go.Proofs.Try.prog).orc Go.Proofs.Try.prog 400 89 as89 rs89 ((x0,x0',x0'',x0''',x0'''',()),(x1,x1',()),())) (t89 x0 x0' x0'' x0''' x0'''' x1 x1') [([],[0,0,1,1,0,1,1,0,1,1,0,1,1,0,1,1])] :=
  ⟨by kernel_rfl,trivial⟩

theorem ok89_t (x0:Int) (x0':Int) (x0'':Int) (x0''':Int) (x0'''':Int) (x1:Int) (x1':Int):TrOk (PureRuns Go.Proofs.Try.prog (kf56 Go.Proofs.Try.prog).orc 89 as89 rs89 ((x0,x0',x0'',x0''',x0'''',()),(x1,x1',()),())) (t89 x0 x0' x0'' x0''' x0'''' x1 x1') :=
  Walks.ok (fun _ _ _=>PureRuns.of) (wk89 x0 x0' x0'' x0''' x0'''' x1 x1') (by kernel_rfl)

theorem ok89:PureOk Go.Proofs.Try.prog 89 p89:=pureOk_of kf56_ok.base (T:=fun (d:Tys.data as89)=>t89 d.1.1 d.1.2.1 d.1.2.2.1 d.1.2.2.2.1 d.1.2.2.2.2.1 d.2.1.1 d.2.1.2.1) (by kernel_rfl) (fun (d:Tys.data as89)=>ok89_t d.1.1 d.1.2.1 d.1.2.2.1 d.1.2.2.2.1 d.1.2.2.2.2.1 d.2.1.1 d.2.1.2.1)
def kf89 (P:Go.Program):Known:=(kf56 P).func 89 p89
theorem kf89_ok:KnownOk Go.Proofs.Try.prog (kf89 Go.Proofs.Try.prog):=kf56_ok.func ok89

theorem sc63_0:sameRf Go.Proofs.Try.prog 63 0 = true:=sameRf_ok (by kernel_rfl)

/-! loop 0 of (ductility/modal.frame).determinants$1 -/

abbrev sh77_0_1 (P:Go.Program):Sh:={ n:=49,slots:=[0,1,3,4,13,14,15],pats:=[.yld 0,.ptr 1 2 0,.ptr 2 5 0,.ptr 3 5 0,.ty (.slice (.int .i64)),.ty (.int .i64),.ty (.int .i64)],boxes:=[.lp (lpOf P 63 0 .ready none 17 [3,5] 4) [.ptr 5 2 0,.ptr 6 1 0],.row [.ty (.slice (.int .i64)),.ty (.slice (.int .i64))],.row [.ty (.int .i64),.ty (.int .i64),.ty (.int .i64),.ty (.int .i64),.ty (.int .i64)],.row [.ty (.int .i64),.ty (.int .i64),.ty (.int .i64),.ty (.int .i64),.ty (.int .i64)],.dfr,.row [.ty (.int .i64),.ty (.int .i64)],.row [.acc (.int .i64)]] }
abbrev shb77_0_1 (P:Go.Program):Sh:={ n:=49,slots:=[0,4],pats:=[.yld 0,.ptr 3 5 0],boxes:=[.lp (lpOf P 63 0 .ready none 17 [3,5] 4) [.ptr 5 2 0,.ptr 6 1 0],.row [.ty (.slice (.int .i64)),.ty (.slice (.int .i64))],.row [.ty (.int .i64),.ty (.int .i64),.ty (.int .i64),.ty (.int .i64),.ty (.int .i64)],.row [.ty (.int .i64),.ty (.int .i64),.ty (.int .i64),.ty (.int .i64),.ty (.int .i64)],.dfr,.row [.ty (.int .i64),.ty (.int .i64)],.row [.acc (.int .i64)]] }
abbrev shr77_0_1 (P:Go.Program):Sh:={ n:=49,slots:=[],pats:=[],boxes:=[.lp (lpOf P 63 0 .ready none 17 [3,5] 4) [.ptr 5 2 0,.ptr 6 1 0],.row [.ty (.slice (.int .i64)),.ty (.slice (.int .i64))],.row [.ty (.int .i64),.ty (.int .i64),.ty (.int .i64),.ty (.int .i64),.ty (.int .i64)],.row [.ty (.int .i64),.ty (.int .i64),.ty (.int .i64),.ty (.int .i64),.ty (.int .i64)],.dfr,.row [.ty (.int .i64),.ty (.int .i64)],.row [.acc (.int .i64)]] }

abbrev dt77_0_1:Type:=(List Int×Int×Int×PUnit)×PUnit×(List Int×List Int×PUnit)×(Int×Int×Int×Int×Int×PUnit)×(Int×Int×Int×Int×Int×PUnit)×(Int×Int×PUnit)×(List Int×PUnit)×PUnit
abbrev db77_0_1:Type:=PUnit×PUnit×(List Int×List Int×PUnit)×(Int×Int×Int×Int×Int×PUnit)×(Int×Int×Int×Int×Int×PUnit)×(Int×Int×PUnit)×(List Int×PUnit)×PUnit
abbrev dr77_0_1:Type:=PUnit×PUnit×(List Int×List Int×PUnit)×(Int×Int×Int×Int×Int×PUnit)×(Int×Int×Int×Int×Int×PUnit)×(Int×Int×PUnit)×(List Int×PUnit)×PUnit

def t77_0_1 (x4:(List Int)) (x5:Int) (x6:Int) (b1_0:(List Int)) (b1_1:(List Int)) (b2_0:Int) (b2_1:Int) (b2_2:Int) (b2_3:Int) (b2_4:Int) (b3_0:Int) (b3_1:Int) (b3_2:Int) (b3_3:Int) (b3_4:Int) (b5_0:Int) (b5_1:Int) (b6_0:(List Int)):Tr (Out dt77_0_1 db77_0_1 dr77_0_1) :=
  Tr.test ((!leF x5 x6:Bool))
    (Tr.test (decide ((0:Int) ≤ x6) && decide (x6 < (↑(List.length x4):Int)))
      (Tr.test (Option.isSome (f89 ((b3_0,(b3_1,(b3_2,(b3_3,(b3_4,()))))),((b5_0,(b5_1,())),()))))
        (Tr.test ((Nat.ble (((2:Nat) * (List.length b6_0 + (1:Nat)) + (192:Nat)) * (8:Nat)) (281474976710656:Nat) && Nat.ble (List.length b6_0 + (1:Nat)) (281474976710656:Nat):Bool))
          (Tr.test ((decide ((0:Int) ≤ x6) && decide (x6 < (↑(List.length b1_1):Int)):Bool))
            (Tr.test (Option.isSome (f52 (((b1_0,(b1_1,())),()),(x6,()))))
              (let r1:=g52 (((b1_0,(b1_1,())),()),(x6,()));
              Tr.test (Option.isSome (f78 ((b3_0,(b3_1,(b3_2,(b3_3,(b3_4,()))))),(r1.1,((Go.IntKind.wrap Go.IntKind.i64 ((0:Int) - List.getD x4 (Int.toNat x6) (0:Int)):Int),())))))
                (Tr.test (Option.isSome (f78 ((b2_0,(b2_1,(b2_2,(b2_3,(b2_4,()))))),((wrap64 (List.getD b1_1 (Int.toNat x6) (0:Int) * List.getD b1_1 (Int.toNat x6) (0:Int)):Int),((0:Int),())))))
                  (let r2:=g78 ((b3_0,(b3_1,(b3_2,(b3_3,(b3_4,()))))),(r1.1,((Go.IntKind.wrap Go.IntKind.i64 ((0:Int) - List.getD x4 (Int.toNat x6) (0:Int)):Int),())));
                  let r3:=g78 ((b2_0,(b2_1,(b2_2,(b2_3,(b2_4,()))))),((wrap64 (List.getD b1_1 (Int.toNat x6) (0:Int) * List.getD b1_1 (Int.toNat x6) (0:Int)):Int),((0:Int),())));
                  Tr.test (Option.isSome (f79 ((r2.1.1,(r2.1.2.1,(r2.1.2.2.1,(r2.1.2.2.2.1,(r2.1.2.2.2.2.1,()))))),((r3.1.1,(r3.1.2.1,(r3.1.2.2.1,(r3.1.2.2.2.1,(r3.1.2.2.2.2.1,()))))),()))))
                    (let r0:=g89 ((b3_0,(b3_1,(b3_2,(b3_3,(b3_4,()))))),((b5_0,(b5_1,())),()));
                    let r4:=g79 ((r2.1.1,(r2.1.2.1,(r2.1.2.2.1,(r2.1.2.2.2.1,(r2.1.2.2.2.2.1,()))))),((r3.1.1,(r3.1.2.1,(r3.1.2.2.1,(r3.1.2.2.2.1,(r3.1.2.2.2.2.1,()))))),()));
                    Tr.fin (.again ((x4,(x5,((wrap64 (x6 + (1:Int)):Int),()))),((),((b1_0,(b1_1,())),((b3_0,(b3_1,(b3_2,(b3_3,(b3_4,()))))),((r4.1.1,(r4.1.2.1,(r4.1.2.2.1,(r4.1.2.2.2.1,(r4.1.2.2.2.2.1,()))))),((b5_0,(b5_1,())),(((b6_0++[r0.1]:List Int),()),())))))))))
                    (Tr.stop))
                  (Tr.stop))
                (Tr.stop))
              (Tr.stop))
            (Tr.stop))
          (Tr.stop))
        (Tr.stop))
      (Tr.stop))
    (Tr.fin (.brk ((),((),((b1_0,(b1_1,())),((b2_0,(b2_1,(b2_2,(b2_3,(b2_4,()))))),((b3_0,(b3_1,(b3_2,(b3_3,(b3_4,()))))),((b5_0,(b5_1,())),((b6_0,()),())))))))))

def s77_0_1 (d:dt77_0_1):Option (Out dt77_0_1 db77_0_1 dr77_0_1):=(t77_0_1 d.1.1 d.1.2.1 d.1.2.2.1 d.2.2.1.1 d.2.2.1.2.1 d.2.2.2.1.1 d.2.2.2.1.2.1 d.2.2.2.1.2.2.1 d.2.2.2.1.2.2.2.1 d.2.2.2.1.2.2.2.2.1 d.2.2.2.2.1.1 d.2.2.2.2.1.2.1 d.2.2.2.2.1.2.2.1 d.2.2.2.2.1.2.2.2.1 d.2.2.2.2.1.2.2.2.2.1 d.2.2.2.2.2.1.1 d.2.2.2.2.2.1.2.1 d.2.2.2.2.2.2.1.1).val
def l77_0_1 (d:dt77_0_1):Option (db77_0_1 ⊕ dr77_0_1):=itr s77_0_1 rounds d
def b77_0_1 (d:dt77_0_1):db77_0_1:=outB (((),((),((([]:List Int),(([]:List Int),())),(((0:Int),((0:Int),((0:Int),((0:Int),((0:Int),()))))),(((0:Int),((0:Int),((0:Int),((0:Int),((0:Int),()))))),(((0:Int),((0:Int),())),((([]:List Int),()),())))))))) (l77_0_1 d)
def lc77_0_1 (P:Go.Program):LoopC:=lcB (sh77_0_1 P) (shb77_0_1 P) (shr77_0_1 P) l77_0_1 b77_0_1

theorem e77_0_1_0 (x4:(List Int)) (x5:Int) (x6:Int) (b1_0:(List Int)) (b1_1:(List Int)) (b2_0:Int) (b2_1:Int) (b2_2:Int) (b2_3:Int) (b2_4:Int) (b3_0:Int) (b3_1:Int) (b3_2:Int) (b3_3:Int) (b3_4:Int) (b5_0:Int) (b5_1:Int) (b6_0:(List Int)):runBody (kf89 Go.Proofs.Try.prog).orc Go.Proofs.Try.prog 400 77 0 (sh77_0_1 Go.Proofs.Try.prog) (shb77_0_1 Go.Proofs.Try.prog) (shr77_0_1 Go.Proofs.Try.prog) ((x4,x5,x6,()),(),(b1_0,b1_1,()),(b2_0,b2_1,b2_2,b2_3,b2_4,()),(b3_0,b3_1,b3_2,b3_3,b3_4,()),(b5_0,b5_1,()),(b6_0,()),()) [tt,tt,tt,ff,tt,tt,ff,tt,tt,tt,tt,tt] =
    (let r1:=g52 (((b1_0,(b1_1,())),()),(x6,()));let r2:=g78 ((b3_0,(b3_1,(b3_2,(b3_3,(b3_4,()))))),(r1.1,((Go.IntKind.wrap Go.IntKind.i64 ((0:Int) - List.getD x4 (Int.toNat x6) (0:Int)):Int),())));let r3:=g78 ((b2_0,(b2_1,(b2_2,(b2_3,(b2_4,()))))),((wrap64 (List.getD b1_1 (Int.toNat x6) (0:Int) * List.getD b1_1 (Int.toNat x6) (0:Int)):Int),((0:Int),())));let r0:=g89 ((b3_0,(b3_1,(b3_2,(b3_3,(b3_4,()))))),((b5_0,(b5_1,())),()));let r4:=g79 ((r2.1.1,(r2.1.2.1,(r2.1.2.2.1,(r2.1.2.2.2.1,(r2.1.2.2.2.2.1,()))))),((r3.1.1,(r3.1.2.1,(r3.1.2.2.1,(r3.1.2.2.2.1,(r3.1.2.2.2.2.1,()))))),())); some (.again ((x4,(x5,((wrap64 (x6 + (1:Int)):Int),()))),((),((b1_0,(b1_1,())),((b3_0,(b3_1,(b3_2,(b3_3,(b3_4,()))))),((r4.1.1,(r4.1.2.1,(r4.1.2.2.1,(r4.1.2.2.2.1,(r4.1.2.2.2.2.1,()))))),((b5_0,(b5_1,())),(((b6_0++[r0.1]:List Int),()),()))))))),[(sameRf Go.Proofs.Try.prog (nat_lit 63) (nat_lit 0),true),(Option.isSome (f79 ((r2.1.1,(r2.1.2.1,(r2.1.2.2.1,(r2.1.2.2.2.1,(r2.1.2.2.2.2.1,()))))),((r3.1.1,(r3.1.2.1,(r3.1.2.2.1,(r3.1.2.2.2.1,(r3.1.2.2.2.2.1,()))))),()))),true),(Option.isSome (f78 ((b2_0,(b2_1,(b2_2,(b2_3,(b2_4,()))))),((wrap64 (List.getD b1_1 (Int.toNat x6) (0:Int) * List.getD b1_1 (Int.toNat x6) (0:Int)):Int),((0:Int),())))),true),(Option.isSome (f78 ((b3_0,(b3_1,(b3_2,(b3_3,(b3_4,()))))),(r1.1,((Go.IntKind.wrap Go.IntKind.i64 ((0:Int) - List.getD x4 (Int.toNat x6) (0:Int)):Int),())))),true),(Option.isSome (f52 (((b1_0,(b1_1,())),()),(x6,()))),true),(decide ((0:Int) ≤ x6) && decide (x6 < (↑(List.length b1_1):Int)),true),(false,false),(true,true),(Nat.ble (((2:Nat) * (List.length b6_0 + (1:Nat)) + (192:Nat)) * (8:Nat)) (281474976710656:Nat) && Nat.ble (List.length b6_0 + (1:Nat)) (281474976710656:Nat),true),(false,false),(Option.isSome (f89 ((b3_0,(b3_1,(b3_2,(b3_3,(b3_4,()))))),((b5_0,(b5_1,())),()))),true),(decide ((0:Int) ≤ x6) && decide (x6 < (↑(List.length x4):Int)),true),(!leF x5 x6,true)])):=by kernel_rfl
theorem e77_0_1_4 (x4:(List Int)) (x5:Int) (x6:Int) (b1_0:(List Int)) (b1_1:(List Int)) (b2_0:Int) (b2_1:Int) (b2_2:Int) (b2_3:Int) (b2_4:Int) (b3_0:Int) (b3_1:Int) (b3_2:Int) (b3_3:Int) (b3_4:Int) (b5_0:Int) (b5_1:Int) (b6_0:(List Int)):runBody (kf89 Go.Proofs.Try.prog).orc Go.Proofs.Try.prog 400 77 0 (sh77_0_1 Go.Proofs.Try.prog) (shb77_0_1 Go.Proofs.Try.prog) (shr77_0_1 Go.Proofs.Try.prog) ((x4,x5,x6,()),(),(b1_0,b1_1,()),(b2_0,b2_1,b2_2,b2_3,b2_4,()),(b3_0,b3_1,b3_2,b3_3,b3_4,()),(b5_0,b5_1,()),(b6_0,()),()) [ff] =
    (some (.brk ((),((),((b1_0,(b1_1,())),((b2_0,(b2_1,(b2_2,(b2_3,(b2_4,()))))),((b3_0,(b3_1,(b3_2,(b3_3,(b3_4,()))))),((b5_0,(b5_1,())),((b6_0,()),()))))))),[(sameRf Go.Proofs.Try.prog (nat_lit 63) (nat_lit 0),true),(!leF x5 x6,false)])):=by kernel_rfl

theorem ok77_0_1_t (x4:(List Int)) (x5:Int) (x6:Int) (b1_0:(List Int)) (b1_1:(List Int)) (b2_0:Int) (b2_1:Int) (b2_2:Int) (b2_3:Int) (b2_4:Int) (b3_0:Int) (b3_1:Int) (b3_2:Int) (b3_3:Int) (b3_4:Int) (b5_0:Int) (b5_1:Int) (b6_0:(List Int)):TrOk (BodyRuns Go.Proofs.Try.prog (kf89 Go.Proofs.Try.prog).orc 77 0 (sh77_0_1 Go.Proofs.Try.prog) (shb77_0_1 Go.Proofs.Try.prog) (shr77_0_1 Go.Proofs.Try.prog) ((x4,x5,x6,()),(),(b1_0,b1_1,()),(b2_0,b2_1,b2_2,b2_3,b2_4,()),(b3_0,b3_1,b3_2,b3_3,b3_4,()),(b5_0,b5_1,()),(b6_0,()),())) (t77_0_1 x4 x5 x6 b1_0 b1_1 b2_0 b2_1 b2_2 b2_3 b2_4 b3_0 b3_1 b3_2 b3_3 b3_4 b5_0 b5_1 b6_0) :=
  TrOk.ofTest (fun h0=>TrOk.ofTest (fun h1=>TrOk.ofTest (fun h2=>TrOk.ofTest (fun h4=>TrOk.ofTest (fun h7=>TrOk.ofTest (fun h8=>TrOk.ofTest (fun h9=>TrOk.ofTest (fun h10=>TrOk.ofTest (fun h11=>TrOk.ofFin (BodyRuns.of (e77_0_1_0 x4 x5 x6 b1_0 b1_1 b2_0 b2_1 b2_2 b2_3 b2_4 b3_0 b3_1 b3_2 b3_3 b3_4 b5_0 b5_1 b6_0) (ac (sc63_0) (ac h11 (ac h10 (ac h9 (ac h8 (ac h7 (ac rfl (ac rfl (ac h4 (ac rfl (ac h2 (ac h1 (ac h0 All.nil))))))))))))))) (fun h11=>TrOk.ofStop)) (fun h10=>TrOk.ofStop)) (fun h9=>TrOk.ofStop)) (fun h8=>TrOk.ofStop)) (fun h7=>TrOk.ofStop)) (fun h4=>TrOk.ofStop)) (fun h2=>TrOk.ofStop)) (fun h1=>TrOk.ofStop)) (fun h0=>TrOk.ofFin (BodyRuns.of (e77_0_1_4 x4 x5 x6 b1_0 b1_1 b2_0 b2_1 b2_2 b2_3 b2_4 b3_0 b3_1 b3_2 b3_3 b3_4 b5_0 b5_1 b6_0) (ac (sc63_0) (ac h0 All.nil))))

theorem ok77_0_1:LoopOk Go.Proofs.Try.prog 77 0 (lc77_0_1 Go.Proofs.Try.prog):=loopOk_ofB (sh:=(sh77_0_1 Go.Proofs.Try.prog)) (shB:=(shb77_0_1 Go.Proofs.Try.prog)) (shR:=(shr77_0_1 Go.Proofs.Try.prog)) kf89_ok.base (T:=fun (d:dt77_0_1)=>t77_0_1 d.1.1 d.1.2.1 d.1.2.2.1 d.2.2.1.1 d.2.2.1.2.1 d.2.2.2.1.1 d.2.2.2.1.2.1 d.2.2.2.1.2.2.1 d.2.2.2.1.2.2.2.1 d.2.2.2.1.2.2.2.2.1 d.2.2.2.2.1.1 d.2.2.2.2.1.2.1 d.2.2.2.2.1.2.2.1 d.2.2.2.2.1.2.2.2.1 d.2.2.2.2.1.2.2.2.2.1 d.2.2.2.2.2.1.1 d.2.2.2.2.2.1.2.1 d.2.2.2.2.2.2.1.1) (by kernel_rfl) rfl (fun (d:dt77_0_1)=>ok77_0_1_t d.1.1 d.1.2.1 d.1.2.2.1 d.2.2.1.1 d.2.2.1.2.1 d.2.2.2.1.1 d.2.2.2.1.2.1 d.2.2.2.1.2.2.1 d.2.2.2.1.2.2.2.1 d.2.2.2.1.2.2.2.2.1 d.2.2.2.2.1.1 d.2.2.2.2.1.2.1 d.2.2.2.2.1.2.2.1 d.2.2.2.2.1.2.2.2.1 d.2.2.2.2.1.2.2.2.2.1 d.2.2.2.2.2.1.1 d.2.2.2.2.2.1.2.1 d.2.2.2.2.2.2.1.1) (fun _=>rfl)
def kl77_0_1 (P:Go.Program):Known:=(kf89 P).loop 77 0 (lc77_0_1 P)
theorem kl77_0_1_ok:KnownOk Go.Proofs.Try.prog (kl77_0_1 Go.Proofs.Try.prog):=kf89_ok.loop ok77_0_1

/-! (ductility/modal.frame).valuesAt -/

abbrev as63:List Ty:=[(.pair (.pair (.slice (.int .i64)) (.pair (.slice (.int .i64)) .unit)) .unit),(.pair (.int .i64) (.pair (.int .i64) .unit))]
abbrev rs63:List Ty:=[(.slice (.int .i64))]

def t63 (x0_:(List Int)) (x0_':(List Int)) (x1:Int) (x1':Int):Tr (Tys.data rs63) :=
  Tr.test (isBrk (l77_0_1 ((x0_,((↑(List.length x0_):Int),((0:Int),()))),((),((x0_,(x0_',())),(((0:Int),((0:Int),((0:Int),((0:Int),((0:Int),()))))),(((1:Int),((0:Int),((0:Int),((0:Int),((0:Int),()))))),((x1,(x1',())),((([]:List Int),()),())))))))))
    (let r0:=b77_0_1 ((x0_,((↑(List.length x0_):Int),((0:Int),()))),((),((x0_,(x0_',())),(((0:Int),((0:Int),((0:Int),((0:Int),((0:Int),()))))),(((1:Int),((0:Int),((0:Int),((0:Int),((0:Int),()))))),((x1,(x1',())),((([]:List Int),()),())))))));
    Tr.test (Option.isSome (f89 ((r0.2.2.2.2.1.1,(r0.2.2.2.2.1.2.1,(r0.2.2.2.2.1.2.2.1,(r0.2.2.2.2.1.2.2.2.1,(r0.2.2.2.2.1.2.2.2.2.1,()))))),((r0.2.2.2.2.2.1.1,(r0.2.2.2.2.2.1.2.1,())),()))))
      (Tr.test ((Nat.ble (((2:Nat) * (List.length r0.2.2.2.2.2.2.1.1 + (1:Nat)) + (192:Nat)) * (8:Nat)) (281474976710656:Nat) && Nat.ble (List.length r0.2.2.2.2.2.2.1.1 + (1:Nat)) (281474976710656:Nat):Bool))
        (let r1:=g89 ((r0.2.2.2.2.1.1,(r0.2.2.2.2.1.2.1,(r0.2.2.2.2.1.2.2.1,(r0.2.2.2.2.1.2.2.2.1,(r0.2.2.2.2.1.2.2.2.2.1,()))))),((r0.2.2.2.2.2.1.1,(r0.2.2.2.2.2.1.2.1,())),()));
        Tr.fin (((r0.2.2.2.2.2.2.1.1++[r1.1]:List Int),())))
        (Tr.stop))
      (Tr.stop))
    (Tr.stop)

def f63 (d:Tys.data as63):Option (Tys.data rs63):=(t63 d.1.1.1 d.1.1.2.1 d.2.1.1 d.2.1.2.1).val
def g63 (d:Tys.data as63):Tys.data rs63:=(f63 d).getD (Tys.dflt rs63)
def p63:PureC:=pcOf as63 rs63 f63 g63

theorem e63_0 (x0_:(List Int)) (x0_':(List Int)) (x1:Int) (x1':Int):runPure (kl77_0_1 Go.Proofs.Try.prog).orc Go.Proofs.Try.prog 400 63 as63 rs63 (((x0_,x0_',()),()),(x1,x1',()),()) [tt,tt,tt,tt,ff,tt,tt] =
    (let r0:=b77_0_1 ((x0_,((↑(List.length x0_):Int),((0:Int),()))),((),((x0_,(x0_',())),(((0:Int),((0:Int),((0:Int),((0:Int),((0:Int),()))))),(((1:Int),((0:Int),((0:Int),((0:Int),((0:Int),()))))),((x1,(x1',())),((([]:List Int),()),())))))));let r1:=g89 ((r0.2.2.2.2.1.1,(r0.2.2.2.2.1.2.1,(r0.2.2.2.2.1.2.2.1,(r0.2.2.2.2.1.2.2.2.1,(r0.2.2.2.2.1.2.2.2.2.1,()))))),((r0.2.2.2.2.2.1.1,(r0.2.2.2.2.2.1.2.1,())),())); some (((r0.2.2.2.2.2.2.1.1++[r1.1]:List Int),()),[(true,true),(Nat.ble (((2:Nat) * (List.length r0.2.2.2.2.2.2.1.1 + (1:Nat)) + (192:Nat)) * (8:Nat)) (281474976710656:Nat) && Nat.ble (List.length r0.2.2.2.2.2.2.1.1 + (1:Nat)) (281474976710656:Nat),true),(false,false),(Option.isSome (f89 ((r0.2.2.2.2.1.1,(r0.2.2.2.2.1.2.1,(r0.2.2.2.2.1.2.2.1,(r0.2.2.2.2.1.2.2.2.1,(r0.2.2.2.2.1.2.2.2.2.1,()))))),((r0.2.2.2.2.2.1.1,(r0.2.2.2.2.2.1.2.1,())),()))),true),(true,true),(isBrk (l77_0_1 ((x0_,((↑(List.length x0_):Int),((0:Int),()))),((),((x0_,(x0_',())),(((0:Int),((0:Int),((0:Int),((0:Int),((0:Int),()))))),(((1:Int),((0:Int),((0:Int),((0:Int),((0:Int),()))))),((x1,(x1',())),((([]:List Int),()),())))))))),true),(sameRf Go.Proofs.Try.prog (nat_lit 63) (nat_lit 0),true)])):=by kernel_rfl

theorem ok63_t (x0_:(List Int)) (x0_':(List Int)) (x1:Int) (x1':Int):TrOk (PureRuns Go.Proofs.Try.prog (kl77_0_1 Go.Proofs.Try.prog).orc 63 as63 rs63 (((x0_,x0_',()),()),(x1,x1',()),())) (t63 x0_ x0_' x1 x1') :=
  TrOk.ofTest (fun h1=>TrOk.ofTest (fun h3=>TrOk.ofTest (fun h5=>TrOk.ofFin (PureRuns.of (e63_0 x0_ x0_' x1 x1') (ac rfl (ac h5 (ac rfl (ac h3 (ac rfl (ac h1 (ac (sc63_0) All.nil))))))))) (fun h5=>TrOk.ofStop)) (fun h3=>TrOk.ofStop)) (fun h1=>TrOk.ofStop)

theorem ok63:PureOk Go.Proofs.Try.prog 63 p63:=pureOk_of kl77_0_1_ok.base (T:=fun (d:Tys.data as63)=>t63 d.1.1.1 d.1.1.2.1 d.2.1.1 d.2.1.2.1) (by kernel_rfl) (fun (d:Tys.data as63)=>ok63_t d.1.1.1 d.1.1.2.1 d.2.1.1 d.2.1.2.1)
def kf63 (P:Go.Program):Known:=(kl77_0_1 P).func 63 p63
theorem kf63_ok:KnownOk Go.Proofs.Try.prog (kf63 Go.Proofs.Try.prog):=kl77_0_1_ok.func ok63

/-! ductility/modal.signOf -/

abbrev as65:List Ty:=[(.int .i64)]
abbrev rs65:List Ty:=[(.int .i64)]

def t65 (x0:Int):Tr (Tys.data rs65) :=
  Tr.test ((!leF (0:Int) x0:Bool))
    (Tr.fin (((-1:Int),())))
    (Tr.test (!leF x0 0)
      (Tr.fin (((1:Int),())))
      (Tr.fin (((0:Int),()))))

def f65 (d:Tys.data as65):Option (Tys.data rs65):=(t65 d.1).val
def g65 (d:Tys.data as65):Tys.data rs65:=(f65 d).getD (Tys.dflt rs65)
def p65:PureC:=pcOf as65 rs65 f65 g65

theorem wk65 (x0:Int):Walks (runPure (kf63 Go.Proofs.Try.prog).orc Go.Proofs.Try.prog 400 65 as65 rs65 (x0,())) (t65 x0) [([tt],[2]),([false,true],[2,4]),([false,false],[2,4])] :=
  ⟨by kernel_rfl,by kernel_rfl,by kernel_rfl,trivial⟩

theorem ok65_t (x0:Int):TrOk (PureRuns Go.Proofs.Try.prog (kf63 Go.Proofs.Try.prog).orc 65 as65 rs65 (x0,())) (t65 x0) :=
  Walks.ok (fun _ _ _=>PureRuns.of) (wk65 x0) (by kernel_rfl)

theorem ok65:PureOk Go.Proofs.Try.prog 65 p65:=pureOk_of kf63_ok.base (T:=fun (d:Tys.data as65)=>t65 d.1) (by kernel_rfl) (fun (d:Tys.data as65)=>ok65_t d.1)
def kf65 (P:Go.Program):Known:=(kf63 P).func 65 p65
theorem kf65_ok:KnownOk Go.Proofs.Try.prog (kf65 Go.Proofs.Try.prog):=kf63_ok.func ok65

/-! loop 0 of ductility/modal.changesIn -/

abbrev sh66_0:Sh:={ n:=27,slots:=[3,4,8,9,10],pats:=[.ty (.int .i64),.ty (.int .i64),.ty (.slice (.int .i64)),.ty (.int .i64),.ty (.int .i64)],boxes:=[] }
abbrev shb66_0:Sh:={ n:=27,slots:=[3],pats:=[.ty (.int .i64)],boxes:=[] }
abbrev shr66_0:Sh:={ n:=27,slots:=[],pats:=[],boxes:=[] }

def t66_0 (x0:Int) (x1:Int) (x2:(List Int)) (x3:Int) (x4:Int):Tr (Out sh66_0.data shb66_0.data shr66_0.data) :=
  Tr.test ((!leF x3 x4:Bool))
    (Tr.test (decide ((0:Int) ≤ x4) && decide (x4 < (↑(List.length x2):Int)))
      (Tr.test (Option.isSome (f65 ((List.getD x2 (Int.toNat x4) (0:Int):Int),())))
        (let r0:=g65 ((List.getD x2 (Int.toNat x4) (0:Int):Int),());
        Tr.test ((!leF (0:Int) (wrap64 (r0.1 * x1)):Bool))
          (Tr.test ((!eqF r0.1 0:Bool))
            (Tr.fin (.again (((wrap64 (x0 + (1:Int)):Int),(r0.1,(x2,(x3,((wrap64 (x4 + (1:Int)):Int),()))))),())))
            (Tr.fin (.again (((wrap64 (x0 + (1:Int)):Int),(x1,(x2,(x3,((wrap64 (x4 + (1:Int)):Int),()))))),()))))
          (Tr.test ((!eqF r0.1 0:Bool))
            (Tr.fin (.again ((x0,(r0.1,(x2,(x3,((wrap64 (x4 + (1:Int)):Int),()))))),())))
            (Tr.fin (.again ((x0,(x1,(x2,(x3,((wrap64 (x4 + (1:Int)):Int),()))))),())))))
        (Tr.stop))
      (Tr.stop))
    (Tr.fin (.brk ((x0,()),())))

def s66_0 (d:sh66_0.data):Option (Out sh66_0.data shb66_0.data shr66_0.data):=(t66_0 d.1.1 d.1.2.1 d.1.2.2.1 d.1.2.2.2.1 d.1.2.2.2.2.1).val
def l66_0 (d:sh66_0.data):Option (shb66_0.data ⊕ shr66_0.data):=itr s66_0 rounds d
def b66_0 (d:sh66_0.data):shb66_0.data:=outB shb66_0.dflt (l66_0 d)
def lc66_0:LoopC:=lcB sh66_0 shb66_0 shr66_0 l66_0 b66_0

theorem wk66_0 (x0:Int) (x1:Int) (x2:(List Int)) (x3:Int) (x4:Int):Walks (runBody (kf65 Go.Proofs.Try.prog).orc Go.Proofs.Try.prog 400 66 0 sh66_0 shb66_0 shr66_0 ((x0,x1,x2,x3,x4,()),())) (t66_0 x0 x1 x2 x3 x4) [([true,true,true,true,true],[2,4,6,8,10]),([true,true,true,true,false],[2,4,6,8,10]),([true,true,true,false,true],[2,4,6,8,10]),([true,true,true,false,false],[2,4,6,8,10]),([ff],[2])] :=
  ⟨by kernel_rfl,by kernel_rfl,by kernel_rfl,by kernel_rfl,by kernel_rfl,trivial⟩

theorem ok66_0_t (x0:Int) (x1:Int) (x2:(List Int)) (x3:Int) (x4:Int):TrOk (BodyRuns Go.Proofs.Try.prog (kf65 Go.Proofs.Try.prog).orc 66 0 sh66_0 shb66_0 shr66_0 ((x0,x1,x2,x3,x4,()),())) (t66_0 x0 x1 x2 x3 x4) :=
  Walks.ok (fun _ _ _=>BodyRuns.of) (wk66_0 x0 x1 x2 x3 x4) (by kernel_rfl)

theorem ok66_0:LoopOk Go.Proofs.Try.prog 66 0 lc66_0:=loopOk_ofB (sh:=sh66_0) (shB:=shb66_0) (shR:=shr66_0) kf65_ok.base (T:=fun (d:sh66_0.data)=>t66_0 d.1.1 d.1.2.1 d.1.2.2.1 d.1.2.2.2.1 d.1.2.2.2.2.1) (by kernel_rfl) rfl (fun (d:sh66_0.data)=>ok66_0_t d.1.1 d.1.2.1 d.1.2.2.1 d.1.2.2.2.1 d.1.2.2.2.2.1) (fun _=>rfl)
def kl66_0 (P:Go.Program):Known:=(kf65 P).loop 66 0 lc66_0
theorem kl66_0_ok:KnownOk Go.Proofs.Try.prog (kl66_0 Go.Proofs.Try.prog):=kf65_ok.loop ok66_0

/-! ductility/modal.changesIn -/

abbrev as66:List Ty:=[(.slice (.int .i64))]
abbrev rs66:List Ty:=[(.int .i64)]

def t66 (x0:(List Int)):Tr (Tys.data rs66) :=
  Tr.test (isBrk (l66_0 (((0:Int),((0:Int),(x0,((↑(List.length x0):Int),((0:Int),()))))),())))
    (let r0:=b66_0 (((0:Int),((0:Int),(x0,((↑(List.length x0):Int),((0:Int),()))))),());
    Tr.fin ((r0.1.1,())))
    (Tr.stop)

def f66 (d:Tys.data as66):Option (Tys.data rs66):=(t66 d.1).val
def g66 (d:Tys.data as66):Tys.data rs66:=(f66 d).getD (Tys.dflt rs66)
def p66:PureC:=pcOf as66 rs66 f66 g66

theorem wk66 (x0:(List Int)):Walks (runPure (kl66_0 Go.Proofs.Try.prog).orc Go.Proofs.Try.prog 400 66 as66 rs66 (x0,())) (t66 x0) [([tt],[1,2])] :=
  ⟨by kernel_rfl,trivial⟩

theorem ok66_t (x0:(List Int)):TrOk (PureRuns Go.Proofs.Try.prog (kl66_0 Go.Proofs.Try.prog).orc 66 as66 rs66 (x0,())) (t66 x0) :=
  Walks.ok (fun _ _ _=>PureRuns.of) (wk66 x0) (by kernel_rfl)

theorem ok66:PureOk Go.Proofs.Try.prog 66 p66:=pureOk_of kl66_0_ok.base (T:=fun (d:Tys.data as66)=>t66 d.1) (by kernel_rfl) (fun (d:Tys.data as66)=>ok66_t d.1)
def kf66 (P:Go.Program):Known:=(kl66_0 P).func 66 p66
theorem kf66_ok:KnownOk Go.Proofs.Try.prog (kf66 Go.Proofs.Try.prog):=kl66_0_ok.func ok66

/-! (ductility/modal.frame).countBelow -/

abbrev as60:List Ty:=[(.pair (.pair (.slice (.int .i64)) (.pair (.slice (.int .i64)) .unit)) .unit),(.pair (.int .i64) (.pair (.int .i64) .unit))]
abbrev rs60:List Ty:=[(.int .i64)]

def t60 (x0_:(List Int)) (x0_':(List Int)) (x1:Int) (x1':Int):Tr (Tys.data rs60) :=
  Tr.test (Option.isSome (f63 (((x0_,(x0_',())),()),((x1,(x1',())),()))))
    (let r0:=g63 (((x0_,(x0_',())),()),((x1,(x1',())),()));
    Tr.test (Option.isSome (f66 (r0.1,())))
      (let r1:=g66 (r0.1,());
      Tr.fin ((r1.1,())))
      (Tr.stop))
    (Tr.stop)

def f60 (d:Tys.data as60):Option (Tys.data rs60):=(t60 d.1.1.1 d.1.1.2.1 d.2.1.1 d.2.1.2.1).val
def g60 (d:Tys.data as60):Tys.data rs60:=(f60 d).getD (Tys.dflt rs60)
def p60:PureC:=pcOf as60 rs60 f60 g60

theorem wk60 (x0_:(List Int)) (x0_':(List Int)) (x1:Int) (x1':Int):Walks (runPure (kf66 Go.Proofs.Try.prog).orc Go.Proofs.Try.prog 400 60 as60 rs60 (((x0_,x0_',()),()),(x1,x1',()),())) (t60 x0_ x0_' x1 x1') [([true,true],[2,4])] :=
  ⟨by kernel_rfl,trivial⟩

theorem ok60_t (x0_:(List Int)) (x0_':(List Int)) (x1:Int) (x1':Int):TrOk (PureRuns Go.Proofs.Try.prog (kf66 Go.Proofs.Try.prog).orc 60 as60 rs60 (((x0_,x0_',()),()),(x1,x1',()),())) (t60 x0_ x0_' x1 x1') :=
  Walks.ok (fun _ _ _=>PureRuns.of) (wk60 x0_ x0_' x1 x1') (by kernel_rfl)

theorem ok60:PureOk Go.Proofs.Try.prog 60 p60:=pureOk_of kf66_ok.base (T:=fun (d:Tys.data as60)=>t60 d.1.1.1 d.1.1.2.1 d.2.1.1 d.2.1.2.1) (by kernel_rfl) (fun (d:Tys.data as60)=>ok60_t d.1.1.1 d.1.1.2.1 d.2.1.1 d.2.1.2.1)
def kf60 (P:Go.Program):Known:=(kf66 P).func 60 p60
theorem kf60_ok:KnownOk Go.Proofs.Try.prog (kf60 Go.Proofs.Try.prog):=kf66_ok.func ok60

/-! (ductility/modal.frame).isMode -/

abbrev as61:List Ty:=[(.pair (.pair (.slice (.int .i64)) (.pair (.slice (.int .i64)) .unit)) .unit),(.pair (.int .i64) (.pair (.int .i64) .unit))]
abbrev rs61:List Ty:=[.bool]

def t61 (x0_:(List Int)) (x0_':(List Int)) (x1:Int) (x1':Int):Tr (Tys.data rs61) :=
  Tr.test (Option.isSome (f63 (((x0_,(x0_',())),()),((x1,(x1',())),()))))
    (let r0:=g63 (((x0_,(x0_',())),()),((x1,(x1',())),()));
    Tr.test ((decide ((0:Int) ≤ wrap64 ((↑(List.length r0.1):Int) - (1:Int))) && decide (wrap64 ((↑(List.length r0.1):Int) - (1:Int)) < (↑(List.length r0.1):Int)):Bool))
      (Tr.fin (((eqF (List.getD r0.1 (Int.toNat (wrap64 ((↑(List.length r0.1):Int) - (1:Int)))) (0:Int)) (0:Int):Bool),())))
      (Tr.stop))
    (Tr.stop)

def f61 (d:Tys.data as61):Option (Tys.data rs61):=(t61 d.1.1.1 d.1.1.2.1 d.2.1.1 d.2.1.2.1).val
def g61 (d:Tys.data as61):Tys.data rs61:=(f61 d).getD (Tys.dflt rs61)
def p61:PureC:=pcOf as61 rs61 f61 g61

theorem wk61 (x0_:(List Int)) (x0_':(List Int)) (x1:Int) (x1':Int):Walks (runPure (kf60 Go.Proofs.Try.prog).orc Go.Proofs.Try.prog 400 61 as61 rs61 (((x0_,x0_',()),()),(x1,x1',()),())) (t61 x0_ x0_' x1 x1') [([true,true],[2,4])] :=
  ⟨by kernel_rfl,trivial⟩

theorem ok61_t (x0_:(List Int)) (x0_':(List Int)) (x1:Int) (x1':Int):TrOk (PureRuns Go.Proofs.Try.prog (kf60 Go.Proofs.Try.prog).orc 61 as61 rs61 (((x0_,x0_',()),()),(x1,x1',()),())) (t61 x0_ x0_' x1 x1') :=
  Walks.ok (fun _ _ _=>PureRuns.of) (wk61 x0_ x0_' x1 x1') (by kernel_rfl)

theorem ok61:PureOk Go.Proofs.Try.prog 61 p61:=pureOk_of kf60_ok.base (T:=fun (d:Tys.data as61)=>t61 d.1.1.1 d.1.1.2.1 d.2.1.1 d.2.1.2.1) (by kernel_rfl) (fun (d:Tys.data as61)=>ok61_t d.1.1.1 d.1.1.2.1 d.2.1.1 d.2.1.2.1)
def kf61 (P:Go.Program):Known:=(kf60 P).func 61 p61
theorem kf61_ok:KnownOk Go.Proofs.Try.prog (kf61 Go.Proofs.Try.prog):=kf60_ok.func ok61

end Go.Vm.Mo
