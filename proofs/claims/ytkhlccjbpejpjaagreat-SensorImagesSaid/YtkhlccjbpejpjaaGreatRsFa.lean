import Derived.Test.YtkhlccjbpejpjaaGreatA4
import Derived.KernelRfl
import Derived.Test.YtkhlccjbpejpjaaGreatProg
set_option linter.unusedVariables false
set_option linter.unusedSimpArgs false

namespace Go.Vm.Mo
open Go
set_option linter.unusedVariables false

def kn0 (_:Go.Program):Known:=⟨[],[]⟩

abbrev tt:Bool:=true
abbrev ff:Bool:=false
theorem nn {b v:Bool} (h:(!b) = v):(!b) = !(!v):=not_of (of_not h)
theorem ac {b d:Bool} {r:List (Bool×Bool)} (h:b = d) (t:All r):All ((b, d) :: r):=All.cons h t

theorem plainP:Plain Go.Proofs.Tryz.prog:=by
  have h : (Go.Proofs.Tryz.prog.funcs.toList.all fun fn => !(fn.body.isSome && fn.name == "runtime.NumGoroutine")) = true := by kernel_rfl
  intro f fn hf hb
  have hm:fn ∈ Go.Proofs.Tryz.prog.funcs.toList:=by
    have:=Array.getElem?_eq_some_iff.1 hf
    obtain ⟨hlt,rfl⟩:=this
    simp
  have:=List.all_eq_true.1 h fn hm
  rw [hb] at this
  simpa using this

theorem kn0_ok:KnownOk Go.Proofs.Tryz.prog (kn0 Go.Proofs.Tryz.prog):=⟨plainP,by kernel_rfl,(fun _ h=>by cases h),(fun _ h=>by cases h)⟩

/-! ductility/ductilitylaw07.Pairs -/

abbrev as36:List Ty:=[]
abbrev rs36:List Ty:=[(.slice (.pair (.int .i64) (.pair (.int .i64) .unit)))]

def t36 :Tr (Tys.data rs36) :=
  Tr.fin ((([((10:Int),(1:Int),()),((20:Int),(3:Int),()),((60:Int),(5:Int),())]:List (Int×Int×PUnit)),()))

def f36 (d:Tys.data as36):Option (Tys.data rs36):=(t36 ).val
def g36 (d:Tys.data as36):Tys.data rs36:=(f36 d).getD (Tys.dflt rs36)
def p36:PureC:=pcOf as36 rs36 f36 g36

theorem wk36 :Walks (runPure (kn0 Go.Proofs.Tryz.prog).orc Go.Proofs.Tryz.prog 400 36 as36 rs36 ()) (t36 ) [([],[1])] :=
  ⟨by kernel_rfl,trivial⟩

theorem ok36_t :TrOk (PureRuns Go.Proofs.Tryz.prog (kn0 Go.Proofs.Tryz.prog).orc 36 as36 rs36 ()) (t36 ) :=
  Walks.ok (fun _ _ _=>PureRuns.of) (wk36 ) (by kernel_rfl)

theorem ok36:PureOk Go.Proofs.Tryz.prog 36 p36:=pureOk_of kn0_ok.base (T:=fun (d:Tys.data as36)=>t36 ) (by kernel_rfl) (fun (d:Tys.data as36)=>ok36_t )
def kf36 (P:Go.Program):Known:=(kn0 P).func 36 p36
theorem kf36_ok:KnownOk Go.Proofs.Tryz.prog (kf36 Go.Proofs.Tryz.prog):=kn0_ok.func ok36

/-! loop 0 of ductility/sensor.areWithin -/

abbrev sh66_0:Sh:={ n:=24,slots:=[0,1,9,10,11],pats:=[.ty (.int .i64),.ty (.int .i64),.ty (.slice (.int .i64)),.ty (.int .i64),.ty (.int .i64)],boxes:=[] }
abbrev shb66_0:Sh:={ n:=24,slots:=[],pats:=[],boxes:=[] }
abbrev shr66_0:Sh:={ n:=24,slots:=[6],pats:=[.ty .bool],boxes:=[] }

def t66_0 (x0:Int) (x1:Int) (x2:(List Int)) (x3:Int) (x4:Int):Tr (Out sh66_0.data shb66_0.data shr66_0.data) :=
  Tr.test ((!leF x3 x4:Bool))
    (Tr.test (decide ((0:Int) ≤ x4) && decide (x4 < (↑(List.length x2):Int)))
      (Tr.test ((!leF x0 (List.getD x2 (Int.toNat x4) (0:Int)):Bool))
        (Tr.fin (.ret (((false:Bool),()),())))
        (Tr.test ((!leF (List.getD x2 (Int.toNat x4) (0:Int)) x1:Bool))
          (Tr.fin (.ret (((false:Bool),()),())))
          (Tr.fin (.again ((x0,(x1,(x2,(x3,((wrap64 (x4 + (1:Int)):Int),()))))),())))))
      (Tr.stop))
    (Tr.fin (.brk ((),())))

def s66_0 (d:sh66_0.data):Option (Out sh66_0.data shb66_0.data shr66_0.data):=(t66_0 d.1.1 d.1.2.1 d.1.2.2.1 d.1.2.2.2.1 d.1.2.2.2.2.1).val
def l66_0 (d:sh66_0.data):Option (shb66_0.data ⊕ shr66_0.data):=itr s66_0 rounds d
def b66_0 (d:sh66_0.data):shb66_0.data:=outB shb66_0.dflt (l66_0 d)
def r66_0 (d:sh66_0.data):shr66_0.data:=outR shr66_0.dflt (l66_0 d)
def lc66_0:LoopC:=lcOf sh66_0 shb66_0 shr66_0 l66_0 b66_0 r66_0

theorem wk66_0 (x0:Int) (x1:Int) (x2:(List Int)) (x3:Int) (x4:Int):Walks (runBody (kf36 Go.Proofs.Tryz.prog).orc Go.Proofs.Tryz.prog 400 66 0 sh66_0 shb66_0 shr66_0 ((x0,x1,x2,x3,x4,()),())) (t66_0 x0 x1 x2 x3 x4) [([true,true,true],[1,2,2,2,2,4,6]),([true,true,false,true],[2,4,4,4,4,6,8]),([true,true,false,false],[2,4,4,4,4,6,8]),([ff],[2])] :=
  ⟨by kernel_rfl,by kernel_rfl,by kernel_rfl,by kernel_rfl,trivial⟩

theorem ok66_0_t (x0:Int) (x1:Int) (x2:(List Int)) (x3:Int) (x4:Int):TrOk (BodyRuns Go.Proofs.Tryz.prog (kf36 Go.Proofs.Tryz.prog).orc 66 0 sh66_0 shb66_0 shr66_0 ((x0,x1,x2,x3,x4,()),())) (t66_0 x0 x1 x2 x3 x4) :=
  Walks.ok (fun _ _ _=>BodyRuns.of) (wk66_0 x0 x1 x2 x3 x4) (by kernel_rfl)

theorem ok66_0:LoopOk Go.Proofs.Tryz.prog 66 0 lc66_0:=loopOk_of (sh:=sh66_0) (shB:=shb66_0) (shR:=shr66_0) kf36_ok.base (T:=fun (d:sh66_0.data)=>t66_0 d.1.1 d.1.2.1 d.1.2.2.1 d.1.2.2.2.1 d.1.2.2.2.2.1) (by kernel_rfl) rfl (fun (d:sh66_0.data)=>ok66_0_t d.1.1 d.1.2.1 d.1.2.2.1 d.1.2.2.2.1 d.1.2.2.2.2.1) (fun _=>rfl)
def kl66_0 (P:Go.Program):Known:=(kf36 P).loop 66 0 lc66_0
theorem kl66_0_ok:KnownOk Go.Proofs.Tryz.prog (kl66_0 Go.Proofs.Tryz.prog):=kf36_ok.loop ok66_0

/-! ductility/sensor.areWithin -/

abbrev as66:List Ty:=[(.int .i64),(.int .i64),(.slice (.int .i64))]
abbrev rs66:List Ty:=[.bool]

def t66 (x0:Int) (x1:Int) (x2:(List Int)):Tr (Tys.data rs66) :=
  Tr.test (Option.isSome (l66_0 ((x0,(x1,(x2,((↑(List.length x2):Int),((0:Int),()))))),())))
    (Tr.test (isRet (l66_0 ((x0,(x1,(x2,((↑(List.length x2):Int),((0:Int),()))))),())))
      (let r0:=r66_0 ((x0,(x1,(x2,((↑(List.length x2):Int),((0:Int),()))))),());
      Tr.fin ((r0.1.1,())))
      (Tr.fin (((true:Bool),()))))
    (Tr.stop)

def f66 (d:Tys.data as66):Option (Tys.data rs66):=(t66 d.1 d.2.1 d.2.2.1).val
def g66 (d:Tys.data as66):Tys.data rs66:=(f66 d).getD (Tys.dflt rs66)
def p66:PureC:=pcOf as66 rs66 f66 g66

theorem wk66 (x0:Int) (x1:Int) (x2:(List Int)):Walks (runPure (kl66_0 Go.Proofs.Tryz.prog).orc Go.Proofs.Tryz.prog 400 66 as66 rs66 (x0,x1,x2,())) (t66 x0 x1 x2) [([true,true],[2,4]),([true,false],[2,4])] :=
  ⟨by kernel_rfl,by kernel_rfl,trivial⟩

theorem ok66_t (x0:Int) (x1:Int) (x2:(List Int)):TrOk (PureRuns Go.Proofs.Tryz.prog (kl66_0 Go.Proofs.Tryz.prog).orc 66 as66 rs66 (x0,x1,x2,())) (t66 x0 x1 x2) :=
  Walks.ok (fun _ _ _=>PureRuns.of) (wk66 x0 x1 x2) (by kernel_rfl)

theorem ok66:PureOk Go.Proofs.Tryz.prog 66 p66:=pureOk_of kl66_0_ok.base (T:=fun (d:Tys.data as66)=>t66 d.1 d.2.1 d.2.2.1) (by kernel_rfl) (fun (d:Tys.data as66)=>ok66_t d.1 d.2.1 d.2.2.1)
def kf66 (P:Go.Program):Known:=(kl66_0 P).func 66 p66
theorem kf66_ok:KnownOk Go.Proofs.Tryz.prog (kf66 Go.Proofs.Tryz.prog):=kl66_0_ok.func ok66

/-! ductility/sensor.isBeyond -/

abbrev as63:List Ty:=[(.int .i64),(.slice (.int .i64))]
abbrev rs63:List Ty:=[.bool]

def t63 (x0:Int) (x1:(List Int)):Tr (Tys.data rs63) :=
  Tr.test (Option.isSome (f66 ((Go.IntKind.wrap Go.IntKind.i64 ((0:Int) - x0):Int),(x0,(x1,())))))
    (let r0:=g66 ((Go.IntKind.wrap Go.IntKind.i64 ((0:Int) - x0):Int),(x0,(x1,())));
    Tr.fin (((!r0.1:Bool),())))
    (Tr.stop)

def f63 (d:Tys.data as63):Option (Tys.data rs63):=(t63 d.1 d.2.1).val
def g63 (d:Tys.data as63):Tys.data rs63:=(f63 d).getD (Tys.dflt rs63)
def p63:PureC:=pcOf as63 rs63 f63 g63

theorem wk63 (x0:Int) (x1:(List Int)):Walks (runPure (kf66 Go.Proofs.Tryz.prog).orc Go.Proofs.Tryz.prog 400 63 as63 rs63 (x0,x1,())) (t63 x0 x1) [([tt],[2])] :=
  ⟨by kernel_rfl,trivial⟩

theorem ok63_t (x0:Int) (x1:(List Int)):TrOk (PureRuns Go.Proofs.Tryz.prog (kf66 Go.Proofs.Tryz.prog).orc 63 as63 rs63 (x0,x1,())) (t63 x0 x1) :=
  Walks.ok (fun _ _ _=>PureRuns.of) (wk63 x0 x1) (by kernel_rfl)

theorem ok63:PureOk Go.Proofs.Tryz.prog 63 p63:=pureOk_of kf66_ok.base (T:=fun (d:Tys.data as63)=>t63 d.1 d.2.1) (by kernel_rfl) (fun (d:Tys.data as63)=>ok63_t d.1 d.2.1)
def kf63 (P:Go.Program):Known:=(kf66 P).func 63 p63
theorem kf63_ok:KnownOk Go.Proofs.Tryz.prog (kf63 Go.Proofs.Tryz.prog):=kf66_ok.func ok63

/-! ductility/sensor.when -/

abbrev as62:List Ty:=[.bool,(.int .i64)]
abbrev rs62:List Ty:=[(.int .i64)]

def t62 (x0:Bool) (x1:Int):Tr (Tys.data rs62) :=
  Tr.test (x0)
    (Tr.fin ((x1,())))
    (Tr.fin (((0:Int),())))

def f62 (d:Tys.data as62):Option (Tys.data rs62):=(t62 d.1 d.2.1).val
def g62 (d:Tys.data as62):Tys.data rs62:=(f62 d).getD (Tys.dflt rs62)
def p62:PureC:=pcOf as62 rs62 f62 g62

theorem wk62 (x0:Bool) (x1:Int):Walks (runPure (kf63 Go.Proofs.Tryz.prog).orc Go.Proofs.Tryz.prog 400 62 as62 rs62 (x0,x1,())) (t62 x0 x1) [([tt],[2]),([ff],[2])] :=
  ⟨by kernel_rfl,by kernel_rfl,trivial⟩

theorem ok62_t (x0:Bool) (x1:Int):TrOk (PureRuns Go.Proofs.Tryz.prog (kf63 Go.Proofs.Tryz.prog).orc 62 as62 rs62 (x0,x1,())) (t62 x0 x1) :=
  Walks.ok (fun _ _ _=>PureRuns.of) (wk62 x0 x1) (by kernel_rfl)

theorem ok62:PureOk Go.Proofs.Tryz.prog 62 p62:=pureOk_of kf63_ok.base (T:=fun (d:Tys.data as62)=>t62 d.1 d.2.1) (by kernel_rfl) (fun (d:Tys.data as62)=>ok62_t d.1 d.2.1)
def kf62 (P:Go.Program):Known:=(kf63 P).func 62 p62
theorem kf62_ok:KnownOk Go.Proofs.Tryz.prog (kf62 Go.Proofs.Tryz.prog):=kf63_ok.func ok62

/-! loop 0 of ductility/sensor.firstOf -/

abbrev sh48_0:Sh:={ n:=15,slots:=[5,6,7],pats:=[.ty (.slice (.int .i64)),.ty (.int .i64),.ty (.int .i64)],boxes:=[] }
abbrev shb48_0:Sh:={ n:=15,slots:=[],pats:=[],boxes:=[] }
abbrev shr48_0:Sh:={ n:=15,slots:=[2],pats:=[.ty (.int .i64)],boxes:=[] }

def t48_0 (x0:(List Int)) (x1:Int) (x2:Int):Tr (Out sh48_0.data shb48_0.data shr48_0.data) :=
  Tr.test ((!leF x1 x2:Bool))
    (Tr.test (decide ((0:Int) ≤ x2) && decide (x2 < (↑(List.length x0):Int)))
      (Tr.test ((!eqF (List.getD x0 (Int.toNat x2) (0:Int)) (0:Int):Bool))
        (Tr.fin (.ret (((List.getD x0 (Int.toNat x2) (0:Int):Int),()),())))
        (Tr.fin (.again ((x0,(x1,((wrap64 (x2 + (1:Int)):Int),()))),()))))
      (Tr.stop))
    (Tr.fin (.brk ((),())))

def s48_0 (d:sh48_0.data):Option (Out sh48_0.data shb48_0.data shr48_0.data):=(t48_0 d.1.1 d.1.2.1 d.1.2.2.1).val
def l48_0 (d:sh48_0.data):Option (shb48_0.data ⊕ shr48_0.data):=itr s48_0 rounds d
def b48_0 (d:sh48_0.data):shb48_0.data:=outB shb48_0.dflt (l48_0 d)
def r48_0 (d:sh48_0.data):shr48_0.data:=outR shr48_0.dflt (l48_0 d)
def lc48_0:LoopC:=lcOf sh48_0 shb48_0 shr48_0 l48_0 b48_0 r48_0

theorem wk48_0 (x0:(List Int)) (x1:Int) (x2:Int):Walks (runBody (kf62 Go.Proofs.Tryz.prog).orc Go.Proofs.Tryz.prog 400 48 0 sh48_0 shb48_0 shr48_0 ((x0,x1,x2,()),())) (t48_0 x0 x1 x2) [([true,true,true],[2,4,6]),([true,true,false],[2,4,6]),([ff],[2])] :=
  ⟨by kernel_rfl,by kernel_rfl,by kernel_rfl,trivial⟩

theorem ok48_0_t (x0:(List Int)) (x1:Int) (x2:Int):TrOk (BodyRuns Go.Proofs.Tryz.prog (kf62 Go.Proofs.Tryz.prog).orc 48 0 sh48_0 shb48_0 shr48_0 ((x0,x1,x2,()),())) (t48_0 x0 x1 x2) :=
  Walks.ok (fun _ _ _=>BodyRuns.of) (wk48_0 x0 x1 x2) (by kernel_rfl)

theorem ok48_0:LoopOk Go.Proofs.Tryz.prog 48 0 lc48_0:=loopOk_of (sh:=sh48_0) (shB:=shb48_0) (shR:=shr48_0) kf62_ok.base (T:=fun (d:sh48_0.data)=>t48_0 d.1.1 d.1.2.1 d.1.2.2.1) (by kernel_rfl) rfl (fun (d:sh48_0.data)=>ok48_0_t d.1.1 d.1.2.1 d.1.2.2.1) (fun _=>rfl)
def kl48_0 (P:Go.Program):Known:=(kf62 P).loop 48 0 lc48_0
theorem kl48_0_ok:KnownOk Go.Proofs.Tryz.prog (kl48_0 Go.Proofs.Tryz.prog):=kf62_ok.loop ok48_0

/-! ductility/sensor.firstOf -/

abbrev as48:List Ty:=[(.slice (.int .i64))]
abbrev rs48:List Ty:=[(.int .i64)]

def t48 (x0:(List Int)):Tr (Tys.data rs48) :=
  Tr.test (Option.isSome (l48_0 ((x0,((↑(List.length x0):Int),((0:Int),()))),())))
    (Tr.test (isRet (l48_0 ((x0,((↑(List.length x0):Int),((0:Int),()))),())))
      (let r0:=r48_0 ((x0,((↑(List.length x0):Int),((0:Int),()))),());
      Tr.fin ((r0.1.1,())))
      (Tr.fin (((0:Int),()))))
    (Tr.stop)

def f48 (d:Tys.data as48):Option (Tys.data rs48):=(t48 d.1).val
def g48 (d:Tys.data as48):Tys.data rs48:=(f48 d).getD (Tys.dflt rs48)
def p48:PureC:=pcOf as48 rs48 f48 g48

theorem wk48 (x0:(List Int)):Walks (runPure (kl48_0 Go.Proofs.Tryz.prog).orc Go.Proofs.Tryz.prog 400 48 as48 rs48 (x0,())) (t48 x0) [([true,true],[2,4]),([true,false],[2,4])] :=
  ⟨by kernel_rfl,by kernel_rfl,trivial⟩

theorem ok48_t (x0:(List Int)):TrOk (PureRuns Go.Proofs.Tryz.prog (kl48_0 Go.Proofs.Tryz.prog).orc 48 as48 rs48 (x0,())) (t48 x0) :=
  Walks.ok (fun _ _ _=>PureRuns.of) (wk48 x0) (by kernel_rfl)

theorem ok48:PureOk Go.Proofs.Tryz.prog 48 p48:=pureOk_of kl48_0_ok.base (T:=fun (d:Tys.data as48)=>t48 d.1) (by kernel_rfl) (fun (d:Tys.data as48)=>ok48_t d.1)
def kf48 (P:Go.Program):Known:=(kl48_0 P).func 48 p48
theorem kf48_ok:KnownOk Go.Proofs.Tryz.prog (kf48 Go.Proofs.Tryz.prog):=kl48_0_ok.func ok48

/-! ductility/sensor.countError -/

abbrev as93:List Ty:=[(.int .i64),(.int .i64)]
abbrev rs93:List Ty:=[(.int .i64)]

def t93 (x0:Int) (x1:Int):Tr (Tys.data rs93) :=
  Tr.test (Option.isSome (f62 ((eqF x0 0:Bool),((10:Int),()))))
    (Tr.test (Option.isSome (f62 (!leF x0 x1,((8:Int),()))))
      (let r0:=g62 ((eqF x0 0:Bool),((10:Int),()));
      let r1:=g62 ((!leF x0 x1:Bool),((8:Int),()));
      Tr.test (Option.isSome (f48 (([r0.1,r1.1]:List Int),())))
        (let r2:=g48 (([r0.1,r1.1]:List Int),());
        Tr.fin ((r2.1,())))
        (Tr.stop))
      (Tr.stop))
    (Tr.stop)

def f93 (d:Tys.data as93):Option (Tys.data rs93):=(t93 d.1 d.2.1).val
def g93 (d:Tys.data as93):Tys.data rs93:=(f93 d).getD (Tys.dflt rs93)
def p93:PureC:=pcOf as93 rs93 f93 g93

theorem wk93 (x0:Int) (x1:Int):Walks (runPure (kf48 Go.Proofs.Tryz.prog).orc Go.Proofs.Tryz.prog 400 93 as93 rs93 (x0,x1,())) (t93 x0 x1) [([true,true,true],[2,1,4,6])] :=
  ⟨by kernel_rfl,trivial⟩

theorem ok93_t (x0:Int) (x1:Int):TrOk (PureRuns Go.Proofs.Tryz.prog (kf48 Go.Proofs.Tryz.prog).orc 93 as93 rs93 (x0,x1,())) (t93 x0 x1) :=
  Walks.ok (fun _ _ _=>PureRuns.of) (wk93 x0 x1) (by kernel_rfl)

theorem ok93:PureOk Go.Proofs.Tryz.prog 93 p93:=pureOk_of kf48_ok.base (T:=fun (d:Tys.data as93)=>t93 d.1 d.2.1) (by kernel_rfl) (fun (d:Tys.data as93)=>ok93_t d.1 d.2.1)
def kf93 (P:Go.Program):Known:=(kf48 P).func 93 p93
theorem kf93_ok:KnownOk Go.Proofs.Tryz.prog (kf93 Go.Proofs.Tryz.prog):=kf48_ok.func ok93

/-! loop 0 of ductility/sensor.checkItems[ductility/api.SensorPair] -/

abbrev sh91_0:Sh:={ n:=25,slots:=[1,9,10,11],pats:=[.fn 92 [],.ty (.slice (.pair (.int .i64) (.pair (.int .i64) .unit))),.ty (.int .i64),.ty (.int .i64)],boxes:=[] }
abbrev shb91_0:Sh:={ n:=25,slots:=[],pats:=[],boxes:=[] }
abbrev shr91_0:Sh:={ n:=25,slots:=[4,5],pats:=[.ty (.int .i64),.ty (.int .i64)],boxes:=[] }

def t91_0 (x1:(List (Int×(Int×Unit)))) (x2:Int) (x3:Int):Tr (Out sh91_0.data shb91_0.data shr91_0.data) :=
  Tr.test ((!leF x2 x3:Bool))
    (Tr.test (decide ((0:Int) ≤ x3) && decide (x3 < (↑(List.length x1):Int)))
      (Tr.test (Option.isSome (f63 ((1000:Int),(([(List.getD x1 (Int.toNat x3) ((0:Int),(0:Int),())).1,(List.getD x1 (Int.toNat x3) ((0:Int),(0:Int),())).2.1]:List Int),()))))
        (let r0:=g63 ((1000:Int),(([(List.getD x1 (Int.toNat x3) ((0:Int),(0:Int),())).1,(List.getD x1 (Int.toNat x3) ((0:Int),(0:Int),())).2.1]:List Int),()));
        Tr.test (Option.isSome (f62 (r0.1,((2:Int),()))))
          (let r1:=g62 (r0.1,((2:Int),()));
          Tr.test ((!eqF r1.1 0:Bool))
            (Tr.fin (.ret ((x3,(r1.1,())),())))
            (Tr.fin (.again ((x1,(x2,((wrap64 (x3 + (1:Int)):Int),()))),()))))
          (Tr.stop))
        (Tr.stop))
      (Tr.stop))
    (Tr.fin (.brk ((),())))

def s91_0 (d:sh91_0.data):Option (Out sh91_0.data shb91_0.data shr91_0.data):=(t91_0 d.1.1 d.1.2.1 d.1.2.2.1).val
def l91_0 (d:sh91_0.data):Option (shb91_0.data ⊕ shr91_0.data):=itr s91_0 rounds d
def b91_0 (d:sh91_0.data):shb91_0.data:=outB shb91_0.dflt (l91_0 d)
def r91_0 (d:sh91_0.data):shr91_0.data:=outR shr91_0.dflt (l91_0 d)
def lc91_0:LoopC:=lcOf sh91_0 shb91_0 shr91_0 l91_0 b91_0 r91_0

theorem wk91_0 (x1:(List (Int×(Int×Unit)))) (x2:Int) (x3:Int):Walks (runBody (kf93 Go.Proofs.Tryz.prog).orc Go.Proofs.Tryz.prog 400 91 0 sh91_0 shb91_0 shr91_0 ((x1,x2,x3,()),())) (t91_0 x1 x2 x3) [([true,true,true,true,true],[2,4,6,1,8,10]),([true,true,true,true,false],[2,4,6,1,8,10]),([ff],[2])] :=
  ⟨by kernel_rfl,by kernel_rfl,by kernel_rfl,trivial⟩

theorem ok91_0_t (x1:(List (Int×(Int×Unit)))) (x2:Int) (x3:Int):TrOk (BodyRuns Go.Proofs.Tryz.prog (kf93 Go.Proofs.Tryz.prog).orc 91 0 sh91_0 shb91_0 shr91_0 ((x1,x2,x3,()),())) (t91_0 x1 x2 x3) :=
  Walks.ok (fun _ _ _=>BodyRuns.of) (wk91_0 x1 x2 x3) (by kernel_rfl)

theorem ok91_0:LoopOk Go.Proofs.Tryz.prog 91 0 lc91_0:=loopOk_of (sh:=sh91_0) (shB:=shb91_0) (shR:=shr91_0) kf93_ok.base (T:=fun (d:sh91_0.data)=>t91_0 d.1.1 d.1.2.1 d.1.2.2.1) (by kernel_rfl) rfl (fun (d:sh91_0.data)=>ok91_0_t d.1.1 d.1.2.1 d.1.2.2.1) (fun _=>rfl)
def kl91_0 (P:Go.Program):Known:=(kf93 P).loop 91 0 lc91_0
theorem kl91_0_ok:KnownOk Go.Proofs.Tryz.prog (kl91_0 Go.Proofs.Tryz.prog):=kf93_ok.loop ok91_0

/-! ductility/sensor.pairsError -/

abbrev as49:List Ty:=[(.slice (.pair (.int .i64) (.pair (.int .i64) .unit)))]
abbrev rs49:List Ty:=[(.int .i64)]

def t49 (x0:(List (Int×(Int×Unit)))):Tr (Tys.data rs49) :=
  Tr.test (Option.isSome (l91_0 ((x0,((↑(List.length x0):Int),((0:Int),()))),())))
    (Tr.test (isRet (l91_0 ((x0,((↑(List.length x0):Int),((0:Int),()))),())))
      (Tr.test (Option.isSome (f93 ((↑(List.length x0):Int),((10:Int),()))))
        (let r0:=r91_0 ((x0,((↑(List.length x0):Int),((0:Int),()))),());
        let r1:=g93 ((↑(List.length x0):Int),((10:Int),()));
        Tr.test (Option.isSome (f48 (([r1.1,r0.1.2.1]:List Int),())))
          (let r2:=g48 (([r1.1,r0.1.2.1]:List Int),());
          Tr.fin ((r2.1,())))
          (Tr.stop))
        (Tr.stop))
      (Tr.test (Option.isSome (f93 ((↑(List.length x0):Int),((10:Int),()))))
        (let r1:=g93 ((↑(List.length x0):Int),((10:Int),()));
        Tr.test (Option.isSome (f48 (([r1.1,(0:Int)]:List Int),())))
          (let r3:=g48 (([r1.1,(0:Int)]:List Int),());
          Tr.fin ((r3.1,())))
          (Tr.stop))
        (Tr.stop)))
    (Tr.stop)

def f49 (d:Tys.data as49):Option (Tys.data rs49):=(t49 d.1).val
def g49 (d:Tys.data as49):Tys.data rs49:=(f49 d).getD (Tys.dflt rs49)
def p49:PureC:=pcOf as49 rs49 f49 g49

theorem wk49 (x0:(List (Int×(Int×Unit)))):Walks (runPure (kl91_0 Go.Proofs.Tryz.prog).orc Go.Proofs.Tryz.prog 400 49 as49 rs49 (x0,())) (t49 x0) [([true,true,true,true],[2,1,4,6,8]),([true,false,true,true],[2,1,4,6,8])] :=
  ⟨by kernel_rfl,by kernel_rfl,trivial⟩

theorem ok49_t (x0:(List (Int×(Int×Unit)))):TrOk (PureRuns Go.Proofs.Tryz.prog (kl91_0 Go.Proofs.Tryz.prog).orc 49 as49 rs49 (x0,())) (t49 x0) :=
  Walks.ok (fun _ _ _=>PureRuns.of) (wk49 x0) (by kernel_rfl)

theorem ok49:PureOk Go.Proofs.Tryz.prog 49 p49:=pureOk_of kl91_0_ok.base (T:=fun (d:Tys.data as49)=>t49 d.1) (by kernel_rfl) (fun (d:Tys.data as49)=>ok49_t d.1)
def kf49 (P:Go.Program):Known:=(kl91_0 P).func 49 p49
theorem kf49_ok:KnownOk Go.Proofs.Tryz.prog (kf49 Go.Proofs.Tryz.prog):=kl91_0_ok.func ok49

/-! loop 0 of slices.IndexFunc[[]ductility/api.SensorPair,ductility/api.SensorPair] -/

abbrev sh116_0:Sh:={ n:=19,slots:=[0,1,7,8],pats:=[.ty (.slice (.pair (.int .i64) (.pair (.int .i64) .unit))),.fn 95 [(0,1)],.ty (.int .i64),.ty (.int .i64)],boxes:=[.row [.ty (.slice (.pair (.int .i64) (.pair (.int .i64) .unit)))]] }
abbrev shb116_0:Sh:={ n:=19,slots:=[],pats:=[],boxes:=[.row [.ty (.slice (.pair (.int .i64) (.pair (.int .i64) .unit)))]] }
abbrev shr116_0:Sh:={ n:=19,slots:=[4],pats:=[.ty (.int .i64)],boxes:=[.row [.ty (.slice (.pair (.int .i64) (.pair (.int .i64) .unit)))]] }

def t116_0 (x0:(List (Int×(Int×Unit)))) (x2:Int) (x3:Int) (b0_0:(List (Int×(Int×Unit)))):Tr (Out sh116_0.data shb116_0.data shr116_0.data) :=
  Tr.test ((!leF x2 x3:Bool))
    (Tr.test (decide ((0:Int) ≤ x3) && decide (x3 < (↑(List.length x0):Int)))
      (Tr.test ((true && decide ((0:Int) < (↑(List.length b0_0):Int)):Bool))
        (Tr.test ((!eqF (List.getD x0 (Int.toNat x3) ((0:Int),(0:Int),())).2.1 (List.getD b0_0 (0:Nat) ((0:Int),(0:Int),())).2.1:Bool))
          (Tr.fin (.ret ((x3,()),((b0_0,()),()))))
          (Tr.fin (.again ((x0,(x2,((wrap64 (x3 + (1:Int)):Int),()))),((b0_0,()),())))))
        (Tr.stop))
      (Tr.stop))
    (Tr.fin (.brk ((),((b0_0,()),()))))

def s116_0 (d:sh116_0.data):Option (Out sh116_0.data shb116_0.data shr116_0.data):=(t116_0 d.1.1 d.1.2.1 d.1.2.2.1 d.2.1.1).val
def l116_0 (d:sh116_0.data):Option (shb116_0.data ⊕ shr116_0.data):=itr s116_0 rounds d
def b116_0 (d:sh116_0.data):shb116_0.data:=outB shb116_0.dflt (l116_0 d)
def r116_0 (d:sh116_0.data):shr116_0.data:=outR shr116_0.dflt (l116_0 d)
def lc116_0:LoopC:=lcOf sh116_0 shb116_0 shr116_0 l116_0 b116_0 r116_0

theorem wk116_0 (x0:(List (Int×(Int×Unit)))) (x2:Int) (x3:Int) (b0_0:(List (Int×(Int×Unit)))):Walks (runBody (kf49 Go.Proofs.Tryz.prog).orc Go.Proofs.Tryz.prog 400 116 0 sh116_0 shb116_0 shr116_0 ((x0,x2,x3,()),(b0_0,()),())) (t116_0 x0 x2 x3 b0_0) [([true,true,true,true],[2,4,6,8]),([true,true,true,false],[2,4,6,8]),([ff],[2])] :=
  ⟨by kernel_rfl,by kernel_rfl,by kernel_rfl,trivial⟩

theorem ok116_0_t (x0:(List (Int×(Int×Unit)))) (x2:Int) (x3:Int) (b0_0:(List (Int×(Int×Unit)))):TrOk (BodyRuns Go.Proofs.Tryz.prog (kf49 Go.Proofs.Tryz.prog).orc 116 0 sh116_0 shb116_0 shr116_0 ((x0,x2,x3,()),(b0_0,()),())) (t116_0 x0 x2 x3 b0_0) :=
  Walks.ok (fun _ _ _=>BodyRuns.of) (wk116_0 x0 x2 x3 b0_0) (by kernel_rfl)

theorem ok116_0:LoopOk Go.Proofs.Tryz.prog 116 0 lc116_0:=loopOk_of (sh:=sh116_0) (shB:=shb116_0) (shR:=shr116_0) kf49_ok.base (T:=fun (d:sh116_0.data)=>t116_0 d.1.1 d.1.2.1 d.1.2.2.1 d.2.1.1) (by kernel_rfl) rfl (fun (d:sh116_0.data)=>ok116_0_t d.1.1 d.1.2.1 d.1.2.2.1 d.2.1.1) (fun _=>rfl)
def kl116_0 (P:Go.Program):Known:=(kf49 P).loop 116 0 lc116_0
theorem kl116_0_ok:KnownOk Go.Proofs.Tryz.prog (kl116_0 Go.Proofs.Tryz.prog):=kf49_ok.loop ok116_0

/-! ductility/sensor.slopeError -/

abbrev as50:List Ty:=[(.slice (.pair (.int .i64) (.pair (.int .i64) .unit)))]
abbrev rs50:List Ty:=[(.int .i64)]

def t50 (x0:(List (Int×(Int×Unit)))):Tr (Tys.data rs50) :=
  Tr.test (Option.isSome (l116_0 ((x0,((↑(List.length x0):Int),((0:Int),()))),((x0,()),()))))
    (Tr.test (isRet (l116_0 ((x0,((↑(List.length x0):Int),((0:Int),()))),((x0,()),()))))
      (let r0:=r116_0 ((x0,((↑(List.length x0):Int),((0:Int),()))),((x0,()),()));
      Tr.test (Option.isSome (f62 ((!leF (0:Int) r0.1.1:Bool),((11:Int),()))))
        (let r2:=g62 ((!leF (0:Int) r0.1.1:Bool),((11:Int),()));
        Tr.fin ((r2.1,())))
        (Tr.stop))
      (Tr.test (Option.isSome (f62 ((true:Bool),((11:Int),()))))
        (let r3:=g62 ((true:Bool),((11:Int),()));
        Tr.fin ((r3.1,())))
        (Tr.stop)))
    (Tr.stop)

def f50 (d:Tys.data as50):Option (Tys.data rs50):=(t50 d.1).val
def g50 (d:Tys.data as50):Tys.data rs50:=(f50 d).getD (Tys.dflt rs50)
def p50:PureC:=pcOf as50 rs50 f50 g50

theorem wk50 (x0:(List (Int×(Int×Unit)))):Walks (runPure (kl116_0 Go.Proofs.Tryz.prog).orc Go.Proofs.Tryz.prog 400 50 as50 rs50 (x0,())) (t50 x0) [([true,true,true],[2,4,6]),([true,false,true],[2,4,6])] :=
  ⟨by kernel_rfl,by kernel_rfl,trivial⟩

theorem ok50_t (x0:(List (Int×(Int×Unit)))):TrOk (PureRuns Go.Proofs.Tryz.prog (kl116_0 Go.Proofs.Tryz.prog).orc 50 as50 rs50 (x0,())) (t50 x0) :=
  Walks.ok (fun _ _ _=>PureRuns.of) (wk50 x0) (by kernel_rfl)

theorem ok50:PureOk Go.Proofs.Tryz.prog 50 p50:=pureOk_of kl116_0_ok.base (T:=fun (d:Tys.data as50)=>t50 d.1) (by kernel_rfl) (fun (d:Tys.data as50)=>ok50_t d.1)
def kf50 (P:Go.Program):Known:=(kl116_0 P).func 50 p50
theorem kf50_ok:KnownOk Go.Proofs.Tryz.prog (kf50 Go.Proofs.Tryz.prog):=kl116_0_ok.func ok50

/-! loop 2 of ductility/sensor.divisorOf -/

abbrev sh56_2:Sh:={ n:=26,slots:=[5,7,9,10,11],pats:=[.ty (.int .i64),.ty (.int .i64),.ty (.slice (.int .i64)),.ty (.int .i64),.ty (.int .i64)],boxes:=[] }
abbrev shb56_2:Sh:={ n:=26,slots:=[5,9,10,11],pats:=[.ty (.int .i64),.ty (.slice (.int .i64)),.ty (.int .i64),.ty (.int .i64)],boxes:=[] }
abbrev shr56_2:Sh:={ n:=26,slots:=[],pats:=[],boxes:=[] }

def t56_2 (x0:Int) (x1:Int) (x2:(List Int)) (x3:Int) (x4:Int):Tr (Out sh56_2.data shb56_2.data shr56_2.data) :=
  Tr.test ((!eqF x1 0:Bool))
    (Tr.test (x1 == (0:Int))
      (Tr.stop)
      (Tr.fin (.again ((x1,((Int.tmod x0 x1:Int),(x2,(x3,(x4,()))))),()))))
    (Tr.fin (.brk ((x0,(x2,(x3,(x4,())))),())))

def s56_2 (d:sh56_2.data):Option (Out sh56_2.data shb56_2.data shr56_2.data):=(t56_2 d.1.1 d.1.2.1 d.1.2.2.1 d.1.2.2.2.1 d.1.2.2.2.2.1).val
def l56_2 (d:sh56_2.data):Option (shb56_2.data ⊕ shr56_2.data):=itr s56_2 rounds d
def b56_2 (d:sh56_2.data):shb56_2.data:=outB shb56_2.dflt (l56_2 d)
def lc56_2:LoopC:=lcB sh56_2 shb56_2 shr56_2 l56_2 b56_2

theorem wk56_2 (x0:Int) (x1:Int) (x2:(List Int)) (x3:Int) (x4:Int):Walks (runBody (kf50 Go.Proofs.Tryz.prog).orc Go.Proofs.Tryz.prog 400 56 2 sh56_2 shb56_2 shr56_2 ((x0,x1,x2,x3,x4,()),())) (t56_2 x0 x1 x2 x3 x4) [([true,false],[2,4]),([ff],[2])] :=
  ⟨by kernel_rfl,by kernel_rfl,trivial⟩

theorem ok56_2_t (x0:Int) (x1:Int) (x2:(List Int)) (x3:Int) (x4:Int):TrOk (BodyRuns Go.Proofs.Tryz.prog (kf50 Go.Proofs.Tryz.prog).orc 56 2 sh56_2 shb56_2 shr56_2 ((x0,x1,x2,x3,x4,()),())) (t56_2 x0 x1 x2 x3 x4) :=
  Walks.ok (fun _ _ _=>BodyRuns.of) (wk56_2 x0 x1 x2 x3 x4) (by kernel_rfl)

theorem ok56_2:LoopOk Go.Proofs.Tryz.prog 56 2 lc56_2:=loopOk_ofB (sh:=sh56_2) (shB:=shb56_2) (shR:=shr56_2) kf50_ok.base (T:=fun (d:sh56_2.data)=>t56_2 d.1.1 d.1.2.1 d.1.2.2.1 d.1.2.2.2.1 d.1.2.2.2.2.1) (by kernel_rfl) rfl (fun (d:sh56_2.data)=>ok56_2_t d.1.1 d.1.2.1 d.1.2.2.1 d.1.2.2.2.1 d.1.2.2.2.2.1) (fun _=>rfl)
def kl56_2 (P:Go.Program):Known:=(kf50 P).loop 56 2 lc56_2
theorem kl56_2_ok:KnownOk Go.Proofs.Tryz.prog (kl56_2 Go.Proofs.Tryz.prog):=kf50_ok.loop ok56_2

/-! loop 0 of ductility/sensor.divisorOf -/

abbrev sh56_0:Sh:={ n:=26,slots:=[5,9,10,11],pats:=[.ty (.int .i64),.ty (.slice (.int .i64)),.ty (.int .i64),.ty (.int .i64)],boxes:=[] }
abbrev shb56_0:Sh:={ n:=26,slots:=[5],pats:=[.ty (.int .i64)],boxes:=[] }
abbrev shr56_0:Sh:={ n:=26,slots:=[],pats:=[],boxes:=[] }

def t56_0 (x0:Int) (x1:(List Int)) (x2:Int) (x3:Int):Tr (Out sh56_0.data shb56_0.data shr56_0.data) :=
  Tr.test ((!leF x2 x3:Bool))
    (Tr.test (decide ((0:Int) ≤ x3) && decide (x3 < (↑(List.length x1):Int)))
      (Tr.test (isBrk (l56_2 ((x0,((List.getD x1 (Int.toNat x3) (0:Int):Int),(x1,(x2,(x3,()))))),())))
        (let r0:=b56_2 ((x0,((List.getD x1 (Int.toNat x3) (0:Int):Int),(x1,(x2,(x3,()))))),());
        Tr.fin (.again ((r0.1.1,(r0.1.2.1,(r0.1.2.2.1,((wrap64 (r0.1.2.2.2.1 + (1:Int)):Int),())))),())))
        (Tr.stop))
      (Tr.stop))
    (Tr.fin (.brk ((x0,()),())))

def s56_0 (d:sh56_0.data):Option (Out sh56_0.data shb56_0.data shr56_0.data):=(t56_0 d.1.1 d.1.2.1 d.1.2.2.1 d.1.2.2.2.1).val
def l56_0 (d:sh56_0.data):Option (shb56_0.data ⊕ shr56_0.data):=itr s56_0 rounds d
def b56_0 (d:sh56_0.data):shb56_0.data:=outB shb56_0.dflt (l56_0 d)
def lc56_0:LoopC:=lcB sh56_0 shb56_0 shr56_0 l56_0 b56_0

theorem wk56_0 (x0:Int) (x1:(List Int)) (x2:Int) (x3:Int):Walks (runBody (kl56_2 Go.Proofs.Tryz.prog).orc Go.Proofs.Tryz.prog 400 56 0 sh56_0 shb56_0 shr56_0 ((x0,x1,x2,x3,()),())) (t56_0 x0 x1 x2 x3) [([true,true,true],[1,2,4,6]),([ff],[2])] :=
  ⟨by kernel_rfl,by kernel_rfl,trivial⟩

theorem ok56_0_t (x0:Int) (x1:(List Int)) (x2:Int) (x3:Int):TrOk (BodyRuns Go.Proofs.Tryz.prog (kl56_2 Go.Proofs.Tryz.prog).orc 56 0 sh56_0 shb56_0 shr56_0 ((x0,x1,x2,x3,()),())) (t56_0 x0 x1 x2 x3) :=
  Walks.ok (fun _ _ _=>BodyRuns.of) (wk56_0 x0 x1 x2 x3) (by kernel_rfl)

theorem ok56_0:LoopOk Go.Proofs.Tryz.prog 56 0 lc56_0:=loopOk_ofB (sh:=sh56_0) (shB:=shb56_0) (shR:=shr56_0) kl56_2_ok.base (T:=fun (d:sh56_0.data)=>t56_0 d.1.1 d.1.2.1 d.1.2.2.1 d.1.2.2.2.1) (by kernel_rfl) rfl (fun (d:sh56_0.data)=>ok56_0_t d.1.1 d.1.2.1 d.1.2.2.1 d.1.2.2.2.1) (fun _=>rfl)
def kl56_0 (P:Go.Program):Known:=(kl56_2 P).loop 56 0 lc56_0
theorem kl56_0_ok:KnownOk Go.Proofs.Tryz.prog (kl56_0 Go.Proofs.Tryz.prog):=kl56_2_ok.loop ok56_0

/-! ductility/sensor.divisorOf -/

abbrev as56:List Ty:=[(.int .i64),(.slice (.int .i64))]
abbrev rs56:List Ty:=[(.int .i64)]

def t56 (x0:Int) (x1:(List Int)):Tr (Tys.data rs56) :=
  Tr.test (isBrk (l56_0 ((x0,(x1,((↑(List.length x1):Int),((0:Int),())))),())))
    (let r0:=b56_0 ((x0,(x1,((↑(List.length x1):Int),((0:Int),())))),());
    Tr.fin (((if r0.1.1 < Go.IntKind.wrap Go.IntKind.i64 ((0:Int) - r0.1.1) then Go.IntKind.wrap Go.IntKind.i64 ((0:Int) - r0.1.1) else r0.1.1:Int),())))
    (Tr.stop)

def f56 (d:Tys.data as56):Option (Tys.data rs56):=(t56 d.1 d.2.1).val
def g56 (d:Tys.data as56):Tys.data rs56:=(f56 d).getD (Tys.dflt rs56)
def p56:PureC:=pcOf as56 rs56 f56 g56

theorem wk56 (x0:Int) (x1:(List Int)):Walks (runPure (kl56_0 Go.Proofs.Tryz.prog).orc Go.Proofs.Tryz.prog 400 56 as56 rs56 (x0,x1,())) (t56 x0 x1) [([tt],[1,2])] :=
  ⟨by kernel_rfl,trivial⟩

theorem ok56_t (x0:Int) (x1:(List Int)):TrOk (PureRuns Go.Proofs.Tryz.prog (kl56_0 Go.Proofs.Tryz.prog).orc 56 as56 rs56 (x0,x1,())) (t56 x0 x1) :=
  Walks.ok (fun _ _ _=>PureRuns.of) (wk56 x0 x1) (by kernel_rfl)

theorem ok56:PureOk Go.Proofs.Tryz.prog 56 p56:=pureOk_of kl56_0_ok.base (T:=fun (d:Tys.data as56)=>t56 d.1 d.2.1) (by kernel_rfl) (fun (d:Tys.data as56)=>ok56_t d.1 d.2.1)
def kf56 (P:Go.Program):Known:=(kl56_0 P).func 56 p56
theorem kf56_ok:KnownOk Go.Proofs.Tryz.prog (kf56 Go.Proofs.Tryz.prog):=kl56_0_ok.func ok56

/-! loop 0 of ductility/sensor.sumOf -/

abbrev sh51_0:Sh:={ n:=21,slots:=[1,5,8,9,10],pats:=[.fn 52 [],.ty (.int .i64),.ty (.slice (.pair (.int .i64) (.pair (.int .i64) .unit))),.ty (.int .i64),.ty (.int .i64)],boxes:=[] }
abbrev shb51_0:Sh:={ n:=21,slots:=[5],pats:=[.ty (.int .i64)],boxes:=[] }
abbrev shr51_0:Sh:={ n:=21,slots:=[],pats:=[],boxes:=[] }

def t51_0 (x1:Int) (x2:(List (Int×(Int×Unit)))) (x3:Int) (x4:Int):Tr (Out sh51_0.data shb51_0.data shr51_0.data) :=
  Tr.test ((!leF x3 x4:Bool))
    (Tr.test (decide ((0:Int) ≤ x4) && decide (x4 < (↑(List.length x2):Int)))
      (Tr.fin (.again (((wrap64 (x1 + (List.getD x2 (Int.toNat x4) ((0:Int),(0:Int),())).2.1):Int),(x2,(x3,((wrap64 (x4 + (1:Int)):Int),())))),())))
      (Tr.stop))
    (Tr.fin (.brk ((x1,()),())))

def s51_0 (d:sh51_0.data):Option (Out sh51_0.data shb51_0.data shr51_0.data):=(t51_0 d.1.1 d.1.2.1 d.1.2.2.1 d.1.2.2.2.1).val
def l51_0 (d:sh51_0.data):Option (shb51_0.data ⊕ shr51_0.data):=itr s51_0 rounds d
def b51_0 (d:sh51_0.data):shb51_0.data:=outB shb51_0.dflt (l51_0 d)
def lc51_0:LoopC:=lcB sh51_0 shb51_0 shr51_0 l51_0 b51_0

theorem wk51_0 (x1:Int) (x2:(List (Int×(Int×Unit)))) (x3:Int) (x4:Int):Walks (runBody (kf56 Go.Proofs.Tryz.prog).orc Go.Proofs.Tryz.prog 400 51 0 sh51_0 shb51_0 shr51_0 ((x1,x2,x3,x4,()),())) (t51_0 x1 x2 x3 x4) [([true,true],[2,4]),([ff],[2])] :=
  ⟨by kernel_rfl,by kernel_rfl,trivial⟩

theorem ok51_0_t (x1:Int) (x2:(List (Int×(Int×Unit)))) (x3:Int) (x4:Int):TrOk (BodyRuns Go.Proofs.Tryz.prog (kf56 Go.Proofs.Tryz.prog).orc 51 0 sh51_0 shb51_0 shr51_0 ((x1,x2,x3,x4,()),())) (t51_0 x1 x2 x3 x4) :=
  Walks.ok (fun _ _ _=>BodyRuns.of) (wk51_0 x1 x2 x3 x4) (by kernel_rfl)

theorem ok51_0:LoopOk Go.Proofs.Tryz.prog 51 0 lc51_0:=loopOk_ofB (sh:=sh51_0) (shB:=shb51_0) (shR:=shr51_0) kf56_ok.base (T:=fun (d:sh51_0.data)=>t51_0 d.1.1 d.1.2.1 d.1.2.2.1 d.1.2.2.2.1) (by kernel_rfl) rfl (fun (d:sh51_0.data)=>ok51_0_t d.1.1 d.1.2.1 d.1.2.2.1 d.1.2.2.2.1) (fun _=>rfl)
def kl51_0 (P:Go.Program):Known:=(kf56 P).loop 51 0 lc51_0
theorem kl51_0_ok:KnownOk Go.Proofs.Tryz.prog (kl51_0 Go.Proofs.Tryz.prog):=kf56_ok.loop ok51_0

/-! loop 0 of ductility/sensor.sumOf -/

abbrev sh51_0_1:Sh:={ n:=21,slots:=[1,5,8,9,10],pats:=[.fn 53 [],.ty (.int .i64),.ty (.slice (.pair (.int .i64) (.pair (.int .i64) .unit))),.ty (.int .i64),.ty (.int .i64)],boxes:=[] }
abbrev shb51_0_1:Sh:={ n:=21,slots:=[5],pats:=[.ty (.int .i64)],boxes:=[] }
abbrev shr51_0_1:Sh:={ n:=21,slots:=[],pats:=[],boxes:=[] }

def t51_0_1 (x1:Int) (x2:(List (Int×(Int×Unit)))) (x3:Int) (x4:Int):Tr (Out sh51_0_1.data shb51_0_1.data shr51_0_1.data) :=
  Tr.test ((!leF x3 x4:Bool))
    (Tr.test (decide ((0:Int) ≤ x4) && decide (x4 < (↑(List.length x2):Int)))
      (Tr.fin (.again (((wrap64 (x1 + (List.getD x2 (Int.toNat x4) ((0:Int),(0:Int),())).1):Int),(x2,(x3,((wrap64 (x4 + (1:Int)):Int),())))),())))
      (Tr.stop))
    (Tr.fin (.brk ((x1,()),())))

def s51_0_1 (d:sh51_0_1.data):Option (Out sh51_0_1.data shb51_0_1.data shr51_0_1.data):=(t51_0_1 d.1.1 d.1.2.1 d.1.2.2.1 d.1.2.2.2.1).val
def l51_0_1 (d:sh51_0_1.data):Option (shb51_0_1.data ⊕ shr51_0_1.data):=itr s51_0_1 rounds d
def b51_0_1 (d:sh51_0_1.data):shb51_0_1.data:=outB shb51_0_1.dflt (l51_0_1 d)
def lc51_0_1:LoopC:=lcB sh51_0_1 shb51_0_1 shr51_0_1 l51_0_1 b51_0_1

theorem wk51_0_1 (x1:Int) (x2:(List (Int×(Int×Unit)))) (x3:Int) (x4:Int):Walks (runBody (kl51_0 Go.Proofs.Tryz.prog).orc Go.Proofs.Tryz.prog 400 51 0 sh51_0_1 shb51_0_1 shr51_0_1 ((x1,x2,x3,x4,()),())) (t51_0_1 x1 x2 x3 x4) [([true,true],[2,4]),([ff],[2])] :=
  ⟨by kernel_rfl,by kernel_rfl,trivial⟩

theorem ok51_0_1_t (x1:Int) (x2:(List (Int×(Int×Unit)))) (x3:Int) (x4:Int):TrOk (BodyRuns Go.Proofs.Tryz.prog (kl51_0 Go.Proofs.Tryz.prog).orc 51 0 sh51_0_1 shb51_0_1 shr51_0_1 ((x1,x2,x3,x4,()),())) (t51_0_1 x1 x2 x3 x4) :=
  Walks.ok (fun _ _ _=>BodyRuns.of) (wk51_0_1 x1 x2 x3 x4) (by kernel_rfl)

theorem ok51_0_1:LoopOk Go.Proofs.Tryz.prog 51 0 lc51_0_1:=loopOk_ofB (sh:=sh51_0_1) (shB:=shb51_0_1) (shR:=shr51_0_1) kl51_0_ok.base (T:=fun (d:sh51_0_1.data)=>t51_0_1 d.1.1 d.1.2.1 d.1.2.2.1 d.1.2.2.2.1) (by kernel_rfl) rfl (fun (d:sh51_0_1.data)=>ok51_0_1_t d.1.1 d.1.2.1 d.1.2.2.1 d.1.2.2.2.1) (fun _=>rfl)
def kl51_0_1 (P:Go.Program):Known:=(kl51_0 P).loop 51 0 lc51_0_1
theorem kl51_0_1_ok:KnownOk Go.Proofs.Tryz.prog (kl51_0_1 Go.Proofs.Tryz.prog):=kl51_0_ok.loop ok51_0_1

/-! loop 0 of ductility/sensor.sumOf -/

abbrev sh51_0_2:Sh:={ n:=21,slots:=[1,5,8,9,10],pats:=[.fn 54 [],.ty (.int .i64),.ty (.slice (.pair (.int .i64) (.pair (.int .i64) .unit))),.ty (.int .i64),.ty (.int .i64)],boxes:=[] }
abbrev shb51_0_2:Sh:={ n:=21,slots:=[5],pats:=[.ty (.int .i64)],boxes:=[] }
abbrev shr51_0_2:Sh:={ n:=21,slots:=[],pats:=[],boxes:=[] }

def t51_0_2 (x1:Int) (x2:(List (Int×(Int×Unit)))) (x3:Int) (x4:Int):Tr (Out sh51_0_2.data shb51_0_2.data shr51_0_2.data) :=
  Tr.test ((!leF x3 x4:Bool))
    (Tr.test (decide ((0:Int) ≤ x4) && decide (x4 < (↑(List.length x2):Int)))
      (Tr.fin (.again (((wrap64 (x1 + wrap64 ((List.getD x2 (Int.toNat x4) ((0:Int),(0:Int),())).2.1 * (List.getD x2 (Int.toNat x4) ((0:Int),(0:Int),())).2.1)):Int),(x2,(x3,((wrap64 (x4 + (1:Int)):Int),())))),())))
      (Tr.stop))
    (Tr.fin (.brk ((x1,()),())))

def s51_0_2 (d:sh51_0_2.data):Option (Out sh51_0_2.data shb51_0_2.data shr51_0_2.data):=(t51_0_2 d.1.1 d.1.2.1 d.1.2.2.1 d.1.2.2.2.1).val
def l51_0_2 (d:sh51_0_2.data):Option (shb51_0_2.data ⊕ shr51_0_2.data):=itr s51_0_2 rounds d
def b51_0_2 (d:sh51_0_2.data):shb51_0_2.data:=outB shb51_0_2.dflt (l51_0_2 d)
def lc51_0_2:LoopC:=lcB sh51_0_2 shb51_0_2 shr51_0_2 l51_0_2 b51_0_2

theorem wk51_0_2 (x1:Int) (x2:(List (Int×(Int×Unit)))) (x3:Int) (x4:Int):Walks (runBody (kl51_0_1 Go.Proofs.Tryz.prog).orc Go.Proofs.Tryz.prog 400 51 0 sh51_0_2 shb51_0_2 shr51_0_2 ((x1,x2,x3,x4,()),())) (t51_0_2 x1 x2 x3 x4) [([true,true],[2,4]),([ff],[2])] :=
  ⟨by kernel_rfl,by kernel_rfl,trivial⟩

theorem ok51_0_2_t (x1:Int) (x2:(List (Int×(Int×Unit)))) (x3:Int) (x4:Int):TrOk (BodyRuns Go.Proofs.Tryz.prog (kl51_0_1 Go.Proofs.Tryz.prog).orc 51 0 sh51_0_2 shb51_0_2 shr51_0_2 ((x1,x2,x3,x4,()),())) (t51_0_2 x1 x2 x3 x4) :=
  Walks.ok (fun _ _ _=>BodyRuns.of) (wk51_0_2 x1 x2 x3 x4) (by kernel_rfl)

theorem ok51_0_2:LoopOk Go.Proofs.Tryz.prog 51 0 lc51_0_2:=loopOk_ofB (sh:=sh51_0_2) (shB:=shb51_0_2) (shR:=shr51_0_2) kl51_0_1_ok.base (T:=fun (d:sh51_0_2.data)=>t51_0_2 d.1.1 d.1.2.1 d.1.2.2.1 d.1.2.2.2.1) (by kernel_rfl) rfl (fun (d:sh51_0_2.data)=>ok51_0_2_t d.1.1 d.1.2.1 d.1.2.2.1 d.1.2.2.2.1) (fun _=>rfl)
def kl51_0_2 (P:Go.Program):Known:=(kl51_0_1 P).loop 51 0 lc51_0_2
theorem kl51_0_2_ok:KnownOk Go.Proofs.Tryz.prog (kl51_0_2 Go.Proofs.Tryz.prog):=kl51_0_1_ok.loop ok51_0_2

/-! loop 0 of ductility/sensor.sumOf -/

abbrev sh51_0_3:Sh:={ n:=21,slots:=[1,5,8,9,10],pats:=[.fn 55 [],.ty (.int .i64),.ty (.slice (.pair (.int .i64) (.pair (.int .i64) .unit))),.ty (.int .i64),.ty (.int .i64)],boxes:=[] }
abbrev shb51_0_3:Sh:={ n:=21,slots:=[5],pats:=[.ty (.int .i64)],boxes:=[] }
abbrev shr51_0_3:Sh:={ n:=21,slots:=[],pats:=[],boxes:=[] }

def t51_0_3 (x1:Int) (x2:(List (Int×(Int×Unit)))) (x3:Int) (x4:Int):Tr (Out sh51_0_3.data shb51_0_3.data shr51_0_3.data) :=
  Tr.test ((!leF x3 x4:Bool))
    (Tr.test (decide ((0:Int) ≤ x4) && decide (x4 < (↑(List.length x2):Int)))
      (Tr.fin (.again (((wrap64 (x1 + wrap64 ((List.getD x2 (Int.toNat x4) ((0:Int),(0:Int),())).2.1 * (List.getD x2 (Int.toNat x4) ((0:Int),(0:Int),())).1)):Int),(x2,(x3,((wrap64 (x4 + (1:Int)):Int),())))),())))
      (Tr.stop))
    (Tr.fin (.brk ((x1,()),())))

def s51_0_3 (d:sh51_0_3.data):Option (Out sh51_0_3.data shb51_0_3.data shr51_0_3.data):=(t51_0_3 d.1.1 d.1.2.1 d.1.2.2.1 d.1.2.2.2.1).val
def l51_0_3 (d:sh51_0_3.data):Option (shb51_0_3.data ⊕ shr51_0_3.data):=itr s51_0_3 rounds d
def b51_0_3 (d:sh51_0_3.data):shb51_0_3.data:=outB shb51_0_3.dflt (l51_0_3 d)
def lc51_0_3:LoopC:=lcB sh51_0_3 shb51_0_3 shr51_0_3 l51_0_3 b51_0_3

theorem wk51_0_3 (x1:Int) (x2:(List (Int×(Int×Unit)))) (x3:Int) (x4:Int):Walks (runBody (kl51_0_2 Go.Proofs.Tryz.prog).orc Go.Proofs.Tryz.prog 400 51 0 sh51_0_3 shb51_0_3 shr51_0_3 ((x1,x2,x3,x4,()),())) (t51_0_3 x1 x2 x3 x4) [([true,true],[2,4]),([ff],[2])] :=
  ⟨by kernel_rfl,by kernel_rfl,trivial⟩

theorem ok51_0_3_t (x1:Int) (x2:(List (Int×(Int×Unit)))) (x3:Int) (x4:Int):TrOk (BodyRuns Go.Proofs.Tryz.prog (kl51_0_2 Go.Proofs.Tryz.prog).orc 51 0 sh51_0_3 shb51_0_3 shr51_0_3 ((x1,x2,x3,x4,()),())) (t51_0_3 x1 x2 x3 x4) :=
  Walks.ok (fun _ _ _=>BodyRuns.of) (wk51_0_3 x1 x2 x3 x4) (by kernel_rfl)

theorem ok51_0_3:LoopOk Go.Proofs.Tryz.prog 51 0 lc51_0_3:=loopOk_ofB (sh:=sh51_0_3) (shB:=shb51_0_3) (shR:=shr51_0_3) kl51_0_2_ok.base (T:=fun (d:sh51_0_3.data)=>t51_0_3 d.1.1 d.1.2.1 d.1.2.2.1 d.1.2.2.2.1) (by kernel_rfl) rfl (fun (d:sh51_0_3.data)=>ok51_0_3_t d.1.1 d.1.2.1 d.1.2.2.1 d.1.2.2.2.1) (fun _=>rfl)
def kl51_0_3 (P:Go.Program):Known:=(kl51_0_2 P).loop 51 0 lc51_0_3
theorem kl51_0_3_ok:KnownOk Go.Proofs.Tryz.prog (kl51_0_3 Go.Proofs.Tryz.prog):=kl51_0_2_ok.loop ok51_0_3

/-! ductility/sensor.CalibrationOf -/

abbrev as8:List Ty:=[(.slice (.pair (.int .i64) (.pair (.int .i64) .unit)))]
abbrev rs8:List Ty:=[(.pair (.int .i64) (.pair (.int .i64) (.pair (.int .i64) .unit))),(.int .i64)]

def t8 (x0:(List (Int×(Int×Unit)))):Tr (Tys.data rs8) :=
  Tr.test (Option.isSome (f49 (x0,())))
    (Tr.test (Option.isSome (f50 (x0,())))
      (let r0:=g49 (x0,());
      let r1:=g50 (x0,());
      Tr.test (Option.isSome (f48 (([r0.1,r1.1]:List Int),())))
        (let r2:=g48 (([r0.1,r1.1]:List Int),());
        Tr.test ((!eqF r2.1 0:Bool))
          (Tr.fin ((((0:Int),((0:Int),((0:Int),()))),(r2.1,()))))
          (Tr.test (isBrk (l51_0 (((0:Int),(x0,((↑(List.length x0):Int),((0:Int),())))),())))
            (Tr.test (isBrk (l51_0_1 (((0:Int),(x0,((↑(List.length x0):Int),((0:Int),())))),())))
              (Tr.test (isBrk (l51_0_2 (((0:Int),(x0,((↑(List.length x0):Int),((0:Int),())))),())))
                (Tr.test (isBrk (l51_0_3 (((0:Int),(x0,((↑(List.length x0):Int),((0:Int),())))),())))
                  (let r3:=b51_0 (((0:Int),(x0,((↑(List.length x0):Int),((0:Int),())))),());
                  let r4:=b51_0_1 (((0:Int),(x0,((↑(List.length x0):Int),((0:Int),())))),());
                  let r5:=b51_0_2 (((0:Int),(x0,((↑(List.length x0):Int),((0:Int),())))),());
                  let r6:=b51_0_3 (((0:Int),(x0,((↑(List.length x0):Int),((0:Int),())))),());
                  Tr.test (Option.isSome (f56 ((wrap64 (wrap64 ((↑(List.length x0):Int) * r5.1.1) - wrap64 (r3.1.1 * r3.1.1)):Int),(([wrap64 (wrap64 ((↑(List.length x0):Int) * r6.1.1) - wrap64 (r3.1.1 * r4.1.1)),wrap64 (wrap64 (r4.1.1 * r5.1.1) - wrap64 (r3.1.1 * r6.1.1))]:List Int),()))))
                    (let r7:=g56 ((wrap64 (wrap64 ((↑(List.length x0):Int) * r5.1.1) - wrap64 (r3.1.1 * r3.1.1)):Int),(([wrap64 (wrap64 ((↑(List.length x0):Int) * r6.1.1) - wrap64 (r3.1.1 * r4.1.1)),wrap64 (wrap64 (r4.1.1 * r5.1.1) - wrap64 (r3.1.1 * r6.1.1))]:List Int),()));
                    Tr.test ((r7.1 == (0:Int):Bool))
                      (Tr.stop)
                      (Tr.fin ((((Go.IntKind.wrap Go.IntKind.i64 (Int.tdiv (wrap64 (wrap64 ((↑(List.length x0):Int) * r6.1.1) - wrap64 (r3.1.1 * r4.1.1))) r7.1):Int),((Go.IntKind.wrap Go.IntKind.i64 (Int.tdiv (wrap64 (wrap64 (r4.1.1 * r5.1.1) - wrap64 (r3.1.1 * r6.1.1))) r7.1):Int),((Go.IntKind.wrap Go.IntKind.i64 (Int.tdiv (wrap64 (wrap64 ((↑(List.length x0):Int) * r5.1.1) - wrap64 (r3.1.1 * r3.1.1))) r7.1):Int),()))),((0:Int),())))))
                    (Tr.stop))
                  (Tr.stop))
                (Tr.stop))
              (Tr.stop))
            (Tr.stop)))
        (Tr.stop))
      (Tr.stop))
    (Tr.stop)

def f8 (d:Tys.data as8):Option (Tys.data rs8):=(t8 d.1).val
def g8 (d:Tys.data as8):Tys.data rs8:=(f8 d).getD (Tys.dflt rs8)
def p8:PureC:=pcOf as8 rs8 f8 g8

theorem wk8 (x0:(List (Int×(Int×Unit)))):Walks (runPure (kl51_0_3 Go.Proofs.Tryz.prog).orc Go.Proofs.Tryz.prog 400 8 as8 rs8 (x0,())) (t8 x0) [([true,true,true,true],[2,4,1,6,8]),([true,true,true,false,true,true,true,true,true,false],[2,2,2,4,1,1,6,1,8,1,10,1,12,14,16,1,18,20])] :=
  ⟨by kernel_rfl,by kernel_rfl,trivial⟩

theorem ok8_t (x0:(List (Int×(Int×Unit)))):TrOk (PureRuns Go.Proofs.Tryz.prog (kl51_0_3 Go.Proofs.Tryz.prog).orc 8 as8 rs8 (x0,())) (t8 x0) :=
  Walks.ok (fun _ _ _=>PureRuns.of) (wk8 x0) (by kernel_rfl)

theorem ok8:PureOk Go.Proofs.Tryz.prog 8 p8:=pureOk_of kl51_0_3_ok.base (T:=fun (d:Tys.data as8)=>t8 d.1) (by kernel_rfl) (fun (d:Tys.data as8)=>ok8_t d.1)
def kf8 (P:Go.Program):Known:=(kl51_0_3 P).func 8 p8
theorem kf8_ok:KnownOk Go.Proofs.Tryz.prog (kf8 Go.Proofs.Tryz.prog):=kl51_0_3_ok.func ok8

/-! ductility/sensor.CheckLine -/

abbrev as12:List Ty:=[(.pair (.int .i64) (.pair (.int .i64) (.pair (.int .i64) .unit)))]
abbrev rs12:List Ty:=[(.int .i64)]

def t12 (x0:Int) (x0':Int) (x0'':Int):Tr (Tys.data rs12) :=
  Tr.test (Option.isSome (f66 ((1:Int),((300000000000:Int),(([x0'']:List Int),())))))
    (let r0:=g66 ((1:Int),((300000000000:Int),(([x0'']:List Int),())));
    Tr.test ((!r0.1:Bool))
      (Tr.test (Option.isSome (f56 (x0'',(([x0,x0']:List Int),()))))
        (Tr.test (Option.isSome (f62 ((true:Bool),((2:Int),()))))
          (let r2:=g56 (x0'',(([x0,x0']:List Int),()));
          Tr.test (Option.isSome (f62 ((!eqF r2.1 1:Bool),((3:Int),()))))
            (let r3:=g62 ((true:Bool),((2:Int),()));
            let r4:=g62 ((!eqF r2.1 1:Bool),((3:Int),()));
            Tr.test (Option.isSome (f48 (([r3.1,r4.1]:List Int),())))
              (let r5:=g48 (([r3.1,r4.1]:List Int),());
              Tr.fin ((r5.1,())))
              (Tr.stop))
            (Tr.stop))
          (Tr.stop))
        (Tr.stop))
      (Tr.test (Option.isSome (f63 ((300000000000:Int),(([x0,x0']:List Int),()))))
        (Tr.test (Option.isSome (f56 (x0'',(([x0,x0']:List Int),()))))
          (let r1:=g63 ((300000000000:Int),(([x0,x0']:List Int),()));
          Tr.test (Option.isSome (f62 (r1.1,((2:Int),()))))
            (let r2:=g56 (x0'',(([x0,x0']:List Int),()));
            Tr.test (Option.isSome (f62 ((!eqF r2.1 1:Bool),((3:Int),()))))
              (let r4:=g62 ((!eqF r2.1 1:Bool),((3:Int),()));
              let r6:=g62 (r1.1,((2:Int),()));
              Tr.test (Option.isSome (f48 (([r6.1,r4.1]:List Int),())))
                (let r7:=g48 (([r6.1,r4.1]:List Int),());
                Tr.fin ((r7.1,())))
                (Tr.stop))
              (Tr.stop))
            (Tr.stop))
          (Tr.stop))
        (Tr.stop)))
    (Tr.stop)

def f12 (d:Tys.data as12):Option (Tys.data rs12):=(t12 d.1.1 d.1.2.1 d.1.2.2.1).val
def g12 (d:Tys.data as12):Tys.data rs12:=(f12 d).getD (Tys.dflt rs12)
def p12:PureC:=pcOf as12 rs12 f12 g12

theorem wk12 (x0:Int) (x0':Int) (x0'':Int):Walks (runPure (kf8 Go.Proofs.Tryz.prog).orc Go.Proofs.Tryz.prog 400 12 as12 rs12 ((x0,x0',x0'',()),())) (t12 x0 x0' x0'') [([true,true,true,true,true,true],[2,1,4,6,8,1,10,10,10,10,10,10,10,12,1]),([true,false,true,true,true,true,true],[2,1,4,6,8,1,12,10,1,12,12,12,12,12,12,14,1])] :=
  ⟨by kernel_rfl,by kernel_rfl,trivial⟩

theorem ok12_t (x0:Int) (x0':Int) (x0'':Int):TrOk (PureRuns Go.Proofs.Tryz.prog (kf8 Go.Proofs.Tryz.prog).orc 12 as12 rs12 ((x0,x0',x0'',()),())) (t12 x0 x0' x0'') :=
  Walks.ok (fun _ _ _=>PureRuns.of) (wk12 x0 x0' x0'') (by kernel_rfl)

theorem ok12:PureOk Go.Proofs.Tryz.prog 12 p12:=pureOk_of kf8_ok.base (T:=fun (d:Tys.data as12)=>t12 d.1.1 d.1.2.1 d.1.2.2.1) (by kernel_rfl) (fun (d:Tys.data as12)=>ok12_t d.1.1 d.1.2.1 d.1.2.2.1)
def kf12 (P:Go.Program):Known:=(kf8 P).func 12 p12
theorem kf12_ok:KnownOk Go.Proofs.Tryz.prog (kf12 Go.Proofs.Tryz.prog):=kf8_ok.func ok12

/-! loop 0 of ductility/sensor.checkItems[int] -/

abbrev sh60_0:Sh:={ n:=25,slots:=[1,9,10,11],pats:=[.fn 121 [],.ty (.slice (.int .i64)),.ty (.int .i64),.ty (.int .i64)],boxes:=[] }
abbrev shb60_0:Sh:={ n:=25,slots:=[],pats:=[],boxes:=[] }
abbrev shr60_0:Sh:={ n:=25,slots:=[4,5],pats:=[.ty (.int .i64),.ty (.int .i64)],boxes:=[] }

def t60_0 (x1:(List Int)) (x2:Int) (x3:Int):Tr (Out sh60_0.data shb60_0.data shr60_0.data) :=
  Tr.test ((!leF x2 x3:Bool))
    (Tr.test (decide ((0:Int) ≤ x3) && decide (x3 < (↑(List.length x1):Int)))
      (Tr.test (Option.isSome (f63 ((100000:Int),(([List.getD x1 (Int.toNat x3) (0:Int)]:List Int),()))))
        (let r0:=g63 ((100000:Int),(([List.getD x1 (Int.toNat x3) (0:Int)]:List Int),()));
        Tr.test (Option.isSome (f62 (r0.1,((2:Int),()))))
          (let r1:=g62 (r0.1,((2:Int),()));
          Tr.test ((!eqF r1.1 0:Bool))
            (Tr.fin (.ret ((x3,(r1.1,())),())))
            (Tr.fin (.again ((x1,(x2,((wrap64 (x3 + (1:Int)):Int),()))),()))))
          (Tr.stop))
        (Tr.stop))
      (Tr.stop))
    (Tr.fin (.brk ((),())))

def s60_0 (d:sh60_0.data):Option (Out sh60_0.data shb60_0.data shr60_0.data):=(t60_0 d.1.1 d.1.2.1 d.1.2.2.1).val
def l60_0 (d:sh60_0.data):Option (shb60_0.data ⊕ shr60_0.data):=itr s60_0 rounds d
def b60_0 (d:sh60_0.data):shb60_0.data:=outB shb60_0.dflt (l60_0 d)
def r60_0 (d:sh60_0.data):shr60_0.data:=outR shr60_0.dflt (l60_0 d)
def lc60_0:LoopC:=lcOf sh60_0 shb60_0 shr60_0 l60_0 b60_0 r60_0

theorem wk60_0 (x1:(List Int)) (x2:Int) (x3:Int):Walks (runBody (kf12 Go.Proofs.Tryz.prog).orc Go.Proofs.Tryz.prog 400 60 0 sh60_0 shb60_0 shr60_0 ((x1,x2,x3,()),())) (t60_0 x1 x2 x3) [([true,true,true,true,true],[2,4,6,1,8,10]),([true,true,true,true,false],[2,4,6,1,8,10]),([ff],[2])] :=
  ⟨by kernel_rfl,by kernel_rfl,by kernel_rfl,trivial⟩

theorem ok60_0_t (x1:(List Int)) (x2:Int) (x3:Int):TrOk (BodyRuns Go.Proofs.Tryz.prog (kf12 Go.Proofs.Tryz.prog).orc 60 0 sh60_0 shb60_0 shr60_0 ((x1,x2,x3,()),())) (t60_0 x1 x2 x3) :=
  Walks.ok (fun _ _ _=>BodyRuns.of) (wk60_0 x1 x2 x3) (by kernel_rfl)

theorem ok60_0:LoopOk Go.Proofs.Tryz.prog 60 0 lc60_0:=loopOk_of (sh:=sh60_0) (shB:=shb60_0) (shR:=shr60_0) kf12_ok.base (T:=fun (d:sh60_0.data)=>t60_0 d.1.1 d.1.2.1 d.1.2.2.1) (by kernel_rfl) rfl (fun (d:sh60_0.data)=>ok60_0_t d.1.1 d.1.2.1 d.1.2.2.1) (fun _=>rfl)
def kl60_0 (P:Go.Program):Known:=(kf12 P).loop 60 0 lc60_0
theorem kl60_0_ok:KnownOk Go.Proofs.Tryz.prog (kl60_0 Go.Proofs.Tryz.prog):=kf12_ok.loop ok60_0

/-! ductility/sensor.CheckRaw -/

abbrev as99:List Ty:=[(.slice (.int .i64))]
abbrev rs99:List Ty:=[(.int .i64),(.int .i64)]

def t99 (x0:(List Int)):Tr (Tys.data rs99) :=
  Tr.test (Option.isSome (f93 ((↑(List.length x0):Int),((60:Int),()))))
    (let r0:=g93 ((↑(List.length x0):Int),((60:Int),()));
    Tr.test ((!eqF r0.1 0:Bool))
      (Tr.fin (((0:Int),(r0.1,()))))
      (Tr.test (Option.isSome (l60_0 ((x0,((↑(List.length x0):Int),((0:Int),()))),())))
        (Tr.test (isRet (l60_0 ((x0,((↑(List.length x0):Int),((0:Int),()))),())))
          (let r1:=r60_0 ((x0,((↑(List.length x0):Int),((0:Int),()))),());
          Tr.fin ((r1.1.1,(r1.1.2.1,()))))
          (Tr.fin (((0:Int),((0:Int),())))))
        (Tr.stop)))
    (Tr.stop)

def f99 (d:Tys.data as99):Option (Tys.data rs99):=(t99 d.1).val
def g99 (d:Tys.data as99):Tys.data rs99:=(f99 d).getD (Tys.dflt rs99)
def p99:PureC:=pcOf as99 rs99 f99 g99

theorem wk99 (x0:(List Int)):Walks (runPure (kl60_0 Go.Proofs.Tryz.prog).orc Go.Proofs.Tryz.prog 400 99 as99 rs99 (x0,())) (t99 x0) [([true,true],[2,4]),([true,false,true,true],[2,4,6,8]),([true,false,true,false],[2,4,6,8])] :=
  ⟨by kernel_rfl,by kernel_rfl,by kernel_rfl,trivial⟩

theorem ok99_t (x0:(List Int)):TrOk (PureRuns Go.Proofs.Tryz.prog (kl60_0 Go.Proofs.Tryz.prog).orc 99 as99 rs99 (x0,())) (t99 x0) :=
  Walks.ok (fun _ _ _=>PureRuns.of) (wk99 x0) (by kernel_rfl)

theorem ok99:PureOk Go.Proofs.Tryz.prog 99 p99:=pureOk_of kl60_0_ok.base (T:=fun (d:Tys.data as99)=>t99 d.1) (by kernel_rfl) (fun (d:Tys.data as99)=>ok99_t d.1)
def kf99 (P:Go.Program):Known:=(kl60_0 P).func 99 p99
theorem kf99_ok:KnownOk Go.Proofs.Tryz.prog (kf99 Go.Proofs.Tryz.prog):=kl60_0_ok.func ok99

/-! ductility/sensor.rawError -/

abbrev as71:List Ty:=[(.slice (.int .i64))]
abbrev rs71:List Ty:=[(.int .i64)]

def t71 (x0:(List Int)):Tr (Tys.data rs71) :=
  Tr.test (Option.isSome (f99 (x0,())))
    (let r0:=g99 (x0,());
    Tr.fin ((r0.2.1,())))
    (Tr.stop)

def f71 (d:Tys.data as71):Option (Tys.data rs71):=(t71 d.1).val
def g71 (d:Tys.data as71):Tys.data rs71:=(f71 d).getD (Tys.dflt rs71)
def p71:PureC:=pcOf as71 rs71 f71 g71

theorem wk71 (x0:(List Int)):Walks (runPure (kf99 Go.Proofs.Tryz.prog).orc Go.Proofs.Tryz.prog 400 71 as71 rs71 (x0,())) (t71 x0) [([tt],[2])] :=
  ⟨by kernel_rfl,trivial⟩

theorem ok71_t (x0:(List Int)):TrOk (PureRuns Go.Proofs.Tryz.prog (kf99 Go.Proofs.Tryz.prog).orc 71 as71 rs71 (x0,())) (t71 x0) :=
  Walks.ok (fun _ _ _=>PureRuns.of) (wk71 x0) (by kernel_rfl)

theorem ok71:PureOk Go.Proofs.Tryz.prog 71 p71:=pureOk_of kf99_ok.base (T:=fun (d:Tys.data as71)=>t71 d.1) (by kernel_rfl) (fun (d:Tys.data as71)=>ok71_t d.1)
def kf71 (P:Go.Program):Known:=(kf99 P).func 71 p71
theorem kf71_ok:KnownOk Go.Proofs.Tryz.prog (kf71 Go.Proofs.Tryz.prog):=kf99_ok.func ok71

/-! ductility/sensor.partAt -/

abbrev as72:List Ty:=[(.pair (.int .i64) (.pair (.int .i64) (.pair (.int .i64) .unit))),(.int .i64)]
abbrev rs72:List Ty:=[(.int .i64)]

def t72 (x0:Int) (x0':Int) (x0'':Int) (x1:Int):Tr (Tys.data rs72) :=
  Tr.fin (((wrap64 (wrap64 (x0 * x1) + x0'):Int),()))

def f72 (d:Tys.data as72):Option (Tys.data rs72):=(t72 d.1.1 d.1.2.1 d.1.2.2.1 d.2.1).val
def g72 (d:Tys.data as72):Tys.data rs72:=(f72 d).getD (Tys.dflt rs72)
def p72:PureC:=pcOf as72 rs72 f72 g72

theorem wk72 (x0:Int) (x0':Int) (x0'':Int) (x1:Int):Walks (runPure (kf71 Go.Proofs.Tryz.prog).orc Go.Proofs.Tryz.prog 400 72 as72 rs72 ((x0,x0',x0'',()),x1,())) (t72 x0 x0' x0'' x1) [([],[])] :=
  ⟨by kernel_rfl,trivial⟩

theorem ok72_t (x0:Int) (x0':Int) (x0'':Int) (x1:Int):TrOk (PureRuns Go.Proofs.Tryz.prog (kf71 Go.Proofs.Tryz.prog).orc 72 as72 rs72 ((x0,x0',x0'',()),x1,())) (t72 x0 x0' x0'' x1) :=
  Walks.ok (fun _ _ _=>PureRuns.of) (wk72 x0 x0' x0'' x1) (by kernel_rfl)

theorem ok72:PureOk Go.Proofs.Tryz.prog 72 p72:=pureOk_of kf71_ok.base (T:=fun (d:Tys.data as72)=>t72 d.1.1 d.1.2.1 d.1.2.2.1 d.2.1) (by kernel_rfl) (fun (d:Tys.data as72)=>ok72_t d.1.1 d.1.2.1 d.1.2.2.1 d.2.1)
def kf72 (P:Go.Program):Known:=(kf71 P).func 72 p72
theorem kf72_ok:KnownOk Go.Proofs.Tryz.prog (kf72 Go.Proofs.Tryz.prog):=kf71_ok.func ok72

/-! ductility/sensor.down -/

abbrev as81:List Ty:=[(.int .i64),(.int .i64)]
abbrev rs81:List Ty:=[(.int .i64)]

def t81 (x0:Int) (x1:Int):Tr (Tys.data rs81) :=
  Tr.test ((x1 == (0:Int):Bool))
    (Tr.stop)
    (Tr.test (!leF (0:Int) (Int.tmod x0 x1))
      (Tr.fin (((wrap64 (Go.IntKind.wrap Go.IntKind.i64 (Int.tdiv x0 x1) - (1:Int)):Int),())))
      (Tr.fin (((Go.IntKind.wrap Go.IntKind.i64 (Int.tdiv x0 x1):Int),()))))

def f81 (d:Tys.data as81):Option (Tys.data rs81):=(t81 d.1 d.2.1).val
def g81 (d:Tys.data as81):Tys.data rs81:=(f81 d).getD (Tys.dflt rs81)
def p81:PureC:=pcOf as81 rs81 f81 g81

theorem wk81 (x0:Int) (x1:Int):Walks (runPure (kf72 Go.Proofs.Tryz.prog).orc Go.Proofs.Tryz.prog 400 81 as81 rs81 (x0,x1,())) (t81 x0 x1) [([false,true],[4,2,4]),([false,false],[4,2,4])] :=
  ⟨by kernel_rfl,by kernel_rfl,trivial⟩

theorem ok81_t (x0:Int) (x1:Int):TrOk (PureRuns Go.Proofs.Tryz.prog (kf72 Go.Proofs.Tryz.prog).orc 81 as81 rs81 (x0,x1,())) (t81 x0 x1) :=
  Walks.ok (fun _ _ _=>PureRuns.of) (wk81 x0 x1) (by kernel_rfl)

theorem ok81:PureOk Go.Proofs.Tryz.prog 81 p81:=pureOk_of kf72_ok.base (T:=fun (d:Tys.data as81)=>t81 d.1 d.2.1) (by kernel_rfl) (fun (d:Tys.data as81)=>ok81_t d.1 d.2.1)
def kf81 (P:Go.Program):Known:=(kf72 P).func 81 p81
theorem kf81_ok:KnownOk Go.Proofs.Tryz.prog (kf81 Go.Proofs.Tryz.prog):=kf72_ok.func ok81

/-! ductility/sensor.up -/

abbrev as82:List Ty:=[(.int .i64),(.int .i64)]
abbrev rs82:List Ty:=[(.int .i64)]

def t82 (x0:Int) (x1:Int):Tr (Tys.data rs82) :=
  Tr.test (Option.isSome (f81 ((Go.IntKind.wrap Go.IntKind.i64 ((0:Int) - x0):Int),(x1,()))))
    (let r0:=g81 ((Go.IntKind.wrap Go.IntKind.i64 ((0:Int) - x0):Int),(x1,()));
    Tr.fin (((Go.IntKind.wrap Go.IntKind.i64 ((0:Int) - r0.1):Int),())))
    (Tr.stop)

def f82 (d:Tys.data as82):Option (Tys.data rs82):=(t82 d.1 d.2.1).val
def g82 (d:Tys.data as82):Tys.data rs82:=(f82 d).getD (Tys.dflt rs82)
def p82:PureC:=pcOf as82 rs82 f82 g82

theorem wk82 (x0:Int) (x1:Int):Walks (runPure (kf81 Go.Proofs.Tryz.prog).orc Go.Proofs.Tryz.prog 400 82 as82 rs82 (x0,x1,())) (t82 x0 x1) [([tt],[2])] :=
  ⟨by kernel_rfl,trivial⟩

theorem ok82_t (x0:Int) (x1:Int):TrOk (PureRuns Go.Proofs.Tryz.prog (kf81 Go.Proofs.Tryz.prog).orc 82 as82 rs82 (x0,x1,())) (t82 x0 x1) :=
  Walks.ok (fun _ _ _=>PureRuns.of) (wk82 x0 x1) (by kernel_rfl)

theorem ok82:PureOk Go.Proofs.Tryz.prog 82 p82:=pureOk_of kf81_ok.base (T:=fun (d:Tys.data as82)=>t82 d.1 d.2.1) (by kernel_rfl) (fun (d:Tys.data as82)=>ok82_t d.1 d.2.1)
def kf82 (P:Go.Program):Known:=(kf81 P).func 82 p82
theorem kf82_ok:KnownOk Go.Proofs.Tryz.prog (kf82 Go.Proofs.Tryz.prog):=kf81_ok.func ok82

/-! loop 0 of ductility/sensor.RangesIn -/

abbrev sh37_0:Sh:={ n:=57,slots:=[2,7,24,25,26],pats:=[.ptr 0 3 0,.sli 1 2,.ty (.slice (.int .i64)),.ty (.int .i64),.ty (.int .i64)],boxes:=[.row [.ty (.int .i64),.ty (.int .i64),.ty (.int .i64)],.arr (.pair (.int .i64) (.pair (.int .i64) .unit))] }
abbrev shb37_0:Sh:={ n:=57,slots:=[7],pats:=[.sli 1 2],boxes:=[.row [.ty (.int .i64),.ty (.int .i64),.ty (.int .i64)],.arr (.pair (.int .i64) (.pair (.int .i64) .unit))] }
abbrev shr37_0:Sh:={ n:=57,slots:=[],pats:=[],boxes:=[.row [.ty (.int .i64),.ty (.int .i64),.ty (.int .i64)],.arr (.pair (.int .i64) (.pair (.int .i64) .unit))] }

def t37_0 (x1n:Nat) (x1c:Nat) (x2:(List Int)) (x3:Int) (x4:Int) (b0_0:Int) (b0_1:Int) (b0_2:Int) (b1:(List (Int×(Int×Unit)))):Tr (Out sh37_0.data shb37_0.data shr37_0.data) :=
  Tr.test ((!leF x3 x4:Bool))
    (Tr.test (decide ((0:Int) ≤ x4) && decide (x4 < (↑(List.length x2):Int)))
      (Tr.test (Option.isSome (f72 ((b0_0,(b0_1,(b0_2,()))),((wrap64 (List.getD x2 (Int.toNat x4) (0:Int) - (1:Int)):Int),()))))
        (Tr.test (Option.isSome (f72 ((b0_0,(b0_1,(b0_2,()))),((wrap64 (List.getD x2 (Int.toNat x4) (0:Int) + (1:Int)):Int),()))))
          (let r0:=g72 ((b0_0,(b0_1,(b0_2,()))),((wrap64 (List.getD x2 (Int.toNat x4) (0:Int) - (1:Int)):Int),()));
          let r1:=g72 ((b0_0,(b0_1,(b0_2,()))),((wrap64 (List.getD x2 (Int.toNat x4) (0:Int) + (1:Int)):Int),()));
          Tr.test (Option.isSome (f81 ((if r1.1 < r0.1 then r1.1 else r0.1:Int),(b0_2,()))))
            (Tr.test (Option.isSome (f82 ((if r0.1 < r1.1 then r1.1 else r0.1:Int),(b0_2,()))))
              (Tr.test ((decide ((0:Int) ≤ x4) && decide (x4 < (↑x1n:Int)):Bool))
                (Tr.test ((Nat.ble ((0:Nat) + Int.toNat x4 + (1:Nat)) (List.length b1):Bool))
                  (let r2:=g81 ((if r1.1 < r0.1 then r1.1 else r0.1:Int),(b0_2,()));
                  let r3:=g82 ((if r0.1 < r1.1 then r1.1 else r0.1:Int),(b0_2,()));
                  Tr.fin (.again (((x1n,x1c),(x2,(x3,((wrap64 (x4 + (1:Int)):Int),())))),((b0_0,(b0_1,(b0_2,()))),((List.set b1 ((0:Nat) + Int.toNat x4) (r2.1,r3.1,()):List (Int×Int×PUnit)),())))))
                  (Tr.stop))
                (Tr.stop))
              (Tr.stop))
            (Tr.stop))
          (Tr.stop))
        (Tr.stop))
      (Tr.stop))
    (Tr.fin (.brk (((x1n,x1c),()),((b0_0,(b0_1,(b0_2,()))),(b1,())))))

def s37_0 (d:sh37_0.data):Option (Out sh37_0.data shb37_0.data shr37_0.data):=(t37_0 d.1.1.1 d.1.1.2 d.1.2.1 d.1.2.2.1 d.1.2.2.2.1 d.2.1.1 d.2.1.2.1 d.2.1.2.2.1 d.2.2.1).val
def l37_0 (d:sh37_0.data):Option (shb37_0.data ⊕ shr37_0.data):=itr s37_0 rounds d
def b37_0 (d:sh37_0.data):shb37_0.data:=outB shb37_0.dflt (l37_0 d)
def lc37_0:LoopC:=lcB sh37_0 shb37_0 shr37_0 l37_0 b37_0

theorem wk37_0 (x1n:Nat) (x1c:Nat) (x2:(List Int)) (x3:Int) (x4:Int) (b0_0:Int) (b0_1:Int) (b0_2:Int) (b1:(List (Int×(Int×Unit)))):Walks (runBody (kf82 Go.Proofs.Tryz.prog).orc Go.Proofs.Tryz.prog 400 37 0 sh37_0 shb37_0 shr37_0 (((x1n,x1c),x2,x3,x4,()),(b0_0,b0_1,b0_2,()),b1,())) (t37_0 x1n x1c x2 x3 x4 b0_0 b0_1 b0_2 b1) [([true,true,true,true,true,true,true,true],[2,4,6,8,10,12,14,16]),([ff],[2])] :=
  ⟨by kernel_rfl,by kernel_rfl,trivial⟩

theorem ok37_0_t (x1n:Nat) (x1c:Nat) (x2:(List Int)) (x3:Int) (x4:Int) (b0_0:Int) (b0_1:Int) (b0_2:Int) (b1:(List (Int×(Int×Unit)))):TrOk (BodyRuns Go.Proofs.Tryz.prog (kf82 Go.Proofs.Tryz.prog).orc 37 0 sh37_0 shb37_0 shr37_0 (((x1n,x1c),x2,x3,x4,()),(b0_0,b0_1,b0_2,()),b1,())) (t37_0 x1n x1c x2 x3 x4 b0_0 b0_1 b0_2 b1) :=
  Walks.ok (fun _ _ _=>BodyRuns.of) (wk37_0 x1n x1c x2 x3 x4 b0_0 b0_1 b0_2 b1) (by kernel_rfl)

theorem ok37_0:LoopOk Go.Proofs.Tryz.prog 37 0 lc37_0:=loopOk_ofB (sh:=sh37_0) (shB:=shb37_0) (shR:=shr37_0) kf82_ok.base (T:=fun (d:sh37_0.data)=>t37_0 d.1.1.1 d.1.1.2 d.1.2.1 d.1.2.2.1 d.1.2.2.2.1 d.2.1.1 d.2.1.2.1 d.2.1.2.2.1 d.2.2.1) (by kernel_rfl) rfl (fun (d:sh37_0.data)=>ok37_0_t d.1.1.1 d.1.1.2 d.1.2.1 d.1.2.2.1 d.1.2.2.2.1 d.2.1.1 d.2.1.2.1 d.2.1.2.2.1 d.2.2.1) (fun _=>rfl)
def kl37_0 (P:Go.Program):Known:=(kf82 P).loop 37 0 lc37_0
theorem kl37_0_ok:KnownOk Go.Proofs.Tryz.prog (kl37_0 Go.Proofs.Tryz.prog):=kf82_ok.loop ok37_0

/-! ductility/sensor.RangesIn -/

abbrev as37:List Ty:=[(.pair (.int .i64) (.pair (.int .i64) (.pair (.int .i64) .unit))),(.slice (.int .i64))]
abbrev rs37:List Ty:=[(.slice (.pair (.int .i64) (.pair (.int .i64) .unit))),(.int .i64)]

def t37 (x0:Int) (x0':Int) (x0'':Int) (x1:(List Int)):Tr (Tys.data rs37) :=
  Tr.test (Option.isSome (f12 ((x0,(x0',(x0'',()))),())))
    (Tr.test (Option.isSome (f71 (x1,())))
      (let r0:=g12 ((x0,(x0',(x0'',()))),());
      let r1:=g71 (x1,());
      Tr.test (Option.isSome (f48 (([r0.1,r1.1]:List Int),())))
        (let r2:=g48 (([r0.1,r1.1]:List Int),());
        Tr.test ((!eqF r2.1 0:Bool))
          (Tr.fin ((([]:List (Int×Int×PUnit)),(r2.1,()))))
          (Tr.test ((decide ((0:Int) ≤ (↑(List.length x1):Int)) && decide ((↑(List.length x1):Int) ≤ (↑(List.length x1):Int)) && decide ((16:Int) * (↑(List.length x1):Int) ≤ (281474976710656:Int)) && decide ((↑(List.length x1):Int) ≤ (281474976710656:Int)):Bool))
            (Tr.test (isBrk (l37_0 ((((Int.toNat (↑(List.length x1):Int):Nat),(Int.toNat (↑(List.length x1):Int):Nat)),(x1,((↑(List.length x1):Int),((0:Int),())))),((x0,(x0',(x0'',()))),((List.replicate (Int.toNat (↑(List.length x1):Int)) ((0:Int),(0:Int),()):List (Int×Int×PUnit)),())))))
              (let r3:=b37_0 ((((Int.toNat (↑(List.length x1):Int):Nat),(Int.toNat (↑(List.length x1):Int):Nat)),(x1,((↑(List.length x1):Int),((0:Int),())))),((x0,(x0',(x0'',()))),((List.replicate (Int.toNat (↑(List.length x1):Int)) ((0:Int),(0:Int),()):List (Int×Int×PUnit)),())));
              Tr.test ((Nat.beq r3.1.1.1 (List.length r3.2.2.1):Bool))
                (Tr.fin ((r3.2.2.1,((0:Int),()))))
                (Tr.test ((Nat.ble r3.1.1.1 (List.length r3.2.2.1):Bool))
                  (Tr.fin (((List.take r3.1.1.1 r3.2.2.1:List (Int×Int×PUnit)),((0:Int),()))))
                  (Tr.stop)))
              (Tr.stop))
            (Tr.stop)))
        (Tr.stop))
      (Tr.stop))
    (Tr.stop)

def f37 (d:Tys.data as37):Option (Tys.data rs37):=(t37 d.1.1 d.1.2.1 d.1.2.2.1 d.2.1).val
def g37 (d:Tys.data as37):Tys.data rs37:=(f37 d).getD (Tys.dflt rs37)
def p37:PureC:=pcOf as37 rs37 f37 g37

theorem wk37 (x0:Int) (x0':Int) (x0'':Int) (x1:(List Int)):Walks (runPure (kl37_0 Go.Proofs.Tryz.prog).orc Go.Proofs.Tryz.prog 400 37 as37 rs37 ((x0,x0',x0'',()),x1,())) (t37 x0 x0' x0'' x1) [([true,true,true,true],[2,4,1,6,8]),([true,true,true,false,true,true,true],[2,1,4,6,8,10,1,12,14]),([true,true,true,false,true,true,false,true],[2,4,1,6,8,10,12,1,14,16])] :=
  ⟨by kernel_rfl,by kernel_rfl,by kernel_rfl,trivial⟩

theorem ok37_t (x0:Int) (x0':Int) (x0'':Int) (x1:(List Int)):TrOk (PureRuns Go.Proofs.Tryz.prog (kl37_0 Go.Proofs.Tryz.prog).orc 37 as37 rs37 ((x0,x0',x0'',()),x1,())) (t37 x0 x0' x0'' x1) :=
  Walks.ok (fun _ _ _=>PureRuns.of) (wk37 x0 x0' x0'' x1) (by kernel_rfl)

theorem ok37:PureOk Go.Proofs.Tryz.prog 37 p37:=pureOk_of kl37_0_ok.base (T:=fun (d:Tys.data as37)=>t37 d.1.1 d.1.2.1 d.1.2.2.1 d.2.1) (by kernel_rfl) (fun (d:Tys.data as37)=>ok37_t d.1.1 d.1.2.1 d.1.2.2.1 d.2.1)
def kf37 (P:Go.Program):Known:=(kl37_0 P).func 37 p37
theorem kf37_ok:KnownOk Go.Proofs.Tryz.prog (kf37 Go.Proofs.Tryz.prog):=kl37_0_ok.func ok37

/-! ductility/sensor.bothError -/

abbrev as83:List Ty:=[(.slice (.int .i64)),(.slice (.int .i64))]
abbrev rs83:List Ty:=[(.int .i64)]

def t83 (x0:(List Int)) (x1:(List Int)):Tr (Tys.data rs83) :=
  Tr.test (Option.isSome (f71 (x0,())))
    (Tr.test (Option.isSome (f71 (x1,())))
      (Tr.test (Option.isSome (f62 ((!eqF (↑(List.length x0):Int) (↑(List.length x1):Int):Bool),((13:Int),()))))
        (let r0:=g71 (x0,());
        let r1:=g71 (x1,());
        let r2:=g62 ((!eqF (↑(List.length x0):Int) (↑(List.length x1):Int):Bool),((13:Int),()));
        Tr.test (Option.isSome (f48 (([r0.1,r1.1,r2.1]:List Int),())))
          (let r3:=g48 (([r0.1,r1.1,r2.1]:List Int),());
          Tr.fin ((r3.1,())))
          (Tr.stop))
        (Tr.stop))
      (Tr.stop))
    (Tr.stop)

def f83 (d:Tys.data as83):Option (Tys.data rs83):=(t83 d.1 d.2.1).val
def g83 (d:Tys.data as83):Tys.data rs83:=(f83 d).getD (Tys.dflt rs83)
def p83:PureC:=pcOf as83 rs83 f83 g83

theorem wk83 (x0:(List Int)) (x1:(List Int)):Walks (runPure (kf37 Go.Proofs.Tryz.prog).orc Go.Proofs.Tryz.prog 400 83 as83 rs83 (x0,x1,())) (t83 x0 x1) [([true,true,true,true],[2,1,4,6,8])] :=
  ⟨by kernel_rfl,trivial⟩

theorem ok83_t (x0:(List Int)) (x1:(List Int)):TrOk (PureRuns Go.Proofs.Tryz.prog (kf37 Go.Proofs.Tryz.prog).orc 83 as83 rs83 (x0,x1,())) (t83 x0 x1) :=
  Walks.ok (fun _ _ _=>PureRuns.of) (wk83 x0 x1) (by kernel_rfl)

theorem ok83:PureOk Go.Proofs.Tryz.prog 83 p83:=pureOk_of kf37_ok.base (T:=fun (d:Tys.data as83)=>t83 d.1 d.2.1) (by kernel_rfl) (fun (d:Tys.data as83)=>ok83_t d.1 d.2.1)
def kf83 (P:Go.Program):Known:=(kf37 P).func 83 p83
theorem kf83_ok:KnownOk Go.Proofs.Tryz.prog (kf83 Go.Proofs.Tryz.prog):=kf37_ok.func ok83

/-! loop 0 of ductility/sensor.sumAt -/

abbrev sh84_0:Sh:={ n:=37,slots:=[1,2,7,10,11,12],pats:=[.ty (.slice (.int .i64)),.ty (.int .i64),.ty (.int .i64),.ty (.slice (.int .i64)),.ty (.int .i64),.ty (.int .i64)],boxes:=[] }
abbrev shb84_0:Sh:={ n:=37,slots:=[7],pats:=[.ty (.int .i64)],boxes:=[] }
abbrev shr84_0:Sh:={ n:=37,slots:=[],pats:=[],boxes:=[] }

def t84_0 (x0:(List Int)) (x1:Int) (x2:Int) (x3:(List Int)) (x4:Int) (x5:Int):Tr (Out sh84_0.data shb84_0.data shr84_0.data) :=
  Tr.test ((!leF x4 x5:Bool))
    (Tr.test (decide ((0:Int) ≤ x5) && decide (x5 < (↑(List.length x3):Int)))
      (Tr.test (Option.isSome (f66 ((0:Int),((wrap64 ((↑(List.length x0):Int) - (1:Int)):Int),(([wrap64 (x5 + x1)]:List Int),())))))
        (let r0:=g66 ((0:Int),((wrap64 ((↑(List.length x0):Int) - (1:Int)):Int),(([wrap64 (x5 + x1)]:List Int),())));
        Tr.test (r0.1)
          (Tr.test ((decide ((0:Int) ≤ wrap64 (x5 + x1)) && decide (wrap64 (x5 + x1) < (↑(List.length x0):Int)):Bool))
            (Tr.fin (.again ((x0,(x1,((wrap64 (x2 + wrap64 (List.getD x3 (Int.toNat x5) (0:Int) * List.getD x0 (Int.toNat (wrap64 (x5 + x1))) (0:Int))):Int),(x3,(x4,((wrap64 (x5 + (1:Int)):Int),())))))),())))
            (Tr.stop))
          (Tr.fin (.again ((x0,(x1,(x2,(x3,(x4,((wrap64 (x5 + (1:Int)):Int),())))))),()))))
        (Tr.stop))
      (Tr.stop))
    (Tr.fin (.brk ((x2,()),())))

def s84_0 (d:sh84_0.data):Option (Out sh84_0.data shb84_0.data shr84_0.data):=(t84_0 d.1.1 d.1.2.1 d.1.2.2.1 d.1.2.2.2.1 d.1.2.2.2.2.1 d.1.2.2.2.2.2.1).val
def l84_0 (d:sh84_0.data):Option (shb84_0.data ⊕ shr84_0.data):=itr s84_0 rounds d
def b84_0 (d:sh84_0.data):shb84_0.data:=outB shb84_0.dflt (l84_0 d)
def lc84_0:LoopC:=lcB sh84_0 shb84_0 shr84_0 l84_0 b84_0

theorem wk84_0 (x0:(List Int)) (x1:Int) (x2:Int) (x3:(List Int)) (x4:Int) (x5:Int):Walks (runBody (kf83 Go.Proofs.Tryz.prog).orc Go.Proofs.Tryz.prog 400 84 0 sh84_0 shb84_0 shr84_0 ((x0,x1,x2,x3,x4,x5,()),())) (t84_0 x0 x1 x2 x3 x4 x5) [([true,true,true,true,true],[2,4,6,1,8,10]),([true,true,true,false],[2,4,1,6,8]),([ff],[2])] :=
  ⟨by kernel_rfl,by kernel_rfl,by kernel_rfl,trivial⟩

theorem ok84_0_t (x0:(List Int)) (x1:Int) (x2:Int) (x3:(List Int)) (x4:Int) (x5:Int):TrOk (BodyRuns Go.Proofs.Tryz.prog (kf83 Go.Proofs.Tryz.prog).orc 84 0 sh84_0 shb84_0 shr84_0 ((x0,x1,x2,x3,x4,x5,()),())) (t84_0 x0 x1 x2 x3 x4 x5) :=
  Walks.ok (fun _ _ _=>BodyRuns.of) (wk84_0 x0 x1 x2 x3 x4 x5) (by kernel_rfl)

theorem ok84_0:LoopOk Go.Proofs.Tryz.prog 84 0 lc84_0:=loopOk_ofB (sh:=sh84_0) (shB:=shb84_0) (shR:=shr84_0) kf83_ok.base (T:=fun (d:sh84_0.data)=>t84_0 d.1.1 d.1.2.1 d.1.2.2.1 d.1.2.2.2.1 d.1.2.2.2.2.1 d.1.2.2.2.2.2.1) (by kernel_rfl) rfl (fun (d:sh84_0.data)=>ok84_0_t d.1.1 d.1.2.1 d.1.2.2.1 d.1.2.2.2.1 d.1.2.2.2.2.1 d.1.2.2.2.2.2.1) (fun _=>rfl)
def kl84_0 (P:Go.Program):Known:=(kf83 P).loop 84 0 lc84_0
theorem kl84_0_ok:KnownOk Go.Proofs.Tryz.prog (kl84_0 Go.Proofs.Tryz.prog):=kf83_ok.loop ok84_0

/-! ductility/sensor.sumAt -/

abbrev as84:List Ty:=[(.slice (.int .i64)),(.slice (.int .i64)),(.int .i64)]
abbrev rs84:List Ty:=[(.int .i64)]

def t84 (x0:(List Int)) (x1:(List Int)) (x2:Int):Tr (Tys.data rs84) :=
  Tr.test (isBrk (l84_0 ((x1,(x2,((0:Int),(x0,((↑(List.length x0):Int),((0:Int),())))))),())))
    (let r0:=b84_0 ((x1,(x2,((0:Int),(x0,((↑(List.length x0):Int),((0:Int),())))))),());
    Tr.fin ((r0.1.1,())))
    (Tr.stop)

def f84 (d:Tys.data as84):Option (Tys.data rs84):=(t84 d.1 d.2.1 d.2.2.1).val
def g84 (d:Tys.data as84):Tys.data rs84:=(f84 d).getD (Tys.dflt rs84)
def p84:PureC:=pcOf as84 rs84 f84 g84

theorem wk84 (x0:(List Int)) (x1:(List Int)) (x2:Int):Walks (runPure (kl84_0 Go.Proofs.Tryz.prog).orc Go.Proofs.Tryz.prog 400 84 as84 rs84 (x0,x1,x2,())) (t84 x0 x1 x2) [([tt],[1,2])] :=
  ⟨by kernel_rfl,trivial⟩

theorem ok84_t (x0:(List Int)) (x1:(List Int)) (x2:Int):TrOk (PureRuns Go.Proofs.Tryz.prog (kl84_0 Go.Proofs.Tryz.prog).orc 84 as84 rs84 (x0,x1,x2,())) (t84 x0 x1 x2) :=
  Walks.ok (fun _ _ _=>PureRuns.of) (wk84 x0 x1 x2) (by kernel_rfl)

theorem ok84:PureOk Go.Proofs.Tryz.prog 84 p84:=pureOk_of kl84_0_ok.base (T:=fun (d:Tys.data as84)=>t84 d.1 d.2.1 d.2.2.1) (by kernel_rfl) (fun (d:Tys.data as84)=>ok84_t d.1 d.2.1 d.2.2.1)
def kf84 (P:Go.Program):Known:=(kl84_0 P).func 84 p84
theorem kf84_ok:KnownOk Go.Proofs.Tryz.prog (kf84 Go.Proofs.Tryz.prog):=kl84_0_ok.func ok84

/-! loop 2 of ductility/sensor.ShiftOf -/

abbrev sh38_2:Sh:={ n:=58,slots:=[0,1,2,10,11,12,41,42,43],pats:=[.ty (.slice (.int .i64)),.ty (.slice (.int .i64)),.ty (.int .i64),.ty (.int .i64),.ty (.int .i64),.ty (.int .i64),.sli 0 1,.ty (.int .i64),.ty (.int .i64)],boxes:=[.arr (.int .i64)] }
abbrev shb38_2:Sh:={ n:=58,slots:=[0,1,2,10,11,12],pats:=[.ty (.slice (.int .i64)),.ty (.slice (.int .i64)),.ty (.int .i64),.ty (.int .i64),.ty (.int .i64),.ty (.int .i64)],boxes:=[.arr (.int .i64)] }
abbrev shr38_2:Sh:={ n:=58,slots:=[],pats:=[],boxes:=[.arr (.int .i64)] }

def t38_2 (x0:(List Int)) (x1:(List Int)) (x2:Int) (x3:Int) (x4:Int) (x5:Int) (x6n:Nat) (x6c:Nat) (x7:Int) (x8:Int) (b0:(List Int)):Tr (Out sh38_2.data shb38_2.data shr38_2.data) :=
  Tr.test ((!leF x7 x8:Bool))
    (Tr.test (decide ((0:Int) ≤ x8) && decide (x8 < (↑x6n:Int)))
      (Tr.test ((Nat.ble ((0:Nat) + Int.toNat x8 + (1:Nat)) (List.length b0):Bool))
        (Tr.test (Option.isSome (f84 (x0,(x1,((List.getD b0 ((0:Nat) + Int.toNat x8) (0:Int):Int),())))))
          (let r0:=g84 (x0,(x1,((List.getD b0 ((0:Nat) + Int.toNat x8) (0:Int):Int),())));
          Tr.test ((!leF r0.1 x4:Bool))
            (Tr.fin (.again ((x0,(x1,(x2,((List.getD b0 ((0:Nat) + Int.toNat x8) (0:Int):Int),(r0.1,(x5,((x6n,x6c),(x7,((wrap64 (x8 + (1:Int)):Int),()))))))))),(b0,()))))
            (Tr.fin (.again ((x0,(x1,(x2,(x3,(x4,(x5,((x6n,x6c),(x7,((wrap64 (x8 + (1:Int)):Int),()))))))))),(b0,())))))
          (Tr.stop))
        (Tr.stop))
      (Tr.stop))
    (Tr.fin (.brk ((x0,(x1,(x2,(x3,(x4,(x5,())))))),(b0,()))))

def s38_2 (d:sh38_2.data):Option (Out sh38_2.data shb38_2.data shr38_2.data):=(t38_2 d.1.1 d.1.2.1 d.1.2.2.1 d.1.2.2.2.1 d.1.2.2.2.2.1 d.1.2.2.2.2.2.1 d.1.2.2.2.2.2.2.1.1 d.1.2.2.2.2.2.2.1.2 d.1.2.2.2.2.2.2.2.1 d.1.2.2.2.2.2.2.2.2.1 d.2.1).val
def l38_2 (d:sh38_2.data):Option (shb38_2.data ⊕ shr38_2.data):=itr s38_2 rounds d
def b38_2 (d:sh38_2.data):shb38_2.data:=outB shb38_2.dflt (l38_2 d)
def lc38_2:LoopC:=lcB sh38_2 shb38_2 shr38_2 l38_2 b38_2

theorem wk38_2 (x0:(List Int)) (x1:(List Int)) (x2:Int) (x3:Int) (x4:Int) (x5:Int) (x6n:Nat) (x6c:Nat) (x7:Int) (x8:Int) (b0:(List Int)):Walks (runBody (kf84 Go.Proofs.Tryz.prog).orc Go.Proofs.Tryz.prog 400 38 2 sh38_2 shb38_2 shr38_2 ((x0,x1,x2,x3,x4,x5,(x6n,x6c),x7,x8,()),b0,())) (t38_2 x0 x1 x2 x3 x4 x5 x6n x6c x7 x8 b0) [([true,true,true,true,true],[2,4,6,8,10]),([true,true,true,true,false],[2,4,6,8,10]),([ff],[2])] :=
  ⟨by kernel_rfl,by kernel_rfl,by kernel_rfl,trivial⟩

theorem ok38_2_t (x0:(List Int)) (x1:(List Int)) (x2:Int) (x3:Int) (x4:Int) (x5:Int) (x6n:Nat) (x6c:Nat) (x7:Int) (x8:Int) (b0:(List Int)):TrOk (BodyRuns Go.Proofs.Tryz.prog (kf84 Go.Proofs.Tryz.prog).orc 38 2 sh38_2 shb38_2 shr38_2 ((x0,x1,x2,x3,x4,x5,(x6n,x6c),x7,x8,()),b0,())) (t38_2 x0 x1 x2 x3 x4 x5 x6n x6c x7 x8 b0) :=
  Walks.ok (fun _ _ _=>BodyRuns.of) (wk38_2 x0 x1 x2 x3 x4 x5 x6n x6c x7 x8 b0) (by kernel_rfl)

theorem ok38_2:LoopOk Go.Proofs.Tryz.prog 38 2 lc38_2:=loopOk_ofB (sh:=sh38_2) (shB:=shb38_2) (shR:=shr38_2) kf84_ok.base (T:=fun (d:sh38_2.data)=>t38_2 d.1.1 d.1.2.1 d.1.2.2.1 d.1.2.2.2.1 d.1.2.2.2.2.1 d.1.2.2.2.2.2.1 d.1.2.2.2.2.2.2.1.1 d.1.2.2.2.2.2.2.1.2 d.1.2.2.2.2.2.2.2.1 d.1.2.2.2.2.2.2.2.2.1 d.2.1) (by kernel_rfl) rfl (fun (d:sh38_2.data)=>ok38_2_t d.1.1 d.1.2.1 d.1.2.2.1 d.1.2.2.2.1 d.1.2.2.2.2.1 d.1.2.2.2.2.2.1 d.1.2.2.2.2.2.2.1.1 d.1.2.2.2.2.2.2.1.2 d.1.2.2.2.2.2.2.2.1 d.1.2.2.2.2.2.2.2.2.1 d.2.1) (fun _=>rfl)
def kl38_2 (P:Go.Program):Known:=(kf84 P).loop 38 2 lc38_2
theorem kl38_2_ok:KnownOk Go.Proofs.Tryz.prog (kl38_2 Go.Proofs.Tryz.prog):=kf84_ok.loop ok38_2

/-! loop 0 of ductility/sensor.ShiftOf -/

abbrev sh38_0:Sh:={ n:=58,slots:=[0,1,2,10,11,12],pats:=[.ty (.slice (.int .i64)),.ty (.slice (.int .i64)),.ty (.int .i64),.ty (.int .i64),.ty (.int .i64),.ty (.int .i64)],boxes:=[] }
abbrev shb38_0:Sh:={ n:=58,slots:=[10],pats:=[.ty (.int .i64)],boxes:=[] }
abbrev shr38_0:Sh:={ n:=58,slots:=[],pats:=[],boxes:=[] }

def t38_0 (x0:(List Int)) (x1:(List Int)) (x2:Int) (x3:Int) (x4:Int) (x5:Int):Tr (Out sh38_0.data shb38_0.data shr38_0.data) :=
  Tr.test ((leF x5 x2:Bool))
    (Tr.test (isBrk (l38_2 ((x0,(x1,(x2,(x3,(x4,(x5,(((2:Nat),(2:Nat)),((2:Int),((0:Int),()))))))))),(([Go.IntKind.wrap Go.IntKind.i64 ((0:Int) - x5),x5]:List Int),()))))
      (let r0:=b38_2 ((x0,(x1,(x2,(x3,(x4,(x5,(((2:Nat),(2:Nat)),((2:Int),((0:Int),()))))))))),(([Go.IntKind.wrap Go.IntKind.i64 ((0:Int) - x5),x5]:List Int),()));
      Tr.fin (.again ((r0.1.1,(r0.1.2.1,(r0.1.2.2.1,(r0.1.2.2.2.1,(r0.1.2.2.2.2.1,((wrap64 (r0.1.2.2.2.2.2.1 + (1:Int)):Int),())))))),())))
      (Tr.stop))
    (Tr.fin (.brk ((x3,()),())))

def s38_0 (d:sh38_0.data):Option (Out sh38_0.data shb38_0.data shr38_0.data):=(t38_0 d.1.1 d.1.2.1 d.1.2.2.1 d.1.2.2.2.1 d.1.2.2.2.2.1 d.1.2.2.2.2.2.1).val
def l38_0 (d:sh38_0.data):Option (shb38_0.data ⊕ shr38_0.data):=itr s38_0 rounds d
def b38_0 (d:sh38_0.data):shb38_0.data:=outB shb38_0.dflt (l38_0 d)
def lc38_0:LoopC:=lcB sh38_0 shb38_0 shr38_0 l38_0 b38_0

theorem wk38_0 (x0:(List Int)) (x1:(List Int)) (x2:Int) (x3:Int) (x4:Int) (x5:Int):Walks (runBody (kl38_2 Go.Proofs.Tryz.prog).orc Go.Proofs.Tryz.prog 400 38 0 sh38_0 shb38_0 shr38_0 ((x0,x1,x2,x3,x4,x5,()),())) (t38_0 x0 x1 x2 x3 x4 x5) [([true,true],[1,2,4]),([ff],[2])] :=
  ⟨by kernel_rfl,by kernel_rfl,trivial⟩

theorem ok38_0_t (x0:(List Int)) (x1:(List Int)) (x2:Int) (x3:Int) (x4:Int) (x5:Int):TrOk (BodyRuns Go.Proofs.Tryz.prog (kl38_2 Go.Proofs.Tryz.prog).orc 38 0 sh38_0 shb38_0 shr38_0 ((x0,x1,x2,x3,x4,x5,()),())) (t38_0 x0 x1 x2 x3 x4 x5) :=
  Walks.ok (fun _ _ _=>BodyRuns.of) (wk38_0 x0 x1 x2 x3 x4 x5) (by kernel_rfl)

theorem ok38_0:LoopOk Go.Proofs.Tryz.prog 38 0 lc38_0:=loopOk_ofB (sh:=sh38_0) (shB:=shb38_0) (shR:=shr38_0) kl38_2_ok.base (T:=fun (d:sh38_0.data)=>t38_0 d.1.1 d.1.2.1 d.1.2.2.1 d.1.2.2.2.1 d.1.2.2.2.2.1 d.1.2.2.2.2.2.1) (by kernel_rfl) rfl (fun (d:sh38_0.data)=>ok38_0_t d.1.1 d.1.2.1 d.1.2.2.1 d.1.2.2.2.1 d.1.2.2.2.2.1 d.1.2.2.2.2.2.1) (fun _=>rfl)
def kl38_0 (P:Go.Program):Known:=(kl38_2 P).loop 38 0 lc38_0
theorem kl38_0_ok:KnownOk Go.Proofs.Tryz.prog (kl38_0 Go.Proofs.Tryz.prog):=kl38_2_ok.loop ok38_0

/-! ductility/sensor.ShiftOf -/

abbrev as38:List Ty:=[(.slice (.int .i64)),(.slice (.int .i64)),(.int .i64)]
abbrev rs38:List Ty:=[(.int .i64),(.int .i64)]

def t38 (x0:(List Int)) (x1:(List Int)) (x2:Int):Tr (Tys.data rs38) :=
  Tr.test (Option.isSome (f66 ((0:Int),((20:Int),(([x2]:List Int),())))))
    (Tr.test (Option.isSome (f83 (x0,(x1,()))))
      (let r0:=g66 ((0:Int),((20:Int),(([x2]:List Int),())));
      Tr.test (Option.isSome (f62 ((!r0.1:Bool),((2:Int),()))))
        (let r1:=g83 (x0,(x1,()));
        let r2:=g62 ((!r0.1:Bool),((2:Int),()));
        Tr.test (Option.isSome (f48 (([r1.1,r2.1]:List Int),())))
          (let r3:=g48 (([r1.1,r2.1]:List Int),());
          Tr.test ((!eqF r3.1 0:Bool))
            (Tr.fin (((0:Int),(r3.1,()))))
            (Tr.test (Option.isSome (f84 (x0,(x1,((0:Int),())))))
              (let r4:=g84 (x0,(x1,((0:Int),())));
              Tr.test (isBrk (l38_0 ((x0,(x1,(x2,((0:Int),(r4.1,((1:Int),())))))),())))
                (let r5:=b38_0 ((x0,(x1,(x2,((0:Int),(r4.1,((1:Int),())))))),());
                Tr.fin ((r5.1.1,((0:Int),()))))
                (Tr.stop))
              (Tr.stop)))
          (Tr.stop))
        (Tr.stop))
      (Tr.stop))
    (Tr.stop)

def f38 (d:Tys.data as38):Option (Tys.data rs38):=(t38 d.1 d.2.1 d.2.2.1).val
def g38 (d:Tys.data as38):Tys.data rs38:=(f38 d).getD (Tys.dflt rs38)
def p38:PureC:=pcOf as38 rs38 f38 g38

theorem wk38 (x0:(List Int)) (x1:(List Int)) (x2:Int):Walks (runPure (kl38_0 Go.Proofs.Tryz.prog).orc Go.Proofs.Tryz.prog 400 38 as38 rs38 (x0,x1,x2,())) (t38 x0 x1 x2) [([true,true,true,true,true],[2,4,1,6,8,10,1]),([true,true,true,true,false,true,true],[1,2,4,6,8,1,10,12,14,1])] :=
  ⟨by kernel_rfl,by kernel_rfl,trivial⟩

theorem ok38_t (x0:(List Int)) (x1:(List Int)) (x2:Int):TrOk (PureRuns Go.Proofs.Tryz.prog (kl38_0 Go.Proofs.Tryz.prog).orc 38 as38 rs38 (x0,x1,x2,())) (t38 x0 x1 x2) :=
  Walks.ok (fun _ _ _=>PureRuns.of) (wk38 x0 x1 x2) (by kernel_rfl)

theorem ok38:PureOk Go.Proofs.Tryz.prog 38 p38:=pureOk_of kl38_0_ok.base (T:=fun (d:Tys.data as38)=>t38 d.1 d.2.1 d.2.2.1) (by kernel_rfl) (fun (d:Tys.data as38)=>ok38_t d.1 d.2.1 d.2.2.1)
def kf38 (P:Go.Program):Known:=(kl38_0 P).func 38 p38
theorem kf38_ok:KnownOk Go.Proofs.Tryz.prog (kf38 Go.Proofs.Tryz.prog):=kl38_0_ok.func ok38

/-! ductility/ductilitylaw07.Truth -/

abbrev as40:List Ty:=[]
abbrev rs40:List Ty:=[(.pair (.slice (.slice (.int .i64))) (.pair (.int .i64) .unit))]

def t40 :Tr (Tys.data rs40) :=
  Tr.fin (((([[(1:Int),(5:Int),(9:Int)],[(2:Int),(-4:Int),(8:Int)]]:List (List Int)),((1:Int),())),()))

def f40 (d:Tys.data as40):Option (Tys.data rs40):=(t40 ).val
def g40 (d:Tys.data as40):Tys.data rs40:=(f40 d).getD (Tys.dflt rs40)
def p40:PureC:=pcOf as40 rs40 f40 g40

theorem wk40 :Walks (runPure (kf38 Go.Proofs.Tryz.prog).orc Go.Proofs.Tryz.prog 400 40 as40 rs40 ()) (t40 ) [([],[1,1,1])] :=
  ⟨by kernel_rfl,trivial⟩

theorem ok40_t :TrOk (PureRuns Go.Proofs.Tryz.prog (kf38 Go.Proofs.Tryz.prog).orc 40 as40 rs40 ()) (t40 ) :=
  Walks.ok (fun _ _ _=>PureRuns.of) (wk40 ) (by kernel_rfl)

theorem ok40:PureOk Go.Proofs.Tryz.prog 40 p40:=pureOk_of kf38_ok.base (T:=fun (d:Tys.data as40)=>t40 ) (by kernel_rfl) (fun (d:Tys.data as40)=>ok40_t )
def kf40 (P:Go.Program):Known:=(kf38 P).func 40 p40
theorem kf40_ok:KnownOk Go.Proofs.Tryz.prog (kf40 Go.Proofs.Tryz.prog):=kf38_ok.func ok40

/-! ductility/ductilitylaw07.Measured -/

abbrev as41:List Ty:=[]
abbrev rs41:List Ty:=[(.slice (.slice (.int .i64)))]

def t41 :Tr (Tys.data rs41) :=
  Tr.fin ((([[(-2:Int),(4:Int),(-7:Int)],[(1:Int),(4:Int),(9:Int)]]:List (List Int)),()))

def f41 (d:Tys.data as41):Option (Tys.data rs41):=(t41 ).val
def g41 (d:Tys.data as41):Tys.data rs41:=(f41 d).getD (Tys.dflt rs41)
def p41:PureC:=pcOf as41 rs41 f41 g41

theorem wk41 :Walks (runPure (kf40 Go.Proofs.Tryz.prog).orc Go.Proofs.Tryz.prog 400 41 as41 rs41 ()) (t41 ) [([],[1,1,1])] :=
  ⟨by kernel_rfl,trivial⟩

theorem ok41_t :TrOk (PureRuns Go.Proofs.Tryz.prog (kf40 Go.Proofs.Tryz.prog).orc 41 as41 rs41 ()) (t41 ) :=
  Walks.ok (fun _ _ _=>PureRuns.of) (wk41 ) (by kernel_rfl)

theorem ok41:PureOk Go.Proofs.Tryz.prog 41 p41:=pureOk_of kf40_ok.base (T:=fun (d:Tys.data as41)=>t41 ) (by kernel_rfl) (fun (d:Tys.data as41)=>ok41_t )
def kf41 (P:Go.Program):Known:=(kf40 P).func 41 p41
theorem kf41_ok:KnownOk Go.Proofs.Tryz.prog (kf41 Go.Proofs.Tryz.prog):=kf40_ok.func ok41

/-! ductility/ductilitylaw07.Watchers -/

abbrev as43:List Ty:=[]
abbrev rs43:List Ty:=[(.slice (.slice (.int .i64)))]

def t43 :Tr (Tys.data rs43) :=
  Tr.fin ((([[(1:Int),(8:Int),(9:Int),(9:Int)],[(2:Int),(7:Int),(1:Int),(8:Int)],[(9:Int),(9:Int),(9:Int),(2:Int)]]:List (List Int)),()))

def f43 (d:Tys.data as43):Option (Tys.data rs43):=(t43 ).val
def g43 (d:Tys.data as43):Tys.data rs43:=(f43 d).getD (Tys.dflt rs43)
def p43:PureC:=pcOf as43 rs43 f43 g43

theorem wk43 :Walks (runPure (kf41 Go.Proofs.Tryz.prog).orc Go.Proofs.Tryz.prog 400 43 as43 rs43 ()) (t43 ) [([],[1,1,1,1])] :=
  ⟨by kernel_rfl,trivial⟩

theorem ok43_t :TrOk (PureRuns Go.Proofs.Tryz.prog (kf41 Go.Proofs.Tryz.prog).orc 43 as43 rs43 ()) (t43 ) :=
  Walks.ok (fun _ _ _=>PureRuns.of) (wk43 ) (by kernel_rfl)

theorem ok43:PureOk Go.Proofs.Tryz.prog 43 p43:=pureOk_of kf41_ok.base (T:=fun (d:Tys.data as43)=>t43 ) (by kernel_rfl) (fun (d:Tys.data as43)=>ok43_t )
def kf43 (P:Go.Program):Known:=(kf41 P).func 43 p43
theorem kf43_ok:KnownOk Go.Proofs.Tryz.prog (kf43 Go.Proofs.Tryz.prog):=kf41_ok.func ok43

/-! ductility/ductilitylaw07.Watch -/

abbrev as44:List Ty:=[]
abbrev rs44:List Ty:=[(.pair (.int .i64) (.pair (.int .i64) (.pair (.int .i64) .unit)))]

def t44 :Tr (Tys.data rs44) :=
  Tr.fin ((((5:Int),((2:Int),((3:Int),()))),()))

def f44 (d:Tys.data as44):Option (Tys.data rs44):=(t44 ).val
def g44 (d:Tys.data as44):Tys.data rs44:=(f44 d).getD (Tys.dflt rs44)
def p44:PureC:=pcOf as44 rs44 f44 g44

theorem wk44 :Walks (runPure (kf43 Go.Proofs.Tryz.prog).orc Go.Proofs.Tryz.prog 400 44 as44 rs44 ()) (t44 ) [([],[])] :=
  ⟨by kernel_rfl,trivial⟩

theorem ok44_t :TrOk (PureRuns Go.Proofs.Tryz.prog (kf43 Go.Proofs.Tryz.prog).orc 44 as44 rs44 ()) (t44 ) :=
  Walks.ok (fun _ _ _=>PureRuns.of) (wk44 ) (by kernel_rfl)

theorem ok44:PureOk Go.Proofs.Tryz.prog 44 p44:=pureOk_of kf43_ok.base (T:=fun (d:Tys.data as44)=>t44 ) (by kernel_rfl) (fun (d:Tys.data as44)=>ok44_t )
def kf44 (P:Go.Program):Known:=(kf43 P).func 44 p44
theorem kf44_ok:KnownOk Go.Proofs.Tryz.prog (kf44 Go.Proofs.Tryz.prog):=kf43_ok.func ok44

/-! loop 0 of ductility/sensor.checkItems[[]int] -/

abbrev sh102_0:Sh:={ n:=25,slots:=[1,9,10,11],pats:=[.fn 127 [(0,1)],.ty (.slice (.slice (.int .i64))),.ty (.int .i64),.ty (.int .i64)],boxes:=[.row [.ty (.int .i64)]] }
abbrev shb102_0:Sh:={ n:=25,slots:=[],pats:=[],boxes:=[.row [.ty (.int .i64)]] }
abbrev shr102_0:Sh:={ n:=25,slots:=[4,5],pats:=[.ty (.int .i64),.ty (.int .i64)],boxes:=[.row [.ty (.int .i64)]] }

def t102_0 (x1:(List (List Int))) (x2:Int) (x3:Int) (b0_0:Int):Tr (Out sh102_0.data shb102_0.data shr102_0.data) :=
  Tr.test ((!leF x2 x3:Bool))
    (Tr.test (decide ((0:Int) ≤ x3) && decide (x3 < (↑(List.length x1):Int)))
      (Tr.test (Option.isSome (f71 ((List.getD x1 (Int.toNat x3) []:List Int),())))
        (Tr.test (Option.isSome (f62 ((!eqF (↑(List.length (List.getD x1 (Int.toNat x3) [])):Int) b0_0:Bool),((13:Int),()))))
          (let r0:=g71 ((List.getD x1 (Int.toNat x3) []:List Int),());
          let r1:=g62 ((!eqF (↑(List.length (List.getD x1 (Int.toNat x3) [])):Int) b0_0:Bool),((13:Int),()));
          Tr.test (Option.isSome (f48 (([r0.1,r1.1]:List Int),())))
            (let r2:=g48 (([r0.1,r1.1]:List Int),());
            Tr.test ((!eqF r2.1 0:Bool))
              (Tr.fin (.ret ((x3,(r2.1,())),((b0_0,()),()))))
              (Tr.fin (.again ((x1,(x2,((wrap64 (x3 + (1:Int)):Int),()))),((b0_0,()),())))))
            (Tr.stop))
          (Tr.stop))
        (Tr.stop))
      (Tr.stop))
    (Tr.fin (.brk ((),((b0_0,()),()))))

def s102_0 (d:sh102_0.data):Option (Out sh102_0.data shb102_0.data shr102_0.data):=(t102_0 d.1.1 d.1.2.1 d.1.2.2.1 d.2.1.1).val
def l102_0 (d:sh102_0.data):Option (shb102_0.data ⊕ shr102_0.data):=itr s102_0 rounds d
def b102_0 (d:sh102_0.data):shb102_0.data:=outB shb102_0.dflt (l102_0 d)
def r102_0 (d:sh102_0.data):shr102_0.data:=outR shr102_0.dflt (l102_0 d)
def lc102_0:LoopC:=lcOf sh102_0 shb102_0 shr102_0 l102_0 b102_0 r102_0

theorem wk102_0 (x1:(List (List Int))) (x2:Int) (x3:Int) (b0_0:Int):Walks (runBody (kf44 Go.Proofs.Tryz.prog).orc Go.Proofs.Tryz.prog 400 102 0 sh102_0 shb102_0 shr102_0 ((x1,x2,x3,()),(b0_0,()),())) (t102_0 x1 x2 x3 b0_0) [([true,true,true,true,true,true],[2,4,1,6,8,10,12]),([true,true,true,true,true,false],[2,4,1,6,8,10,12]),([ff],[2])] :=
  ⟨by kernel_rfl,by kernel_rfl,by kernel_rfl,trivial⟩

theorem ok102_0_t (x1:(List (List Int))) (x2:Int) (x3:Int) (b0_0:Int):TrOk (BodyRuns Go.Proofs.Tryz.prog (kf44 Go.Proofs.Tryz.prog).orc 102 0 sh102_0 shb102_0 shr102_0 ((x1,x2,x3,()),(b0_0,()),())) (t102_0 x1 x2 x3 b0_0) :=
  Walks.ok (fun _ _ _=>BodyRuns.of) (wk102_0 x1 x2 x3 b0_0) (by kernel_rfl)

theorem ok102_0:LoopOk Go.Proofs.Tryz.prog 102 0 lc102_0:=loopOk_of (sh:=sh102_0) (shB:=shb102_0) (shR:=shr102_0) kf44_ok.base (T:=fun (d:sh102_0.data)=>t102_0 d.1.1 d.1.2.1 d.1.2.2.1 d.2.1.1) (by kernel_rfl) rfl (fun (d:sh102_0.data)=>ok102_0_t d.1.1 d.1.2.1 d.1.2.2.1 d.2.1.1) (fun _=>rfl)
def kl102_0 (P:Go.Program):Known:=(kf44 P).loop 102 0 lc102_0
theorem kl102_0_ok:KnownOk Go.Proofs.Tryz.prog (kl102_0 Go.Proofs.Tryz.prog):=kf44_ok.loop ok102_0

/-! ductility/sensor.checkSamples -/

abbrev as112:List Ty:=[(.slice (.slice (.int .i64))),(.int .i64)]
abbrev rs112:List Ty:=[(.int .i64),(.int .i64)]

def t112 (x0:(List (List Int))) (x1:Int):Tr (Tys.data rs112) :=
  Tr.test (Option.isSome (l102_0 ((x0,((↑(List.length x0):Int),((0:Int),()))),((x1,()),()))))
    (Tr.test (isRet (l102_0 ((x0,((↑(List.length x0):Int),((0:Int),()))),((x1,()),()))))
      (let r0:=r102_0 ((x0,((↑(List.length x0):Int),((0:Int),()))),((x1,()),()));
      Tr.fin ((r0.1.1,(r0.1.2.1,()))))
      (Tr.fin (((0:Int),((0:Int),())))))
    (Tr.stop)

def f112 (d:Tys.data as112):Option (Tys.data rs112):=(t112 d.1 d.2.1).val
def g112 (d:Tys.data as112):Tys.data rs112:=(f112 d).getD (Tys.dflt rs112)
def p112:PureC:=pcOf as112 rs112 f112 g112

theorem wk112 (x0:(List (List Int))) (x1:Int):Walks (runPure (kl102_0 Go.Proofs.Tryz.prog).orc Go.Proofs.Tryz.prog 400 112 as112 rs112 (x0,x1,())) (t112 x0 x1) [([true,true],[2,4]),([true,false],[2,4])] :=
  ⟨by kernel_rfl,by kernel_rfl,trivial⟩

theorem ok112_t (x0:(List (List Int))) (x1:Int):TrOk (PureRuns Go.Proofs.Tryz.prog (kl102_0 Go.Proofs.Tryz.prog).orc 112 as112 rs112 (x0,x1,())) (t112 x0 x1) :=
  Walks.ok (fun _ _ _=>PureRuns.of) (wk112 x0 x1) (by kernel_rfl)

theorem ok112:PureOk Go.Proofs.Tryz.prog 112 p112:=pureOk_of kl102_0_ok.base (T:=fun (d:Tys.data as112)=>t112 d.1 d.2.1) (by kernel_rfl) (fun (d:Tys.data as112)=>ok112_t d.1 d.2.1)
def kf112 (P:Go.Program):Known:=(kl102_0 P).func 112 p112
theorem kf112_ok:KnownOk Go.Proofs.Tryz.prog (kf112 Go.Proofs.Tryz.prog):=kl102_0_ok.func ok112

/-! ductility/sensor.checkChannels -/

abbrev as126:List Ty:=[(.slice (.slice (.int .i64))),(.int .i64)]
abbrev rs126:List Ty:=[(.int .i64),(.int .i64)]

def t126 (x0:(List (List Int))) (x1:Int):Tr (Tys.data rs126) :=
  Tr.test (Option.isSome (f93 ((↑(List.length x0):Int),(x1,()))))
    (let r0:=g93 ((↑(List.length x0):Int),(x1,()));
    Tr.test ((!eqF r0.1 0:Bool))
      (Tr.fin (((0:Int),(r0.1,()))))
      (Tr.test ((true && decide ((0:Int) < (↑(List.length x0):Int)):Bool))
        (Tr.test (Option.isSome (f112 (x0,((↑(List.length (List.getD x0 (0:Nat) [])):Int),()))))
          (let r1:=g112 (x0,((↑(List.length (List.getD x0 (0:Nat) [])):Int),()));
          Tr.fin ((r1.1,(r1.2.1,()))))
          (Tr.stop))
        (Tr.stop)))
    (Tr.stop)

def f126 (d:Tys.data as126):Option (Tys.data rs126):=(t126 d.1 d.2.1).val
def g126 (d:Tys.data as126):Tys.data rs126:=(f126 d).getD (Tys.dflt rs126)
def p126:PureC:=pcOf as126 rs126 f126 g126

theorem wk126 (x0:(List (List Int))) (x1:Int):Walks (runPure (kf112 Go.Proofs.Tryz.prog).orc Go.Proofs.Tryz.prog 400 126 as126 rs126 (x0,x1,())) (t126 x0 x1) [([true,true],[2,4]),([true,false,true,true],[2,4,6,8])] :=
  ⟨by kernel_rfl,by kernel_rfl,trivial⟩

theorem ok126_t (x0:(List (List Int))) (x1:Int):TrOk (PureRuns Go.Proofs.Tryz.prog (kf112 Go.Proofs.Tryz.prog).orc 126 as126 rs126 (x0,x1,())) (t126 x0 x1) :=
  Walks.ok (fun _ _ _=>PureRuns.of) (wk126 x0 x1) (by kernel_rfl)

theorem ok126:PureOk Go.Proofs.Tryz.prog 126 p126:=pureOk_of kf112_ok.base (T:=fun (d:Tys.data as126)=>t126 d.1 d.2.1) (by kernel_rfl) (fun (d:Tys.data as126)=>ok126_t d.1 d.2.1)
def kf126 (P:Go.Program):Known:=(kf112 P).func 126 p126
theorem kf126_ok:KnownOk Go.Proofs.Tryz.prog (kf126 Go.Proofs.Tryz.prog):=kf112_ok.func ok126

/-! ductility/sensor.channelsError -/

abbrev as114:List Ty:=[(.slice (.slice (.int .i64))),(.int .i64)]
abbrev rs114:List Ty:=[(.int .i64)]

def t114 (x0:(List (List Int))) (x1:Int):Tr (Tys.data rs114) :=
  Tr.test (Option.isSome (f126 (x0,(x1,()))))
    (let r0:=g126 (x0,(x1,()));
    Tr.fin ((r0.2.1,())))
    (Tr.stop)

def f114 (d:Tys.data as114):Option (Tys.data rs114):=(t114 d.1 d.2.1).val
def g114 (d:Tys.data as114):Tys.data rs114:=(f114 d).getD (Tys.dflt rs114)
def p114:PureC:=pcOf as114 rs114 f114 g114

theorem wk114 (x0:(List (List Int))) (x1:Int):Walks (runPure (kf126 Go.Proofs.Tryz.prog).orc Go.Proofs.Tryz.prog 400 114 as114 rs114 (x0,x1,())) (t114 x0 x1) [([tt],[2])] :=
  ⟨by kernel_rfl,trivial⟩

theorem ok114_t (x0:(List (List Int))) (x1:Int):TrOk (PureRuns Go.Proofs.Tryz.prog (kf126 Go.Proofs.Tryz.prog).orc 114 as114 rs114 (x0,x1,())) (t114 x0 x1) :=
  Walks.ok (fun _ _ _=>PureRuns.of) (wk114 x0 x1) (by kernel_rfl)

theorem ok114:PureOk Go.Proofs.Tryz.prog 114 p114:=pureOk_of kf126_ok.base (T:=fun (d:Tys.data as114)=>t114 d.1 d.2.1) (by kernel_rfl) (fun (d:Tys.data as114)=>ok114_t d.1 d.2.1)
def kf114 (P:Go.Program):Known:=(kf126 P).func 114 p114
theorem kf114_ok:KnownOk Go.Proofs.Tryz.prog (kf114 Go.Proofs.Tryz.prog):=kf126_ok.func ok114

/-! ductility/sensor.watchError -/

abbrev as115:List Ty:=[(.pair (.int .i64) (.pair (.int .i64) (.pair (.int .i64) .unit))),(.int .i64)]
abbrev rs115:List Ty:=[(.int .i64)]

def t115 (x0:Int) (x0':Int) (x0'':Int) (x1:Int):Tr (Tys.data rs115) :=
  Tr.test (Option.isSome (f66 ((0:Int),((100000:Int),(([x0]:List Int),())))))
    (let r0:=g66 ((0:Int),((100000:Int),(([x0]:List Int),())));
    Tr.test (r0.1)
      (Tr.test (Option.isSome (f66 ((1:Int),(x1,(([x0']:List Int),())))))
        (let r1:=g66 ((1:Int),(x1,(([x0']:List Int),())));
        Tr.test (r1.1)
          (Tr.test (Option.isSome (f66 ((1:Int),((60:Int),(([x0'']:List Int),())))))
            (let r2:=g66 ((1:Int),((60:Int),(([x0'']:List Int),())));
            Tr.test (Option.isSome (f62 ((!r2.1:Bool),((2:Int),()))))
              (let r3:=g62 ((!r2.1:Bool),((2:Int),()));
              Tr.fin ((r3.1,())))
              (Tr.stop))
            (Tr.stop))
          (Tr.test (Option.isSome (f62 ((true:Bool),((2:Int),()))))
            (let r4:=g62 ((true:Bool),((2:Int),()));
            Tr.fin ((r4.1,())))
            (Tr.stop)))
        (Tr.stop))
      (Tr.test (Option.isSome (f62 ((true:Bool),((2:Int),()))))
        (let r4:=g62 ((true:Bool),((2:Int),()));
        Tr.fin ((r4.1,())))
        (Tr.stop)))
    (Tr.stop)

def f115 (d:Tys.data as115):Option (Tys.data rs115):=(t115 d.1.1 d.1.2.1 d.1.2.2.1 d.2.1).val
def g115 (d:Tys.data as115):Tys.data rs115:=(f115 d).getD (Tys.dflt rs115)
def p115:PureC:=pcOf as115 rs115 f115 g115

theorem wk115 (x0:Int) (x0':Int) (x0'':Int) (x1:Int):Walks (runPure (kf114 Go.Proofs.Tryz.prog).orc Go.Proofs.Tryz.prog 400 115 as115 rs115 ((x0,x0',x0'',()),x1,())) (t115 x0 x0' x0'' x1) [([true,true,true,true,true,true],[2,6,4,1,6,6,6,6,10,8,1,10,10,10,10,10,12,1]),([true,true,true,false,true],[2,4,4,4,4,4,8,6,1,8,8,8,8,8,10,1]),([true,false,true],[2,0,0,0,0,0,4,4,4,4,4,4,6,1])] :=
  ⟨by kernel_rfl,by kernel_rfl,by kernel_rfl,trivial⟩

theorem ok115_t (x0:Int) (x0':Int) (x0'':Int) (x1:Int):TrOk (PureRuns Go.Proofs.Tryz.prog (kf114 Go.Proofs.Tryz.prog).orc 115 as115 rs115 ((x0,x0',x0'',()),x1,())) (t115 x0 x0' x0'' x1) :=
  Walks.ok (fun _ _ _=>PureRuns.of) (wk115 x0 x0' x0'' x1) (by kernel_rfl)

theorem ok115:PureOk Go.Proofs.Tryz.prog 115 p115:=pureOk_of kf114_ok.base (T:=fun (d:Tys.data as115)=>t115 d.1.1 d.1.2.1 d.1.2.2.1 d.2.1) (by kernel_rfl) (fun (d:Tys.data as115)=>ok115_t d.1.1 d.1.2.1 d.1.2.2.1 d.2.1)
def kf115 (P:Go.Program):Known:=(kf114 P).func 115 p115
theorem kf115_ok:KnownOk Go.Proofs.Tryz.prog (kf115 Go.Proofs.Tryz.prog):=kf114_ok.func ok115

/-! ductility/sensor.watchOf -/

abbrev as88:List Ty:=[(.slice (.slice (.int .i64))),(.pair (.int .i64) (.pair (.int .i64) (.pair (.int .i64) .unit)))]
abbrev rs88:List Ty:=[(.pair (.pair (.int .i64) (.pair (.int .i64) (.pair (.int .i64) .unit))) (.pair (.slice (.slice (.int .i64))) .unit)),(.int .i64)]

def t88 (x0:(List (List Int))) (x1:Int) (x1':Int) (x1'':Int):Tr (Tys.data rs88) :=
  Tr.test (Option.isSome (f114 (x0,((7:Int),()))))
    (Tr.test (Option.isSome (f115 ((x1,(x1',(x1'',()))),((↑(List.length x0):Int),()))))
      (let r0:=g114 (x0,((7:Int),()));
      let r1:=g115 ((x1,(x1',(x1'',()))),((↑(List.length x0):Int),()));
      Tr.test (Option.isSome (f48 (([r0.1,r1.1]:List Int),())))
        (let r2:=g48 (([r0.1,r1.1]:List Int),());
        Tr.test ((!eqF r2.1 0:Bool))
          (Tr.fin (((((0:Int),((0:Int),((0:Int),()))),(([]:List (List Int)),())),(r2.1,()))))
          (Tr.fin ((((x1,(x1',(x1'',()))),(x0,())),((0:Int),())))))
        (Tr.stop))
      (Tr.stop))
    (Tr.stop)

def f88 (d:Tys.data as88):Option (Tys.data rs88):=(t88 d.1 d.2.1.1 d.2.1.2.1 d.2.1.2.2.1).val
def g88 (d:Tys.data as88):Tys.data rs88:=(f88 d).getD (Tys.dflt rs88)
def p88:PureC:=pcOf as88 rs88 f88 g88

theorem wk88 (x0:(List (List Int))) (x1:Int) (x1':Int) (x1'':Int):Walks (runPure (kf115 Go.Proofs.Tryz.prog).orc Go.Proofs.Tryz.prog 400 88 as88 rs88 (x0,(x1,x1',x1'',()),())) (t88 x0 x1 x1' x1'') [([true,true,true,true],[2,4,1,6,8]),([true,true,true,false],[2,4,1,6,8])] :=
  ⟨by kernel_rfl,by kernel_rfl,trivial⟩

theorem ok88_t (x0:(List (List Int))) (x1:Int) (x1':Int) (x1'':Int):TrOk (PureRuns Go.Proofs.Tryz.prog (kf115 Go.Proofs.Tryz.prog).orc 88 as88 rs88 (x0,(x1,x1',x1'',()),())) (t88 x0 x1 x1' x1'') :=
  Walks.ok (fun _ _ _=>PureRuns.of) (wk88 x0 x1 x1' x1'') (by kernel_rfl)

theorem ok88:PureOk Go.Proofs.Tryz.prog 88 p88:=pureOk_of kf115_ok.base (T:=fun (d:Tys.data as88)=>t88 d.1 d.2.1.1 d.2.1.2.1 d.2.1.2.2.1) (by kernel_rfl) (fun (d:Tys.data as88)=>ok88_t d.1 d.2.1.1 d.2.1.2.1 d.2.1.2.2.1)
def kf88 (P:Go.Program):Known:=(kf115 P).func 88 p88
theorem kf88_ok:KnownOk Go.Proofs.Tryz.prog (kf88 Go.Proofs.Tryz.prog):=kf115_ok.func ok88

/-! loop 0 of (ductility/sensor.watch).votersAt -/

abbrev sh89_0:Sh:={ n:=31,slots:=[1,2,5,9,10,11],pats:=[.ty (.int .i64),.ptr 0 4 0,.acc (.int .i64),.ty (.slice (.slice (.int .i64))),.ty (.int .i64),.ty (.int .i64)],boxes:=[.row [.ty (.int .i64),.ty (.int .i64),.ty (.int .i64),.ty (.slice (.slice (.int .i64)))]] }
abbrev shb89_0:Sh:={ n:=31,slots:=[5],pats:=[.acc (.int .i64)],boxes:=[.row [.ty (.int .i64),.ty (.int .i64),.ty (.int .i64),.ty (.slice (.slice (.int .i64)))]] }
abbrev shr89_0:Sh:={ n:=31,slots:=[],pats:=[],boxes:=[.row [.ty (.int .i64),.ty (.int .i64),.ty (.int .i64),.ty (.slice (.slice (.int .i64)))]] }

def t89_0 (x0:Int) (x2:(List Int)) (x3:(List (List Int))) (x4:Int) (x5:Int) (b0_0:Int) (b0_1:Int) (b0_2:Int) (b0_3:(List (List Int))):Tr (Out sh89_0.data shb89_0.data shr89_0.data) :=
  Tr.test ((!leF x4 x5:Bool))
    (Tr.test (decide ((0:Int) ≤ x5) && decide (x5 < (↑(List.length x3):Int)))
      (Tr.test ((decide ((0:Int) ≤ x0) && decide (x0 < (↑(List.length (List.getD x3 (Int.toNat x5) [])):Int)):Bool))
        (Tr.test (Option.isSome (f63 (b0_0,(([List.getD (List.getD x3 (Int.toNat x5) []) (Int.toNat x0) (0:Int)]:List Int),()))))
          (let r0:=g63 (b0_0,(([List.getD (List.getD x3 (Int.toNat x5) []) (Int.toNat x0) (0:Int)]:List Int),()));
          Tr.test (r0.1)
            (Tr.test ((Nat.ble (((2:Nat) * (List.length x2 + (1:Nat)) + (192:Nat)) * (8:Nat)) (281474976710656:Nat) && Nat.ble (List.length x2 + (1:Nat)) (281474976710656:Nat):Bool))
              (Tr.fin (.again ((x0,((x2++[x5]:List Int),(x3,(x4,((wrap64 (x5 + (1:Int)):Int),()))))),((b0_0,(b0_1,(b0_2,(b0_3,())))),()))))
              (Tr.stop))
            (Tr.fin (.again ((x0,(x2,(x3,(x4,((wrap64 (x5 + (1:Int)):Int),()))))),((b0_0,(b0_1,(b0_2,(b0_3,())))),())))))
          (Tr.stop))
        (Tr.stop))
      (Tr.stop))
    (Tr.fin (.brk ((x2,()),((b0_0,(b0_1,(b0_2,(b0_3,())))),()))))

def s89_0 (d:sh89_0.data):Option (Out sh89_0.data shb89_0.data shr89_0.data):=(t89_0 d.1.1 d.1.2.1 d.1.2.2.1 d.1.2.2.2.1 d.1.2.2.2.2.1 d.2.1.1 d.2.1.2.1 d.2.1.2.2.1 d.2.1.2.2.2.1).val
def l89_0 (d:sh89_0.data):Option (shb89_0.data ⊕ shr89_0.data):=itr s89_0 rounds d
def b89_0 (d:sh89_0.data):shb89_0.data:=outB shb89_0.dflt (l89_0 d)
def lc89_0:LoopC:=lcB sh89_0 shb89_0 shr89_0 l89_0 b89_0

theorem wk89_0 (x0:Int) (x2:(List Int)) (x3:(List (List Int))) (x4:Int) (x5:Int) (b0_0:Int) (b0_1:Int) (b0_2:Int) (b0_3:(List (List Int))):Walks (runBody (kf88 Go.Proofs.Tryz.prog).orc Go.Proofs.Tryz.prog 400 89 0 sh89_0 shb89_0 shr89_0 ((x0,x2,x3,x4,x5,()),(b0_0,b0_1,b0_2,b0_3,()),())) (t89_0 x0 x2 x3 x4 x5 b0_0 b0_1 b0_2 b0_3) [([true,true,true,true,true,true],[1,2,0,4,6,1,8,10,12]),([true,true,true,true,false],[2,4,1,6,8,10]),([ff],[2])] :=
  ⟨by kernel_rfl,by kernel_rfl,by kernel_rfl,trivial⟩

theorem ok89_0_t (x0:Int) (x2:(List Int)) (x3:(List (List Int))) (x4:Int) (x5:Int) (b0_0:Int) (b0_1:Int) (b0_2:Int) (b0_3:(List (List Int))):TrOk (BodyRuns Go.Proofs.Tryz.prog (kf88 Go.Proofs.Tryz.prog).orc 89 0 sh89_0 shb89_0 shr89_0 ((x0,x2,x3,x4,x5,()),(b0_0,b0_1,b0_2,b0_3,()),())) (t89_0 x0 x2 x3 x4 x5 b0_0 b0_1 b0_2 b0_3) :=
  Walks.ok (fun _ _ _=>BodyRuns.of) (wk89_0 x0 x2 x3 x4 x5 b0_0 b0_1 b0_2 b0_3) (by kernel_rfl)

theorem ok89_0:LoopOk Go.Proofs.Tryz.prog 89 0 lc89_0:=loopOk_ofB (sh:=sh89_0) (shB:=shb89_0) (shR:=shr89_0) kf88_ok.base (T:=fun (d:sh89_0.data)=>t89_0 d.1.1 d.1.2.1 d.1.2.2.1 d.1.2.2.2.1 d.1.2.2.2.2.1 d.2.1.1 d.2.1.2.1 d.2.1.2.2.1 d.2.1.2.2.2.1) (by kernel_rfl) rfl (fun (d:sh89_0.data)=>ok89_0_t d.1.1 d.1.2.1 d.1.2.2.1 d.1.2.2.2.1 d.1.2.2.2.2.1 d.2.1.1 d.2.1.2.1 d.2.1.2.2.1 d.2.1.2.2.2.1) (fun _=>rfl)
def kl89_0 (P:Go.Program):Known:=(kf88 P).loop 89 0 lc89_0
theorem kl89_0_ok:KnownOk Go.Proofs.Tryz.prog (kl89_0 Go.Proofs.Tryz.prog):=kf88_ok.loop ok89_0

/-! (ductility/sensor.watch).votersAt -/

abbrev as89:List Ty:=[(.pair (.pair (.int .i64) (.pair (.int .i64) (.pair (.int .i64) .unit))) (.pair (.slice (.slice (.int .i64))) .unit)),(.int .i64)]
abbrev rs89:List Ty:=[(.slice (.int .i64))]

def t89 (x0_:Int) (x0_':Int) (x0_'':Int) (x0':(List (List Int))) (x1:Int):Tr (Tys.data rs89) :=
  Tr.test (isBrk (l89_0 ((x1,(([]:List Int),(x0',((↑(List.length x0'):Int),((0:Int),()))))),((x0_,(x0_',(x0_'',(x0',())))),()))))
    (let r0:=b89_0 ((x1,(([]:List Int),(x0',((↑(List.length x0'):Int),((0:Int),()))))),((x0_,(x0_',(x0_'',(x0',())))),()));
    Tr.fin ((r0.1.1,())))
    (Tr.stop)

def f89 (d:Tys.data as89):Option (Tys.data rs89):=(t89 d.1.1.1 d.1.1.2.1 d.1.1.2.2.1 d.1.2.1 d.2.1).val
def g89 (d:Tys.data as89):Tys.data rs89:=(f89 d).getD (Tys.dflt rs89)
def p89:PureC:=pcOf as89 rs89 f89 g89

theorem wk89 (x0_:Int) (x0_':Int) (x0_'':Int) (x0':(List (List Int))) (x1:Int):Walks (runPure (kl89_0 Go.Proofs.Tryz.prog).orc Go.Proofs.Tryz.prog 400 89 as89 rs89 (((x0_,x0_',x0_'',()),x0',()),x1,())) (t89 x0_ x0_' x0_'' x0' x1) [([tt],[1,2])] :=
  ⟨by kernel_rfl,trivial⟩

theorem ok89_t (x0_:Int) (x0_':Int) (x0_'':Int) (x0':(List (List Int))) (x1:Int):TrOk (PureRuns Go.Proofs.Tryz.prog (kl89_0 Go.Proofs.Tryz.prog).orc 89 as89 rs89 (((x0_,x0_',x0_'',()),x0',()),x1,())) (t89 x0_ x0_' x0_'' x0' x1) :=
  Walks.ok (fun _ _ _=>PureRuns.of) (wk89 x0_ x0_' x0_'' x0' x1) (by kernel_rfl)

theorem ok89:PureOk Go.Proofs.Tryz.prog 89 p89:=pureOk_of kl89_0_ok.base (T:=fun (d:Tys.data as89)=>t89 d.1.1.1 d.1.1.2.1 d.1.1.2.2.1 d.1.2.1 d.2.1) (by kernel_rfl) (fun (d:Tys.data as89)=>ok89_t d.1.1.1 d.1.1.2.1 d.1.1.2.2.1 d.1.2.1 d.2.1)
def kf89 (P:Go.Program):Known:=(kl89_0 P).func 89 p89
theorem kf89_ok:KnownOk Go.Proofs.Tryz.prog (kf89 Go.Proofs.Tryz.prog):=kl89_0_ok.func ok89

/-! loop 0 of ductility/sensor.TrippedIn -/

abbrev sh42_0:Sh:={ n:=41,slots:=[3,6,8,22,23],pats:=[.ptr 0 3 0,.ptr 1 4 0,.ty (.int .i64),.ty (.int .i64),.ty (.int .i64)],boxes:=[.row [.ty (.int .i64),.ty (.int .i64),.ty (.int .i64)],.row [.ty (.int .i64),.ty (.int .i64),.ty (.int .i64),.ty (.slice (.slice (.int .i64)))]] }
abbrev shb42_0:Sh:={ n:=41,slots:=[],pats:=[],boxes:=[.row [.ty (.int .i64),.ty (.int .i64),.ty (.int .i64)],.row [.ty (.int .i64),.ty (.int .i64),.ty (.int .i64),.ty (.slice (.slice (.int .i64)))]] }
abbrev shr42_0:Sh:={ n:=41,slots:=[4,5],pats:=[.ty (.int .i64),.ty (.int .i64)],boxes:=[.row [.ty (.int .i64),.ty (.int .i64),.ty (.int .i64)],.row [.ty (.int .i64),.ty (.int .i64),.ty (.int .i64),.ty (.slice (.slice (.int .i64)))]] }

def t42_0 (x2:Int) (x3:Int) (x4:Int) (b0_0:Int) (b0_1:Int) (b0_2:Int) (b1_0:Int) (b1_1:Int) (b1_2:Int) (b1_3:(List (List Int))):Tr (Out sh42_0.data shb42_0.data shr42_0.data) :=
  Tr.test ((!leF x3 x4:Bool))
    (Tr.test (Option.isSome (f89 (((b1_0,(b1_1,(b1_2,()))),(b1_3,())),(x4,()))))
      (let r0:=g89 (((b1_0,(b1_1,(b1_2,()))),(b1_3,())),(x4,()));
      Tr.test ((!leF b0_1 (↑(List.length r0.1):Int):Bool))
        (Tr.test ((eqF (0:Int) b0_2:Bool))
          (Tr.fin (.ret ((x4,((0:Int),())),((b0_0,(b0_1,(b0_2,()))),((b1_0,(b1_1,(b1_2,(b1_3,())))),())))))
          (Tr.fin (.again (((0:Int),(x3,((wrap64 (x4 + (1:Int)):Int),()))),((b0_0,(b0_1,(b0_2,()))),((b1_0,(b1_1,(b1_2,(b1_3,())))),()))))))
        (Tr.test ((eqF (wrap64 (x2 + (1:Int))) b0_2:Bool))
          (Tr.fin (.ret ((x4,((0:Int),())),((b0_0,(b0_1,(b0_2,()))),((b1_0,(b1_1,(b1_2,(b1_3,())))),())))))
          (Tr.fin (.again (((wrap64 (x2 + (1:Int)):Int),(x3,((wrap64 (x4 + (1:Int)):Int),()))),((b0_0,(b0_1,(b0_2,()))),((b1_0,(b1_1,(b1_2,(b1_3,())))),())))))))
      (Tr.stop))
    (Tr.fin (.brk ((),((b0_0,(b0_1,(b0_2,()))),((b1_0,(b1_1,(b1_2,(b1_3,())))),())))))

def s42_0 (d:sh42_0.data):Option (Out sh42_0.data shb42_0.data shr42_0.data):=(t42_0 d.1.1 d.1.2.1 d.1.2.2.1 d.2.1.1 d.2.1.2.1 d.2.1.2.2.1 d.2.2.1.1 d.2.2.1.2.1 d.2.2.1.2.2.1 d.2.2.1.2.2.2.1).val
def l42_0 (d:sh42_0.data):Option (shb42_0.data ⊕ shr42_0.data):=itr s42_0 rounds d
def b42_0 (d:sh42_0.data):shb42_0.data:=outB shb42_0.dflt (l42_0 d)
def r42_0 (d:sh42_0.data):shr42_0.data:=outR shr42_0.dflt (l42_0 d)
def lc42_0:LoopC:=lcOf sh42_0 shb42_0 shr42_0 l42_0 b42_0 r42_0

theorem wk42_0 (x2:Int) (x3:Int) (x4:Int) (b0_0:Int) (b0_1:Int) (b0_2:Int) (b1_0:Int) (b1_1:Int) (b1_2:Int) (b1_3:(List (List Int))):Walks (runBody (kf89 Go.Proofs.Tryz.prog).orc Go.Proofs.Tryz.prog 400 42 0 sh42_0 shb42_0 shr42_0 ((x2,x3,x4,()),(b0_0,b0_1,b0_2,()),(b1_0,b1_1,b1_2,b1_3,()),())) (t42_0 x2 x3 x4 b0_0 b0_1 b0_2 b1_0 b1_1 b1_2 b1_3) [([true,true,true,true],[2,4,6,8]),([true,true,true,false],[2,4,6,8]),([true,true,false,true],[2,4,6,8]),([true,true,false,false],[2,4,6,8]),([ff],[2])] :=
  ⟨by kernel_rfl,by kernel_rfl,by kernel_rfl,by kernel_rfl,by kernel_rfl,trivial⟩

theorem ok42_0_t (x2:Int) (x3:Int) (x4:Int) (b0_0:Int) (b0_1:Int) (b0_2:Int) (b1_0:Int) (b1_1:Int) (b1_2:Int) (b1_3:(List (List Int))):TrOk (BodyRuns Go.Proofs.Tryz.prog (kf89 Go.Proofs.Tryz.prog).orc 42 0 sh42_0 shb42_0 shr42_0 ((x2,x3,x4,()),(b0_0,b0_1,b0_2,()),(b1_0,b1_1,b1_2,b1_3,()),())) (t42_0 x2 x3 x4 b0_0 b0_1 b0_2 b1_0 b1_1 b1_2 b1_3) :=
  Walks.ok (fun _ _ _=>BodyRuns.of) (wk42_0 x2 x3 x4 b0_0 b0_1 b0_2 b1_0 b1_1 b1_2 b1_3) (by kernel_rfl)

theorem ok42_0:LoopOk Go.Proofs.Tryz.prog 42 0 lc42_0:=loopOk_of (sh:=sh42_0) (shB:=shb42_0) (shR:=shr42_0) kf89_ok.base (T:=fun (d:sh42_0.data)=>t42_0 d.1.1 d.1.2.1 d.1.2.2.1 d.2.1.1 d.2.1.2.1 d.2.1.2.2.1 d.2.2.1.1 d.2.2.1.2.1 d.2.2.1.2.2.1 d.2.2.1.2.2.2.1) (by kernel_rfl) rfl (fun (d:sh42_0.data)=>ok42_0_t d.1.1 d.1.2.1 d.1.2.2.1 d.2.1.1 d.2.1.2.1 d.2.1.2.2.1 d.2.2.1.1 d.2.2.1.2.1 d.2.2.1.2.2.1 d.2.2.1.2.2.2.1) (fun _=>rfl)
def kl42_0 (P:Go.Program):Known:=(kf89 P).loop 42 0 lc42_0
theorem kl42_0_ok:KnownOk Go.Proofs.Tryz.prog (kl42_0 Go.Proofs.Tryz.prog):=kf89_ok.loop ok42_0

/-! ductility/sensor.TrippedIn -/

abbrev as42:List Ty:=[(.slice (.slice (.int .i64))),(.pair (.int .i64) (.pair (.int .i64) (.pair (.int .i64) .unit)))]
abbrev rs42:List Ty:=[(.int .i64),(.int .i64)]

def t42 (x0:(List (List Int))) (x1:Int) (x1':Int) (x1'':Int):Tr (Tys.data rs42) :=
  Tr.test (Option.isSome (f88 (x0,((x1,(x1',(x1'',()))),()))))
    (let r0:=g88 (x0,((x1,(x1',(x1'',()))),()));
    Tr.test ((!eqF r0.2.1 0:Bool))
      (Tr.fin (((0:Int),(r0.2.1,()))))
      (Tr.test ((true && decide ((0:Int) < (↑(List.length x0):Int)):Bool))
        (Tr.test (Option.isSome (l42_0 (((0:Int),((↑(List.length (List.getD x0 (0:Nat) [])):Int),((0:Int),()))),((x1,(x1',(x1'',()))),((r0.1.1.1,(r0.1.1.2.1,(r0.1.1.2.2.1,(r0.1.2.1,())))),())))))
          (Tr.test (isRet (l42_0 (((0:Int),((↑(List.length (List.getD x0 (0:Nat) [])):Int),((0:Int),()))),((x1,(x1',(x1'',()))),((r0.1.1.1,(r0.1.1.2.1,(r0.1.1.2.2.1,(r0.1.2.1,())))),())))))
            (let r1:=r42_0 (((0:Int),((↑(List.length (List.getD x0 (0:Nat) [])):Int),((0:Int),()))),((x1,(x1',(x1'',()))),((r0.1.1.1,(r0.1.1.2.1,(r0.1.1.2.2.1,(r0.1.2.1,())))),())));
            Tr.fin ((r1.1.1,(r1.1.2.1,()))))
            (Tr.fin (((0:Int),((12:Int),())))))
          (Tr.stop))
        (Tr.stop)))
    (Tr.stop)

def f42 (d:Tys.data as42):Option (Tys.data rs42):=(t42 d.1 d.2.1.1 d.2.1.2.1 d.2.1.2.2.1).val
def g42 (d:Tys.data as42):Tys.data rs42:=(f42 d).getD (Tys.dflt rs42)
def p42:PureC:=pcOf as42 rs42 f42 g42

theorem wk42 (x0:(List (List Int))) (x1:Int) (x1':Int) (x1'':Int):Walks (runPure (kl42_0 Go.Proofs.Tryz.prog).orc Go.Proofs.Tryz.prog 400 42 as42 rs42 (x0,(x1,x1',x1'',()),())) (t42 x0 x1 x1' x1'') [([true,true],[2,4]),([true,false,true,true,true],[2,4,6,8,10]),([true,false,true,true,false],[2,4,6,8,10])] :=
  ⟨by kernel_rfl,by kernel_rfl,by kernel_rfl,trivial⟩

theorem ok42_t (x0:(List (List Int))) (x1:Int) (x1':Int) (x1'':Int):TrOk (PureRuns Go.Proofs.Tryz.prog (kl42_0 Go.Proofs.Tryz.prog).orc 42 as42 rs42 (x0,(x1,x1',x1'',()),())) (t42 x0 x1 x1' x1'') :=
  Walks.ok (fun _ _ _=>PureRuns.of) (wk42 x0 x1 x1' x1'') (by kernel_rfl)

theorem ok42:PureOk Go.Proofs.Tryz.prog 42 p42:=pureOk_of kl42_0_ok.base (T:=fun (d:Tys.data as42)=>t42 d.1 d.2.1.1 d.2.1.2.1 d.2.1.2.2.1) (by kernel_rfl) (fun (d:Tys.data as42)=>ok42_t d.1 d.2.1.1 d.2.1.2.1 d.2.1.2.2.1)
def kf42 (P:Go.Program):Known:=(kl42_0 P).func 42 p42
theorem kf42_ok:KnownOk Go.Proofs.Tryz.prog (kf42 Go.Proofs.Tryz.prog):=kl42_0_ok.func ok42

/-! loop 0 of ductility/sensor.checkItems[[]int] -/

abbrev sh102_0_1:Sh:={ n:=25,slots:=[1,9,10,11],pats:=[.fn 103 [(0,1)],.ty (.slice (.slice (.int .i64))),.ty (.int .i64),.ty (.int .i64)],boxes:=[.row [.ty (.int .i64)]] }
abbrev shb102_0_1:Sh:={ n:=25,slots:=[],pats:=[],boxes:=[.row [.ty (.int .i64)]] }
abbrev shr102_0_1:Sh:={ n:=25,slots:=[4,5],pats:=[.ty (.int .i64),.ty (.int .i64)],boxes:=[.row [.ty (.int .i64)]] }

def t102_0_1 (x1:(List (List Int))) (x2:Int) (x3:Int) (b0_0:Int):Tr (Out sh102_0_1.data shb102_0_1.data shr102_0_1.data) :=
  Tr.test ((!leF x2 x3:Bool))
    (Tr.test (decide ((0:Int) ≤ x3) && decide (x3 < (↑(List.length x1):Int)))
      (Tr.test ((eqF (↑(List.length (List.getD x1 (Int.toNat x3) [])):Int) (0:Int):Bool))
        (Tr.test (Option.isSome (f62 ((true:Bool),((10:Int),()))))
          (let r0:=g62 ((true:Bool),((10:Int),()));
          Tr.test ((!eqF r0.1 0:Bool))
            (Tr.fin (.ret ((x3,(r0.1,())),((b0_0,()),()))))
            (Tr.fin (.again ((x1,(x2,((wrap64 (x3 + (1:Int)):Int),()))),((b0_0,()),())))))
          (Tr.stop))
        (Tr.test (Option.isSome (f62 ((!eqF (↑(List.length (List.getD x1 (Int.toNat x3) [])):Int) b0_0:Bool),((10:Int),()))))
          (let r1:=g62 ((!eqF (↑(List.length (List.getD x1 (Int.toNat x3) [])):Int) b0_0:Bool),((10:Int),()));
          Tr.test ((!eqF r1.1 0:Bool))
            (Tr.fin (.ret ((x3,(r1.1,())),((b0_0,()),()))))
            (Tr.fin (.again ((x1,(x2,((wrap64 (x3 + (1:Int)):Int),()))),((b0_0,()),())))))
          (Tr.stop)))
      (Tr.stop))
    (Tr.fin (.brk ((),((b0_0,()),()))))

def s102_0_1 (d:sh102_0_1.data):Option (Out sh102_0_1.data shb102_0_1.data shr102_0_1.data):=(t102_0_1 d.1.1 d.1.2.1 d.1.2.2.1 d.2.1.1).val
def l102_0_1 (d:sh102_0_1.data):Option (shb102_0_1.data ⊕ shr102_0_1.data):=itr s102_0_1 rounds d
def b102_0_1 (d:sh102_0_1.data):shb102_0_1.data:=outB shb102_0_1.dflt (l102_0_1 d)
def r102_0_1 (d:sh102_0_1.data):shr102_0_1.data:=outR shr102_0_1.dflt (l102_0_1 d)
def lc102_0_1:LoopC:=lcOf sh102_0_1 shb102_0_1 shr102_0_1 l102_0_1 b102_0_1 r102_0_1

theorem wk102_0_1 (x1:(List (List Int))) (x2:Int) (x3:Int) (b0_0:Int):Walks (runBody (kf42 Go.Proofs.Tryz.prog).orc Go.Proofs.Tryz.prog 400 102 0 sh102_0_1 shb102_0_1 shr102_0_1 ((x1,x2,x3,()),(b0_0,()),())) (t102_0_1 x1 x2 x3 b0_0) [([true,true,true,true,true],[2,4,6,6,6,6,6,8,10]),([true,true,true,true,false],[2,4,6,6,6,6,6,8,10]),([true,true,false,true,true],[2,4,6,6,6,6,6,8,10]),([true,true,false,true,false],[2,4,6,6,6,6,6,8,10]),([ff],[2])] :=
  ⟨by kernel_rfl,by kernel_rfl,by kernel_rfl,by kernel_rfl,by kernel_rfl,trivial⟩

theorem ok102_0_1_t (x1:(List (List Int))) (x2:Int) (x3:Int) (b0_0:Int):TrOk (BodyRuns Go.Proofs.Tryz.prog (kf42 Go.Proofs.Tryz.prog).orc 102 0 sh102_0_1 shb102_0_1 shr102_0_1 ((x1,x2,x3,()),(b0_0,()),())) (t102_0_1 x1 x2 x3 b0_0) :=
  Walks.ok (fun _ _ _=>BodyRuns.of) (wk102_0_1 x1 x2 x3 b0_0) (by kernel_rfl)

theorem ok102_0_1:LoopOk Go.Proofs.Tryz.prog 102 0 lc102_0_1:=loopOk_of (sh:=sh102_0_1) (shB:=shb102_0_1) (shR:=shr102_0_1) kf42_ok.base (T:=fun (d:sh102_0_1.data)=>t102_0_1 d.1.1 d.1.2.1 d.1.2.2.1 d.2.1.1) (by kernel_rfl) rfl (fun (d:sh102_0_1.data)=>ok102_0_1_t d.1.1 d.1.2.1 d.1.2.2.1 d.2.1.1) (fun _=>rfl)
def kl102_0_1 (P:Go.Program):Known:=(kf42 P).loop 102 0 lc102_0_1
theorem kl102_0_1_ok:KnownOk Go.Proofs.Tryz.prog (kl102_0_1 Go.Proofs.Tryz.prog):=kf42_ok.loop ok102_0_1

/-! loop 0 of ductility/sensor.checkItems[[]int] -/

abbrev sh102_0_2:Sh:={ n:=25,slots:=[1,9,10,11],pats:=[.fn 104 [],.ty (.slice (.slice (.int .i64))),.ty (.int .i64),.ty (.int .i64)],boxes:=[] }
abbrev shb102_0_2:Sh:={ n:=25,slots:=[],pats:=[],boxes:=[] }
abbrev shr102_0_2:Sh:={ n:=25,slots:=[4,5],pats:=[.ty (.int .i64),.ty (.int .i64)],boxes:=[] }

def t102_0_2 (x1:(List (List Int))) (x2:Int) (x3:Int):Tr (Out sh102_0_2.data shb102_0_2.data shr102_0_2.data) :=
  Tr.test ((!leF x2 x3:Bool))
    (Tr.test (decide ((0:Int) ≤ x3) && decide (x3 < (↑(List.length x1):Int)))
      (Tr.test (Option.isSome (f66 ((0:Int),((255:Int),((List.getD x1 (Int.toNat x3) []:List Int),())))))
        (let r0:=g66 ((0:Int),((255:Int),((List.getD x1 (Int.toNat x3) []:List Int),())));
        Tr.test (Option.isSome (f62 ((!r0.1:Bool),((2:Int),()))))
          (let r1:=g62 ((!r0.1:Bool),((2:Int),()));
          Tr.test ((!eqF r1.1 0:Bool))
            (Tr.fin (.ret ((x3,(r1.1,())),())))
            (Tr.fin (.again ((x1,(x2,((wrap64 (x3 + (1:Int)):Int),()))),()))))
          (Tr.stop))
        (Tr.stop))
      (Tr.stop))
    (Tr.fin (.brk ((),())))

def s102_0_2 (d:sh102_0_2.data):Option (Out sh102_0_2.data shb102_0_2.data shr102_0_2.data):=(t102_0_2 d.1.1 d.1.2.1 d.1.2.2.1).val
def l102_0_2 (d:sh102_0_2.data):Option (shb102_0_2.data ⊕ shr102_0_2.data):=itr s102_0_2 rounds d
def b102_0_2 (d:sh102_0_2.data):shb102_0_2.data:=outB shb102_0_2.dflt (l102_0_2 d)
def r102_0_2 (d:sh102_0_2.data):shr102_0_2.data:=outR shr102_0_2.dflt (l102_0_2 d)
def lc102_0_2:LoopC:=lcOf sh102_0_2 shb102_0_2 shr102_0_2 l102_0_2 b102_0_2 r102_0_2

theorem wk102_0_2 (x1:(List (List Int))) (x2:Int) (x3:Int):Walks (runBody (kl102_0_1 Go.Proofs.Tryz.prog).orc Go.Proofs.Tryz.prog 400 102 0 sh102_0_2 shb102_0_2 shr102_0_2 ((x1,x2,x3,()),())) (t102_0_2 x1 x2 x3) [([true,true,true,true,true],[2,4,6,8,10]),([true,true,true,true,false],[2,4,6,8,10]),([ff],[2])] :=
  ⟨by kernel_rfl,by kernel_rfl,by kernel_rfl,trivial⟩

theorem ok102_0_2_t (x1:(List (List Int))) (x2:Int) (x3:Int):TrOk (BodyRuns Go.Proofs.Tryz.prog (kl102_0_1 Go.Proofs.Tryz.prog).orc 102 0 sh102_0_2 shb102_0_2 shr102_0_2 ((x1,x2,x3,()),())) (t102_0_2 x1 x2 x3) :=
  Walks.ok (fun _ _ _=>BodyRuns.of) (wk102_0_2 x1 x2 x3) (by kernel_rfl)

theorem ok102_0_2:LoopOk Go.Proofs.Tryz.prog 102 0 lc102_0_2:=loopOk_of (sh:=sh102_0_2) (shB:=shb102_0_2) (shR:=shr102_0_2) kl102_0_1_ok.base (T:=fun (d:sh102_0_2.data)=>t102_0_2 d.1.1 d.1.2.1 d.1.2.2.1) (by kernel_rfl) rfl (fun (d:sh102_0_2.data)=>ok102_0_2_t d.1.1 d.1.2.1 d.1.2.2.1) (fun _=>rfl)
def kl102_0_2 (P:Go.Program):Known:=(kl102_0_1 P).loop 102 0 lc102_0_2
theorem kl102_0_2_ok:KnownOk Go.Proofs.Tryz.prog (kl102_0_2 Go.Proofs.Tryz.prog):=kl102_0_1_ok.loop ok102_0_2

end Go.Vm.Mo
