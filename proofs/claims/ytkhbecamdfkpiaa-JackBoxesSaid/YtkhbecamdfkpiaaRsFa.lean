import Derived.Test.YtkhbecamdfkpiaaA4
import Derived.KernelRfl
import Derived.Test.YtkhbecamdfkpiaaProg
set_option linter.unusedVariables false
set_option linter.unusedSimpArgs false

namespace Go.Vm.Mo
open Go
set_option linter.unusedVariables false

def kn0 (_:Go.Program):Known:=⟨[],[]⟩

abbrev tt:Bool:=true
abbrev ff:Bool:=false
theorem nn {b v:Bool} (h:(!b) = v):(!b) = !(!v):=not_of (of_not h)
theorem ac {b d:Bool} {r:List (Bool×Bool)} (h:b = d) (t:All r):All ((b, d) :: r):=All.cons h t

theorem plainP:Plain Go.Proofs.Try.prog:=by
  have h : (Go.Proofs.Try.prog.funcs.toList.all fun fn => !(fn.body.isSome && fn.name == "runtime.NumGoroutine")) = true := by kernel_rfl
  intro f fn hf hb
  have hm:fn ∈ Go.Proofs.Try.prog.funcs.toList:=by
    have:=Array.getElem?_eq_some_iff.1 hf
    obtain ⟨hlt,rfl⟩:=this
    simp
  have:=List.all_eq_true.1 h fn hm
  rw [hb] at this
  simpa using this

theorem kn0_ok:KnownOk Go.Proofs.Try.prog (kn0 Go.Proofs.Try.prog):=⟨plainP,by kernel_rfl,(fun _ h=>by cases h),(fun _ h=>by cases h)⟩

/-! (ductility/jack.parts).along -/

abbrev as45:List Ty:=[(.pair (.int .i64) (.pair (.int .i64) (.pair (.int .i64) (.pair (.int .i64) (.pair (.int .i64) (.pair (.int .i64) .unit)))))),(.pair (.int .i64) (.pair (.int .i64) (.pair (.int .i64) (.pair (.int .i64) (.pair (.int .i64) (.pair (.int .i64) .unit))))))]
abbrev rs45:List Ty:=[(.int .i64)]

def t45 (x0:Int) (x0':Int) (x0'':Int) (x0''':Int) (x0'''':Int) (x0''''':Int) (x1:Int) (x1':Int) (x1'':Int) (x1''':Int) (x1'''':Int) (x1''''':Int):Tr (Tys.data rs45) :=
  Tr.fin (((wrap64 (wrap64 (wrap64 (wrap64 (wrap64 (wrap64 ((0:Int) + wrap64 (x0 * x1)) + wrap64 (x0' * x1')) + wrap64 (x0'' * x1'')) + wrap64 (x0''' * x1''')) + wrap64 (x0'''' * x1'''')) + wrap64 (x0''''' * x1''''')):Int),()))

def f45 (d:Tys.data as45):Option (Tys.data rs45):=(t45 d.1.1 d.1.2.1 d.1.2.2.1 d.1.2.2.2.1 d.1.2.2.2.2.1 d.1.2.2.2.2.2.1 d.2.1.1 d.2.1.2.1 d.2.1.2.2.1 d.2.1.2.2.2.1 d.2.1.2.2.2.2.1 d.2.1.2.2.2.2.2.1).val
def g45 (d:Tys.data as45):Tys.data rs45:=(f45 d).getD (Tys.dflt rs45)
def p45:PureC:=pcOf as45 rs45 f45 g45

theorem w45 (x0:Int) (x0':Int) (x0'':Int) (x0''':Int) (x0'''':Int) (x0''''':Int) (x1:Int) (x1':Int) (x1'':Int) (x1''':Int) (x1'''':Int) (x1''''':Int):Walks (runPure (kn0 Go.Proofs.Try.prog).orc Go.Proofs.Try.prog 400 45 as45 rs45 ((x0,x0',x0'',x0''',x0'''',x0''''',()),(x1,x1',x1'',x1''',x1'''',x1''''',()),())) (t45 x0 x0' x0'' x0''' x0'''' x0''''' x1 x1' x1'' x1''' x1'''' x1''''') [([],[0,1,1,1,1,1,1,1,1,1,1,1,1,1,1,1,1,1,1,1,1,1,1,1,1,1,1,1,1,1,1])] :=
  ⟨by kernel_rfl,trivial⟩

theorem ok45_t (x0:Int) (x0':Int) (x0'':Int) (x0''':Int) (x0'''':Int) (x0''''':Int) (x1:Int) (x1':Int) (x1'':Int) (x1''':Int) (x1'''':Int) (x1''''':Int):TrOk (PureRuns Go.Proofs.Try.prog (kn0 Go.Proofs.Try.prog).orc 45 as45 rs45 ((x0,x0',x0'',x0''',x0'''',x0''''',()),(x1,x1',x1'',x1''',x1'''',x1''''',()),())) (t45 x0 x0' x0'' x0''' x0'''' x0''''' x1 x1' x1'' x1''' x1'''' x1''''') :=
  Walks.ok (fun _ _ _=>PureRuns.of) (w45 x0 x0' x0'' x0''' x0'''' x0''''' x1 x1' x1'' x1''' x1'''' x1''''') (by kernel_rfl)

theorem ok45:PureOk Go.Proofs.Try.prog 45 p45:=pureOk_of kn0_ok.base (T:=fun (d:Tys.data as45)=>t45 d.1.1 d.1.2.1 d.1.2.2.1 d.1.2.2.2.1 d.1.2.2.2.2.1 d.1.2.2.2.2.2.1 d.2.1.1 d.2.1.2.1 d.2.1.2.2.1 d.2.1.2.2.2.1 d.2.1.2.2.2.2.1 d.2.1.2.2.2.2.2.1) (by kernel_rfl) (fun (d:Tys.data as45)=>ok45_t d.1.1 d.1.2.1 d.1.2.2.1 d.1.2.2.2.1 d.1.2.2.2.2.1 d.1.2.2.2.2.2.1 d.2.1.1 d.2.1.2.1 d.2.1.2.2.1 d.2.1.2.2.2.1 d.2.1.2.2.2.2.1 d.2.1.2.2.2.2.2.1)
def kf45 (P:Go.Program):Known:=(kn0 P).func 45 p45
theorem kf45_ok:KnownOk Go.Proofs.Try.prog (kf45 Go.Proofs.Try.prog):=kn0_ok.func ok45

/-! (ductility/jack.parts).plus -/

abbrev as86:List Ty:=[(.pair (.int .i64) (.pair (.int .i64) (.pair (.int .i64) (.pair (.int .i64) (.pair (.int .i64) (.pair (.int .i64) .unit)))))),(.pair (.int .i64) (.pair (.int .i64) (.pair (.int .i64) (.pair (.int .i64) (.pair (.int .i64) (.pair (.int .i64) .unit))))))]
abbrev rs86:List Ty:=[(.pair (.int .i64) (.pair (.int .i64) (.pair (.int .i64) (.pair (.int .i64) (.pair (.int .i64) (.pair (.int .i64) .unit))))))]

def t86 (x0:Int) (x0':Int) (x0'':Int) (x0''':Int) (x0'''':Int) (x0''''':Int) (x1:Int) (x1':Int) (x1'':Int) (x1''':Int) (x1'''':Int) (x1''''':Int):Tr (Tys.data rs86) :=
  Tr.fin ((((wrap64 (x0 + x1):Int),((wrap64 (x0' + x1'):Int),((wrap64 (x0'' + x1''):Int),((wrap64 (x0''' + x1'''):Int),((wrap64 (x0'''' + x1''''):Int),((wrap64 (x0''''' + x1'''''):Int),())))))),()))

def f86 (d:Tys.data as86):Option (Tys.data rs86):=(t86 d.1.1 d.1.2.1 d.1.2.2.1 d.1.2.2.2.1 d.1.2.2.2.2.1 d.1.2.2.2.2.2.1 d.2.1.1 d.2.1.2.1 d.2.1.2.2.1 d.2.1.2.2.2.1 d.2.1.2.2.2.2.1 d.2.1.2.2.2.2.2.1).val
def g86 (d:Tys.data as86):Tys.data rs86:=(f86 d).getD (Tys.dflt rs86)
def p86:PureC:=pcOf as86 rs86 f86 g86

theorem w86 (x0:Int) (x0':Int) (x0'':Int) (x0''':Int) (x0'''':Int) (x0''''':Int) (x1:Int) (x1':Int) (x1'':Int) (x1''':Int) (x1'''':Int) (x1''''':Int):Walks (runPure (kf45 Go.Proofs.Try.prog).orc Go.Proofs.Try.prog 400 86 as86 rs86 ((x0,x0',x0'',x0''',x0'''',x0''''',()),(x1,x1',x1'',x1''',x1'''',x1''''',()),())) (t86 x0 x0' x0'' x0''' x0'''' x0''''' x1 x1' x1'' x1''' x1'''' x1''''') [([],[0,1,1,1,1,1,1,1,1,1,1,1,1,1,1,1,1,1,1,1,1,1,1,1,1,1,1,1,1,1,1,1,1,1,1,1,1,1,1,1,1,1,1])] :=
  ⟨by kernel_rfl,trivial⟩

theorem ok86_t (x0:Int) (x0':Int) (x0'':Int) (x0''':Int) (x0'''':Int) (x0''''':Int) (x1:Int) (x1':Int) (x1'':Int) (x1''':Int) (x1'''':Int) (x1''''':Int):TrOk (PureRuns Go.Proofs.Try.prog (kf45 Go.Proofs.Try.prog).orc 86 as86 rs86 ((x0,x0',x0'',x0''',x0'''',x0''''',()),(x1,x1',x1'',x1''',x1'''',x1''''',()),())) (t86 x0 x0' x0'' x0''' x0'''' x0''''' x1 x1' x1'' x1''' x1'''' x1''''') :=
  Walks.ok (fun _ _ _=>PureRuns.of) (w86 x0 x0' x0'' x0''' x0'''' x0''''' x1 x1' x1'' x1''' x1'''' x1''''') (by kernel_rfl)

theorem ok86:PureOk Go.Proofs.Try.prog 86 p86:=pureOk_of kf45_ok.base (T:=fun (d:Tys.data as86)=>t86 d.1.1 d.1.2.1 d.1.2.2.1 d.1.2.2.2.1 d.1.2.2.2.2.1 d.1.2.2.2.2.2.1 d.2.1.1 d.2.1.2.1 d.2.1.2.2.1 d.2.1.2.2.2.1 d.2.1.2.2.2.2.1 d.2.1.2.2.2.2.2.1) (by kernel_rfl) (fun (d:Tys.data as86)=>ok86_t d.1.1 d.1.2.1 d.1.2.2.1 d.1.2.2.2.1 d.1.2.2.2.2.1 d.1.2.2.2.2.2.1 d.2.1.1 d.2.1.2.1 d.2.1.2.2.1 d.2.1.2.2.2.1 d.2.1.2.2.2.2.1 d.2.1.2.2.2.2.2.1)
def kf86 (P:Go.Program):Known:=(kf45 P).func 86 p86
theorem kf86_ok:KnownOk Go.Proofs.Try.prog (kf86 Go.Proofs.Try.prog):=kf45_ok.func ok86

/-! (ductility/jack.parts).times -/

abbrev as87:List Ty:=[(.pair (.int .i64) (.pair (.int .i64) (.pair (.int .i64) (.pair (.int .i64) (.pair (.int .i64) (.pair (.int .i64) .unit)))))),(.int .i64)]
abbrev rs87:List Ty:=[(.pair (.int .i64) (.pair (.int .i64) (.pair (.int .i64) (.pair (.int .i64) (.pair (.int .i64) (.pair (.int .i64) .unit))))))]

def t87 (x0:Int) (x0':Int) (x0'':Int) (x0''':Int) (x0'''':Int) (x0''''':Int) (x1:Int):Tr (Tys.data rs87) :=
  Tr.fin ((((wrap64 (x0 * x1):Int),((wrap64 (x0' * x1):Int),((wrap64 (x0'' * x1):Int),((wrap64 (x0''' * x1):Int),((wrap64 (x0'''' * x1):Int),((wrap64 (x0''''' * x1):Int),())))))),()))

def f87 (d:Tys.data as87):Option (Tys.data rs87):=(t87 d.1.1 d.1.2.1 d.1.2.2.1 d.1.2.2.2.1 d.1.2.2.2.2.1 d.1.2.2.2.2.2.1 d.2.1).val
def g87 (d:Tys.data as87):Tys.data rs87:=(f87 d).getD (Tys.dflt rs87)
def p87:PureC:=pcOf as87 rs87 f87 g87

theorem w87 (x0:Int) (x0':Int) (x0'':Int) (x0''':Int) (x0'''':Int) (x0''''':Int) (x1:Int):Walks (runPure (kf86 Go.Proofs.Try.prog).orc Go.Proofs.Try.prog 400 87 as87 rs87 ((x0,x0',x0'',x0''',x0'''',x0''''',()),x1,())) (t87 x0 x0' x0'' x0''' x0'''' x0''''' x1) [([],[0,1,1,1,1,1,1,1,1,1,1,1,1,1,1,1,1,1,1,1,1,1,1,1,1,1,1,1,1,1,1])] :=
  ⟨by kernel_rfl,trivial⟩

theorem ok87_t (x0:Int) (x0':Int) (x0'':Int) (x0''':Int) (x0'''':Int) (x0''''':Int) (x1:Int):TrOk (PureRuns Go.Proofs.Try.prog (kf86 Go.Proofs.Try.prog).orc 87 as87 rs87 ((x0,x0',x0'',x0''',x0'''',x0''''',()),x1,())) (t87 x0 x0' x0'' x0''' x0'''' x0''''' x1) :=
  Walks.ok (fun _ _ _=>PureRuns.of) (w87 x0 x0' x0'' x0''' x0'''' x0''''' x1) (by kernel_rfl)

theorem ok87:PureOk Go.Proofs.Try.prog 87 p87:=pureOk_of kf86_ok.base (T:=fun (d:Tys.data as87)=>t87 d.1.1 d.1.2.1 d.1.2.2.1 d.1.2.2.2.1 d.1.2.2.2.2.1 d.1.2.2.2.2.2.1 d.2.1) (by kernel_rfl) (fun (d:Tys.data as87)=>ok87_t d.1.1 d.1.2.1 d.1.2.2.1 d.1.2.2.2.1 d.1.2.2.2.2.1 d.1.2.2.2.2.2.1 d.2.1)
def kf87 (P:Go.Program):Known:=(kf86 P).func 87 p87
theorem kf87_ok:KnownOk Go.Proofs.Try.prog (kf87 Go.Proofs.Try.prog):=kf86_ok.func ok87

/-! (ductility/jack.parts).sizes -/

abbrev as61:List Ty:=[(.pair (.int .i64) (.pair (.int .i64) (.pair (.int .i64) (.pair (.int .i64) (.pair (.int .i64) (.pair (.int .i64) .unit))))))]
abbrev rs61:List Ty:=[(.pair (.int .i64) (.pair (.int .i64) (.pair (.int .i64) (.pair (.int .i64) (.pair (.int .i64) (.pair (.int .i64) .unit))))))]

def t61 (x0:Int) (x0':Int) (x0'':Int) (x0''':Int) (x0'''':Int) (x0''''':Int):Tr (Tys.data rs61) :=
  Tr.fin ((((if x0 < Go.IntKind.wrap Go.IntKind.i64 ((0:Int) - x0) then Go.IntKind.wrap Go.IntKind.i64 ((0:Int) - x0) else x0:Int),((if x0' < Go.IntKind.wrap Go.IntKind.i64 ((0:Int) - x0') then Go.IntKind.wrap Go.IntKind.i64 ((0:Int) - x0') else x0':Int),((if x0'' < Go.IntKind.wrap Go.IntKind.i64 ((0:Int) - x0'') then Go.IntKind.wrap Go.IntKind.i64 ((0:Int) - x0'') else x0'':Int),((if x0''' < Go.IntKind.wrap Go.IntKind.i64 ((0:Int) - x0''') then Go.IntKind.wrap Go.IntKind.i64 ((0:Int) - x0''') else x0''':Int),((if x0'''' < Go.IntKind.wrap Go.IntKind.i64 ((0:Int) - x0'''') then Go.IntKind.wrap Go.IntKind.i64 ((0:Int) - x0'''') else x0'''':Int),((if x0''''' < Go.IntKind.wrap Go.IntKind.i64 ((0:Int) - x0''''') then Go.IntKind.wrap Go.IntKind.i64 ((0:Int) - x0''''') else x0''''':Int),())))))),()))

def f61 (d:Tys.data as61):Option (Tys.data rs61):=(t61 d.1.1 d.1.2.1 d.1.2.2.1 d.1.2.2.2.1 d.1.2.2.2.2.1 d.1.2.2.2.2.2.1).val
def g61 (d:Tys.data as61):Tys.data rs61:=(f61 d).getD (Tys.dflt rs61)
def p61:PureC:=pcOf as61 rs61 f61 g61

theorem w61 (x0:Int) (x0':Int) (x0'':Int) (x0''':Int) (x0'''':Int) (x0''''':Int):Walks (runPure (kf87 Go.Proofs.Try.prog).orc Go.Proofs.Try.prog 400 61 as61 rs61 ((x0,x0',x0'',x0''',x0'''',x0''''',()),())) (t61 x0 x0' x0'' x0''' x0'''' x0''''') [([],[0,1,1,1,1,1,1,1,1,1,1,1,1,1,1,1,1,1,1,1,1,1,1,1,1,1,1,1,1,1,1,1,1,1,1,1,1,1,1,1,1,1,1])] :=
  ⟨by kernel_rfl,trivial⟩

theorem ok61_t (x0:Int) (x0':Int) (x0'':Int) (x0''':Int) (x0'''':Int) (x0''''':Int):TrOk (PureRuns Go.Proofs.Try.prog (kf87 Go.Proofs.Try.prog).orc 61 as61 rs61 ((x0,x0',x0'',x0''',x0'''',x0''''',()),())) (t61 x0 x0' x0'' x0''' x0'''' x0''''') :=
  Walks.ok (fun _ _ _=>PureRuns.of) (w61 x0 x0' x0'' x0''' x0'''' x0''''') (by kernel_rfl)

theorem ok61:PureOk Go.Proofs.Try.prog 61 p61:=pureOk_of kf87_ok.base (T:=fun (d:Tys.data as61)=>t61 d.1.1 d.1.2.1 d.1.2.2.1 d.1.2.2.2.1 d.1.2.2.2.2.1 d.1.2.2.2.2.2.1) (by kernel_rfl) (fun (d:Tys.data as61)=>ok61_t d.1.1 d.1.2.1 d.1.2.2.1 d.1.2.2.2.1 d.1.2.2.2.2.1 d.1.2.2.2.2.2.1)
def kf61 (P:Go.Program):Known:=(kf87 P).func 61 p61
theorem kf61_ok:KnownOk Go.Proofs.Try.prog (kf61 Go.Proofs.Try.prog):=kf87_ok.func ok61

/-! loop 2 of ductility/jack.divisorOf -/

abbrev sh73_2:Sh:={ n:=23,slots:=[3,5,6,7,8],pats:=[.ty (.int .i64),.ty (.int .i64),.ty (.slice (.int .i64)),.ty (.int .i64),.ty (.int .i64)],boxes:=[] }
abbrev shb73_2:Sh:={ n:=23,slots:=[3,6,7,8],pats:=[.ty (.int .i64),.ty (.slice (.int .i64)),.ty (.int .i64),.ty (.int .i64)],boxes:=[] }
abbrev shr73_2:Sh:={ n:=23,slots:=[],pats:=[],boxes:=[] }

def t73_2 (x0:Int) (x1:Int) (x2:(List Int)) (x3:Int) (x4:Int):Tr (Out sh73_2.data shb73_2.data shr73_2.data) :=
  Tr.test ((!eqF x1 0:Bool))
    (Tr.test (x1 == (0:Int))
      (Tr.stop)
      (Tr.fin (.again ((x1,((Int.tmod x0 x1:Int),(x2,(x3,(x4,()))))),()))))
    (Tr.fin (.brk ((x0,(x2,(x3,(x4,())))),())))

def s73_2 (d:sh73_2.data):Option (Out sh73_2.data shb73_2.data shr73_2.data):=(t73_2 d.1.1 d.1.2.1 d.1.2.2.1 d.1.2.2.2.1 d.1.2.2.2.2.1).val
def l73_2 (d:sh73_2.data):Option (shb73_2.data ⊕ shr73_2.data):=itr s73_2 rounds d
def b73_2 (d:sh73_2.data):shb73_2.data:=outB shb73_2.dflt (l73_2 d)
def lc73_2:LoopC:=lcB sh73_2 shb73_2 shr73_2 l73_2 b73_2

theorem w73_2 (x0:Int) (x1:Int) (x2:(List Int)) (x3:Int) (x4:Int):Walks (runBody (kf61 Go.Proofs.Try.prog).orc Go.Proofs.Try.prog 400 73 2 sh73_2 shb73_2 shr73_2 ((x0,x1,x2,x3,x4,()),())) (t73_2 x0 x1 x2 x3 x4) [([true,false],[2,4]),([ff],[2])] :=
  ⟨by kernel_rfl,by kernel_rfl,trivial⟩

theorem ok73_2_t (x0:Int) (x1:Int) (x2:(List Int)) (x3:Int) (x4:Int):TrOk (BodyRuns Go.Proofs.Try.prog (kf61 Go.Proofs.Try.prog).orc 73 2 sh73_2 shb73_2 shr73_2 ((x0,x1,x2,x3,x4,()),())) (t73_2 x0 x1 x2 x3 x4) :=
  Walks.ok (fun _ _ _=>BodyRuns.of) (w73_2 x0 x1 x2 x3 x4) (by kernel_rfl)

theorem ok73_2:LoopOk Go.Proofs.Try.prog 73 2 lc73_2:=loopOk_ofB (sh:=sh73_2) (shB:=shb73_2) (shR:=shr73_2) kf61_ok.base (T:=fun (d:sh73_2.data)=>t73_2 d.1.1 d.1.2.1 d.1.2.2.1 d.1.2.2.2.1 d.1.2.2.2.2.1) (by kernel_rfl) rfl (fun (d:sh73_2.data)=>ok73_2_t d.1.1 d.1.2.1 d.1.2.2.1 d.1.2.2.2.1 d.1.2.2.2.2.1) (fun _=>rfl)
def kl73_2 (P:Go.Program):Known:=(kf61 P).loop 73 2 lc73_2
theorem kl73_2_ok:KnownOk Go.Proofs.Try.prog (kl73_2 Go.Proofs.Try.prog):=kf61_ok.loop ok73_2

/-! loop 0 of ductility/jack.divisorOf -/

abbrev sh73_0:Sh:={ n:=23,slots:=[3,6,7,8],pats:=[.ty (.int .i64),.ty (.slice (.int .i64)),.ty (.int .i64),.ty (.int .i64)],boxes:=[] }
abbrev shb73_0:Sh:={ n:=23,slots:=[3],pats:=[.ty (.int .i64)],boxes:=[] }
abbrev shr73_0:Sh:={ n:=23,slots:=[],pats:=[],boxes:=[] }

def t73_0 (x0:Int) (x1:(List Int)) (x2:Int) (x3:Int):Tr (Out sh73_0.data shb73_0.data shr73_0.data) :=
  Tr.test ((!leF x2 x3:Bool))
    (Tr.test (decide ((0:Int) ≤ x3) && decide (x3 < (↑(List.length x1):Int)))
      (Tr.test (isBrk (l73_2 ((x0,((List.getD x1 (Int.toNat x3) (0:Int):Int),(x1,(x2,(x3,()))))),())))
        (let r0:=b73_2 ((x0,((List.getD x1 (Int.toNat x3) (0:Int):Int),(x1,(x2,(x3,()))))),());
        Tr.fin (.again ((r0.1.1,(r0.1.2.1,(r0.1.2.2.1,((wrap64 (r0.1.2.2.2.1 + (1:Int)):Int),())))),())))
        (Tr.stop))
      (Tr.stop))
    (Tr.fin (.brk ((x0,()),())))

def s73_0 (d:sh73_0.data):Option (Out sh73_0.data shb73_0.data shr73_0.data):=(t73_0 d.1.1 d.1.2.1 d.1.2.2.1 d.1.2.2.2.1).val
def l73_0 (d:sh73_0.data):Option (shb73_0.data ⊕ shr73_0.data):=itr s73_0 rounds d
def b73_0 (d:sh73_0.data):shb73_0.data:=outB shb73_0.dflt (l73_0 d)
def lc73_0:LoopC:=lcB sh73_0 shb73_0 shr73_0 l73_0 b73_0

theorem w73_0 (x0:Int) (x1:(List Int)) (x2:Int) (x3:Int):Walks (runBody (kl73_2 Go.Proofs.Try.prog).orc Go.Proofs.Try.prog 400 73 0 sh73_0 shb73_0 shr73_0 ((x0,x1,x2,x3,()),())) (t73_0 x0 x1 x2 x3) [([true,true,true],[1,2,4,6]),([ff],[2])] :=
  ⟨by kernel_rfl,by kernel_rfl,trivial⟩

theorem ok73_0_t (x0:Int) (x1:(List Int)) (x2:Int) (x3:Int):TrOk (BodyRuns Go.Proofs.Try.prog (kl73_2 Go.Proofs.Try.prog).orc 73 0 sh73_0 shb73_0 shr73_0 ((x0,x1,x2,x3,()),())) (t73_0 x0 x1 x2 x3) :=
  Walks.ok (fun _ _ _=>BodyRuns.of) (w73_0 x0 x1 x2 x3) (by kernel_rfl)

theorem ok73_0:LoopOk Go.Proofs.Try.prog 73 0 lc73_0:=loopOk_ofB (sh:=sh73_0) (shB:=shb73_0) (shR:=shr73_0) kl73_2_ok.base (T:=fun (d:sh73_0.data)=>t73_0 d.1.1 d.1.2.1 d.1.2.2.1 d.1.2.2.2.1) (by kernel_rfl) rfl (fun (d:sh73_0.data)=>ok73_0_t d.1.1 d.1.2.1 d.1.2.2.1 d.1.2.2.2.1) (fun _=>rfl)
def kl73_0 (P:Go.Program):Known:=(kl73_2 P).loop 73 0 lc73_0
theorem kl73_0_ok:KnownOk Go.Proofs.Try.prog (kl73_0 Go.Proofs.Try.prog):=kl73_2_ok.loop ok73_0

/-! ductility/jack.divisorOf -/

abbrev as73:List Ty:=[(.slice (.int .i64))]
abbrev rs73:List Ty:=[(.int .i64)]

def t73 (x0:(List Int)):Tr (Tys.data rs73) :=
  Tr.test (isBrk (l73_0 (((0:Int),(x0,((↑(List.length x0):Int),((0:Int),())))),())))
    (let r0:=b73_0 (((0:Int),(x0,((↑(List.length x0):Int),((0:Int),())))),());
    Tr.fin (((if r0.1.1 < Go.IntKind.wrap Go.IntKind.i64 ((0:Int) - r0.1.1) then Go.IntKind.wrap Go.IntKind.i64 ((0:Int) - r0.1.1) else r0.1.1:Int),())))
    (Tr.stop)

def f73 (d:Tys.data as73):Option (Tys.data rs73):=(t73 d.1).val
def g73 (d:Tys.data as73):Tys.data rs73:=(f73 d).getD (Tys.dflt rs73)
def p73:PureC:=pcOf as73 rs73 f73 g73

theorem w73 (x0:(List Int)):Walks (runPure (kl73_0 Go.Proofs.Try.prog).orc Go.Proofs.Try.prog 400 73 as73 rs73 (x0,())) (t73 x0) [([tt],[1,2])] :=
  ⟨by kernel_rfl,trivial⟩

theorem ok73_t (x0:(List Int)):TrOk (PureRuns Go.Proofs.Try.prog (kl73_0 Go.Proofs.Try.prog).orc 73 as73 rs73 (x0,())) (t73 x0) :=
  Walks.ok (fun _ _ _=>PureRuns.of) (w73 x0) (by kernel_rfl)

theorem ok73:PureOk Go.Proofs.Try.prog 73 p73:=pureOk_of kl73_0_ok.base (T:=fun (d:Tys.data as73)=>t73 d.1) (by kernel_rfl) (fun (d:Tys.data as73)=>ok73_t d.1)
def kf73 (P:Go.Program):Known:=(kl73_0 P).func 73 p73
theorem kf73_ok:KnownOk Go.Proofs.Try.prog (kf73 Go.Proofs.Try.prog):=kl73_0_ok.func ok73

/-! (ductility/jack.equation).shortened -/

abbrev as95:List Ty:=[(.pair (.int .i64) (.pair (.int .i64) (.pair (.int .i64) (.pair (.int .i64) (.pair (.int .i64) (.pair (.int .i64) (.pair (.int .i64) .unit)))))))]
abbrev rs95:List Ty:=[(.pair (.int .i64) (.pair (.int .i64) (.pair (.int .i64) (.pair (.int .i64) (.pair (.int .i64) (.pair (.int .i64) (.pair (.int .i64) .unit)))))))]

def t95 (x0:Int) (x0':Int) (x0'':Int) (x0''':Int) (x0'''':Int) (x0''''':Int) (x0'''''':Int):Tr (Tys.data rs95) :=
  Tr.test (Option.isSome (f73 (([x0,x0',x0'',x0''',x0'''',x0''''',x0'''''']:List Int),())))
    (let r0:=g73 (([x0,x0',x0'',x0''',x0'''',x0''''',x0'''''']:List Int),());
    Tr.test ((!leF r0.1 1:Bool))
      (Tr.test ((r0.1 == (0:Int):Bool))
        (Tr.stop)
        (Tr.fin ((((Go.IntKind.wrap Go.IntKind.i64 (Int.tdiv x0 r0.1):Int),((Go.IntKind.wrap Go.IntKind.i64 (Int.tdiv x0' r0.1):Int),((Go.IntKind.wrap Go.IntKind.i64 (Int.tdiv x0'' r0.1):Int),((Go.IntKind.wrap Go.IntKind.i64 (Int.tdiv x0''' r0.1):Int),((Go.IntKind.wrap Go.IntKind.i64 (Int.tdiv x0'''' r0.1):Int),((Go.IntKind.wrap Go.IntKind.i64 (Int.tdiv x0''''' r0.1):Int),((Go.IntKind.wrap Go.IntKind.i64 (Int.tdiv x0'''''' r0.1):Int),()))))))),()))))
      (Tr.fin (((x0,(x0',(x0'',(x0''',(x0'''',(x0''''',(x0'''''',()))))))),()))))
    (Tr.stop)

def f95 (d:Tys.data as95):Option (Tys.data rs95):=(t95 d.1.1 d.1.2.1 d.1.2.2.1 d.1.2.2.2.1 d.1.2.2.2.2.1 d.1.2.2.2.2.2.1 d.1.2.2.2.2.2.2.1).val
def g95 (d:Tys.data as95):Tys.data rs95:=(f95 d).getD (Tys.dflt rs95)
def p95:PureC:=pcOf as95 rs95 f95 g95

theorem w95 (x0:Int) (x0':Int) (x0'':Int) (x0''':Int) (x0'''':Int) (x0''''':Int) (x0'''''':Int):Walks (runPure (kf73 Go.Proofs.Try.prog).orc Go.Proofs.Try.prog 400 95 as95 rs95 ((x0,x0',x0'',x0''',x0'''',x0''''',x0'''''',()),())) (t95 x0 x0' x0'' x0''' x0'''' x0''''' x0'''''') [([true,true,false],[0,1,2,1,1,1,1,2,1,1,1,1,2,1,1,1,1,2,1,1,1,1,2,1,1,1,1,2,1,1,1,1,2,1,1,1,4,6,1,1]),([true,false],[2,4,1,1])] :=
  ⟨by kernel_rfl,by kernel_rfl,trivial⟩

theorem ok95_t (x0:Int) (x0':Int) (x0'':Int) (x0''':Int) (x0'''':Int) (x0''''':Int) (x0'''''':Int):TrOk (PureRuns Go.Proofs.Try.prog (kf73 Go.Proofs.Try.prog).orc 95 as95 rs95 ((x0,x0',x0'',x0''',x0'''',x0''''',x0'''''',()),())) (t95 x0 x0' x0'' x0''' x0'''' x0''''' x0'''''') :=
  Walks.ok (fun _ _ _=>PureRuns.of) (w95 x0 x0' x0'' x0''' x0'''' x0''''' x0'''''') (by kernel_rfl)

theorem ok95:PureOk Go.Proofs.Try.prog 95 p95:=pureOk_of kf73_ok.base (T:=fun (d:Tys.data as95)=>t95 d.1.1 d.1.2.1 d.1.2.2.1 d.1.2.2.2.1 d.1.2.2.2.2.1 d.1.2.2.2.2.2.1 d.1.2.2.2.2.2.2.1) (by kernel_rfl) (fun (d:Tys.data as95)=>ok95_t d.1.1 d.1.2.1 d.1.2.2.1 d.1.2.2.2.1 d.1.2.2.2.2.1 d.1.2.2.2.2.2.1 d.1.2.2.2.2.2.2.1)
def kf95 (P:Go.Program):Known:=(kf73 P).func 95 p95
theorem kf95_ok:KnownOk Go.Proofs.Try.prog (kf95 Go.Proofs.Try.prog):=kf73_ok.func ok95

/-! (ductility/jack.equation).without -/

abbrev as88:List Ty:=[(.pair (.int .i64) (.pair (.int .i64) (.pair (.int .i64) (.pair (.int .i64) (.pair (.int .i64) (.pair (.int .i64) (.pair (.int .i64) .unit))))))),(.pair (.int .i64) (.pair (.int .i64) (.pair (.int .i64) (.pair (.int .i64) (.pair (.int .i64) (.pair (.int .i64) (.pair (.int .i64) .unit)))))))]
abbrev rs88:List Ty:=[(.pair (.int .i64) (.pair (.int .i64) (.pair (.int .i64) (.pair (.int .i64) (.pair (.int .i64) (.pair (.int .i64) (.pair (.int .i64) .unit)))))))]

def t88 (x0:Int) (x0':Int) (x0'':Int) (x0''':Int) (x0'''':Int) (x0''''':Int) (x0'''''':Int) (x1:Int) (x1':Int) (x1'':Int) (x1''':Int) (x1'''':Int) (x1''''':Int) (x1'''''':Int):Tr (Tys.data rs88) :=
  Tr.test ((!eqF x1 0:Bool))
    (Tr.test (Option.isSome (f95 (((wrap64 (wrap64 (x0 * x1) - wrap64 (x1 * x0)):Int),((wrap64 (wrap64 (x0' * x1) - wrap64 (x1' * x0)):Int),((wrap64 (wrap64 (x0'' * x1) - wrap64 (x1'' * x0)):Int),((wrap64 (wrap64 (x0''' * x1) - wrap64 (x1''' * x0)):Int),((wrap64 (wrap64 (x0'''' * x1) - wrap64 (x1'''' * x0)):Int),((wrap64 (wrap64 (x0''''' * x1) - wrap64 (x1''''' * x0)):Int),((wrap64 (wrap64 (x0'''''' * x1) - wrap64 (x1'''''' * x0)):Int),()))))))),())))
      (let r0:=g95 (((wrap64 (wrap64 (x0 * x1) - wrap64 (x1 * x0)):Int),((wrap64 (wrap64 (x0' * x1) - wrap64 (x1' * x0)):Int),((wrap64 (wrap64 (x0'' * x1) - wrap64 (x1'' * x0)):Int),((wrap64 (wrap64 (x0''' * x1) - wrap64 (x1''' * x0)):Int),((wrap64 (wrap64 (x0'''' * x1) - wrap64 (x1'''' * x0)):Int),((wrap64 (wrap64 (x0''''' * x1) - wrap64 (x1''''' * x0)):Int),((wrap64 (wrap64 (x0'''''' * x1) - wrap64 (x1'''''' * x0)):Int),()))))))),());
      Tr.fin (((r0.1.1,(r0.1.2.1,(r0.1.2.2.1,(r0.1.2.2.2.1,(r0.1.2.2.2.2.1,(r0.1.2.2.2.2.2.1,(r0.1.2.2.2.2.2.2.1,()))))))),())))
      (Tr.stop))
    (Tr.test (!eqF x1' 0)
      (Tr.test (Option.isSome (f95 (((wrap64 (wrap64 (x0 * x1') - wrap64 (x1 * x0')):Int),((wrap64 (wrap64 (x0' * x1') - wrap64 (x1' * x0')):Int),((wrap64 (wrap64 (x0'' * x1') - wrap64 (x1'' * x0')):Int),((wrap64 (wrap64 (x0''' * x1') - wrap64 (x1''' * x0')):Int),((wrap64 (wrap64 (x0'''' * x1') - wrap64 (x1'''' * x0')):Int),((wrap64 (wrap64 (x0''''' * x1') - wrap64 (x1''''' * x0')):Int),((wrap64 (wrap64 (x0'''''' * x1') - wrap64 (x1'''''' * x0')):Int),()))))))),())))
        (let r1:=g95 (((wrap64 (wrap64 (x0 * x1') - wrap64 (x1 * x0')):Int),((wrap64 (wrap64 (x0' * x1') - wrap64 (x1' * x0')):Int),((wrap64 (wrap64 (x0'' * x1') - wrap64 (x1'' * x0')):Int),((wrap64 (wrap64 (x0''' * x1') - wrap64 (x1''' * x0')):Int),((wrap64 (wrap64 (x0'''' * x1') - wrap64 (x1'''' * x0')):Int),((wrap64 (wrap64 (x0''''' * x1') - wrap64 (x1''''' * x0')):Int),((wrap64 (wrap64 (x0'''''' * x1') - wrap64 (x1'''''' * x0')):Int),()))))))),());
        Tr.fin (((r1.1.1,(r1.1.2.1,(r1.1.2.2.1,(r1.1.2.2.2.1,(r1.1.2.2.2.2.1,(r1.1.2.2.2.2.2.1,(r1.1.2.2.2.2.2.2.1,()))))))),())))
        (Tr.stop))
      (Tr.test ((!eqF x1'' 0:Bool))
        (Tr.test (Option.isSome (f95 (((wrap64 (wrap64 (x0 * x1'') - wrap64 (x1 * x0'')):Int),((wrap64 (wrap64 (x0' * x1'') - wrap64 (x1' * x0'')):Int),((wrap64 (wrap64 (x0'' * x1'') - wrap64 (x1'' * x0'')):Int),((wrap64 (wrap64 (x0''' * x1'') - wrap64 (x1''' * x0'')):Int),((wrap64 (wrap64 (x0'''' * x1'') - wrap64 (x1'''' * x0'')):Int),((wrap64 (wrap64 (x0''''' * x1'') - wrap64 (x1''''' * x0'')):Int),((wrap64 (wrap64 (x0'''''' * x1'') - wrap64 (x1'''''' * x0'')):Int),()))))))),())))
          (let r2:=g95 (((wrap64 (wrap64 (x0 * x1'') - wrap64 (x1 * x0'')):Int),((wrap64 (wrap64 (x0' * x1'') - wrap64 (x1' * x0'')):Int),((wrap64 (wrap64 (x0'' * x1'') - wrap64 (x1'' * x0'')):Int),((wrap64 (wrap64 (x0''' * x1'') - wrap64 (x1''' * x0'')):Int),((wrap64 (wrap64 (x0'''' * x1'') - wrap64 (x1'''' * x0'')):Int),((wrap64 (wrap64 (x0''''' * x1'') - wrap64 (x1''''' * x0'')):Int),((wrap64 (wrap64 (x0'''''' * x1'') - wrap64 (x1'''''' * x0'')):Int),()))))))),());
          Tr.fin (((r2.1.1,(r2.1.2.1,(r2.1.2.2.1,(r2.1.2.2.2.1,(r2.1.2.2.2.2.1,(r2.1.2.2.2.2.2.1,(r2.1.2.2.2.2.2.2.1,()))))))),())))
          (Tr.stop))
        (Tr.test ((!eqF x1''' 0:Bool))
          (Tr.test (Option.isSome (f95 (((wrap64 (wrap64 (x0 * x1''') - wrap64 (x1 * x0''')):Int),((wrap64 (wrap64 (x0' * x1''') - wrap64 (x1' * x0''')):Int),((wrap64 (wrap64 (x0'' * x1''') - wrap64 (x1'' * x0''')):Int),((wrap64 (wrap64 (x0''' * x1''') - wrap64 (x1''' * x0''')):Int),((wrap64 (wrap64 (x0'''' * x1''') - wrap64 (x1'''' * x0''')):Int),((wrap64 (wrap64 (x0''''' * x1''') - wrap64 (x1''''' * x0''')):Int),((wrap64 (wrap64 (x0'''''' * x1''') - wrap64 (x1'''''' * x0''')):Int),()))))))),())))
            (let r3:=g95 (((wrap64 (wrap64 (x0 * x1''') - wrap64 (x1 * x0''')):Int),((wrap64 (wrap64 (x0' * x1''') - wrap64 (x1' * x0''')):Int),((wrap64 (wrap64 (x0'' * x1''') - wrap64 (x1'' * x0''')):Int),((wrap64 (wrap64 (x0''' * x1''') - wrap64 (x1''' * x0''')):Int),((wrap64 (wrap64 (x0'''' * x1''') - wrap64 (x1'''' * x0''')):Int),((wrap64 (wrap64 (x0''''' * x1''') - wrap64 (x1''''' * x0''')):Int),((wrap64 (wrap64 (x0'''''' * x1''') - wrap64 (x1'''''' * x0''')):Int),()))))))),());
            Tr.fin (((r3.1.1,(r3.1.2.1,(r3.1.2.2.1,(r3.1.2.2.2.1,(r3.1.2.2.2.2.1,(r3.1.2.2.2.2.2.1,(r3.1.2.2.2.2.2.2.1,()))))))),())))
            (Tr.stop))
          (Tr.test ((!eqF x1'''' 0:Bool))
            (Tr.test (Option.isSome (f95 (((wrap64 (wrap64 (x0 * x1'''') - wrap64 (x1 * x0'''')):Int),((wrap64 (wrap64 (x0' * x1'''') - wrap64 (x1' * x0'''')):Int),((wrap64 (wrap64 (x0'' * x1'''') - wrap64 (x1'' * x0'''')):Int),((wrap64 (wrap64 (x0''' * x1'''') - wrap64 (x1''' * x0'''')):Int),((wrap64 (wrap64 (x0'''' * x1'''') - wrap64 (x1'''' * x0'''')):Int),((wrap64 (wrap64 (x0''''' * x1'''') - wrap64 (x1''''' * x0'''')):Int),((wrap64 (wrap64 (x0'''''' * x1'''') - wrap64 (x1'''''' * x0'''')):Int),()))))))),())))
              (let r4:=g95 (((wrap64 (wrap64 (x0 * x1'''') - wrap64 (x1 * x0'''')):Int),((wrap64 (wrap64 (x0' * x1'''') - wrap64 (x1' * x0'''')):Int),((wrap64 (wrap64 (x0'' * x1'''') - wrap64 (x1'' * x0'''')):Int),((wrap64 (wrap64 (x0''' * x1'''') - wrap64 (x1''' * x0'''')):Int),((wrap64 (wrap64 (x0'''' * x1'''') - wrap64 (x1'''' * x0'''')):Int),((wrap64 (wrap64 (x0''''' * x1'''') - wrap64 (x1''''' * x0'''')):Int),((wrap64 (wrap64 (x0'''''' * x1'''') - wrap64 (x1'''''' * x0'''')):Int),()))))))),());
              Tr.fin (((r4.1.1,(r4.1.2.1,(r4.1.2.2.1,(r4.1.2.2.2.1,(r4.1.2.2.2.2.1,(r4.1.2.2.2.2.2.1,(r4.1.2.2.2.2.2.2.1,()))))))),())))
              (Tr.stop))
            (Tr.test ((!eqF x1''''' 0:Bool))
              (Tr.test (Option.isSome (f95 (((wrap64 (wrap64 (x0 * x1''''') - wrap64 (x1 * x0''''')):Int),((wrap64 (wrap64 (x0' * x1''''') - wrap64 (x1' * x0''''')):Int),((wrap64 (wrap64 (x0'' * x1''''') - wrap64 (x1'' * x0''''')):Int),((wrap64 (wrap64 (x0''' * x1''''') - wrap64 (x1''' * x0''''')):Int),((wrap64 (wrap64 (x0'''' * x1''''') - wrap64 (x1'''' * x0''''')):Int),((wrap64 (wrap64 (x0''''' * x1''''') - wrap64 (x1''''' * x0''''')):Int),((wrap64 (wrap64 (x0'''''' * x1''''') - wrap64 (x1'''''' * x0''''')):Int),()))))))),())))
                (let r5:=g95 (((wrap64 (wrap64 (x0 * x1''''') - wrap64 (x1 * x0''''')):Int),((wrap64 (wrap64 (x0' * x1''''') - wrap64 (x1' * x0''''')):Int),((wrap64 (wrap64 (x0'' * x1''''') - wrap64 (x1'' * x0''''')):Int),((wrap64 (wrap64 (x0''' * x1''''') - wrap64 (x1''' * x0''''')):Int),((wrap64 (wrap64 (x0'''' * x1''''') - wrap64 (x1'''' * x0''''')):Int),((wrap64 (wrap64 (x0''''' * x1''''') - wrap64 (x1''''' * x0''''')):Int),((wrap64 (wrap64 (x0'''''' * x1''''') - wrap64 (x1'''''' * x0''''')):Int),()))))))),());
                Tr.fin (((r5.1.1,(r5.1.2.1,(r5.1.2.2.1,(r5.1.2.2.2.1,(r5.1.2.2.2.2.1,(r5.1.2.2.2.2.2.1,(r5.1.2.2.2.2.2.2.1,()))))))),())))
                (Tr.stop))
              (Tr.test ((!eqF x1'''''' 0:Bool))
                (Tr.test (Option.isSome (f95 (((wrap64 (wrap64 (x0 * x1'''''') - wrap64 (x1 * x0'''''')):Int),((wrap64 (wrap64 (x0' * x1'''''') - wrap64 (x1' * x0'''''')):Int),((wrap64 (wrap64 (x0'' * x1'''''') - wrap64 (x1'' * x0'''''')):Int),((wrap64 (wrap64 (x0''' * x1'''''') - wrap64 (x1''' * x0'''''')):Int),((wrap64 (wrap64 (x0'''' * x1'''''') - wrap64 (x1'''' * x0'''''')):Int),((wrap64 (wrap64 (x0''''' * x1'''''') - wrap64 (x1''''' * x0'''''')):Int),((wrap64 (wrap64 (x0'''''' * x1'''''') - wrap64 (x1'''''' * x0'''''')):Int),()))))))),())))
                  (let r6:=g95 (((wrap64 (wrap64 (x0 * x1'''''') - wrap64 (x1 * x0'''''')):Int),((wrap64 (wrap64 (x0' * x1'''''') - wrap64 (x1' * x0'''''')):Int),((wrap64 (wrap64 (x0'' * x1'''''') - wrap64 (x1'' * x0'''''')):Int),((wrap64 (wrap64 (x0''' * x1'''''') - wrap64 (x1''' * x0'''''')):Int),((wrap64 (wrap64 (x0'''' * x1'''''') - wrap64 (x1'''' * x0'''''')):Int),((wrap64 (wrap64 (x0''''' * x1'''''') - wrap64 (x1''''' * x0'''''')):Int),((wrap64 (wrap64 (x0'''''' * x1'''''') - wrap64 (x1'''''' * x0'''''')):Int),()))))))),());
                  Tr.fin (((r6.1.1,(r6.1.2.1,(r6.1.2.2.1,(r6.1.2.2.2.1,(r6.1.2.2.2.2.1,(r6.1.2.2.2.2.2.1,(r6.1.2.2.2.2.2.2.1,()))))))),())))
                  (Tr.stop))
                (Tr.stop)))))))

def f88 (d:Tys.data as88):Option (Tys.data rs88):=(t88 d.1.1 d.1.2.1 d.1.2.2.1 d.1.2.2.2.1 d.1.2.2.2.2.1 d.1.2.2.2.2.2.1 d.1.2.2.2.2.2.2.1 d.2.1.1 d.2.1.2.1 d.2.1.2.2.1 d.2.1.2.2.2.1 d.2.1.2.2.2.2.1 d.2.1.2.2.2.2.2.1 d.2.1.2.2.2.2.2.2.1).val
def g88 (d:Tys.data as88):Tys.data rs88:=(f88 d).getD (Tys.dflt rs88)
def p88:PureC:=pcOf as88 rs88 f88 g88

theorem w88 (x0:Int) (x0':Int) (x0'':Int) (x0''':Int) (x0'''':Int) (x0''''':Int) (x0'''''':Int) (x1:Int) (x1':Int) (x1'':Int) (x1''':Int) (x1'''':Int) (x1''''':Int) (x1'''''':Int):Walks (runPure (kf95 Go.Proofs.Try.prog).orc Go.Proofs.Try.prog 400 88 as88 rs88 ((x0,x0',x0'',x0''',x0'''',x0''''',x0'''''',()),(x1,x1',x1'',x1''',x1'''',x1''''',x1'''''',()),())) (t88 x0 x0' x0'' x0''' x0'''' x0''''' x0'''''' x1 x1' x1'' x1''' x1'''' x1''''' x1'''''') [([true,true],[2,0,1,1,1,1,1,1,1,1,1,1,1,1,1,1,1,1,1,1,1,1,1,1,1,1,1,1,1,1,1,1,1,1,1,1,1,1,1,1,1,1,1,1,1,1,1,1,4,1,1,1]),([false,true,true],[2,0,1,1,1,1,1,1,1,1,1,1,1,1,1,1,1,1,1,1,1,1,1,1,1,1,1,1,1,1,1,1,1,1,1,1,1,1,1,1,1,1,1,1,1,1,1,1,4,1,1,1,6,1,1,1]),([false,false,true,true],[2,0,1,1,1,1,1,1,1,1,1,1,1,1,1,1,1,1,1,1,1,1,1,1,1,1,1,1,1,1,1,1,1,1,1,1,1,1,1,1,1,1,1,1,1,1,1,1,4,1,1,1,6,1,1,1,8,1,1,1]),([false,false,false,true,true],[2,0,1,1,1,1,1,1,1,1,1,1,1,1,1,1,1,1,1,1,1,1,1,1,1,1,1,1,1,1,1,1,1,1,1,1,1,1,1,1,1,1,1,1,1,1,1,1,4,1,1,1,6,1,1,1,8,1,1,1,10,1,1,1]),([false,false,false,false,true,true],[2,0,1,1,1,1,1,1,1,1,1,1,1,1,1,1,1,1,1,1,1,1,1,1,1,1,1,1,1,1,1,1,1,1,1,1,1,1,1,1,1,1,1,1,1,1,1,1,4,1,1,1,6,1,1,1,8,1,1,1,10,1,1,1,12,1,1,1]),([false,false,false,false,false,true,true],[2,0,1,1,1,1,1,1,1,1,1,1,1,1,1,1,1,1,1,1,1,1,1,1,1,1,1,1,1,1,1,1,1,1,1,1,1,1,1,1,1,1,1,1,1,1,1,1,4,1,1,1,6,1,1,1,8,1,1,1,10,1,1,1,12,1,1,1,14,1,1,1]),([false,false,false,false,false,false,true,true],[2,0,1,1,1,1,1,1,1,1,1,1,1,1,1,1,1,1,1,1,1,1,1,1,1,1,1,1,1,1,1,1,1,1,1,1,1,1,1,1,1,1,1,1,1,1,1,1,4,1,1,1,6,1,1,1,8,1,1,1,10,1,1,1,12,1,1,1,14,1,1,1,16,1,1,1])] :=
  ⟨by kernel_rfl,by kernel_rfl,by kernel_rfl,by kernel_rfl,by kernel_rfl,by kernel_rfl,by kernel_rfl,trivial⟩

theorem ok88_t (x0:Int) (x0':Int) (x0'':Int) (x0''':Int) (x0'''':Int) (x0''''':Int) (x0'''''':Int) (x1:Int) (x1':Int) (x1'':Int) (x1''':Int) (x1'''':Int) (x1''''':Int) (x1'''''':Int):TrOk (PureRuns Go.Proofs.Try.prog (kf95 Go.Proofs.Try.prog).orc 88 as88 rs88 ((x0,x0',x0'',x0''',x0'''',x0''''',x0'''''',()),(x1,x1',x1'',x1''',x1'''',x1''''',x1'''''',()),())) (t88 x0 x0' x0'' x0''' x0'''' x0''''' x0'''''' x1 x1' x1'' x1''' x1'''' x1''''' x1'''''') :=
  Walks.ok (fun _ _ _=>PureRuns.of) (w88 x0 x0' x0'' x0''' x0'''' x0''''' x0'''''' x1 x1' x1'' x1''' x1'''' x1''''' x1'''''') (by kernel_rfl)

theorem ok88:PureOk Go.Proofs.Try.prog 88 p88:=pureOk_of kf95_ok.base (T:=fun (d:Tys.data as88)=>t88 d.1.1 d.1.2.1 d.1.2.2.1 d.1.2.2.2.1 d.1.2.2.2.2.1 d.1.2.2.2.2.2.1 d.1.2.2.2.2.2.2.1 d.2.1.1 d.2.1.2.1 d.2.1.2.2.1 d.2.1.2.2.2.1 d.2.1.2.2.2.2.1 d.2.1.2.2.2.2.2.1 d.2.1.2.2.2.2.2.2.1) (by kernel_rfl) (fun (d:Tys.data as88)=>ok88_t d.1.1 d.1.2.1 d.1.2.2.1 d.1.2.2.2.1 d.1.2.2.2.2.1 d.1.2.2.2.2.2.1 d.1.2.2.2.2.2.2.1 d.2.1.1 d.2.1.2.1 d.2.1.2.2.1 d.2.1.2.2.2.1 d.2.1.2.2.2.2.1 d.2.1.2.2.2.2.2.1 d.2.1.2.2.2.2.2.2.1)
def kf88 (P:Go.Program):Known:=(kf95 P).func 88 p88
theorem kf88_ok:KnownOk Go.Proofs.Try.prog (kf88 Go.Proofs.Try.prog):=kf95_ok.func ok88

/-! (ductility/jack.equation).lead -/

abbrev as70:List Ty:=[(.pair (.int .i64) (.pair (.int .i64) (.pair (.int .i64) (.pair (.int .i64) (.pair (.int .i64) (.pair (.int .i64) (.pair (.int .i64) .unit)))))))]
abbrev rs70:List Ty:=[(.int .i64)]

def t70 (x0:Int) (x0':Int) (x0'':Int) (x0''':Int) (x0'''':Int) (x0''''':Int) (x0'''''':Int):Tr (Tys.data rs70) :=
  Tr.test ((!eqF x0 0:Bool))
    (Tr.fin (((0:Int),())))
    (Tr.test (!eqF x0' 0)
      (Tr.fin (((1:Int),())))
      (Tr.test ((!eqF x0'' 0:Bool))
        (Tr.fin (((2:Int),())))
        (Tr.test ((!eqF x0''' 0:Bool))
          (Tr.fin (((3:Int),())))
          (Tr.test ((!eqF x0'''' 0:Bool))
            (Tr.fin (((4:Int),())))
            (Tr.test ((!eqF x0''''' 0:Bool))
              (Tr.fin (((5:Int),())))
              (Tr.test ((!eqF x0'''''' 0:Bool))
                (Tr.fin (((6:Int),())))
                (Tr.fin (((7:Int),())))))))))

def f70 (d:Tys.data as70):Option (Tys.data rs70):=(t70 d.1.1 d.1.2.1 d.1.2.2.1 d.1.2.2.2.1 d.1.2.2.2.2.1 d.1.2.2.2.2.2.1 d.1.2.2.2.2.2.2.1).val
def g70 (d:Tys.data as70):Tys.data rs70:=(f70 d).getD (Tys.dflt rs70)
def p70:PureC:=pcOf as70 rs70 f70 g70

theorem w70 (x0:Int) (x0':Int) (x0'':Int) (x0''':Int) (x0'''':Int) (x0''''':Int) (x0'''''':Int):Walks (runPure (kf88 Go.Proofs.Try.prog).orc Go.Proofs.Try.prog 400 70 as70 rs70 ((x0,x0',x0'',x0''',x0'''',x0''''',x0'''''',()),())) (t70 x0 x0' x0'' x0''' x0'''' x0''''' x0'''''') [([tt],[2,1,1,1]),([false,true],[2,1,1,1,4,1,1,1]),([false,false,true],[2,1,1,1,4,1,1,1,6,1,1,1]),([false,false,false,true],[2,1,1,1,4,1,1,1,6,1,1,1,8,1,1,1]),([false,false,false,false,true],[2,1,1,1,4,1,1,1,6,1,1,1,8,1,1,1,10,1,1,1]),([false,false,false,false,false,true],[2,1,1,1,4,1,1,1,6,1,1,1,8,1,1,1,10,1,1,1,12,1,1,1]),([false,false,false,false,false,false,true],[2,1,1,1,4,1,1,1,6,1,1,1,8,1,1,1,10,1,1,1,12,1,1,1,14,1,1,1]),([false,false,false,false,false,false,false],[0,2,1,1,1,4,1,1,1,6,1,1,1,8,1,1,1,10,1,1,1,12,1,1,1,14,1,1,1])] :=
  ⟨by kernel_rfl,by kernel_rfl,by kernel_rfl,by kernel_rfl,by kernel_rfl,by kernel_rfl,by kernel_rfl,by kernel_rfl,trivial⟩

theorem ok70_t (x0:Int) (x0':Int) (x0'':Int) (x0''':Int) (x0'''':Int) (x0''''':Int) (x0'''''':Int):TrOk (PureRuns Go.Proofs.Try.prog (kf88 Go.Proofs.Try.prog).orc 70 as70 rs70 ((x0,x0',x0'',x0''',x0'''',x0''''',x0'''''',()),())) (t70 x0 x0' x0'' x0''' x0'''' x0''''' x0'''''') :=
  Walks.ok (fun _ _ _=>PureRuns.of) (w70 x0 x0' x0'' x0''' x0'''' x0''''' x0'''''') (by kernel_rfl)

theorem ok70:PureOk Go.Proofs.Try.prog 70 p70:=pureOk_of kf88_ok.base (T:=fun (d:Tys.data as70)=>t70 d.1.1 d.1.2.1 d.1.2.2.1 d.1.2.2.2.1 d.1.2.2.2.2.1 d.1.2.2.2.2.2.1 d.1.2.2.2.2.2.2.1) (by kernel_rfl) (fun (d:Tys.data as70)=>ok70_t d.1.1 d.1.2.1 d.1.2.2.1 d.1.2.2.2.1 d.1.2.2.2.2.1 d.1.2.2.2.2.2.1 d.1.2.2.2.2.2.2.1)
def kf70 (P:Go.Program):Known:=(kf88 P).func 70 p70
theorem kf70_ok:KnownOk Go.Proofs.Try.prog (kf70 Go.Proofs.Try.prog):=kf88_ok.func ok70

/-! ductility/jack.equationOf -/

abbrev as69:List Ty:=[(.pair (.int .i64) (.pair (.int .i64) (.pair (.int .i64) (.pair (.int .i64) (.pair (.int .i64) (.pair (.int .i64) .unit)))))),(.int .i64)]
abbrev rs69:List Ty:=[(.pair (.int .i64) (.pair (.int .i64) (.pair (.int .i64) (.pair (.int .i64) (.pair (.int .i64) (.pair (.int .i64) (.pair (.int .i64) .unit)))))))]

def t69 (x0:Int) (x0':Int) (x0'':Int) (x0''':Int) (x0'''':Int) (x0''''':Int) (x1:Int):Tr (Tys.data rs69) :=
  Tr.fin (((x0,(x0',(x0'',(x0''',(x0'''',(x0''''',(x1,()))))))),()))

def f69 (d:Tys.data as69):Option (Tys.data rs69):=(t69 d.1.1 d.1.2.1 d.1.2.2.1 d.1.2.2.2.1 d.1.2.2.2.2.1 d.1.2.2.2.2.2.1 d.2.1).val
def g69 (d:Tys.data as69):Tys.data rs69:=(f69 d).getD (Tys.dflt rs69)
def p69:PureC:=pcOf as69 rs69 f69 g69

theorem w69 (x0:Int) (x0':Int) (x0'':Int) (x0''':Int) (x0'''':Int) (x0''''':Int) (x1:Int):Walks (runPure (kf70 Go.Proofs.Try.prog).orc Go.Proofs.Try.prog 400 69 as69 rs69 ((x0,x0',x0'',x0''',x0'''',x0''''',()),x1,())) (t69 x0 x0' x0'' x0''' x0'''' x0''''' x1) [([],[1,1,1])] :=
  ⟨by kernel_rfl,trivial⟩

theorem ok69_t (x0:Int) (x0':Int) (x0'':Int) (x0''':Int) (x0'''':Int) (x0''''':Int) (x1:Int):TrOk (PureRuns Go.Proofs.Try.prog (kf70 Go.Proofs.Try.prog).orc 69 as69 rs69 ((x0,x0',x0'',x0''',x0'''',x0''''',()),x1,())) (t69 x0 x0' x0'' x0''' x0'''' x0''''' x1) :=
  Walks.ok (fun _ _ _=>PureRuns.of) (w69 x0 x0' x0'' x0''' x0'''' x0''''' x1) (by kernel_rfl)

theorem ok69:PureOk Go.Proofs.Try.prog 69 p69:=pureOk_of kf70_ok.base (T:=fun (d:Tys.data as69)=>t69 d.1.1 d.1.2.1 d.1.2.2.1 d.1.2.2.2.1 d.1.2.2.2.2.1 d.1.2.2.2.2.2.1 d.2.1) (by kernel_rfl) (fun (d:Tys.data as69)=>ok69_t d.1.1 d.1.2.1 d.1.2.2.1 d.1.2.2.2.1 d.1.2.2.2.2.1 d.1.2.2.2.2.2.1 d.2.1)
def kf69 (P:Go.Program):Known:=(kf70 P).func 69 p69
theorem kf69_ok:KnownOk Go.Proofs.Try.prog (kf69 Go.Proofs.Try.prog):=kf70_ok.func ok69

/-! loop 0 of (ductility/jack.system).rest -/

abbrev sh68_0:Sh:={ n:=18,slots:=[3,4,7,8,9],pats:=[.ptr 0 7 0,.ptr 1 7 0,.ty (.slice (.pair (.int .i64) (.pair (.int .i64) (.pair (.int .i64) (.pair (.int .i64) (.pair (.int .i64) (.pair (.int .i64) (.pair (.int .i64) .unit)))))))),.ty (.int .i64),.ty (.int .i64)],boxes:=[.row [.ty (.int .i64),.ty (.int .i64),.ty (.int .i64),.ty (.int .i64),.ty (.int .i64),.ty (.int .i64),.ty (.int .i64)],.row [.ty (.int .i64),.ty (.int .i64),.ty (.int .i64),.ty (.int .i64),.ty (.int .i64),.ty (.int .i64),.ty (.int .i64)]] }
abbrev shb68_0:Sh:={ n:=18,slots:=[3,4],pats:=[.ptr 0 7 0,.ptr 1 7 0],boxes:=[.row [.ty (.int .i64),.ty (.int .i64),.ty (.int .i64),.ty (.int .i64),.ty (.int .i64),.ty (.int .i64),.ty (.int .i64)],.row [.ty (.int .i64),.ty (.int .i64),.ty (.int .i64),.ty (.int .i64),.ty (.int .i64),.ty (.int .i64),.ty (.int .i64)]] }
abbrev shr68_0:Sh:={ n:=18,slots:=[],pats:=[],boxes:=[.row [.ty (.int .i64),.ty (.int .i64),.ty (.int .i64),.ty (.int .i64),.ty (.int .i64),.ty (.int .i64),.ty (.int .i64)],.row [.ty (.int .i64),.ty (.int .i64),.ty (.int .i64),.ty (.int .i64),.ty (.int .i64),.ty (.int .i64),.ty (.int .i64)]] }

def t68_0 (x2:(List (Int×(Int×(Int×(Int×(Int×(Int×(Int×Unit))))))))) (x3:Int) (x4:Int) (b0_0:Int) (b0_1:Int) (b0_2:Int) (b0_3:Int) (b0_4:Int) (b0_5:Int) (b0_6:Int) (b1_0:Int) (b1_1:Int) (b1_2:Int) (b1_3:Int) (b1_4:Int) (b1_5:Int) (b1_6:Int):Tr (Out sh68_0.data shb68_0.data shr68_0.data) :=
  Tr.test ((!leF x3 x4:Bool))
    (Tr.test (decide ((0:Int) ≤ x4) && decide (x4 < (↑(List.length x2):Int)))
      (Tr.test (Option.isSome (f88 ((b0_0,(b0_1,(b0_2,(b0_3,(b0_4,(b0_5,(b0_6,()))))))),((((List.getD x2 (Int.toNat x4) ((0:Int),(0:Int),(0:Int),(0:Int),(0:Int),(0:Int),(0:Int),())).1:Int),(((List.getD x2 (Int.toNat x4) ((0:Int),(0:Int),(0:Int),(0:Int),(0:Int),(0:Int),(0:Int),())).2.1:Int),(((List.getD x2 (Int.toNat x4) ((0:Int),(0:Int),(0:Int),(0:Int),(0:Int),(0:Int),(0:Int),())).2.2.1:Int),(((List.getD x2 (Int.toNat x4) ((0:Int),(0:Int),(0:Int),(0:Int),(0:Int),(0:Int),(0:Int),())).2.2.2.1:Int),(((List.getD x2 (Int.toNat x4) ((0:Int),(0:Int),(0:Int),(0:Int),(0:Int),(0:Int),(0:Int),())).2.2.2.2.1:Int),(((List.getD x2 (Int.toNat x4) ((0:Int),(0:Int),(0:Int),(0:Int),(0:Int),(0:Int),(0:Int),())).2.2.2.2.2.1:Int),(((List.getD x2 (Int.toNat x4) ((0:Int),(0:Int),(0:Int),(0:Int),(0:Int),(0:Int),(0:Int),())).2.2.2.2.2.2.1:Int),()))))))),()))))
        (let r0:=g88 ((b0_0,(b0_1,(b0_2,(b0_3,(b0_4,(b0_5,(b0_6,()))))))),((((List.getD x2 (Int.toNat x4) ((0:Int),(0:Int),(0:Int),(0:Int),(0:Int),(0:Int),(0:Int),())).1:Int),(((List.getD x2 (Int.toNat x4) ((0:Int),(0:Int),(0:Int),(0:Int),(0:Int),(0:Int),(0:Int),())).2.1:Int),(((List.getD x2 (Int.toNat x4) ((0:Int),(0:Int),(0:Int),(0:Int),(0:Int),(0:Int),(0:Int),())).2.2.1:Int),(((List.getD x2 (Int.toNat x4) ((0:Int),(0:Int),(0:Int),(0:Int),(0:Int),(0:Int),(0:Int),())).2.2.2.1:Int),(((List.getD x2 (Int.toNat x4) ((0:Int),(0:Int),(0:Int),(0:Int),(0:Int),(0:Int),(0:Int),())).2.2.2.2.1:Int),(((List.getD x2 (Int.toNat x4) ((0:Int),(0:Int),(0:Int),(0:Int),(0:Int),(0:Int),(0:Int),())).2.2.2.2.2.1:Int),(((List.getD x2 (Int.toNat x4) ((0:Int),(0:Int),(0:Int),(0:Int),(0:Int),(0:Int),(0:Int),())).2.2.2.2.2.2.1:Int),()))))))),()));
        Tr.fin (.again ((x2,(x3,((wrap64 (x4 + (1:Int)):Int),()))),((r0.1.1,(r0.1.2.1,(r0.1.2.2.1,(r0.1.2.2.2.1,(r0.1.2.2.2.2.1,(r0.1.2.2.2.2.2.1,(r0.1.2.2.2.2.2.2.1,()))))))),((b1_0,(b1_1,(b1_2,(b1_3,(b1_4,(b1_5,(b1_6,()))))))),())))))
        (Tr.stop))
      (Tr.stop))
    (Tr.fin (.brk ((),((b0_0,(b0_1,(b0_2,(b0_3,(b0_4,(b0_5,(b0_6,()))))))),((b1_0,(b1_1,(b1_2,(b1_3,(b1_4,(b1_5,(b1_6,()))))))),())))))

def s68_0 (d:sh68_0.data):Option (Out sh68_0.data shb68_0.data shr68_0.data):=(t68_0 d.1.1 d.1.2.1 d.1.2.2.1 d.2.1.1 d.2.1.2.1 d.2.1.2.2.1 d.2.1.2.2.2.1 d.2.1.2.2.2.2.1 d.2.1.2.2.2.2.2.1 d.2.1.2.2.2.2.2.2.1 d.2.2.1.1 d.2.2.1.2.1 d.2.2.1.2.2.1 d.2.2.1.2.2.2.1 d.2.2.1.2.2.2.2.1 d.2.2.1.2.2.2.2.2.1 d.2.2.1.2.2.2.2.2.2.1).val
def l68_0 (d:sh68_0.data):Option (shb68_0.data ⊕ shr68_0.data):=itr s68_0 rounds d
def b68_0 (d:sh68_0.data):shb68_0.data:=outB shb68_0.dflt (l68_0 d)
def lc68_0:LoopC:=lcB sh68_0 shb68_0 shr68_0 l68_0 b68_0

theorem w68_0 (x2:(List (Int×(Int×(Int×(Int×(Int×(Int×(Int×Unit))))))))) (x3:Int) (x4:Int) (b0_0:Int) (b0_1:Int) (b0_2:Int) (b0_3:Int) (b0_4:Int) (b0_5:Int) (b0_6:Int) (b1_0:Int) (b1_1:Int) (b1_2:Int) (b1_3:Int) (b1_4:Int) (b1_5:Int) (b1_6:Int):Walks (runBody (kf69 Go.Proofs.Try.prog).orc Go.Proofs.Try.prog 400 68 0 sh68_0 shb68_0 shr68_0 ((x2,x3,x4,()),(b0_0,b0_1,b0_2,b0_3,b0_4,b0_5,b0_6,()),(b1_0,b1_1,b1_2,b1_3,b1_4,b1_5,b1_6,()),())) (t68_0 x2 x3 x4 b0_0 b0_1 b0_2 b0_3 b0_4 b0_5 b0_6 b1_0 b1_1 b1_2 b1_3 b1_4 b1_5 b1_6) [([true,true,true],[2,4,6]),([ff],[2])] :=
  ⟨by kernel_rfl,by kernel_rfl,trivial⟩

theorem ok68_0_t (x2:(List (Int×(Int×(Int×(Int×(Int×(Int×(Int×Unit))))))))) (x3:Int) (x4:Int) (b0_0:Int) (b0_1:Int) (b0_2:Int) (b0_3:Int) (b0_4:Int) (b0_5:Int) (b0_6:Int) (b1_0:Int) (b1_1:Int) (b1_2:Int) (b1_3:Int) (b1_4:Int) (b1_5:Int) (b1_6:Int):TrOk (BodyRuns Go.Proofs.Try.prog (kf69 Go.Proofs.Try.prog).orc 68 0 sh68_0 shb68_0 shr68_0 ((x2,x3,x4,()),(b0_0,b0_1,b0_2,b0_3,b0_4,b0_5,b0_6,()),(b1_0,b1_1,b1_2,b1_3,b1_4,b1_5,b1_6,()),())) (t68_0 x2 x3 x4 b0_0 b0_1 b0_2 b0_3 b0_4 b0_5 b0_6 b1_0 b1_1 b1_2 b1_3 b1_4 b1_5 b1_6) :=
  Walks.ok (fun _ _ _=>BodyRuns.of) (w68_0 x2 x3 x4 b0_0 b0_1 b0_2 b0_3 b0_4 b0_5 b0_6 b1_0 b1_1 b1_2 b1_3 b1_4 b1_5 b1_6) (by kernel_rfl)

theorem ok68_0:LoopOk Go.Proofs.Try.prog 68 0 lc68_0:=loopOk_ofB (sh:=sh68_0) (shB:=shb68_0) (shR:=shr68_0) kf69_ok.base (T:=fun (d:sh68_0.data)=>t68_0 d.1.1 d.1.2.1 d.1.2.2.1 d.2.1.1 d.2.1.2.1 d.2.1.2.2.1 d.2.1.2.2.2.1 d.2.1.2.2.2.2.1 d.2.1.2.2.2.2.2.1 d.2.1.2.2.2.2.2.2.1 d.2.2.1.1 d.2.2.1.2.1 d.2.2.1.2.2.1 d.2.2.1.2.2.2.1 d.2.2.1.2.2.2.2.1 d.2.2.1.2.2.2.2.2.1 d.2.2.1.2.2.2.2.2.2.1) (by kernel_rfl) rfl (fun (d:sh68_0.data)=>ok68_0_t d.1.1 d.1.2.1 d.1.2.2.1 d.2.1.1 d.2.1.2.1 d.2.1.2.2.1 d.2.1.2.2.2.1 d.2.1.2.2.2.2.1 d.2.1.2.2.2.2.2.1 d.2.1.2.2.2.2.2.2.1 d.2.2.1.1 d.2.2.1.2.1 d.2.2.1.2.2.1 d.2.2.1.2.2.2.1 d.2.2.1.2.2.2.2.1 d.2.2.1.2.2.2.2.2.1 d.2.2.1.2.2.2.2.2.2.1) (fun _=>rfl)
def kl68_0 (P:Go.Program):Known:=(kf69 P).loop 68 0 lc68_0
theorem kl68_0_ok:KnownOk Go.Proofs.Try.prog (kl68_0 Go.Proofs.Try.prog):=kf69_ok.loop ok68_0

/-! (ductility/jack.system).rest -/

abbrev as68:List Ty:=[(.slice (.pair (.int .i64) (.pair (.int .i64) (.pair (.int .i64) (.pair (.int .i64) (.pair (.int .i64) (.pair (.int .i64) (.pair (.int .i64) .unit)))))))),(.pair (.int .i64) (.pair (.int .i64) (.pair (.int .i64) (.pair (.int .i64) (.pair (.int .i64) (.pair (.int .i64) (.pair (.int .i64) .unit)))))))]
abbrev rs68:List Ty:=[(.pair (.int .i64) (.pair (.int .i64) (.pair (.int .i64) (.pair (.int .i64) (.pair (.int .i64) (.pair (.int .i64) (.pair (.int .i64) .unit)))))))]

def t68 (x0:(List (Int×(Int×(Int×(Int×(Int×(Int×(Int×Unit))))))))) (x1:Int) (x1':Int) (x1'':Int) (x1''':Int) (x1'''':Int) (x1''''':Int) (x1'''''':Int):Tr (Tys.data rs68) :=
  Tr.test (isBrk (l68_0 ((x0,((↑(List.length x0):Int),((0:Int),()))),((x1,(x1',(x1'',(x1''',(x1'''',(x1''''',(x1'''''',()))))))),(((0:Int),((0:Int),((0:Int),((0:Int),((0:Int),((0:Int),((0:Int),()))))))),())))))
    (let r0:=b68_0 ((x0,((↑(List.length x0):Int),((0:Int),()))),((x1,(x1',(x1'',(x1''',(x1'''',(x1''''',(x1'''''',()))))))),(((0:Int),((0:Int),((0:Int),((0:Int),((0:Int),((0:Int),((0:Int),()))))))),())));
    Tr.fin (((r0.2.1.1,(r0.2.1.2.1,(r0.2.1.2.2.1,(r0.2.1.2.2.2.1,(r0.2.1.2.2.2.2.1,(r0.2.1.2.2.2.2.2.1,(r0.2.1.2.2.2.2.2.2.1,()))))))),())))
    (Tr.stop)

def f68 (d:Tys.data as68):Option (Tys.data rs68):=(t68 d.1 d.2.1.1 d.2.1.2.1 d.2.1.2.2.1 d.2.1.2.2.2.1 d.2.1.2.2.2.2.1 d.2.1.2.2.2.2.2.1 d.2.1.2.2.2.2.2.2.1).val
def g68 (d:Tys.data as68):Tys.data rs68:=(f68 d).getD (Tys.dflt rs68)
def p68:PureC:=pcOf as68 rs68 f68 g68

theorem w68 (x0:(List (Int×(Int×(Int×(Int×(Int×(Int×(Int×Unit))))))))) (x1:Int) (x1':Int) (x1'':Int) (x1''':Int) (x1'''':Int) (x1''''':Int) (x1'''''':Int):Walks (runPure (kl68_0 Go.Proofs.Try.prog).orc Go.Proofs.Try.prog 400 68 as68 rs68 (x0,(x1,x1',x1'',x1''',x1'''',x1''''',x1'''''',()),())) (t68 x0 x1 x1' x1'' x1''' x1'''' x1''''' x1'''''') [([tt],[1,2])] :=
  ⟨by kernel_rfl,trivial⟩

theorem ok68_t (x0:(List (Int×(Int×(Int×(Int×(Int×(Int×(Int×Unit))))))))) (x1:Int) (x1':Int) (x1'':Int) (x1''':Int) (x1'''':Int) (x1''''':Int) (x1'''''':Int):TrOk (PureRuns Go.Proofs.Try.prog (kl68_0 Go.Proofs.Try.prog).orc 68 as68 rs68 (x0,(x1,x1',x1'',x1''',x1'''',x1''''',x1'''''',()),())) (t68 x0 x1 x1' x1'' x1''' x1'''' x1''''' x1'''''') :=
  Walks.ok (fun _ _ _=>PureRuns.of) (w68 x0 x1 x1' x1'' x1''' x1'''' x1''''' x1'''''') (by kernel_rfl)

theorem ok68:PureOk Go.Proofs.Try.prog 68 p68:=pureOk_of kl68_0_ok.base (T:=fun (d:Tys.data as68)=>t68 d.1 d.2.1.1 d.2.1.2.1 d.2.1.2.2.1 d.2.1.2.2.2.1 d.2.1.2.2.2.2.1 d.2.1.2.2.2.2.2.1 d.2.1.2.2.2.2.2.2.1) (by kernel_rfl) (fun (d:Tys.data as68)=>ok68_t d.1 d.2.1.1 d.2.1.2.1 d.2.1.2.2.1 d.2.1.2.2.2.1 d.2.1.2.2.2.2.1 d.2.1.2.2.2.2.2.1 d.2.1.2.2.2.2.2.2.1)
def kf68 (P:Go.Program):Known:=(kl68_0 P).func 68 p68
theorem kf68_ok:KnownOk Go.Proofs.Try.prog (kf68 Go.Proofs.Try.prog):=kl68_0_ok.func ok68

/-! ductility/ductilitybase.Within -/

abbrev as18:List Ty:=[(.int .i64),(.int .i64),(.int .i64)]
abbrev rs18:List Ty:=[.bool]

def t18 (x0:Int) (x1:Int) (x2:Int):Tr (Tys.data rs18) :=
  Tr.test ((leF x1 x0:Bool))
    (Tr.fin ((leF x0 x2,())))
    (Tr.fin ((false,())))

def f18 (d:Tys.data as18):Option (Tys.data rs18):=(t18 d.1 d.2.1 d.2.2.1).val
def g18 (d:Tys.data as18):Tys.data rs18:=(f18 d).getD (Tys.dflt rs18)
def p18:PureC:=pcOf as18 rs18 f18 g18

theorem w18 (x0:Int) (x1:Int) (x2:Int):Walks (runPure (kf68 Go.Proofs.Try.prog).orc Go.Proofs.Try.prog 400 18 as18 rs18 (x0,x1,x2,())) (t18 x0 x1 x2) [([tt],[2,2,2,2]),([ff],[2,2,2,2])] :=
  ⟨by kernel_rfl,by kernel_rfl,trivial⟩

theorem ok18_t (x0:Int) (x1:Int) (x2:Int):TrOk (PureRuns Go.Proofs.Try.prog (kf68 Go.Proofs.Try.prog).orc 18 as18 rs18 (x0,x1,x2,())) (t18 x0 x1 x2) :=
  Walks.ok (fun _ _ _=>PureRuns.of) (w18 x0 x1 x2) (by kernel_rfl)

theorem ok18:PureOk Go.Proofs.Try.prog 18 p18:=pureOk_of kf68_ok.base (T:=fun (d:Tys.data as18)=>t18 d.1 d.2.1 d.2.2.1) (by kernel_rfl) (fun (d:Tys.data as18)=>ok18_t d.1 d.2.1 d.2.2.1)
def kf18 (P:Go.Program):Known:=(kf68 P).func 18 p18
theorem kf18_ok:KnownOk Go.Proofs.Try.prog (kf18 Go.Proofs.Try.prog):=kf68_ok.func ok18

/-! ductility/ductilityref01.isSized -/

abbrev as62:List Ty:=[(.pair (.int .i64) (.pair (.int .i64) (.pair (.int .i64) (.pair (.int .i64) (.pair (.int .i64) (.pair (.int .i64) .unit)))))),(.int .i64)]
abbrev rs62:List Ty:=[.bool]

def t62 (x0:Int) (x0':Int) (x0'':Int) (x0''':Int) (x0'''':Int) (x0''''':Int) (x1:Int):Tr (Tys.data rs62) :=
  Tr.test (Option.isSome (f18 (x0,((Go.IntKind.wrap Go.IntKind.i64 ((0:Int) - x1):Int),(x1,())))))
    (let r0:=g18 (x0,((Go.IntKind.wrap Go.IntKind.i64 ((0:Int) - x1):Int),(x1,())));
    Tr.test ((!r0.1:Bool))
      (Tr.fin (((false:Bool),())))
      (Tr.test (Option.isSome (f18 (x0',((Go.IntKind.wrap Go.IntKind.i64 ((0:Int) - x1):Int),(x1,())))))
        (let r1:=g18 (x0',((Go.IntKind.wrap Go.IntKind.i64 ((0:Int) - x1):Int),(x1,())));
        Tr.test ((!r1.1:Bool))
          (Tr.fin (((false:Bool),())))
          (Tr.test (Option.isSome (f18 (x0'',((Go.IntKind.wrap Go.IntKind.i64 ((0:Int) - x1):Int),(x1,())))))
            (let r2:=g18 (x0'',((Go.IntKind.wrap Go.IntKind.i64 ((0:Int) - x1):Int),(x1,())));
            Tr.test ((!r2.1:Bool))
              (Tr.fin (((false:Bool),())))
              (Tr.test (Option.isSome (f18 (x0''',((Go.IntKind.wrap Go.IntKind.i64 ((0:Int) - x1):Int),(x1,())))))
                (let r3:=g18 (x0''',((Go.IntKind.wrap Go.IntKind.i64 ((0:Int) - x1):Int),(x1,())));
                Tr.test ((!r3.1:Bool))
                  (Tr.fin (((false:Bool),())))
                  (Tr.test (Option.isSome (f18 (x0'''',((Go.IntKind.wrap Go.IntKind.i64 ((0:Int) - x1):Int),(x1,())))))
                    (let r4:=g18 (x0'''',((Go.IntKind.wrap Go.IntKind.i64 ((0:Int) - x1):Int),(x1,())));
                    Tr.test ((!r4.1:Bool))
                      (Tr.fin (((false:Bool),())))
                      (Tr.test (Option.isSome (f18 (x0''''',((Go.IntKind.wrap Go.IntKind.i64 ((0:Int) - x1):Int),(x1,())))))
                        (let r5:=g18 (x0''''',((Go.IntKind.wrap Go.IntKind.i64 ((0:Int) - x1):Int),(x1,())));
                        Tr.test ((!r5.1:Bool))
                          (Tr.fin (((false:Bool),())))
                          (Tr.fin (((true:Bool),()))))
                        (Tr.stop)))
                    (Tr.stop)))
                (Tr.stop)))
            (Tr.stop)))
        (Tr.stop)))
    (Tr.stop)

def f62 (d:Tys.data as62):Option (Tys.data rs62):=(t62 d.1.1 d.1.2.1 d.1.2.2.1 d.1.2.2.2.1 d.1.2.2.2.2.1 d.1.2.2.2.2.2.1 d.2.1).val
def g62 (d:Tys.data as62):Tys.data rs62:=(f62 d).getD (Tys.dflt rs62)
def p62:PureC:=pcOf as62 rs62 f62 g62

theorem w62 (x0:Int) (x0':Int) (x0'':Int) (x0''':Int) (x0'''':Int) (x0''''':Int) (x1:Int):Walks (runPure (kf18 Go.Proofs.Try.prog).orc Go.Proofs.Try.prog 400 62 as62 rs62 ((x0,x0',x0'',x0''',x0'''',x0''''',()),x1,())) (t62 x0 x0' x0'' x0''' x0'''' x0''''' x1) [([true,true],[2,4,1,1,1]),([true,false,true,true],[2,4,1,1,1,6,8,1,1,1]),([true,false,true,false,true,true],[2,4,1,1,1,6,8,1,1,1,10,12,1,1,1]),([true,false,true,false,true,false,true,true],[2,4,1,1,1,6,8,1,1,1,10,12,1,1,1,14,16,1,1,1]),([true,false,true,false,true,false,true,false,true,true],[2,4,1,1,1,6,8,1,1,1,10,12,1,1,1,14,16,1,1,1,18,20,1,1,1]),([true,false,true,false,true,false,true,false,true,false,true,true],[2,4,1,1,1,6,8,1,1,1,10,12,1,1,1,14,16,1,1,1,18,20,1,1,1,22,24,1,1,1]),([true,false,true,false,true,false,true,false,true,false,true,false],[0,2,4,1,1,1,6,8,1,1,1,10,12,1,1,1,14,16,1,1,1,18,20,1,1,1,22,24,1,1,1])] :=
  ⟨by kernel_rfl,by kernel_rfl,by kernel_rfl,by kernel_rfl,by kernel_rfl,by kernel_rfl,by kernel_rfl,trivial⟩

theorem ok62_t (x0:Int) (x0':Int) (x0'':Int) (x0''':Int) (x0'''':Int) (x0''''':Int) (x1:Int):TrOk (PureRuns Go.Proofs.Try.prog (kf18 Go.Proofs.Try.prog).orc 62 as62 rs62 ((x0,x0',x0'',x0''',x0'''',x0''''',()),x1,())) (t62 x0 x0' x0'' x0''' x0'''' x0''''' x1) :=
  Walks.ok (fun _ _ _=>PureRuns.of) (w62 x0 x0' x0'' x0''' x0'''' x0''''' x1) (by kernel_rfl)

theorem ok62:PureOk Go.Proofs.Try.prog 62 p62:=pureOk_of kf18_ok.base (T:=fun (d:Tys.data as62)=>t62 d.1.1 d.1.2.1 d.1.2.2.1 d.1.2.2.2.1 d.1.2.2.2.2.1 d.1.2.2.2.2.2.1 d.2.1) (by kernel_rfl) (fun (d:Tys.data as62)=>ok62_t d.1.1 d.1.2.1 d.1.2.2.1 d.1.2.2.2.1 d.1.2.2.2.2.1 d.1.2.2.2.2.2.1 d.2.1)
def kf62 (P:Go.Program):Known:=(kf18 P).func 62 p62
theorem kf62_ok:KnownOk Go.Proofs.Try.prog (kf62 Go.Proofs.Try.prog):=kf18_ok.func ok62

/-! ductility/ductilityref01.RangeErr -/

abbrev as39:List Ty:=[(.pair (.int .i64) (.pair (.int .i64) .unit))]
abbrev rs39:List Ty:=[(.int .i64)]

def t39 (x0:Int) (x0':Int):Tr (Tys.data rs39) :=
  Tr.test (Option.isSome (f18 (x0,((-1000:Int),((1000:Int),())))))
    (let r0:=g18 (x0,((-1000:Int),((1000:Int),())));
    Tr.test ((!r0.1:Bool))
      (Tr.fin (((2:Int),())))
      (Tr.test (Option.isSome (f18 (x0',((-1000:Int),((1000:Int),())))))
        (let r1:=g18 (x0',((-1000:Int),((1000:Int),())));
        Tr.test ((!r1.1:Bool))
          (Tr.fin (((2:Int),())))
          (Tr.test ((!leF x0 x0':Bool))
            (Tr.fin (((9:Int),())))
            (Tr.fin (((0:Int),())))))
        (Tr.stop)))
    (Tr.stop)

def f39 (d:Tys.data as39):Option (Tys.data rs39):=(t39 d.1.1 d.1.2.1).val
def g39 (d:Tys.data as39):Tys.data rs39:=(f39 d).getD (Tys.dflt rs39)
def p39:PureC:=pcOf as39 rs39 f39 g39

theorem w39 (x0:Int) (x0':Int):Walks (runPure (kf62 Go.Proofs.Try.prog).orc Go.Proofs.Try.prog 400 39 as39 rs39 ((x0,x0',()),())) (t39 x0 x0') [([true,true],[1,2,2,2,2,2,4]),([true,false,true,true],[2,6,6,4,6,6,6,8]),([true,false,true,false,true],[2,4,8,8,6,8,8,8,10]),([true,false,true,false,false],[2,4,8,8,6,8,8,8,10])] :=
  ⟨by kernel_rfl,by kernel_rfl,by kernel_rfl,by kernel_rfl,trivial⟩

theorem ok39_t (x0:Int) (x0':Int):TrOk (PureRuns Go.Proofs.Try.prog (kf62 Go.Proofs.Try.prog).orc 39 as39 rs39 ((x0,x0',()),())) (t39 x0 x0') :=
  Walks.ok (fun _ _ _=>PureRuns.of) (w39 x0 x0') (by kernel_rfl)

theorem ok39:PureOk Go.Proofs.Try.prog 39 p39:=pureOk_of kf62_ok.base (T:=fun (d:Tys.data as39)=>t39 d.1.1 d.1.2.1) (by kernel_rfl) (fun (d:Tys.data as39)=>ok39_t d.1.1 d.1.2.1)
def kf39 (P:Go.Program):Known:=(kf62 P).func 39 p39
theorem kf39_ok:KnownOk Go.Proofs.Try.prog (kf39 Go.Proofs.Try.prog):=kf62_ok.func ok39

/-! loop 0 of ductility/ductilityref01.CheckRig -/

abbrev sh38_0:Sh:={ n:=73,slots:=[1,4],pats:=[.ptr 0 13 0,.ty (.int .i64)],boxes:=[.row [.ty (.slice (.pair (.pair (.int .i64) (.pair (.int .i64) (.pair (.int .i64) (.pair (.int .i64) (.pair (.int .i64) (.pair (.int .i64) .unit)))))) (.pair (.pair (.int .i64) (.pair (.int .i64) .unit)) .unit))),.ty (.int .i64),.ty (.int .i64),.ty (.int .i64),.ty (.int .i64),.ty (.int .i64),.ty (.int .i64),.ty (.int .i64),.ty (.int .i64),.ty (.int .i64),.ty (.int .i64),.ty (.int .i64),.ty (.int .i64)]] }
abbrev shb38_0:Sh:={ n:=73,slots:=[1],pats:=[.ptr 0 13 0],boxes:=[.row [.ty (.slice (.pair (.pair (.int .i64) (.pair (.int .i64) (.pair (.int .i64) (.pair (.int .i64) (.pair (.int .i64) (.pair (.int .i64) .unit)))))) (.pair (.pair (.int .i64) (.pair (.int .i64) .unit)) .unit))),.ty (.int .i64),.ty (.int .i64),.ty (.int .i64),.ty (.int .i64),.ty (.int .i64),.ty (.int .i64),.ty (.int .i64),.ty (.int .i64),.ty (.int .i64),.ty (.int .i64),.ty (.int .i64),.ty (.int .i64)]] }
abbrev shr38_0:Sh:={ n:=73,slots:=[2,3],pats:=[.ty (.int .i64),.ty (.int .i64)],boxes:=[.row [.ty (.slice (.pair (.pair (.int .i64) (.pair (.int .i64) (.pair (.int .i64) (.pair (.int .i64) (.pair (.int .i64) (.pair (.int .i64) .unit)))))) (.pair (.pair (.int .i64) (.pair (.int .i64) .unit)) .unit))),.ty (.int .i64),.ty (.int .i64),.ty (.int .i64),.ty (.int .i64),.ty (.int .i64),.ty (.int .i64),.ty (.int .i64),.ty (.int .i64),.ty (.int .i64),.ty (.int .i64),.ty (.int .i64),.ty (.int .i64)]] }

def t38_0 (x1:Int) (b0_0:(List ((Int×(Int×(Int×(Int×(Int×(Int×Unit))))))×((Int×(Int×Unit))×Unit)))) (b0_1:Int) (b0_2:Int) (b0_3:Int) (b0_4:Int) (b0_5:Int) (b0_6:Int) (b0_7:Int) (b0_8:Int) (b0_9:Int) (b0_10:Int) (b0_11:Int) (b0_12:Int):Tr (Out sh38_0.data shb38_0.data shr38_0.data) :=
  Tr.test ((!leF (↑(List.length b0_0):Int) x1:Bool))
    (Tr.test (decide ((0:Int) ≤ x1) && decide (x1 < (↑(List.length b0_0):Int)))
      (Tr.test (Option.isSome (f62 ((((List.getD b0_0 (Int.toNat x1) (((0:Int),(0:Int),(0:Int),(0:Int),(0:Int),(0:Int),()),((0:Int),(0:Int),()),())).1.1:Int),(((List.getD b0_0 (Int.toNat x1) (((0:Int),(0:Int),(0:Int),(0:Int),(0:Int),(0:Int),()),((0:Int),(0:Int),()),())).1.2.1:Int),(((List.getD b0_0 (Int.toNat x1) (((0:Int),(0:Int),(0:Int),(0:Int),(0:Int),(0:Int),()),((0:Int),(0:Int),()),())).1.2.2.1:Int),(((List.getD b0_0 (Int.toNat x1) (((0:Int),(0:Int),(0:Int),(0:Int),(0:Int),(0:Int),()),((0:Int),(0:Int),()),())).1.2.2.2.1:Int),(((List.getD b0_0 (Int.toNat x1) (((0:Int),(0:Int),(0:Int),(0:Int),(0:Int),(0:Int),()),((0:Int),(0:Int),()),())).1.2.2.2.2.1:Int),(((List.getD b0_0 (Int.toNat x1) (((0:Int),(0:Int),(0:Int),(0:Int),(0:Int),(0:Int),()),((0:Int),(0:Int),()),())).1.2.2.2.2.2.1:Int),())))))),((2:Int),()))))
        (let r0:=g62 ((((List.getD b0_0 (Int.toNat x1) (((0:Int),(0:Int),(0:Int),(0:Int),(0:Int),(0:Int),()),((0:Int),(0:Int),()),())).1.1:Int),(((List.getD b0_0 (Int.toNat x1) (((0:Int),(0:Int),(0:Int),(0:Int),(0:Int),(0:Int),()),((0:Int),(0:Int),()),())).1.2.1:Int),(((List.getD b0_0 (Int.toNat x1) (((0:Int),(0:Int),(0:Int),(0:Int),(0:Int),(0:Int),()),((0:Int),(0:Int),()),())).1.2.2.1:Int),(((List.getD b0_0 (Int.toNat x1) (((0:Int),(0:Int),(0:Int),(0:Int),(0:Int),(0:Int),()),((0:Int),(0:Int),()),())).1.2.2.2.1:Int),(((List.getD b0_0 (Int.toNat x1) (((0:Int),(0:Int),(0:Int),(0:Int),(0:Int),(0:Int),()),((0:Int),(0:Int),()),())).1.2.2.2.2.1:Int),(((List.getD b0_0 (Int.toNat x1) (((0:Int),(0:Int),(0:Int),(0:Int),(0:Int),(0:Int),()),((0:Int),(0:Int),()),())).1.2.2.2.2.2.1:Int),())))))),((2:Int),()));
        Tr.test ((!r0.1:Bool))
          (Tr.fin (.ret ((x1,((2:Int),())),((b0_0,(b0_1,(b0_2,(b0_3,(b0_4,(b0_5,(b0_6,(b0_7,(b0_8,(b0_9,(b0_10,(b0_11,(b0_12,()))))))))))))),()))))
          (Tr.test (Option.isSome (f18 (((List.getD b0_0 (Int.toNat x1) (((0:Int),(0:Int),(0:Int),(0:Int),(0:Int),(0:Int),()),((0:Int),(0:Int),()),())).2.1.1:Int),((-200:Int),((200:Int),())))))
            (let r1:=g18 (((List.getD b0_0 (Int.toNat x1) (((0:Int),(0:Int),(0:Int),(0:Int),(0:Int),(0:Int),()),((0:Int),(0:Int),()),())).2.1.1:Int),((-200:Int),((200:Int),())));
            Tr.test ((!r1.1:Bool))
              (Tr.fin (.ret ((x1,((2:Int),())),((b0_0,(b0_1,(b0_2,(b0_3,(b0_4,(b0_5,(b0_6,(b0_7,(b0_8,(b0_9,(b0_10,(b0_11,(b0_12,()))))))))))))),()))))
              (Tr.test (Option.isSome (f18 (((List.getD b0_0 (Int.toNat x1) (((0:Int),(0:Int),(0:Int),(0:Int),(0:Int),(0:Int),()),((0:Int),(0:Int),()),())).2.1.2.1:Int),((-200:Int),((200:Int),())))))
                (let r2:=g18 (((List.getD b0_0 (Int.toNat x1) (((0:Int),(0:Int),(0:Int),(0:Int),(0:Int),(0:Int),()),((0:Int),(0:Int),()),())).2.1.2.1:Int),((-200:Int),((200:Int),())));
                Tr.test ((!r2.1:Bool))
                  (Tr.fin (.ret ((x1,((2:Int),())),((b0_0,(b0_1,(b0_2,(b0_3,(b0_4,(b0_5,(b0_6,(b0_7,(b0_8,(b0_9,(b0_10,(b0_11,(b0_12,()))))))))))))),()))))
                  (Tr.test ((!leF (List.getD b0_0 (Int.toNat x1) (((0:Int),(0:Int),(0:Int),(0:Int),(0:Int),(0:Int),()),((0:Int),(0:Int),()),())).2.1.1 (List.getD b0_0 (Int.toNat x1) (((0:Int),(0:Int),(0:Int),(0:Int),(0:Int),(0:Int),()),((0:Int),(0:Int),()),())).2.1.2.1:Bool))
                    (Tr.fin (.ret ((x1,((9:Int),())),((b0_0,(b0_1,(b0_2,(b0_3,(b0_4,(b0_5,(b0_6,(b0_7,(b0_8,(b0_9,(b0_10,(b0_11,(b0_12,()))))))))))))),()))))
                    (Tr.test (((List.getD b0_0 (Int.toNat x1) (((0:Int),(0:Int),(0:Int),(0:Int),(0:Int),(0:Int),()),((0:Int),(0:Int),()),())).1.1 == (0:Int) && ((List.getD b0_0 (Int.toNat x1) (((0:Int),(0:Int),(0:Int),(0:Int),(0:Int),(0:Int),()),((0:Int),(0:Int),()),())).1.2.1 == (0:Int) && ((List.getD b0_0 (Int.toNat x1) (((0:Int),(0:Int),(0:Int),(0:Int),(0:Int),(0:Int),()),((0:Int),(0:Int),()),())).1.2.2.1 == (0:Int) && ((List.getD b0_0 (Int.toNat x1) (((0:Int),(0:Int),(0:Int),(0:Int),(0:Int),(0:Int),()),((0:Int),(0:Int),()),())).1.2.2.2.1 == (0:Int) && ((List.getD b0_0 (Int.toNat x1) (((0:Int),(0:Int),(0:Int),(0:Int),(0:Int),(0:Int),()),((0:Int),(0:Int),()),())).1.2.2.2.2.1 == (0:Int) && ((List.getD b0_0 (Int.toNat x1) (((0:Int),(0:Int),(0:Int),(0:Int),(0:Int),(0:Int),()),((0:Int),(0:Int),()),())).1.2.2.2.2.2.1 == (0:Int) && true))))):Bool))
                      (Tr.fin (.ret ((x1,((11:Int),())),((b0_0,(b0_1,(b0_2,(b0_3,(b0_4,(b0_5,(b0_6,(b0_7,(b0_8,(b0_9,(b0_10,(b0_11,(b0_12,()))))))))))))),()))))
                      (Tr.fin (.again (((wrap64 (x1 + (1:Int)):Int),()),((b0_0,(b0_1,(b0_2,(b0_3,(b0_4,(b0_5,(b0_6,(b0_7,(b0_8,(b0_9,(b0_10,(b0_11,(b0_12,()))))))))))))),())))))))
                (Tr.stop)))
            (Tr.stop)))
        (Tr.stop))
      (Tr.stop))
    (Tr.fin (.brk ((),((b0_0,(b0_1,(b0_2,(b0_3,(b0_4,(b0_5,(b0_6,(b0_7,(b0_8,(b0_9,(b0_10,(b0_11,(b0_12,()))))))))))))),()))))

def s38_0 (d:sh38_0.data):Option (Out sh38_0.data shb38_0.data shr38_0.data):=(t38_0 d.1.1 d.2.1.1 d.2.1.2.1 d.2.1.2.2.1 d.2.1.2.2.2.1 d.2.1.2.2.2.2.1 d.2.1.2.2.2.2.2.1 d.2.1.2.2.2.2.2.2.1 d.2.1.2.2.2.2.2.2.2.1 d.2.1.2.2.2.2.2.2.2.2.1 d.2.1.2.2.2.2.2.2.2.2.2.1 d.2.1.2.2.2.2.2.2.2.2.2.2.1 d.2.1.2.2.2.2.2.2.2.2.2.2.2.1 d.2.1.2.2.2.2.2.2.2.2.2.2.2.2.1).val
def l38_0 (d:sh38_0.data):Option (shb38_0.data ⊕ shr38_0.data):=itr s38_0 rounds d
def b38_0 (d:sh38_0.data):shb38_0.data:=outB shb38_0.dflt (l38_0 d)
def r38_0 (d:sh38_0.data):shr38_0.data:=outR shr38_0.dflt (l38_0 d)
def lc38_0:LoopC:=lcOf sh38_0 shb38_0 shr38_0 l38_0 b38_0 r38_0

theorem w38_0 (x1:Int) (b0_0:(List ((Int×(Int×(Int×(Int×(Int×(Int×Unit))))))×((Int×(Int×Unit))×Unit)))) (b0_1:Int) (b0_2:Int) (b0_3:Int) (b0_4:Int) (b0_5:Int) (b0_6:Int) (b0_7:Int) (b0_8:Int) (b0_9:Int) (b0_10:Int) (b0_11:Int) (b0_12:Int):Walks (runBody (kf39 Go.Proofs.Try.prog).orc Go.Proofs.Try.prog 400 38 0 sh38_0 shb38_0 shr38_0 ((x1,()),(b0_0,b0_1,b0_2,b0_3,b0_4,b0_5,b0_6,b0_7,b0_8,b0_9,b0_10,b0_11,b0_12,()),())) (t38_0 x1 b0_0 b0_1 b0_2 b0_3 b0_4 b0_5 b0_6 b0_7 b0_8 b0_9 b0_10 b0_11 b0_12) [([true,true,true,true],[1,1,1,1,1,1,1,2,2,2,2,2,2,4,1,6,0,8,0]),([true,true,true,false,true,true],[1,2,2,2,2,2,2,6,6,4,6,1,6,6,6,8,1,10,0,12,0]),([true,true,true,false,true,false,true,true],[2,6,6,4,6,1,6,6,6,10,10,8,10,1,10,10,10,12,1,14,0,16,0]),([true,true,true,false,true,false,true,false,true],[2,1,1,4,8,8,6,8,1,8,8,8,12,12,10,12,1,12,12,12,14,1,16,0,18,0]),([true,true,true,false,true,false,true,false,false,true],[2,1,4,1,1,6,10,10,8,10,1,10,10,10,14,14,12,14,1,14,14,14,16,1,18,0,20,0]),([true,true,true,false,true,false,true,false,false,false],[2,1,4,1,1,6,10,10,8,10,1,10,10,10,14,14,12,14,1,14,14,14,16,1,18,0,20,0]),([ff],[2,0])] :=
  ⟨by kernel_rfl,by kernel_rfl,by kernel_rfl,by kernel_rfl,by kernel_rfl,by kernel_rfl,by kernel_rfl,trivial⟩

theorem ok38_0_t (x1:Int) (b0_0:(List ((Int×(Int×(Int×(Int×(Int×(Int×Unit))))))×((Int×(Int×Unit))×Unit)))) (b0_1:Int) (b0_2:Int) (b0_3:Int) (b0_4:Int) (b0_5:Int) (b0_6:Int) (b0_7:Int) (b0_8:Int) (b0_9:Int) (b0_10:Int) (b0_11:Int) (b0_12:Int):TrOk (BodyRuns Go.Proofs.Try.prog (kf39 Go.Proofs.Try.prog).orc 38 0 sh38_0 shb38_0 shr38_0 ((x1,()),(b0_0,b0_1,b0_2,b0_3,b0_4,b0_5,b0_6,b0_7,b0_8,b0_9,b0_10,b0_11,b0_12,()),())) (t38_0 x1 b0_0 b0_1 b0_2 b0_3 b0_4 b0_5 b0_6 b0_7 b0_8 b0_9 b0_10 b0_11 b0_12) :=
  Walks.ok (fun _ _ _=>BodyRuns.of) (w38_0 x1 b0_0 b0_1 b0_2 b0_3 b0_4 b0_5 b0_6 b0_7 b0_8 b0_9 b0_10 b0_11 b0_12) (by kernel_rfl)

theorem ok38_0:LoopOk Go.Proofs.Try.prog 38 0 lc38_0:=loopOk_of (sh:=sh38_0) (shB:=shb38_0) (shR:=shr38_0) kf39_ok.base (T:=fun (d:sh38_0.data)=>t38_0 d.1.1 d.2.1.1 d.2.1.2.1 d.2.1.2.2.1 d.2.1.2.2.2.1 d.2.1.2.2.2.2.1 d.2.1.2.2.2.2.2.1 d.2.1.2.2.2.2.2.2.1 d.2.1.2.2.2.2.2.2.2.1 d.2.1.2.2.2.2.2.2.2.2.1 d.2.1.2.2.2.2.2.2.2.2.2.1 d.2.1.2.2.2.2.2.2.2.2.2.2.1 d.2.1.2.2.2.2.2.2.2.2.2.2.2.1 d.2.1.2.2.2.2.2.2.2.2.2.2.2.2.1) (by kernel_rfl) rfl (fun (d:sh38_0.data)=>ok38_0_t d.1.1 d.2.1.1 d.2.1.2.1 d.2.1.2.2.1 d.2.1.2.2.2.1 d.2.1.2.2.2.2.1 d.2.1.2.2.2.2.2.1 d.2.1.2.2.2.2.2.2.1 d.2.1.2.2.2.2.2.2.2.1 d.2.1.2.2.2.2.2.2.2.2.1 d.2.1.2.2.2.2.2.2.2.2.2.1 d.2.1.2.2.2.2.2.2.2.2.2.2.1 d.2.1.2.2.2.2.2.2.2.2.2.2.2.1 d.2.1.2.2.2.2.2.2.2.2.2.2.2.2.1) (fun _=>rfl)
def kl38_0 (P:Go.Program):Known:=(kf39 P).loop 38 0 lc38_0
theorem kl38_0_ok:KnownOk Go.Proofs.Try.prog (kl38_0 Go.Proofs.Try.prog):=kf39_ok.loop ok38_0

/-! ductility/ductilityref01.CheckRig -/

abbrev as38:List Ty:=[(.pair (.slice (.pair (.pair (.int .i64) (.pair (.int .i64) (.pair (.int .i64) (.pair (.int .i64) (.pair (.int .i64) (.pair (.int .i64) .unit)))))) (.pair (.pair (.int .i64) (.pair (.int .i64) .unit)) .unit))) (.pair (.pair (.pair (.int .i64) (.pair (.int .i64) .unit)) (.pair (.pair (.int .i64) (.pair (.int .i64) .unit)) (.pair (.pair (.int .i64) (.pair (.int .i64) .unit)) (.pair (.pair (.int .i64) (.pair (.int .i64) .unit)) (.pair (.pair (.int .i64) (.pair (.int .i64) .unit)) (.pair (.pair (.int .i64) (.pair (.int .i64) .unit)) .unit)))))) .unit))]
abbrev rs38:List Ty:=[(.int .i64),(.int .i64)]

def t38 (x0:(List ((Int×(Int×(Int×(Int×(Int×(Int×Unit))))))×((Int×(Int×Unit))×Unit)))) (x0'__:Int) (x0'__':Int) (x0'_'_:Int) (x0'_'_':Int) (x0'_''_:Int) (x0'_''_':Int) (x0'_'''_:Int) (x0'_'''_':Int) (x0'_''''_:Int) (x0'_''''_':Int) (x0'_'''''_:Int) (x0'_'''''_':Int):Tr (Tys.data rs38) :=
  Tr.test ((eqF (↑(List.length x0):Int) (0:Int):Bool))
    (Tr.fin (((0:Int),((10:Int),()))))
    (Tr.test (!leF (↑(List.length x0):Int) (8:Int))
      (Tr.fin (((0:Int),((8:Int),()))))
      (Tr.test (Option.isSome (l38_0 (((0:Int),()),((x0,(x0'__,(x0'__',(x0'_'_,(x0'_'_',(x0'_''_,(x0'_''_',(x0'_'''_,(x0'_'''_',(x0'_''''_,(x0'_''''_',(x0'_'''''_,(x0'_'''''_',()))))))))))))),()))))
        (Tr.test (isRet (l38_0 (((0:Int),()),((x0,(x0'__,(x0'__',(x0'_'_,(x0'_'_',(x0'_''_,(x0'_''_',(x0'_'''_,(x0'_'''_',(x0'_''''_,(x0'_''''_',(x0'_'''''_,(x0'_'''''_',()))))))))))))),()))))
          (let r0:=r38_0 (((0:Int),()),((x0,(x0'__,(x0'__',(x0'_'_,(x0'_'_',(x0'_''_,(x0'_''_',(x0'_'''_,(x0'_'''_',(x0'_''''_,(x0'_''''_',(x0'_'''''_,(x0'_'''''_',()))))))))))))),()));
          Tr.fin ((r0.1.1,(r0.1.2.1,()))))
          (let r1:=b38_0 (((0:Int),()),((x0,(x0'__,(x0'__',(x0'_'_,(x0'_'_',(x0'_''_,(x0'_''_',(x0'_'''_,(x0'_'''_',(x0'_''''_,(x0'_''''_',(x0'_'''''_,(x0'_'''''_',()))))))))))))),()));
          Tr.test (Option.isSome (f39 ((r1.2.1.2.1,(r1.2.1.2.2.1,())),())))
            (let r2:=g39 ((r1.2.1.2.1,(r1.2.1.2.2.1,())),());
            Tr.test ((!eqF r2.1 0:Bool))
              (Tr.fin (((0:Int),(r2.1,()))))
              (Tr.test (Option.isSome (f39 ((r1.2.1.2.2.2.1,(r1.2.1.2.2.2.2.1,())),())))
                (let r3:=g39 ((r1.2.1.2.2.2.1,(r1.2.1.2.2.2.2.1,())),());
                Tr.test ((!eqF r3.1 0:Bool))
                  (Tr.fin (((1:Int),(r3.1,()))))
                  (Tr.test (Option.isSome (f39 ((r1.2.1.2.2.2.2.2.1,(r1.2.1.2.2.2.2.2.2.1,())),())))
                    (let r4:=g39 ((r1.2.1.2.2.2.2.2.1,(r1.2.1.2.2.2.2.2.2.1,())),());
                    Tr.test ((!eqF r4.1 0:Bool))
                      (Tr.fin (((2:Int),(r4.1,()))))
                      (Tr.test (Option.isSome (f39 ((r1.2.1.2.2.2.2.2.2.2.1,(r1.2.1.2.2.2.2.2.2.2.2.1,())),())))
                        (let r5:=g39 ((r1.2.1.2.2.2.2.2.2.2.1,(r1.2.1.2.2.2.2.2.2.2.2.1,())),());
                        Tr.test ((!eqF r5.1 0:Bool))
                          (Tr.fin (((3:Int),(r5.1,()))))
                          (Tr.test (Option.isSome (f39 ((r1.2.1.2.2.2.2.2.2.2.2.2.1,(r1.2.1.2.2.2.2.2.2.2.2.2.2.1,())),())))
                            (let r6:=g39 ((r1.2.1.2.2.2.2.2.2.2.2.2.1,(r1.2.1.2.2.2.2.2.2.2.2.2.2.1,())),());
                            Tr.test ((!eqF r6.1 0:Bool))
                              (Tr.fin (((4:Int),(r6.1,()))))
                              (Tr.test (Option.isSome (f39 ((r1.2.1.2.2.2.2.2.2.2.2.2.2.2.1,(r1.2.1.2.2.2.2.2.2.2.2.2.2.2.2.1,())),())))
                                (let r7:=g39 ((r1.2.1.2.2.2.2.2.2.2.2.2.2.2.1,(r1.2.1.2.2.2.2.2.2.2.2.2.2.2.2.1,())),());
                                Tr.test ((!eqF r7.1 0:Bool))
                                  (Tr.fin (((5:Int),(r7.1,()))))
                                  (Tr.fin (((0:Int),((0:Int),())))))
                                (Tr.stop)))
                            (Tr.stop)))
                        (Tr.stop)))
                    (Tr.stop)))
                (Tr.stop)))
            (Tr.stop)))
        (Tr.stop)))

def f38 (d:Tys.data as38):Option (Tys.data rs38):=(t38 d.1.1 d.1.2.1.1.1 d.1.2.1.1.2.1 d.1.2.1.2.1.1 d.1.2.1.2.1.2.1 d.1.2.1.2.2.1.1 d.1.2.1.2.2.1.2.1 d.1.2.1.2.2.2.1.1 d.1.2.1.2.2.2.1.2.1 d.1.2.1.2.2.2.2.1.1 d.1.2.1.2.2.2.2.1.2.1 d.1.2.1.2.2.2.2.2.1.1 d.1.2.1.2.2.2.2.2.1.2.1).val
def g38 (d:Tys.data as38):Tys.data rs38:=(f38 d).getD (Tys.dflt rs38)
def p38:PureC:=pcOf as38 rs38 f38 g38

theorem w38 (x0:(List ((Int×(Int×(Int×(Int×(Int×(Int×Unit))))))×((Int×(Int×Unit))×Unit)))) (x0'__:Int) (x0'__':Int) (x0'_'_:Int) (x0'_'_':Int) (x0'_''_:Int) (x0'_''_':Int) (x0'_'''_:Int) (x0'_'''_':Int) (x0'_''''_:Int) (x0'_''''_':Int) (x0'_'''''_:Int) (x0'_'''''_':Int):Walks (runPure (kl38_0 Go.Proofs.Try.prog).orc Go.Proofs.Try.prog 400 38 as38 rs38 ((x0,((x0'__,x0'__',()),(x0'_'_,x0'_'_',()),(x0'_''_,x0'_''_',()),(x0'_'''_,x0'_'''_',()),(x0'_''''_,x0'_''''_',()),(x0'_'''''_,x0'_'''''_',()),()),()),())) (t38 x0 x0'__ x0'__' x0'_'_ x0'_'_' x0'_''_ x0'_''_' x0'_'''_ x0'_'''_' x0'_''''_ x0'_''''_' x0'_'''''_ x0'_'''''_') [([tt],[2,0]),([false,true],[2,0,4,0]),([false,false,true,true],[2,4,6,0,8,0]),([false,false,true,false,true,true],[2,4,1,1,1,1,6,8,10,0,12,0]),([false,false,true,false,true,false,true,true],[2,4,1,1,1,1,6,8,1,1,1,1,10,12,14,0,16,0]),([false,false,true,false,true,false,true,false,true,true],[2,4,1,1,1,1,6,8,1,1,1,1,10,12,1,1,1,1,14,16,18,0,20,0]),([false,false,true,false,true,false,true,false,true,false,true,true],[2,4,1,1,1,1,6,8,1,1,1,1,10,12,1,1,1,1,14,16,1,1,1,1,18,20,22,0,24,0]),([false,false,true,false,true,false,true,false,true,false,true,false,true,true],[2,4,1,1,1,1,6,8,1,1,1,1,10,12,1,1,1,1,14,16,1,1,1,1,18,20,1,1,1,1,22,24,26,0,28,0]),([false,false,true,false,true,false,true,false,true,false,true,false,true,false,true,true],[2,4,1,1,1,1,6,8,1,1,1,1,10,12,1,1,1,1,14,16,1,1,1,1,18,20,1,1,1,1,22,24,1,1,1,1,26,28,30,0,32,0]),([false,false,true,false,true,false,true,false,true,false,true,false,true,false,true,false],[0,2,4,1,1,1,1,6,8,1,1,1,1,10,12,1,1,1,1,14,16,1,1,1,1,18,20,1,1,1,1,22,24,1,1,1,1,26,28,30,0,32,0])] :=
  ⟨by kernel_rfl,by kernel_rfl,by kernel_rfl,by kernel_rfl,by kernel_rfl,by kernel_rfl,by kernel_rfl,by kernel_rfl,by kernel_rfl,by kernel_rfl,trivial⟩

theorem ok38_t (x0:(List ((Int×(Int×(Int×(Int×(Int×(Int×Unit))))))×((Int×(Int×Unit))×Unit)))) (x0'__:Int) (x0'__':Int) (x0'_'_:Int) (x0'_'_':Int) (x0'_''_:Int) (x0'_''_':Int) (x0'_'''_:Int) (x0'_'''_':Int) (x0'_''''_:Int) (x0'_''''_':Int) (x0'_'''''_:Int) (x0'_'''''_':Int):TrOk (PureRuns Go.Proofs.Try.prog (kl38_0 Go.Proofs.Try.prog).orc 38 as38 rs38 ((x0,((x0'__,x0'__',()),(x0'_'_,x0'_'_',()),(x0'_''_,x0'_''_',()),(x0'_'''_,x0'_'''_',()),(x0'_''''_,x0'_''''_',()),(x0'_'''''_,x0'_'''''_',()),()),()),())) (t38 x0 x0'__ x0'__' x0'_'_ x0'_'_' x0'_''_ x0'_''_' x0'_'''_ x0'_'''_' x0'_''''_ x0'_''''_' x0'_'''''_ x0'_'''''_') :=
  Walks.ok (fun _ _ _=>PureRuns.of) (w38 x0 x0'__ x0'__' x0'_'_ x0'_'_' x0'_''_ x0'_''_' x0'_'''_ x0'_'''_' x0'_''''_ x0'_''''_' x0'_'''''_ x0'_'''''_') (by kernel_rfl)

theorem ok38:PureOk Go.Proofs.Try.prog 38 p38:=pureOk_of kl38_0_ok.base (T:=fun (d:Tys.data as38)=>t38 d.1.1 d.1.2.1.1.1 d.1.2.1.1.2.1 d.1.2.1.2.1.1 d.1.2.1.2.1.2.1 d.1.2.1.2.2.1.1 d.1.2.1.2.2.1.2.1 d.1.2.1.2.2.2.1.1 d.1.2.1.2.2.2.1.2.1 d.1.2.1.2.2.2.2.1.1 d.1.2.1.2.2.2.2.1.2.1 d.1.2.1.2.2.2.2.2.1.1 d.1.2.1.2.2.2.2.2.1.2.1) (by kernel_rfl) (fun (d:Tys.data as38)=>ok38_t d.1.1 d.1.2.1.1.1 d.1.2.1.1.2.1 d.1.2.1.2.1.1 d.1.2.1.2.1.2.1 d.1.2.1.2.2.1.1 d.1.2.1.2.2.1.2.1 d.1.2.1.2.2.2.1.1 d.1.2.1.2.2.2.1.2.1 d.1.2.1.2.2.2.2.1.1 d.1.2.1.2.2.2.2.1.2.1 d.1.2.1.2.2.2.2.2.1.1 d.1.2.1.2.2.2.2.2.1.2.1)
def kf38 (P:Go.Program):Known:=(kl38_0 P).func 38 p38
theorem kf38_ok:KnownOk Go.Proofs.Try.prog (kf38 Go.Proofs.Try.prog):=kl38_0_ok.func ok38

/-! ductility/ductilityref01.RigErr -/

abbrev as9:List Ty:=[(.pair (.slice (.pair (.pair (.int .i64) (.pair (.int .i64) (.pair (.int .i64) (.pair (.int .i64) (.pair (.int .i64) (.pair (.int .i64) .unit)))))) (.pair (.pair (.int .i64) (.pair (.int .i64) .unit)) .unit))) (.pair (.pair (.pair (.int .i64) (.pair (.int .i64) .unit)) (.pair (.pair (.int .i64) (.pair (.int .i64) .unit)) (.pair (.pair (.int .i64) (.pair (.int .i64) .unit)) (.pair (.pair (.int .i64) (.pair (.int .i64) .unit)) (.pair (.pair (.int .i64) (.pair (.int .i64) .unit)) (.pair (.pair (.int .i64) (.pair (.int .i64) .unit)) .unit)))))) .unit))]
abbrev rs9:List Ty:=[(.int .i64)]

def t9 (x0:(List ((Int×(Int×(Int×(Int×(Int×(Int×Unit))))))×((Int×(Int×Unit))×Unit)))) (x0'__:Int) (x0'__':Int) (x0'_'_:Int) (x0'_'_':Int) (x0'_''_:Int) (x0'_''_':Int) (x0'_'''_:Int) (x0'_'''_':Int) (x0'_''''_:Int) (x0'_''''_':Int) (x0'_'''''_:Int) (x0'_'''''_':Int):Tr (Tys.data rs9) :=
  Tr.test (Option.isSome (f38 ((x0,(((x0'__,(x0'__',())),((x0'_'_,(x0'_'_',())),((x0'_''_,(x0'_''_',())),((x0'_'''_,(x0'_'''_',())),((x0'_''''_,(x0'_''''_',())),((x0'_'''''_,(x0'_'''''_',())),())))))),())),())))
    (let r0:=g38 ((x0,(((x0'__,(x0'__',())),((x0'_'_,(x0'_'_',())),((x0'_''_,(x0'_''_',())),((x0'_'''_,(x0'_'''_',())),((x0'_''''_,(x0'_''''_',())),((x0'_'''''_,(x0'_'''''_',())),())))))),())),());
    Tr.fin ((r0.2.1,())))
    (Tr.stop)

def f9 (d:Tys.data as9):Option (Tys.data rs9):=(t9 d.1.1 d.1.2.1.1.1 d.1.2.1.1.2.1 d.1.2.1.2.1.1 d.1.2.1.2.1.2.1 d.1.2.1.2.2.1.1 d.1.2.1.2.2.1.2.1 d.1.2.1.2.2.2.1.1 d.1.2.1.2.2.2.1.2.1 d.1.2.1.2.2.2.2.1.1 d.1.2.1.2.2.2.2.1.2.1 d.1.2.1.2.2.2.2.2.1.1 d.1.2.1.2.2.2.2.2.1.2.1).val
def g9 (d:Tys.data as9):Tys.data rs9:=(f9 d).getD (Tys.dflt rs9)
def p9:PureC:=pcOf as9 rs9 f9 g9

theorem w9 (x0:(List ((Int×(Int×(Int×(Int×(Int×(Int×Unit))))))×((Int×(Int×Unit))×Unit)))) (x0'__:Int) (x0'__':Int) (x0'_'_:Int) (x0'_'_':Int) (x0'_''_:Int) (x0'_''_':Int) (x0'_'''_:Int) (x0'_'''_':Int) (x0'_''''_:Int) (x0'_''''_':Int) (x0'_'''''_:Int) (x0'_'''''_':Int):Walks (runPure (kf38 Go.Proofs.Try.prog).orc Go.Proofs.Try.prog 400 9 as9 rs9 ((x0,((x0'__,x0'__',()),(x0'_'_,x0'_'_',()),(x0'_''_,x0'_''_',()),(x0'_'''_,x0'_'''_',()),(x0'_''''_,x0'_''''_',()),(x0'_'''''_,x0'_'''''_',()),()),()),())) (t9 x0 x0'__ x0'__' x0'_'_ x0'_'_' x0'_''_ x0'_''_' x0'_'''_ x0'_'''_' x0'_''''_ x0'_''''_' x0'_'''''_ x0'_'''''_') [([tt],[2,0])] :=
  ⟨by kernel_rfl,trivial⟩

theorem ok9_t (x0:(List ((Int×(Int×(Int×(Int×(Int×(Int×Unit))))))×((Int×(Int×Unit))×Unit)))) (x0'__:Int) (x0'__':Int) (x0'_'_:Int) (x0'_'_':Int) (x0'_''_:Int) (x0'_''_':Int) (x0'_'''_:Int) (x0'_'''_':Int) (x0'_''''_:Int) (x0'_''''_':Int) (x0'_'''''_:Int) (x0'_'''''_':Int):TrOk (PureRuns Go.Proofs.Try.prog (kf38 Go.Proofs.Try.prog).orc 9 as9 rs9 ((x0,((x0'__,x0'__',()),(x0'_'_,x0'_'_',()),(x0'_''_,x0'_''_',()),(x0'_'''_,x0'_'''_',()),(x0'_''''_,x0'_''''_',()),(x0'_'''''_,x0'_'''''_',()),()),()),())) (t9 x0 x0'__ x0'__' x0'_'_ x0'_'_' x0'_''_ x0'_''_' x0'_'''_ x0'_'''_' x0'_''''_ x0'_''''_' x0'_'''''_ x0'_'''''_') :=
  Walks.ok (fun _ _ _=>PureRuns.of) (w9 x0 x0'__ x0'__' x0'_'_ x0'_'_' x0'_''_ x0'_''_' x0'_'''_ x0'_'''_' x0'_''''_ x0'_''''_' x0'_'''''_ x0'_'''''_') (by kernel_rfl)

theorem ok9:PureOk Go.Proofs.Try.prog 9 p9:=pureOk_of kf38_ok.base (T:=fun (d:Tys.data as9)=>t9 d.1.1 d.1.2.1.1.1 d.1.2.1.1.2.1 d.1.2.1.2.1.1 d.1.2.1.2.1.2.1 d.1.2.1.2.2.1.1 d.1.2.1.2.2.1.2.1 d.1.2.1.2.2.2.1.1 d.1.2.1.2.2.2.1.2.1 d.1.2.1.2.2.2.2.1.1 d.1.2.1.2.2.2.2.1.2.1 d.1.2.1.2.2.2.2.2.1.1 d.1.2.1.2.2.2.2.2.1.2.1) (by kernel_rfl) (fun (d:Tys.data as9)=>ok9_t d.1.1 d.1.2.1.1.1 d.1.2.1.1.2.1 d.1.2.1.2.1.1 d.1.2.1.2.1.2.1 d.1.2.1.2.2.1.1 d.1.2.1.2.2.1.2.1 d.1.2.1.2.2.2.1.1 d.1.2.1.2.2.2.1.2.1 d.1.2.1.2.2.2.2.1.1 d.1.2.1.2.2.2.2.1.2.1 d.1.2.1.2.2.2.2.2.1.1 d.1.2.1.2.2.2.2.2.1.2.1)
def kf9 (P:Go.Program):Known:=(kf38 P).func 9 p9
theorem kf9_ok:KnownOk Go.Proofs.Try.prog (kf9 Go.Proofs.Try.prog):=kf38_ok.func ok9

/-! loop 0 of ductility/jack.isBeyond -/

abbrev sh33_0:Sh:={ n:=23,slots:=[0,7,8,9],pats:=[.ty (.int .i64),.ty (.slice (.int .i64)),.ty (.int .i64),.ty (.int .i64)],boxes:=[] }
abbrev shb33_0:Sh:={ n:=23,slots:=[],pats:=[],boxes:=[] }
abbrev shr33_0:Sh:={ n:=23,slots:=[4],pats:=[.ty .bool],boxes:=[] }

def t33_0 (x0:Int) (x1:(List Int)) (x2:Int) (x3:Int):Tr (Out sh33_0.data shb33_0.data shr33_0.data) :=
  Tr.test ((!leF x2 x3:Bool))
    (Tr.test (decide ((0:Int) ≤ x3) && decide (x3 < (↑(List.length x1):Int)))
      (Tr.test ((!leF (Go.IntKind.wrap Go.IntKind.i64 ((0:Int) - x0)) (List.getD x1 (Int.toNat x3) (0:Int)):Bool))
        (Tr.fin (.ret (((true:Bool),()),())))
        (Tr.test ((!leF (List.getD x1 (Int.toNat x3) (0:Int)) x0:Bool))
          (Tr.fin (.ret (((true:Bool),()),())))
          (Tr.fin (.again ((x0,(x1,(x2,((wrap64 (x3 + (1:Int)):Int),())))),())))))
      (Tr.stop))
    (Tr.fin (.brk ((),())))

def s33_0 (d:sh33_0.data):Option (Out sh33_0.data shb33_0.data shr33_0.data):=(t33_0 d.1.1 d.1.2.1 d.1.2.2.1 d.1.2.2.2.1).val
def l33_0 (d:sh33_0.data):Option (shb33_0.data ⊕ shr33_0.data):=itr s33_0 rounds d
def b33_0 (d:sh33_0.data):shb33_0.data:=outB shb33_0.dflt (l33_0 d)
def r33_0 (d:sh33_0.data):shr33_0.data:=outR shr33_0.dflt (l33_0 d)
def lc33_0:LoopC:=lcOf sh33_0 shb33_0 shr33_0 l33_0 b33_0 r33_0

theorem w33_0 (x0:Int) (x1:(List Int)) (x2:Int) (x3:Int):Walks (runBody (kf9 Go.Proofs.Try.prog).orc Go.Proofs.Try.prog 400 33 0 sh33_0 shb33_0 shr33_0 ((x0,x1,x2,x3,()),())) (t33_0 x0 x1 x2 x3) [([true,true,true],[1,2,2,2,2,4,6]),([true,true,false,true],[2,4,4,4,4,6,8]),([true,true,false,false],[2,4,4,4,4,6,8]),([ff],[2])] :=
  ⟨by kernel_rfl,by kernel_rfl,by kernel_rfl,by kernel_rfl,trivial⟩

theorem ok33_0_t (x0:Int) (x1:(List Int)) (x2:Int) (x3:Int):TrOk (BodyRuns Go.Proofs.Try.prog (kf9 Go.Proofs.Try.prog).orc 33 0 sh33_0 shb33_0 shr33_0 ((x0,x1,x2,x3,()),())) (t33_0 x0 x1 x2 x3) :=
  Walks.ok (fun _ _ _=>BodyRuns.of) (w33_0 x0 x1 x2 x3) (by kernel_rfl)

theorem ok33_0:LoopOk Go.Proofs.Try.prog 33 0 lc33_0:=loopOk_of (sh:=sh33_0) (shB:=shb33_0) (shR:=shr33_0) kf9_ok.base (T:=fun (d:sh33_0.data)=>t33_0 d.1.1 d.1.2.1 d.1.2.2.1 d.1.2.2.2.1) (by kernel_rfl) rfl (fun (d:sh33_0.data)=>ok33_0_t d.1.1 d.1.2.1 d.1.2.2.1 d.1.2.2.2.1) (fun _=>rfl)
def kl33_0 (P:Go.Program):Known:=(kf9 P).loop 33 0 lc33_0
theorem kl33_0_ok:KnownOk Go.Proofs.Try.prog (kl33_0 Go.Proofs.Try.prog):=kf9_ok.loop ok33_0

/-! ductility/jack.isBeyond -/

abbrev as33:List Ty:=[(.int .i64),(.slice (.int .i64))]
abbrev rs33:List Ty:=[.bool]

def t33 (x0:Int) (x1:(List Int)):Tr (Tys.data rs33) :=
  Tr.test (Option.isSome (l33_0 ((x0,(x1,((↑(List.length x1):Int),((0:Int),())))),())))
    (Tr.test (isRet (l33_0 ((x0,(x1,((↑(List.length x1):Int),((0:Int),())))),())))
      (let r0:=r33_0 ((x0,(x1,((↑(List.length x1):Int),((0:Int),())))),());
      Tr.fin ((r0.1.1,())))
      (Tr.fin (((false:Bool),()))))
    (Tr.stop)

def f33 (d:Tys.data as33):Option (Tys.data rs33):=(t33 d.1 d.2.1).val
def g33 (d:Tys.data as33):Tys.data rs33:=(f33 d).getD (Tys.dflt rs33)
def p33:PureC:=pcOf as33 rs33 f33 g33

theorem w33 (x0:Int) (x1:(List Int)):Walks (runPure (kl33_0 Go.Proofs.Try.prog).orc Go.Proofs.Try.prog 400 33 as33 rs33 (x0,x1,())) (t33 x0 x1) [([true,true],[2,4]),([true,false],[2,4])] :=
  ⟨by kernel_rfl,by kernel_rfl,trivial⟩

theorem ok33_t (x0:Int) (x1:(List Int)):TrOk (PureRuns Go.Proofs.Try.prog (kl33_0 Go.Proofs.Try.prog).orc 33 as33 rs33 (x0,x1,())) (t33 x0 x1) :=
  Walks.ok (fun _ _ _=>PureRuns.of) (w33 x0 x1) (by kernel_rfl)

theorem ok33:PureOk Go.Proofs.Try.prog 33 p33:=pureOk_of kl33_0_ok.base (T:=fun (d:Tys.data as33)=>t33 d.1 d.2.1) (by kernel_rfl) (fun (d:Tys.data as33)=>ok33_t d.1 d.2.1)
def kf33 (P:Go.Program):Known:=(kl33_0 P).func 33 p33
theorem kf33_ok:KnownOk Go.Proofs.Try.prog (kf33 Go.Proofs.Try.prog):=kl33_0_ok.func ok33

/-! ductility/jack.when -/

abbrev as35:List Ty:=[.bool,(.int .i64)]
abbrev rs35:List Ty:=[(.int .i64)]

def t35 (x0:Bool) (x1:Int):Tr (Tys.data rs35) :=
  Tr.test (x0)
    (Tr.fin ((x1,())))
    (Tr.fin (((0:Int),())))

def f35 (d:Tys.data as35):Option (Tys.data rs35):=(t35 d.1 d.2.1).val
def g35 (d:Tys.data as35):Tys.data rs35:=(f35 d).getD (Tys.dflt rs35)
def p35:PureC:=pcOf as35 rs35 f35 g35

theorem w35 (x0:Bool) (x1:Int):Walks (runPure (kf33 Go.Proofs.Try.prog).orc Go.Proofs.Try.prog 400 35 as35 rs35 (x0,x1,())) (t35 x0 x1) [([tt],[2]),([ff],[2])] :=
  ⟨by kernel_rfl,by kernel_rfl,trivial⟩

theorem ok35_t (x0:Bool) (x1:Int):TrOk (PureRuns Go.Proofs.Try.prog (kf33 Go.Proofs.Try.prog).orc 35 as35 rs35 (x0,x1,())) (t35 x0 x1) :=
  Walks.ok (fun _ _ _=>PureRuns.of) (w35 x0 x1) (by kernel_rfl)

theorem ok35:PureOk Go.Proofs.Try.prog 35 p35:=pureOk_of kf33_ok.base (T:=fun (d:Tys.data as35)=>t35 d.1 d.2.1) (by kernel_rfl) (fun (d:Tys.data as35)=>ok35_t d.1 d.2.1)
def kf35 (P:Go.Program):Known:=(kf33 P).func 35 p35
theorem kf35_ok:KnownOk Go.Proofs.Try.prog (kf35 Go.Proofs.Try.prog):=kf33_ok.func ok35

/-! loop 0 of ductility/jack.firstOf -/

abbrev sh31_0:Sh:={ n:=15,slots:=[5,6,7],pats:=[.ty (.slice (.int .i64)),.ty (.int .i64),.ty (.int .i64)],boxes:=[] }
abbrev shb31_0:Sh:={ n:=15,slots:=[],pats:=[],boxes:=[] }
abbrev shr31_0:Sh:={ n:=15,slots:=[2],pats:=[.ty (.int .i64)],boxes:=[] }

def t31_0 (x0:(List Int)) (x1:Int) (x2:Int):Tr (Out sh31_0.data shb31_0.data shr31_0.data) :=
  Tr.test ((!leF x1 x2:Bool))
    (Tr.test (decide ((0:Int) ≤ x2) && decide (x2 < (↑(List.length x0):Int)))
      (Tr.test ((!eqF (List.getD x0 (Int.toNat x2) (0:Int)) (0:Int):Bool))
        (Tr.fin (.ret (((List.getD x0 (Int.toNat x2) (0:Int):Int),()),())))
        (Tr.fin (.again ((x0,(x1,((wrap64 (x2 + (1:Int)):Int),()))),()))))
      (Tr.stop))
    (Tr.fin (.brk ((),())))

def s31_0 (d:sh31_0.data):Option (Out sh31_0.data shb31_0.data shr31_0.data):=(t31_0 d.1.1 d.1.2.1 d.1.2.2.1).val
def l31_0 (d:sh31_0.data):Option (shb31_0.data ⊕ shr31_0.data):=itr s31_0 rounds d
def b31_0 (d:sh31_0.data):shb31_0.data:=outB shb31_0.dflt (l31_0 d)
def r31_0 (d:sh31_0.data):shr31_0.data:=outR shr31_0.dflt (l31_0 d)
def lc31_0:LoopC:=lcOf sh31_0 shb31_0 shr31_0 l31_0 b31_0 r31_0

theorem w31_0 (x0:(List Int)) (x1:Int) (x2:Int):Walks (runBody (kf35 Go.Proofs.Try.prog).orc Go.Proofs.Try.prog 400 31 0 sh31_0 shb31_0 shr31_0 ((x0,x1,x2,()),())) (t31_0 x0 x1 x2) [([true,true,true],[2,4,6]),([true,true,false],[2,4,6]),([ff],[2])] :=
  ⟨by kernel_rfl,by kernel_rfl,by kernel_rfl,trivial⟩

theorem ok31_0_t (x0:(List Int)) (x1:Int) (x2:Int):TrOk (BodyRuns Go.Proofs.Try.prog (kf35 Go.Proofs.Try.prog).orc 31 0 sh31_0 shb31_0 shr31_0 ((x0,x1,x2,()),())) (t31_0 x0 x1 x2) :=
  Walks.ok (fun _ _ _=>BodyRuns.of) (w31_0 x0 x1 x2) (by kernel_rfl)

theorem ok31_0:LoopOk Go.Proofs.Try.prog 31 0 lc31_0:=loopOk_of (sh:=sh31_0) (shB:=shb31_0) (shR:=shr31_0) kf35_ok.base (T:=fun (d:sh31_0.data)=>t31_0 d.1.1 d.1.2.1 d.1.2.2.1) (by kernel_rfl) rfl (fun (d:sh31_0.data)=>ok31_0_t d.1.1 d.1.2.1 d.1.2.2.1) (fun _=>rfl)
def kl31_0 (P:Go.Program):Known:=(kf35 P).loop 31 0 lc31_0
theorem kl31_0_ok:KnownOk Go.Proofs.Try.prog (kl31_0 Go.Proofs.Try.prog):=kf35_ok.loop ok31_0

/-! ductility/jack.firstOf -/

abbrev as31:List Ty:=[(.slice (.int .i64))]
abbrev rs31:List Ty:=[(.int .i64)]

def t31 (x0:(List Int)):Tr (Tys.data rs31) :=
  Tr.test (Option.isSome (l31_0 ((x0,((↑(List.length x0):Int),((0:Int),()))),())))
    (Tr.test (isRet (l31_0 ((x0,((↑(List.length x0):Int),((0:Int),()))),())))
      (let r0:=r31_0 ((x0,((↑(List.length x0):Int),((0:Int),()))),());
      Tr.fin ((r0.1.1,())))
      (Tr.fin (((0:Int),()))))
    (Tr.stop)

def f31 (d:Tys.data as31):Option (Tys.data rs31):=(t31 d.1).val
def g31 (d:Tys.data as31):Tys.data rs31:=(f31 d).getD (Tys.dflt rs31)
def p31:PureC:=pcOf as31 rs31 f31 g31

theorem w31 (x0:(List Int)):Walks (runPure (kl31_0 Go.Proofs.Try.prog).orc Go.Proofs.Try.prog 400 31 as31 rs31 (x0,())) (t31 x0) [([true,true],[2,4]),([true,false],[2,4])] :=
  ⟨by kernel_rfl,by kernel_rfl,trivial⟩

theorem ok31_t (x0:(List Int)):TrOk (PureRuns Go.Proofs.Try.prog (kl31_0 Go.Proofs.Try.prog).orc 31 as31 rs31 (x0,())) (t31 x0) :=
  Walks.ok (fun _ _ _=>PureRuns.of) (w31 x0) (by kernel_rfl)

theorem ok31:PureOk Go.Proofs.Try.prog 31 p31:=pureOk_of kl31_0_ok.base (T:=fun (d:Tys.data as31)=>t31 d.1) (by kernel_rfl) (fun (d:Tys.data as31)=>ok31_t d.1)
def kf31 (P:Go.Program):Known:=(kl31_0 P).func 31 p31
theorem kf31_ok:KnownOk Go.Proofs.Try.prog (kf31 Go.Proofs.Try.prog):=kl31_0_ok.func ok31

/-! ductility/jack.rangeError -/

abbrev as59:List Ty:=[(.int .i64),(.pair (.int .i64) (.pair (.int .i64) .unit))]
abbrev rs59:List Ty:=[(.int .i64)]

def t59 (x0:Int) (x1:Int) (x1':Int):Tr (Tys.data rs59) :=
  Tr.test (Option.isSome (f33 (x0,(([x1,x1']:List Int),()))))
    (let r0:=g33 (x0,(([x1,x1']:List Int),()));
    Tr.test (Option.isSome (f35 (r0.1,((2:Int),()))))
      (Tr.test (Option.isSome (f35 ((!leF x1 x1':Bool),((9:Int),()))))
        (let r1:=g35 (r0.1,((2:Int),()));
        let r2:=g35 ((!leF x1 x1':Bool),((9:Int),()));
        Tr.test (Option.isSome (f31 (([r1.1,r2.1]:List Int),())))
          (let r3:=g31 (([r1.1,r2.1]:List Int),());
          Tr.fin ((r3.1,())))
          (Tr.stop))
        (Tr.stop))
      (Tr.stop))
    (Tr.stop)

def f59 (d:Tys.data as59):Option (Tys.data rs59):=(t59 d.1 d.2.1.1 d.2.1.2.1).val
def g59 (d:Tys.data as59):Tys.data rs59:=(f59 d).getD (Tys.dflt rs59)
def p59:PureC:=pcOf as59 rs59 f59 g59

theorem w59 (x0:Int) (x1:Int) (x1':Int):Walks (runPure (kf31 Go.Proofs.Try.prog).orc Go.Proofs.Try.prog 400 59 as59 rs59 (x0,(x1,x1',()),())) (t59 x0 x1 x1') [([true,true,true,true],[2,1,4,6,8,1])] :=
  ⟨by kernel_rfl,trivial⟩

theorem ok59_t (x0:Int) (x1:Int) (x1':Int):TrOk (PureRuns Go.Proofs.Try.prog (kf31 Go.Proofs.Try.prog).orc 59 as59 rs59 (x0,(x1,x1',()),())) (t59 x0 x1 x1') :=
  Walks.ok (fun _ _ _=>PureRuns.of) (w59 x0 x1 x1') (by kernel_rfl)

theorem ok59:PureOk Go.Proofs.Try.prog 59 p59:=pureOk_of kf31_ok.base (T:=fun (d:Tys.data as59)=>t59 d.1 d.2.1.1 d.2.1.2.1) (by kernel_rfl) (fun (d:Tys.data as59)=>ok59_t d.1 d.2.1.1 d.2.1.2.1)
def kf59 (P:Go.Program):Known:=(kf31 P).func 59 p59
theorem kf59_ok:KnownOk Go.Proofs.Try.prog (kf59 Go.Proofs.Try.prog):=kf31_ok.func ok59

/-! ductility/jack.CheckRig$1 -/

abbrev as83:List Ty:=[(.int .i64),(.pair (.pair (.int .i64) (.pair (.int .i64) (.pair (.int .i64) (.pair (.int .i64) (.pair (.int .i64) (.pair (.int .i64) .unit)))))) (.pair (.pair (.int .i64) (.pair (.int .i64) .unit)) .unit))]
abbrev rs83:List Ty:=[(.int .i64)]

def t83 (x0:Int) (x1_:Int) (x1_':Int) (x1_'':Int) (x1_''':Int) (x1_'''':Int) (x1_''''':Int) (x1'_:Int) (x1'_':Int):Tr (Tys.data rs83) :=
  Tr.test (Option.isSome (f33 ((2:Int),((List.take (6:Nat) [x1_,x1_',x1_'',x1_''',x1_'''',x1_''''',x1'_,x1'_']:List Int),()))))
    (let r0:=g33 ((2:Int),((List.take (6:Nat) [x1_,x1_',x1_'',x1_''',x1_'''',x1_''''',x1'_,x1'_']:List Int),()));
    Tr.test (Option.isSome (f35 (r0.1,((2:Int),()))))
      (Tr.test (Option.isSome (f59 ((200:Int),((x1'_,(x1'_',())),()))))
        (Tr.test (Option.isSome (f35 ((x1_ == (0:Int) && (x1_' == (0:Int) && (x1_'' == (0:Int) && (x1_''' == (0:Int) && (x1_'''' == (0:Int) && (x1_''''' == (0:Int) && true))))):Bool),((11:Int),()))))
          (let r1:=g35 (r0.1,((2:Int),()));
          let r2:=g59 ((200:Int),((x1'_,(x1'_',())),()));
          let r3:=g35 ((x1_ == (0:Int) && (x1_' == (0:Int) && (x1_'' == (0:Int) && (x1_''' == (0:Int) && (x1_'''' == (0:Int) && (x1_''''' == (0:Int) && true))))):Bool),((11:Int),()));
          Tr.test (Option.isSome (f31 (([r1.1,r2.1,r3.1]:List Int),())))
            (let r4:=g31 (([r1.1,r2.1,r3.1]:List Int),());
            Tr.fin ((r4.1,())))
            (Tr.stop))
          (Tr.stop))
        (Tr.stop))
      (Tr.stop))
    (Tr.stop)

def f83 (d:Tys.data as83):Option (Tys.data rs83):=(t83 d.1 d.2.1.1.1 d.2.1.1.2.1 d.2.1.1.2.2.1 d.2.1.1.2.2.2.1 d.2.1.1.2.2.2.2.1 d.2.1.1.2.2.2.2.2.1 d.2.1.2.1.1 d.2.1.2.1.2.1).val
def g83 (d:Tys.data as83):Tys.data rs83:=(f83 d).getD (Tys.dflt rs83)
def p83:PureC:=pcOf as83 rs83 f83 g83

theorem w83 (x0:Int) (x1_:Int) (x1_':Int) (x1_'':Int) (x1_''':Int) (x1_'''':Int) (x1_''''':Int) (x1'_:Int) (x1'_':Int):Walks (runPure (kf59 Go.Proofs.Try.prog).orc Go.Proofs.Try.prog 400 83 as83 rs83 (x0,((x1_,x1_',x1_'',x1_''',x1_'''',x1_''''',()),(x1'_,x1'_',()),()),())) (t83 x0 x1_ x1_' x1_'' x1_''' x1_'''' x1_''''' x1'_ x1'_') [([true,true,true,true,true],[2,1,4,1,6,1,8,10,0,1])] :=
  ⟨by kernel_rfl,trivial⟩

theorem ok83_t (x0:Int) (x1_:Int) (x1_':Int) (x1_'':Int) (x1_''':Int) (x1_'''':Int) (x1_''''':Int) (x1'_:Int) (x1'_':Int):TrOk (PureRuns Go.Proofs.Try.prog (kf59 Go.Proofs.Try.prog).orc 83 as83 rs83 (x0,((x1_,x1_',x1_'',x1_''',x1_'''',x1_''''',()),(x1'_,x1'_',()),()),())) (t83 x0 x1_ x1_' x1_'' x1_''' x1_'''' x1_''''' x1'_ x1'_') :=
  Walks.ok (fun _ _ _=>PureRuns.of) (w83 x0 x1_ x1_' x1_'' x1_''' x1_'''' x1_''''' x1'_ x1'_') (by kernel_rfl)

theorem ok83:PureOk Go.Proofs.Try.prog 83 p83:=pureOk_of kf59_ok.base (T:=fun (d:Tys.data as83)=>t83 d.1 d.2.1.1.1 d.2.1.1.2.1 d.2.1.1.2.2.1 d.2.1.1.2.2.2.1 d.2.1.1.2.2.2.2.1 d.2.1.1.2.2.2.2.2.1 d.2.1.2.1.1 d.2.1.2.1.2.1) (by kernel_rfl) (fun (d:Tys.data as83)=>ok83_t d.1 d.2.1.1.1 d.2.1.1.2.1 d.2.1.1.2.2.1 d.2.1.1.2.2.2.1 d.2.1.1.2.2.2.2.1 d.2.1.1.2.2.2.2.2.1 d.2.1.2.1.1 d.2.1.2.1.2.1)
def kf83 (P:Go.Program):Known:=(kf59 P).func 83 p83
theorem kf83_ok:KnownOk Go.Proofs.Try.prog (kf83 Go.Proofs.Try.prog):=kf59_ok.func ok83

/-! ductility/jack.countError -/

abbrev as74:List Ty:=[(.int .i64),(.int .i64)]
abbrev rs74:List Ty:=[(.int .i64)]

def t74 (x0:Int) (x1:Int):Tr (Tys.data rs74) :=
  Tr.test (Option.isSome (f35 ((eqF x0 0:Bool),((10:Int),()))))
    (Tr.test (Option.isSome (f35 (!leF x0 x1,((8:Int),()))))
      (let r0:=g35 ((eqF x0 0:Bool),((10:Int),()));
      let r1:=g35 ((!leF x0 x1:Bool),((8:Int),()));
      Tr.test (Option.isSome (f31 (([r0.1,r1.1]:List Int),())))
        (let r2:=g31 (([r0.1,r1.1]:List Int),());
        Tr.fin ((r2.1,())))
        (Tr.stop))
      (Tr.stop))
    (Tr.stop)

def f74 (d:Tys.data as74):Option (Tys.data rs74):=(t74 d.1 d.2.1).val
def g74 (d:Tys.data as74):Tys.data rs74:=(f74 d).getD (Tys.dflt rs74)
def p74:PureC:=pcOf as74 rs74 f74 g74

theorem w74 (x0:Int) (x1:Int):Walks (runPure (kf83 Go.Proofs.Try.prog).orc Go.Proofs.Try.prog 400 74 as74 rs74 (x0,x1,())) (t74 x0 x1) [([true,true,true],[2,1,4,6])] :=
  ⟨by kernel_rfl,trivial⟩

theorem ok74_t (x0:Int) (x1:Int):TrOk (PureRuns Go.Proofs.Try.prog (kf83 Go.Proofs.Try.prog).orc 74 as74 rs74 (x0,x1,())) (t74 x0 x1) :=
  Walks.ok (fun _ _ _=>PureRuns.of) (w74 x0 x1) (by kernel_rfl)

theorem ok74:PureOk Go.Proofs.Try.prog 74 p74:=pureOk_of kf83_ok.base (T:=fun (d:Tys.data as74)=>t74 d.1 d.2.1) (by kernel_rfl) (fun (d:Tys.data as74)=>ok74_t d.1 d.2.1)
def kf74 (P:Go.Program):Known:=(kf83 P).func 74 p74
theorem kf74_ok:KnownOk Go.Proofs.Try.prog (kf74 Go.Proofs.Try.prog):=kf83_ok.func ok74

/-! ductility/jack.checkBox$1 -/

abbrev as58:List Ty:=[(.int .i64),(.pair (.int .i64) (.pair (.int .i64) .unit))]
abbrev rs58:List Ty:=[(.int .i64)]

def t58 (x0:Int) (x1:Int) (x1':Int):Tr (Tys.data rs58) :=
  Tr.test (Option.isSome (f59 ((1000:Int),((x1,(x1',())),()))))
    (let r0:=g59 ((1000:Int),((x1,(x1',())),()));
    Tr.fin ((r0.1,())))
    (Tr.stop)

def f58 (d:Tys.data as58):Option (Tys.data rs58):=(t58 d.1 d.2.1.1 d.2.1.2.1).val
def g58 (d:Tys.data as58):Tys.data rs58:=(f58 d).getD (Tys.dflt rs58)
def p58:PureC:=pcOf as58 rs58 f58 g58

theorem w58 (x0:Int) (x1:Int) (x1':Int):Walks (runPure (kf74 Go.Proofs.Try.prog).orc Go.Proofs.Try.prog 400 58 as58 rs58 (x0,(x1,x1',()),())) (t58 x0 x1 x1') [([tt],[2])] :=
  ⟨by kernel_rfl,trivial⟩

theorem ok58_t (x0:Int) (x1:Int) (x1':Int):TrOk (PureRuns Go.Proofs.Try.prog (kf74 Go.Proofs.Try.prog).orc 58 as58 rs58 (x0,(x1,x1',()),())) (t58 x0 x1 x1') :=
  Walks.ok (fun _ _ _=>PureRuns.of) (w58 x0 x1 x1') (by kernel_rfl)

theorem ok58:PureOk Go.Proofs.Try.prog 58 p58:=pureOk_of kf74_ok.base (T:=fun (d:Tys.data as58)=>t58 d.1 d.2.1.1 d.2.1.2.1) (by kernel_rfl) (fun (d:Tys.data as58)=>ok58_t d.1 d.2.1.1 d.2.1.2.1)
def kf58 (P:Go.Program):Known:=(kf74 P).func 58 p58
theorem kf58_ok:KnownOk Go.Proofs.Try.prog (kf58 Go.Proofs.Try.prog):=kf74_ok.func ok58

/-! ductility/jack.checkBox -/

abbrev as30:List Ty:=[(.pair (.pair (.int .i64) (.pair (.int .i64) .unit)) (.pair (.pair (.int .i64) (.pair (.int .i64) .unit)) (.pair (.pair (.int .i64) (.pair (.int .i64) .unit)) (.pair (.pair (.int .i64) (.pair (.int .i64) .unit)) (.pair (.pair (.int .i64) (.pair (.int .i64) .unit)) (.pair (.pair (.int .i64) (.pair (.int .i64) .unit)) .unit))))))]
abbrev rs30:List Ty:=[(.int .i64),(.int .i64)]

def t30 (x0_:Int) (x0_':Int) (x0'_:Int) (x0'_':Int) (x0''_:Int) (x0''_':Int) (x0'''_:Int) (x0'''_':Int) (x0''''_:Int) (x0''''_':Int) (x0'''''_:Int) (x0'''''_':Int):Tr (Tys.data rs30) :=
  Tr.test (Option.isSome (f58 ((0:Int),((x0_,(x0_',())),()))))
    (let r0:=g58 ((0:Int),((x0_,(x0_',())),()));
    Tr.test ((!eqF r0.1 0:Bool))
      (Tr.fin (((0:Int),(r0.1,()))))
      (Tr.test (Option.isSome (f58 ((1:Int),((x0'_,(x0'_',())),()))))
        (let r1:=g58 ((1:Int),((x0'_,(x0'_',())),()));
        Tr.test ((!eqF r1.1 0:Bool))
          (Tr.fin (((1:Int),(r1.1,()))))
          (Tr.test (Option.isSome (f58 ((2:Int),((x0''_,(x0''_',())),()))))
            (let r2:=g58 ((2:Int),((x0''_,(x0''_',())),()));
            Tr.test ((!eqF r2.1 0:Bool))
              (Tr.fin (((2:Int),(r2.1,()))))
              (Tr.test (Option.isSome (f58 ((3:Int),((x0'''_,(x0'''_',())),()))))
                (let r3:=g58 ((3:Int),((x0'''_,(x0'''_',())),()));
                Tr.test ((!eqF r3.1 0:Bool))
                  (Tr.fin (((3:Int),(r3.1,()))))
                  (Tr.test (Option.isSome (f58 ((4:Int),((x0''''_,(x0''''_',())),()))))
                    (let r4:=g58 ((4:Int),((x0''''_,(x0''''_',())),()));
                    Tr.test ((!eqF r4.1 0:Bool))
                      (Tr.fin (((4:Int),(r4.1,()))))
                      (Tr.test (Option.isSome (f58 ((5:Int),((x0'''''_,(x0'''''_',())),()))))
                        (let r5:=g58 ((5:Int),((x0'''''_,(x0'''''_',())),()));
                        Tr.test ((!eqF r5.1 0:Bool))
                          (Tr.fin (((5:Int),(r5.1,()))))
                          (Tr.fin (((0:Int),((0:Int),())))))
                        (Tr.stop)))
                    (Tr.stop)))
                (Tr.stop)))
            (Tr.stop)))
        (Tr.stop)))
    (Tr.stop)

def f30 (d:Tys.data as30):Option (Tys.data rs30):=(t30 d.1.1.1 d.1.1.2.1 d.1.2.1.1 d.1.2.1.2.1 d.1.2.2.1.1 d.1.2.2.1.2.1 d.1.2.2.2.1.1 d.1.2.2.2.1.2.1 d.1.2.2.2.2.1.1 d.1.2.2.2.2.1.2.1 d.1.2.2.2.2.2.1.1 d.1.2.2.2.2.2.1.2.1).val
def g30 (d:Tys.data as30):Tys.data rs30:=(f30 d).getD (Tys.dflt rs30)
def p30:PureC:=pcOf as30 rs30 f30 g30

theorem w30 (x0_:Int) (x0_':Int) (x0'_:Int) (x0'_':Int) (x0''_:Int) (x0''_':Int) (x0'''_:Int) (x0'''_':Int) (x0''''_:Int) (x0''''_':Int) (x0'''''_:Int) (x0'''''_':Int):Walks (runPure (kf58 Go.Proofs.Try.prog).orc Go.Proofs.Try.prog 400 30 as30 rs30 (((x0_,x0_',()),(x0'_,x0'_',()),(x0''_,x0''_',()),(x0'''_,x0'''_',()),(x0''''_,x0''''_',()),(x0'''''_,x0'''''_',()),()),())) (t30 x0_ x0_' x0'_ x0'_' x0''_ x0''_' x0'''_ x0'''_' x0''''_ x0''''_' x0'''''_ x0'''''_') [([true,true],[2,4,1,1,1]),([true,false,true,true],[2,4,1,1,1,6,8,1,1,1]),([true,false,true,false,true,true],[2,4,1,1,1,6,8,1,1,1,10,12,1,1,1]),([true,false,true,false,true,false,true,true],[2,4,1,1,1,6,8,1,1,1,10,12,1,1,1,14,16,1,1,1]),([true,false,true,false,true,false,true,false,true,true],[2,4,1,1,1,6,8,1,1,1,10,12,1,1,1,14,16,1,1,1,18,20,1,1,1]),([true,false,true,false,true,false,true,false,true,false,true,true],[2,4,1,1,1,6,8,1,1,1,10,12,1,1,1,14,16,1,1,1,18,20,1,1,1,22,24,1,1,1]),([true,false,true,false,true,false,true,false,true,false,true,false],[0,2,4,1,1,1,6,8,1,1,1,10,12,1,1,1,14,16,1,1,1,18,20,1,1,1,22,24,1,1,1])] :=
  ⟨by kernel_rfl,by kernel_rfl,by kernel_rfl,by kernel_rfl,by kernel_rfl,by kernel_rfl,by kernel_rfl,trivial⟩

theorem ok30_t (x0_:Int) (x0_':Int) (x0'_:Int) (x0'_':Int) (x0''_:Int) (x0''_':Int) (x0'''_:Int) (x0'''_':Int) (x0''''_:Int) (x0''''_':Int) (x0'''''_:Int) (x0'''''_':Int):TrOk (PureRuns Go.Proofs.Try.prog (kf58 Go.Proofs.Try.prog).orc 30 as30 rs30 (((x0_,x0_',()),(x0'_,x0'_',()),(x0''_,x0''_',()),(x0'''_,x0'''_',()),(x0''''_,x0''''_',()),(x0'''''_,x0'''''_',()),()),())) (t30 x0_ x0_' x0'_ x0'_' x0''_ x0''_' x0'''_ x0'''_' x0''''_ x0''''_' x0'''''_ x0'''''_') :=
  Walks.ok (fun _ _ _=>PureRuns.of) (w30 x0_ x0_' x0'_ x0'_' x0''_ x0''_' x0'''_ x0'''_' x0''''_ x0''''_' x0'''''_ x0'''''_') (by kernel_rfl)

theorem ok30:PureOk Go.Proofs.Try.prog 30 p30:=pureOk_of kf58_ok.base (T:=fun (d:Tys.data as30)=>t30 d.1.1.1 d.1.1.2.1 d.1.2.1.1 d.1.2.1.2.1 d.1.2.2.1.1 d.1.2.2.1.2.1 d.1.2.2.2.1.1 d.1.2.2.2.1.2.1 d.1.2.2.2.2.1.1 d.1.2.2.2.2.1.2.1 d.1.2.2.2.2.2.1.1 d.1.2.2.2.2.2.1.2.1) (by kernel_rfl) (fun (d:Tys.data as30)=>ok30_t d.1.1.1 d.1.1.2.1 d.1.2.1.1 d.1.2.1.2.1 d.1.2.2.1.1 d.1.2.2.1.2.1 d.1.2.2.2.1.1 d.1.2.2.2.1.2.1 d.1.2.2.2.2.1.1 d.1.2.2.2.2.1.2.1 d.1.2.2.2.2.2.1.1 d.1.2.2.2.2.2.1.2.1)
def kf30 (P:Go.Program):Known:=(kf58 P).func 30 p30
theorem kf30_ok:KnownOk Go.Proofs.Try.prog (kf30 Go.Proofs.Try.prog):=kf58_ok.func ok30

/-! loop 0 of ductility/jack.checkItems[ductility/api.JackJack] -/

abbrev sh82_0:Sh:={ n:=25,slots:=[1,9,10,11],pats:=[.fn 83 [],.ty (.slice (.pair (.pair (.int .i64) (.pair (.int .i64) (.pair (.int .i64) (.pair (.int .i64) (.pair (.int .i64) (.pair (.int .i64) .unit)))))) (.pair (.pair (.int .i64) (.pair (.int .i64) .unit)) .unit))),.ty (.int .i64),.ty (.int .i64)],boxes:=[] }
abbrev shb82_0:Sh:={ n:=25,slots:=[],pats:=[],boxes:=[] }
abbrev shr82_0:Sh:={ n:=25,slots:=[4,5],pats:=[.ty (.int .i64),.ty (.int .i64)],boxes:=[] }

def t82_0 (x1:(List ((Int×(Int×(Int×(Int×(Int×(Int×Unit))))))×((Int×(Int×Unit))×Unit)))) (x2:Int) (x3:Int):Tr (Out sh82_0.data shb82_0.data shr82_0.data) :=
  Tr.test ((!leF x2 x3:Bool))
    (Tr.test (decide ((0:Int) ≤ x3) && decide (x3 < (↑(List.length x1):Int)))
      (Tr.test (Option.isSome (f83 (x3,(((((List.getD x1 (Int.toNat x3) (((0:Int),(0:Int),(0:Int),(0:Int),(0:Int),(0:Int),()),((0:Int),(0:Int),()),())).1.1:Int),(((List.getD x1 (Int.toNat x3) (((0:Int),(0:Int),(0:Int),(0:Int),(0:Int),(0:Int),()),((0:Int),(0:Int),()),())).1.2.1:Int),(((List.getD x1 (Int.toNat x3) (((0:Int),(0:Int),(0:Int),(0:Int),(0:Int),(0:Int),()),((0:Int),(0:Int),()),())).1.2.2.1:Int),(((List.getD x1 (Int.toNat x3) (((0:Int),(0:Int),(0:Int),(0:Int),(0:Int),(0:Int),()),((0:Int),(0:Int),()),())).1.2.2.2.1:Int),(((List.getD x1 (Int.toNat x3) (((0:Int),(0:Int),(0:Int),(0:Int),(0:Int),(0:Int),()),((0:Int),(0:Int),()),())).1.2.2.2.2.1:Int),(((List.getD x1 (Int.toNat x3) (((0:Int),(0:Int),(0:Int),(0:Int),(0:Int),(0:Int),()),((0:Int),(0:Int),()),())).1.2.2.2.2.2.1:Int),())))))),((((List.getD x1 (Int.toNat x3) (((0:Int),(0:Int),(0:Int),(0:Int),(0:Int),(0:Int),()),((0:Int),(0:Int),()),())).2.1.1:Int),(((List.getD x1 (Int.toNat x3) (((0:Int),(0:Int),(0:Int),(0:Int),(0:Int),(0:Int),()),((0:Int),(0:Int),()),())).2.1.2.1:Int),())),())),()))))
        (let r0:=g83 (x3,(((((List.getD x1 (Int.toNat x3) (((0:Int),(0:Int),(0:Int),(0:Int),(0:Int),(0:Int),()),((0:Int),(0:Int),()),())).1.1:Int),(((List.getD x1 (Int.toNat x3) (((0:Int),(0:Int),(0:Int),(0:Int),(0:Int),(0:Int),()),((0:Int),(0:Int),()),())).1.2.1:Int),(((List.getD x1 (Int.toNat x3) (((0:Int),(0:Int),(0:Int),(0:Int),(0:Int),(0:Int),()),((0:Int),(0:Int),()),())).1.2.2.1:Int),(((List.getD x1 (Int.toNat x3) (((0:Int),(0:Int),(0:Int),(0:Int),(0:Int),(0:Int),()),((0:Int),(0:Int),()),())).1.2.2.2.1:Int),(((List.getD x1 (Int.toNat x3) (((0:Int),(0:Int),(0:Int),(0:Int),(0:Int),(0:Int),()),((0:Int),(0:Int),()),())).1.2.2.2.2.1:Int),(((List.getD x1 (Int.toNat x3) (((0:Int),(0:Int),(0:Int),(0:Int),(0:Int),(0:Int),()),((0:Int),(0:Int),()),())).1.2.2.2.2.2.1:Int),())))))),((((List.getD x1 (Int.toNat x3) (((0:Int),(0:Int),(0:Int),(0:Int),(0:Int),(0:Int),()),((0:Int),(0:Int),()),())).2.1.1:Int),(((List.getD x1 (Int.toNat x3) (((0:Int),(0:Int),(0:Int),(0:Int),(0:Int),(0:Int),()),((0:Int),(0:Int),()),())).2.1.2.1:Int),())),())),()));
        Tr.test ((!eqF r0.1 0:Bool))
          (Tr.fin (.ret ((x3,(r0.1,())),())))
          (Tr.fin (.again ((x1,(x2,((wrap64 (x3 + (1:Int)):Int),()))),()))))
        (Tr.stop))
      (Tr.stop))
    (Tr.fin (.brk ((),())))

def s82_0 (d:sh82_0.data):Option (Out sh82_0.data shb82_0.data shr82_0.data):=(t82_0 d.1.1 d.1.2.1 d.1.2.2.1).val
def l82_0 (d:sh82_0.data):Option (shb82_0.data ⊕ shr82_0.data):=itr s82_0 rounds d
def b82_0 (d:sh82_0.data):shb82_0.data:=outB shb82_0.dflt (l82_0 d)
def r82_0 (d:sh82_0.data):shr82_0.data:=outR shr82_0.dflt (l82_0 d)
def lc82_0:LoopC:=lcOf sh82_0 shb82_0 shr82_0 l82_0 b82_0 r82_0

theorem w82_0 (x1:(List ((Int×(Int×(Int×(Int×(Int×(Int×Unit))))))×((Int×(Int×Unit))×Unit)))) (x2:Int) (x3:Int):Walks (runBody (kf30 Go.Proofs.Try.prog).orc Go.Proofs.Try.prog 400 82 0 sh82_0 shb82_0 shr82_0 ((x1,x2,x3,()),())) (t82_0 x1 x2 x3) [([true,true,true,true],[2,4,6,8]),([true,true,true,false],[2,4,6,8]),([ff],[2])] :=
  ⟨by kernel_rfl,by kernel_rfl,by kernel_rfl,trivial⟩

theorem ok82_0_t (x1:(List ((Int×(Int×(Int×(Int×(Int×(Int×Unit))))))×((Int×(Int×Unit))×Unit)))) (x2:Int) (x3:Int):TrOk (BodyRuns Go.Proofs.Try.prog (kf30 Go.Proofs.Try.prog).orc 82 0 sh82_0 shb82_0 shr82_0 ((x1,x2,x3,()),())) (t82_0 x1 x2 x3) :=
  Walks.ok (fun _ _ _=>BodyRuns.of) (w82_0 x1 x2 x3) (by kernel_rfl)

theorem ok82_0:LoopOk Go.Proofs.Try.prog 82 0 lc82_0:=loopOk_of (sh:=sh82_0) (shB:=shb82_0) (shR:=shr82_0) kf30_ok.base (T:=fun (d:sh82_0.data)=>t82_0 d.1.1 d.1.2.1 d.1.2.2.1) (by kernel_rfl) rfl (fun (d:sh82_0.data)=>ok82_0_t d.1.1 d.1.2.1 d.1.2.2.1) (fun _=>rfl)
def kl82_0 (P:Go.Program):Known:=(kf30 P).loop 82 0 lc82_0
theorem kl82_0_ok:KnownOk Go.Proofs.Try.prog (kl82_0 Go.Proofs.Try.prog):=kf30_ok.loop ok82_0

/-! ductility/jack.CheckRig -/

abbrev as56:List Ty:=[(.pair (.slice (.pair (.pair (.int .i64) (.pair (.int .i64) (.pair (.int .i64) (.pair (.int .i64) (.pair (.int .i64) (.pair (.int .i64) .unit)))))) (.pair (.pair (.int .i64) (.pair (.int .i64) .unit)) .unit))) (.pair (.pair (.pair (.int .i64) (.pair (.int .i64) .unit)) (.pair (.pair (.int .i64) (.pair (.int .i64) .unit)) (.pair (.pair (.int .i64) (.pair (.int .i64) .unit)) (.pair (.pair (.int .i64) (.pair (.int .i64) .unit)) (.pair (.pair (.int .i64) (.pair (.int .i64) .unit)) (.pair (.pair (.int .i64) (.pair (.int .i64) .unit)) .unit)))))) .unit))]
abbrev rs56:List Ty:=[(.int .i64),(.int .i64)]

def t56 (x0:(List ((Int×(Int×(Int×(Int×(Int×(Int×Unit))))))×((Int×(Int×Unit))×Unit)))) (x0'__:Int) (x0'__':Int) (x0'_'_:Int) (x0'_'_':Int) (x0'_''_:Int) (x0'_''_':Int) (x0'_'''_:Int) (x0'_'''_':Int) (x0'_''''_:Int) (x0'_''''_':Int) (x0'_'''''_:Int) (x0'_'''''_':Int):Tr (Tys.data rs56) :=
  Tr.test (Option.isSome (f74 ((↑(List.length x0):Int),((8:Int),()))))
    (let r0:=g74 ((↑(List.length x0):Int),((8:Int),()));
    Tr.test ((!eqF r0.1 0:Bool))
      (Tr.fin (((0:Int),(r0.1,()))))
      (Tr.test (Option.isSome (l82_0 ((x0,((↑(List.length x0):Int),((0:Int),()))),())))
        (Tr.test (isRet (l82_0 ((x0,((↑(List.length x0):Int),((0:Int),()))),())))
          (let r1:=r82_0 ((x0,((↑(List.length x0):Int),((0:Int),()))),());
          Tr.test ((!eqF r1.1.2.1 0:Bool))
            (Tr.fin ((r1.1.1,(r1.1.2.1,()))))
            (Tr.test (Option.isSome (f30 (((x0'__,(x0'__',())),((x0'_'_,(x0'_'_',())),((x0'_''_,(x0'_''_',())),((x0'_'''_,(x0'_'''_',())),((x0'_''''_,(x0'_''''_',())),((x0'_'''''_,(x0'_'''''_',())),())))))),())))
              (let r2:=g30 (((x0'__,(x0'__',())),((x0'_'_,(x0'_'_',())),((x0'_''_,(x0'_''_',())),((x0'_'''_,(x0'_'''_',())),((x0'_''''_,(x0'_''''_',())),((x0'_'''''_,(x0'_'''''_',())),())))))),());
              Tr.fin ((r2.1,(r2.2.1,()))))
              (Tr.stop)))
          (Tr.test (Option.isSome (f30 (((x0'__,(x0'__',())),((x0'_'_,(x0'_'_',())),((x0'_''_,(x0'_''_',())),((x0'_'''_,(x0'_'''_',())),((x0'_''''_,(x0'_''''_',())),((x0'_'''''_,(x0'_'''''_',())),())))))),())))
            (let r2:=g30 (((x0'__,(x0'__',())),((x0'_'_,(x0'_'_',())),((x0'_''_,(x0'_''_',())),((x0'_'''_,(x0'_'''_',())),((x0'_''''_,(x0'_''''_',())),((x0'_'''''_,(x0'_'''''_',())),())))))),());
            Tr.fin ((r2.1,(r2.2.1,()))))
            (Tr.stop)))
        (Tr.stop)))
    (Tr.stop)

def f56 (d:Tys.data as56):Option (Tys.data rs56):=(t56 d.1.1 d.1.2.1.1.1 d.1.2.1.1.2.1 d.1.2.1.2.1.1 d.1.2.1.2.1.2.1 d.1.2.1.2.2.1.1 d.1.2.1.2.2.1.2.1 d.1.2.1.2.2.2.1.1 d.1.2.1.2.2.2.1.2.1 d.1.2.1.2.2.2.2.1.1 d.1.2.1.2.2.2.2.1.2.1 d.1.2.1.2.2.2.2.2.1.1 d.1.2.1.2.2.2.2.2.1.2.1).val
def g56 (d:Tys.data as56):Tys.data rs56:=(f56 d).getD (Tys.dflt rs56)
def p56:PureC:=pcOf as56 rs56 f56 g56

theorem w56 (x0:(List ((Int×(Int×(Int×(Int×(Int×(Int×Unit))))))×((Int×(Int×Unit))×Unit)))) (x0'__:Int) (x0'__':Int) (x0'_'_:Int) (x0'_'_':Int) (x0'_''_:Int) (x0'_''_':Int) (x0'_'''_:Int) (x0'_'''_':Int) (x0'_''''_:Int) (x0'_''''_':Int) (x0'_'''''_:Int) (x0'_'''''_':Int):Walks (runPure (kl82_0 Go.Proofs.Try.prog).orc Go.Proofs.Try.prog 400 56 as56 rs56 ((x0,((x0'__,x0'__',()),(x0'_'_,x0'_'_',()),(x0'_''_,x0'_''_',()),(x0'_'''_,x0'_'''_',()),(x0'_''''_,x0'_''''_',()),(x0'_'''''_,x0'_'''''_',()),()),()),())) (t56 x0 x0'__ x0'__' x0'_'_ x0'_'_' x0'_''_ x0'_''_' x0'_'''_ x0'_'''_' x0'_''''_ x0'_''''_' x0'_'''''_ x0'_'''''_') [([true,true],[2,4,0]),([true,false,true,true,true],[2,4,6,0,8,10,0]),([true,false,true,true,false,true],[2,1,1,4,6,8,0,10,12,0]),([true,false,true,false,true],[2,1,1,0,4,6,0,8,10,0])] :=
  ⟨by kernel_rfl,by kernel_rfl,by kernel_rfl,by kernel_rfl,trivial⟩

theorem ok56_t (x0:(List ((Int×(Int×(Int×(Int×(Int×(Int×Unit))))))×((Int×(Int×Unit))×Unit)))) (x0'__:Int) (x0'__':Int) (x0'_'_:Int) (x0'_'_':Int) (x0'_''_:Int) (x0'_''_':Int) (x0'_'''_:Int) (x0'_'''_':Int) (x0'_''''_:Int) (x0'_''''_':Int) (x0'_'''''_:Int) (x0'_'''''_':Int):TrOk (PureRuns Go.Proofs.Try.prog (kl82_0 Go.Proofs.Try.prog).orc 56 as56 rs56 ((x0,((x0'__,x0'__',()),(x0'_'_,x0'_'_',()),(x0'_''_,x0'_''_',()),(x0'_'''_,x0'_'''_',()),(x0'_''''_,x0'_''''_',()),(x0'_'''''_,x0'_'''''_',()),()),()),())) (t56 x0 x0'__ x0'__' x0'_'_ x0'_'_' x0'_''_ x0'_''_' x0'_'''_ x0'_'''_' x0'_''''_ x0'_''''_' x0'_'''''_ x0'_'''''_') :=
  Walks.ok (fun _ _ _=>PureRuns.of) (w56 x0 x0'__ x0'__' x0'_'_ x0'_'_' x0'_''_ x0'_''_' x0'_'''_ x0'_'''_' x0'_''''_ x0'_''''_' x0'_'''''_ x0'_'''''_') (by kernel_rfl)

theorem ok56:PureOk Go.Proofs.Try.prog 56 p56:=pureOk_of kl82_0_ok.base (T:=fun (d:Tys.data as56)=>t56 d.1.1 d.1.2.1.1.1 d.1.2.1.1.2.1 d.1.2.1.2.1.1 d.1.2.1.2.1.2.1 d.1.2.1.2.2.1.1 d.1.2.1.2.2.1.2.1 d.1.2.1.2.2.2.1.1 d.1.2.1.2.2.2.1.2.1 d.1.2.1.2.2.2.2.1.1 d.1.2.1.2.2.2.2.1.2.1 d.1.2.1.2.2.2.2.2.1.1 d.1.2.1.2.2.2.2.2.1.2.1) (by kernel_rfl) (fun (d:Tys.data as56)=>ok56_t d.1.1 d.1.2.1.1.1 d.1.2.1.1.2.1 d.1.2.1.2.1.1 d.1.2.1.2.1.2.1 d.1.2.1.2.2.1.1 d.1.2.1.2.2.1.2.1 d.1.2.1.2.2.2.1.1 d.1.2.1.2.2.2.1.2.1 d.1.2.1.2.2.2.2.1.1 d.1.2.1.2.2.2.2.1.2.1 d.1.2.1.2.2.2.2.2.1.1 d.1.2.1.2.2.2.2.2.1.2.1)
def kf56 (P:Go.Program):Known:=(kl82_0 P).func 56 p56
theorem kf56_ok:KnownOk Go.Proofs.Try.prog (kf56 Go.Proofs.Try.prog):=kl82_0_ok.func ok56

/-! ductility/jack.rigOf -/

abbrev as29:List Ty:=[(.pair (.slice (.pair (.pair (.int .i64) (.pair (.int .i64) (.pair (.int .i64) (.pair (.int .i64) (.pair (.int .i64) (.pair (.int .i64) .unit)))))) (.pair (.pair (.int .i64) (.pair (.int .i64) .unit)) .unit))) (.pair (.pair (.pair (.int .i64) (.pair (.int .i64) .unit)) (.pair (.pair (.int .i64) (.pair (.int .i64) .unit)) (.pair (.pair (.int .i64) (.pair (.int .i64) .unit)) (.pair (.pair (.int .i64) (.pair (.int .i64) .unit)) (.pair (.pair (.int .i64) (.pair (.int .i64) .unit)) (.pair (.pair (.int .i64) (.pair (.int .i64) .unit)) .unit)))))) .unit))]
abbrev rs29:List Ty:=[(.pair (.pair (.slice (.pair (.pair (.int .i64) (.pair (.int .i64) (.pair (.int .i64) (.pair (.int .i64) (.pair (.int .i64) (.pair (.int .i64) .unit)))))) (.pair (.pair (.int .i64) (.pair (.int .i64) .unit)) .unit))) (.pair (.pair (.pair (.int .i64) (.pair (.int .i64) .unit)) (.pair (.pair (.int .i64) (.pair (.int .i64) .unit)) (.pair (.pair (.int .i64) (.pair (.int .i64) .unit)) (.pair (.pair (.int .i64) (.pair (.int .i64) .unit)) (.pair (.pair (.int .i64) (.pair (.int .i64) .unit)) (.pair (.pair (.int .i64) (.pair (.int .i64) .unit)) .unit)))))) .unit)) .unit),(.int .i64)]

def t29 (x0:(List ((Int×(Int×(Int×(Int×(Int×(Int×Unit))))))×((Int×(Int×Unit))×Unit)))) (x0'__:Int) (x0'__':Int) (x0'_'_:Int) (x0'_'_':Int) (x0'_''_:Int) (x0'_''_':Int) (x0'_'''_:Int) (x0'_'''_':Int) (x0'_''''_:Int) (x0'_''''_':Int) (x0'_'''''_:Int) (x0'_'''''_':Int):Tr (Tys.data rs29) :=
  Tr.test (Option.isSome (f56 ((x0,(((x0'__,(x0'__',())),((x0'_'_,(x0'_'_',())),((x0'_''_,(x0'_''_',())),((x0'_'''_,(x0'_'''_',())),((x0'_''''_,(x0'_''''_',())),((x0'_'''''_,(x0'_'''''_',())),())))))),())),())))
    (let r0:=g56 ((x0,(((x0'__,(x0'__',())),((x0'_'_,(x0'_'_',())),((x0'_''_,(x0'_''_',())),((x0'_'''_,(x0'_'''_',())),((x0'_''''_,(x0'_''''_',())),((x0'_'''''_,(x0'_'''''_',())),())))))),())),());
    Tr.test ((!eqF r0.2.1 0:Bool))
      (Tr.fin ((((([]:List ((Int×Int×Int×Int×Int×Int×PUnit)×(Int×Int×PUnit)×PUnit)),((((0:Int),((0:Int),())),(((0:Int),((0:Int),())),(((0:Int),((0:Int),())),(((0:Int),((0:Int),())),(((0:Int),((0:Int),())),(((0:Int),((0:Int),())),())))))),())),()),(r0.2.1,()))))
      (Tr.fin ((((x0,(((x0'__,(x0'__',())),((x0'_'_,(x0'_'_',())),((x0'_''_,(x0'_''_',())),((x0'_'''_,(x0'_'''_',())),((x0'_''''_,(x0'_''''_',())),((x0'_'''''_,(x0'_'''''_',())),())))))),())),()),((0:Int),())))))
    (Tr.stop)

def f29 (d:Tys.data as29):Option (Tys.data rs29):=(t29 d.1.1 d.1.2.1.1.1 d.1.2.1.1.2.1 d.1.2.1.2.1.1 d.1.2.1.2.1.2.1 d.1.2.1.2.2.1.1 d.1.2.1.2.2.1.2.1 d.1.2.1.2.2.2.1.1 d.1.2.1.2.2.2.1.2.1 d.1.2.1.2.2.2.2.1.1 d.1.2.1.2.2.2.2.1.2.1 d.1.2.1.2.2.2.2.2.1.1 d.1.2.1.2.2.2.2.2.1.2.1).val
def g29 (d:Tys.data as29):Tys.data rs29:=(f29 d).getD (Tys.dflt rs29)
def p29:PureC:=pcOf as29 rs29 f29 g29

theorem w29 (x0:(List ((Int×(Int×(Int×(Int×(Int×(Int×Unit))))))×((Int×(Int×Unit))×Unit)))) (x0'__:Int) (x0'__':Int) (x0'_'_:Int) (x0'_'_':Int) (x0'_''_:Int) (x0'_''_':Int) (x0'_'''_:Int) (x0'_'''_':Int) (x0'_''''_:Int) (x0'_''''_':Int) (x0'_'''''_:Int) (x0'_'''''_':Int):Walks (runPure (kf56 Go.Proofs.Try.prog).orc Go.Proofs.Try.prog 400 29 as29 rs29 ((x0,((x0'__,x0'__',()),(x0'_'_,x0'_'_',()),(x0'_''_,x0'_''_',()),(x0'_'''_,x0'_'''_',()),(x0'_''''_,x0'_''''_',()),(x0'_'''''_,x0'_'''''_',()),()),()),())) (t29 x0 x0'__ x0'__' x0'_'_ x0'_'_' x0'_''_ x0'_''_' x0'_'''_ x0'_'''_' x0'_''''_ x0'_''''_' x0'_'''''_ x0'_'''''_') [([true,true],[2,4,0]),([true,false],[0,2,4,0])] :=
  ⟨by kernel_rfl,by kernel_rfl,trivial⟩

theorem ok29_t (x0:(List ((Int×(Int×(Int×(Int×(Int×(Int×Unit))))))×((Int×(Int×Unit))×Unit)))) (x0'__:Int) (x0'__':Int) (x0'_'_:Int) (x0'_'_':Int) (x0'_''_:Int) (x0'_''_':Int) (x0'_'''_:Int) (x0'_'''_':Int) (x0'_''''_:Int) (x0'_''''_':Int) (x0'_'''''_:Int) (x0'_'''''_':Int):TrOk (PureRuns Go.Proofs.Try.prog (kf56 Go.Proofs.Try.prog).orc 29 as29 rs29 ((x0,((x0'__,x0'__',()),(x0'_'_,x0'_'_',()),(x0'_''_,x0'_''_',()),(x0'_'''_,x0'_'''_',()),(x0'_''''_,x0'_''''_',()),(x0'_'''''_,x0'_'''''_',()),()),()),())) (t29 x0 x0'__ x0'__' x0'_'_ x0'_'_' x0'_''_ x0'_''_' x0'_'''_ x0'_'''_' x0'_''''_ x0'_''''_' x0'_'''''_ x0'_'''''_') :=
  Walks.ok (fun _ _ _=>PureRuns.of) (w29 x0 x0'__ x0'__' x0'_'_ x0'_'_' x0'_''_ x0'_''_' x0'_'''_ x0'_'''_' x0'_''''_ x0'_''''_' x0'_'''''_ x0'_'''''_') (by kernel_rfl)

theorem ok29:PureOk Go.Proofs.Try.prog 29 p29:=pureOk_of kf56_ok.base (T:=fun (d:Tys.data as29)=>t29 d.1.1 d.1.2.1.1.1 d.1.2.1.1.2.1 d.1.2.1.2.1.1 d.1.2.1.2.1.2.1 d.1.2.1.2.2.1.1 d.1.2.1.2.2.1.2.1 d.1.2.1.2.2.2.1.1 d.1.2.1.2.2.2.1.2.1 d.1.2.1.2.2.2.2.1.1 d.1.2.1.2.2.2.2.1.2.1 d.1.2.1.2.2.2.2.2.1.1 d.1.2.1.2.2.2.2.2.1.2.1) (by kernel_rfl) (fun (d:Tys.data as29)=>ok29_t d.1.1 d.1.2.1.1.1 d.1.2.1.1.2.1 d.1.2.1.2.1.1 d.1.2.1.2.1.2.1 d.1.2.1.2.2.1.1 d.1.2.1.2.2.1.2.1 d.1.2.1.2.2.2.1.1 d.1.2.1.2.2.2.1.2.1 d.1.2.1.2.2.2.2.1.1 d.1.2.1.2.2.2.2.1.2.1 d.1.2.1.2.2.2.2.2.1.1 d.1.2.1.2.2.2.2.2.1.2.1)
def kf29 (P:Go.Program):Known:=(kf56 P).func 29 p29
theorem kf29_ok:KnownOk Go.Proofs.Try.prog (kf29 Go.Proofs.Try.prog):=kf56_ok.func ok29

/-! ductility/jack.fraction -/

abbrev as97:List Ty:=[(.int .i64),(.int .i64)]
abbrev rs97:List Ty:=[(.pair (.int .i64) (.pair (.int .i64) .unit))]

def t97 (x0:Int) (x1:Int):Tr (Tys.data rs97) :=
  Tr.test (Option.isSome (f73 (([x0,x1]:List Int),())))
    (Tr.test (!leF (0:Int) x1)
      (let r0:=g73 (([x0,x1]:List Int),());
      Tr.test ((Go.IntKind.wrap Go.IntKind.i64 ((0:Int) - r0.1) == (0:Int):Bool))
        (Tr.stop)
        (Tr.fin ((((Go.IntKind.wrap Go.IntKind.i64 (Int.tdiv x0 (Go.IntKind.wrap Go.IntKind.i64 ((0:Int) - r0.1))):Int),((Go.IntKind.wrap Go.IntKind.i64 (Int.tdiv x1 (Go.IntKind.wrap Go.IntKind.i64 ((0:Int) - r0.1))):Int),())),()))))
      (let r0:=g73 (([x0,x1]:List Int),());
      Tr.test ((r0.1 == (0:Int):Bool))
        (Tr.stop)
        (Tr.fin ((((Go.IntKind.wrap Go.IntKind.i64 (Int.tdiv x0 r0.1):Int),((Go.IntKind.wrap Go.IntKind.i64 (Int.tdiv x1 r0.1):Int),())),())))))
    (Tr.stop)

def f97 (d:Tys.data as97):Option (Tys.data rs97):=(t97 d.1 d.2.1).val
def g97 (d:Tys.data as97):Tys.data rs97:=(f97 d).getD (Tys.dflt rs97)
def p97:PureC:=pcOf as97 rs97 f97 g97

theorem w97 (x0:Int) (x1:Int):Walks (runPure (kf29 Go.Proofs.Try.prog).orc Go.Proofs.Try.prog 400 97 as97 rs97 (x0,x1,())) (t97 x0 x1) [([true,true,false],[2,2,4,6,1]),([true,false,false],[2,2,4,6,1])] :=
  ⟨by kernel_rfl,by kernel_rfl,trivial⟩

theorem ok97_t (x0:Int) (x1:Int):TrOk (PureRuns Go.Proofs.Try.prog (kf29 Go.Proofs.Try.prog).orc 97 as97 rs97 (x0,x1,())) (t97 x0 x1) :=
  Walks.ok (fun _ _ _=>PureRuns.of) (w97 x0 x1) (by kernel_rfl)

theorem ok97:PureOk Go.Proofs.Try.prog 97 p97:=pureOk_of kf29_ok.base (T:=fun (d:Tys.data as97)=>t97 d.1 d.2.1) (by kernel_rfl) (fun (d:Tys.data as97)=>ok97_t d.1 d.2.1)
def kf97 (P:Go.Program):Known:=(kf29 P).func 97 p97
theorem kf97_ok:KnownOk Go.Proofs.Try.prog (kf97 Go.Proofs.Try.prog):=kf29_ok.func ok97

/-! (ductility/jack.course).turn -/

abbrev as96:List Ty:=[(.pair (.int .i64) (.pair (.int .i64) (.pair (.int .i64) .unit))),(.int .i64)]
abbrev rs96:List Ty:=[(.pair (.int .i64) (.pair (.int .i64) .unit)),.bool]

def t96 (x0:Int) (x0':Int) (x0'':Int) (x1:Int):Tr (Tys.data rs96) :=
  Tr.test ((!leF (0:Int) x0':Bool))
    (Tr.test (!leF (wrap64 (x0' + wrap64 (wrap64 ((2:Int) * x0'') * x1))) (0:Int))
      (Tr.test (Option.isSome (f97 ((wrap64 (wrap64 (wrap64 ((4:Int) * x0'') * x0) - wrap64 (x0' * x0')):Int),((wrap64 ((4:Int) * x0''):Int),()))))
        (let r0:=g97 ((wrap64 (wrap64 (wrap64 ((4:Int) * x0'') * x0) - wrap64 (x0' * x0')):Int),((wrap64 ((4:Int) * x0''):Int),()));
        Tr.fin (((r0.1.1,(r0.1.2.1,())),((true:Bool),()))))
        (Tr.stop))
      (Tr.test ((!leF x0' 0:Bool))
        (Tr.test ((!!leF (0:Int) (wrap64 (x0' + wrap64 (wrap64 ((2:Int) * x0'') * x1))):Bool))
          (Tr.fin ((((0:Int),((0:Int),())),((false:Bool),()))))
          (Tr.test (Option.isSome (f97 ((wrap64 (wrap64 (wrap64 ((4:Int) * x0'') * x0) - wrap64 (x0' * x0')):Int),((wrap64 ((4:Int) * x0''):Int),()))))
            (let r0:=g97 ((wrap64 (wrap64 (wrap64 ((4:Int) * x0'') * x0) - wrap64 (x0' * x0')):Int),((wrap64 ((4:Int) * x0''):Int),()));
            Tr.fin (((r0.1.1,(r0.1.2.1,())),((true:Bool),()))))
            (Tr.stop)))
        (Tr.fin ((((0:Int),((0:Int),())),((false:Bool),()))))))
    (Tr.test (!leF x0' 0)
      (Tr.test ((!!leF (0:Int) (wrap64 (x0' + wrap64 (wrap64 ((2:Int) * x0'') * x1))):Bool))
        (Tr.fin ((((0:Int),((0:Int),())),((false:Bool),()))))
        (Tr.test (Option.isSome (f97 ((wrap64 (wrap64 (wrap64 ((4:Int) * x0'') * x0) - wrap64 (x0' * x0')):Int),((wrap64 ((4:Int) * x0''):Int),()))))
          (let r0:=g97 ((wrap64 (wrap64 (wrap64 ((4:Int) * x0'') * x0) - wrap64 (x0' * x0')):Int),((wrap64 ((4:Int) * x0''):Int),()));
          Tr.fin (((r0.1.1,(r0.1.2.1,())),((true:Bool),()))))
          (Tr.stop)))
      (Tr.fin ((((0:Int),((0:Int),())),((false:Bool),())))))

def f96 (d:Tys.data as96):Option (Tys.data rs96):=(t96 d.1.1 d.1.2.1 d.1.2.2.1 d.2.1).val
def g96 (d:Tys.data as96):Tys.data rs96:=(f96 d).getD (Tys.dflt rs96)
def p96:PureC:=pcOf as96 rs96 f96 g96

theorem w96 (x0:Int) (x0':Int) (x0'':Int) (x1:Int):Walks (runPure (kf97 Go.Proofs.Try.prog).orc Go.Proofs.Try.prog 400 96 as96 rs96 ((x0,x0',x0'',()),x1,())) (t96 x0 x0' x0'' x1) [([true,true,true],[2,0,4,4,4,4,4,4,6,6,6]),([true,false,true,true],[2,6,4,6,4,4,6,6,6,6,8,8,8]),([true,false,true,false,true],[2,4,8,6,8,6,6,8,8,8,8,10,10,10]),([true,false,false],[1,4,2,4,2,2,4,4,4,4,6,6,6]),([false,true,true],[2,0,4,0,4,4,0,0,0,0,6,6,6]),([false,true,false,true],[2,4,0,6,0,6,6,0,0,0,0,8,8,8]),([false,false],[1,0,2,0,2,2,0,0,0,0,4,4,4])] :=
  ⟨by kernel_rfl,by kernel_rfl,by kernel_rfl,by kernel_rfl,by kernel_rfl,by kernel_rfl,by kernel_rfl,trivial⟩

theorem ok96_t (x0:Int) (x0':Int) (x0'':Int) (x1:Int):TrOk (PureRuns Go.Proofs.Try.prog (kf97 Go.Proofs.Try.prog).orc 96 as96 rs96 ((x0,x0',x0'',()),x1,())) (t96 x0 x0' x0'' x1) :=
  Walks.ok (fun _ _ _=>PureRuns.of) (w96 x0 x0' x0'' x1) (by kernel_rfl)

theorem ok96:PureOk Go.Proofs.Try.prog 96 p96:=pureOk_of kf97_ok.base (T:=fun (d:Tys.data as96)=>t96 d.1.1 d.1.2.1 d.1.2.2.1 d.2.1) (by kernel_rfl) (fun (d:Tys.data as96)=>ok96_t d.1.1 d.1.2.1 d.1.2.2.1 d.2.1)
def kf96 (P:Go.Program):Known:=(kf97 P).func 96 p96
theorem kf96_ok:KnownOk Go.Proofs.Try.prog (kf96 Go.Proofs.Try.prog):=kf97_ok.func ok96

/-! ductility/jack.whole -/

abbrev as81:List Ty:=[(.int .i64)]
abbrev rs81:List Ty:=[(.pair (.int .i64) (.pair (.int .i64) .unit))]

def t81 (x0:Int):Tr (Tys.data rs81) :=
  Tr.fin (((x0,((1:Int),())),()))

def f81 (d:Tys.data as81):Option (Tys.data rs81):=(t81 d.1).val
def g81 (d:Tys.data as81):Tys.data rs81:=(f81 d).getD (Tys.dflt rs81)
def p81:PureC:=pcOf as81 rs81 f81 g81

theorem w81 (x0:Int):Walks (runPure (kf96 Go.Proofs.Try.prog).orc Go.Proofs.Try.prog 400 81 as81 rs81 (x0,())) (t81 x0) [([],[])] :=
  ⟨by kernel_rfl,trivial⟩

theorem ok81_t (x0:Int):TrOk (PureRuns Go.Proofs.Try.prog (kf96 Go.Proofs.Try.prog).orc 81 as81 rs81 (x0,())) (t81 x0) :=
  Walks.ok (fun _ _ _=>PureRuns.of) (w81 x0) (by kernel_rfl)

theorem ok81:PureOk Go.Proofs.Try.prog 81 p81:=pureOk_of kf96_ok.base (T:=fun (d:Tys.data as81)=>t81 d.1) (by kernel_rfl) (fun (d:Tys.data as81)=>ok81_t d.1)
def kf81 (P:Go.Program):Known:=(kf96 P).func 81 p81
theorem kf81_ok:KnownOk Go.Proofs.Try.prog (kf81 Go.Proofs.Try.prog):=kf96_ok.func ok81

/-! ductility/jack.isLess -/

abbrev as80:List Ty:=[(.pair (.int .i64) (.pair (.int .i64) .unit)),(.pair (.int .i64) (.pair (.int .i64) .unit))]
abbrev rs80:List Ty:=[.bool]

def t80 (x0:Int) (x0':Int) (x1:Int) (x1':Int):Tr (Tys.data rs80) :=
  Tr.fin (((!leF (wrap64 (x1 * x0')) (wrap64 (x0 * x1')):Bool),()))

def f80 (d:Tys.data as80):Option (Tys.data rs80):=(t80 d.1.1 d.1.2.1 d.2.1.1 d.2.1.2.1).val
def g80 (d:Tys.data as80):Tys.data rs80:=(f80 d).getD (Tys.dflt rs80)
def p80:PureC:=pcOf as80 rs80 f80 g80

theorem w80 (x0:Int) (x0':Int) (x1:Int) (x1':Int):Walks (runPure (kf81 Go.Proofs.Try.prog).orc Go.Proofs.Try.prog 400 80 as80 rs80 ((x0,x0',()),(x1,x1',()),())) (t80 x0 x0' x1 x1') [([],[])] :=
  ⟨by kernel_rfl,trivial⟩

theorem ok80_t (x0:Int) (x0':Int) (x1:Int) (x1':Int):TrOk (PureRuns Go.Proofs.Try.prog (kf81 Go.Proofs.Try.prog).orc 80 as80 rs80 ((x0,x0',()),(x1,x1',()),())) (t80 x0 x0' x1 x1') :=
  Walks.ok (fun _ _ _=>PureRuns.of) (w80 x0 x0' x1 x1') (by kernel_rfl)

theorem ok80:PureOk Go.Proofs.Try.prog 80 p80:=pureOk_of kf81_ok.base (T:=fun (d:Tys.data as80)=>t80 d.1.1 d.1.2.1 d.2.1.1 d.2.1.2.1) (by kernel_rfl) (fun (d:Tys.data as80)=>ok80_t d.1.1 d.1.2.1 d.2.1.1 d.2.1.2.1)
def kf80 (P:Go.Program):Known:=(kf81 P).func 80 p80
theorem kf80_ok:KnownOk Go.Proofs.Try.prog (kf80 Go.Proofs.Try.prog):=kf81_ok.func ok80

/-! (ductility/jack.course).span -/

abbrev as93:List Ty:=[(.pair (.int .i64) (.pair (.int .i64) (.pair (.int .i64) .unit))),(.int .i64)]
abbrev rs93:List Ty:=[(.pair (.pair (.int .i64) (.pair (.int .i64) .unit)) (.pair (.pair (.int .i64) (.pair (.int .i64) .unit)) .unit))]

def t93 (x0:Int) (x0':Int) (x0'':Int) (x1:Int):Tr (Tys.data rs93) :=
  Tr.test (Option.isSome (f81 ((if wrap64 (wrap64 (x0 + wrap64 (x1 * x0')) + wrap64 (wrap64 (x1 * x1) * x0'')) < x0 then wrap64 (wrap64 (x0 + wrap64 (x1 * x0')) + wrap64 (wrap64 (x1 * x1) * x0'')) else x0:Int),())))
    (Tr.test (Option.isSome (f81 ((if x0 < wrap64 (wrap64 (x0 + wrap64 (x1 * x0')) + wrap64 (wrap64 (x1 * x1) * x0'')) then wrap64 (wrap64 (x0 + wrap64 (x1 * x0')) + wrap64 (wrap64 (x1 * x1) * x0'')) else x0:Int),())))
      (Tr.test (Option.isSome (f96 ((x0,(x0',(x0'',()))),(x1,()))))
        (let r2:=g96 ((x0,(x0',(x0'',()))),(x1,()));
        Tr.test (r2.2.1)
          (let r0:=g81 ((if wrap64 (wrap64 (x0 + wrap64 (x1 * x0')) + wrap64 (wrap64 (x1 * x1) * x0'')) < x0 then wrap64 (wrap64 (x0 + wrap64 (x1 * x0')) + wrap64 (wrap64 (x1 * x1) * x0'')) else x0:Int),());
          Tr.test (Option.isSome (f80 ((r2.1.1,(r2.1.2.1,())),((r0.1.1,(r0.1.2.1,())),()))))
            (let r3:=g80 ((r2.1.1,(r2.1.2.1,())),((r0.1.1,(r0.1.2.1,())),()));
            Tr.test (r3.1)
              (let r1:=g81 ((if x0 < wrap64 (wrap64 (x0 + wrap64 (x1 * x0')) + wrap64 (wrap64 (x1 * x1) * x0'')) then wrap64 (wrap64 (x0 + wrap64 (x1 * x0')) + wrap64 (wrap64 (x1 * x1) * x0'')) else x0:Int),());
              Tr.fin ((((r2.1.1,(r2.1.2.1,())),((r1.1.1,(r1.1.2.1,())),())),())))
              (let r1:=g81 ((if x0 < wrap64 (wrap64 (x0 + wrap64 (x1 * x0')) + wrap64 (wrap64 (x1 * x1) * x0'')) then wrap64 (wrap64 (x0 + wrap64 (x1 * x0')) + wrap64 (wrap64 (x1 * x1) * x0'')) else x0:Int),());
              Tr.test (Option.isSome (f80 ((r1.1.1,(r1.1.2.1,())),((r2.1.1,(r2.1.2.1,())),()))))
                (let r4:=g80 ((r1.1.1,(r1.1.2.1,())),((r2.1.1,(r2.1.2.1,())),()));
                Tr.test (r4.1)
                  (Tr.fin ((((r0.1.1,(r0.1.2.1,())),((r2.1.1,(r2.1.2.1,())),())),())))
                  (Tr.fin ((((r0.1.1,(r0.1.2.1,())),((r1.1.1,(r1.1.2.1,())),())),()))))
                (Tr.stop)))
            (Tr.stop))
          (let r0:=g81 ((if wrap64 (wrap64 (x0 + wrap64 (x1 * x0')) + wrap64 (wrap64 (x1 * x1) * x0'')) < x0 then wrap64 (wrap64 (x0 + wrap64 (x1 * x0')) + wrap64 (wrap64 (x1 * x1) * x0'')) else x0:Int),());
          let r1:=g81 ((if x0 < wrap64 (wrap64 (x0 + wrap64 (x1 * x0')) + wrap64 (wrap64 (x1 * x1) * x0'')) then wrap64 (wrap64 (x0 + wrap64 (x1 * x0')) + wrap64 (wrap64 (x1 * x1) * x0'')) else x0:Int),());
          Tr.fin ((((r0.1.1,(r0.1.2.1,())),((r1.1.1,(r1.1.2.1,())),())),()))))
        (Tr.stop))
      (Tr.stop))
    (Tr.stop)

def f93 (d:Tys.data as93):Option (Tys.data rs93):=(t93 d.1.1 d.1.2.1 d.1.2.2.1 d.2.1).val
def g93 (d:Tys.data as93):Tys.data rs93:=(f93 d).getD (Tys.dflt rs93)
def p93:PureC:=pcOf as93 rs93 f93 g93

theorem w93 (x0:Int) (x0':Int) (x0'':Int) (x1:Int):Walks (runPure (kf80 Go.Proofs.Try.prog).orc Go.Proofs.Try.prog 400 93 as93 rs93 ((x0,x0',x0'',()),x1,())) (t93 x0 x0' x0'' x1) [([true,true,true,true,true,true],[2,6,4,6,6,6,6,8,10,12]),([true,true,true,true,true,false,true,true],[2,10,4,10,10,10,10,6,10,8,10,10,10,10,12,14,16]),([true,true,true,true,true,false,true,false],[2,10,4,10,10,10,10,6,10,8,10,10,10,10,12,14,16]),([true,true,true,false],[0,2,2,2,2,2,0,2,2,2,2,2,4,6,8])] :=
  ⟨by kernel_rfl,by kernel_rfl,by kernel_rfl,by kernel_rfl,trivial⟩

theorem ok93_t (x0:Int) (x0':Int) (x0'':Int) (x1:Int):TrOk (PureRuns Go.Proofs.Try.prog (kf80 Go.Proofs.Try.prog).orc 93 as93 rs93 ((x0,x0',x0'',()),x1,())) (t93 x0 x0' x0'' x1) :=
  Walks.ok (fun _ _ _=>PureRuns.of) (w93 x0 x0' x0'' x1) (by kernel_rfl)

theorem ok93:PureOk Go.Proofs.Try.prog 93 p93:=pureOk_of kf80_ok.base (T:=fun (d:Tys.data as93)=>t93 d.1.1 d.1.2.1 d.1.2.2.1 d.2.1) (by kernel_rfl) (fun (d:Tys.data as93)=>ok93_t d.1.1 d.1.2.1 d.1.2.2.1 d.2.1)
def kf93 (P:Go.Program):Known:=(kf80 P).func 93 p93
theorem kf93_ok:KnownOk Go.Proofs.Try.prog (kf93 Go.Proofs.Try.prog):=kf80_ok.func ok93

/-! loop 0 of ductility/ductilitybase.Ints -/

abbrev sh27_0:Sh:={ n:=26,slots:=[0,1,5],pats:=[.ty (.slice (.int .i64)),.ty (.slice (.int .i64)),.ty (.int .i64)],boxes:=[] }
abbrev shb27_0:Sh:={ n:=26,slots:=[],pats:=[],boxes:=[] }
abbrev shr27_0:Sh:={ n:=26,slots:=[4],pats:=[.ty .bool],boxes:=[] }

def t27_0 (x0:(List Int)) (x1:(List Int)) (x2:Int):Tr (Out sh27_0.data shb27_0.data shr27_0.data) :=
  Tr.test ((!leF (↑(List.length x0):Int) x2:Bool))
    (Tr.test (decide ((0:Int) ≤ x2) && decide (x2 < (↑(List.length x0):Int)))
      (Tr.test ((decide ((0:Int) ≤ x2) && decide (x2 < (↑(List.length x1):Int)):Bool))
        (Tr.test ((!eqF (List.getD x0 (Int.toNat x2) (0:Int)) (List.getD x1 (Int.toNat x2) (0:Int)):Bool))
          (Tr.fin (.ret (((false:Bool),()),())))
          (Tr.fin (.again ((x0,(x1,((wrap64 (x2 + (1:Int)):Int),()))),()))))
        (Tr.stop))
      (Tr.stop))
    (Tr.fin (.brk ((),())))

def s27_0 (d:sh27_0.data):Option (Out sh27_0.data shb27_0.data shr27_0.data):=(t27_0 d.1.1 d.1.2.1 d.1.2.2.1).val
def l27_0 (d:sh27_0.data):Option (shb27_0.data ⊕ shr27_0.data):=itr s27_0 rounds d
def b27_0 (d:sh27_0.data):shb27_0.data:=outB shb27_0.dflt (l27_0 d)
def r27_0 (d:sh27_0.data):shr27_0.data:=outR shr27_0.dflt (l27_0 d)
def lc27_0:LoopC:=lcOf sh27_0 shb27_0 shr27_0 l27_0 b27_0 r27_0

theorem w27_0 (x0:(List Int)) (x1:(List Int)) (x2:Int):Walks (runBody (kf93 Go.Proofs.Try.prog).orc Go.Proofs.Try.prog 400 27 0 sh27_0 shb27_0 shr27_0 ((x0,x1,x2,()),())) (t27_0 x0 x1 x2) [([true,true,true,true],[2,4,6,8]),([true,true,true,false],[2,4,6,8]),([ff],[2])] :=
  ⟨by kernel_rfl,by kernel_rfl,by kernel_rfl,trivial⟩

theorem ok27_0_t (x0:(List Int)) (x1:(List Int)) (x2:Int):TrOk (BodyRuns Go.Proofs.Try.prog (kf93 Go.Proofs.Try.prog).orc 27 0 sh27_0 shb27_0 shr27_0 ((x0,x1,x2,()),())) (t27_0 x0 x1 x2) :=
  Walks.ok (fun _ _ _=>BodyRuns.of) (w27_0 x0 x1 x2) (by kernel_rfl)

theorem ok27_0:LoopOk Go.Proofs.Try.prog 27 0 lc27_0:=loopOk_of (sh:=sh27_0) (shB:=shb27_0) (shR:=shr27_0) kf93_ok.base (T:=fun (d:sh27_0.data)=>t27_0 d.1.1 d.1.2.1 d.1.2.2.1) (by kernel_rfl) rfl (fun (d:sh27_0.data)=>ok27_0_t d.1.1 d.1.2.1 d.1.2.2.1) (fun _=>rfl)
def kl27_0 (P:Go.Program):Known:=(kf93 P).loop 27 0 lc27_0
theorem kl27_0_ok:KnownOk Go.Proofs.Try.prog (kl27_0 Go.Proofs.Try.prog):=kf93_ok.loop ok27_0

/-! ductility/ductilitybase.Ints -/

abbrev as27:List Ty:=[(.slice (.int .i64)),(.slice (.int .i64))]
abbrev rs27:List Ty:=[.bool]

def t27 (x0:(List Int)) (x1:(List Int)):Tr (Tys.data rs27) :=
  Tr.test ((!eqF (↑(List.length x0):Int) (↑(List.length x1):Int):Bool))
    (Tr.fin ((false,())))
    (Tr.test (Option.isSome (l27_0 ((x0,(x1,((0:Int),()))),())))
      (Tr.test (isRet (l27_0 ((x0,(x1,((0:Int),()))),())))
        (let r0:=r27_0 ((x0,(x1,((0:Int),()))),());
        Tr.fin ((r0.1.1,())))
        (Tr.fin (((true:Bool),()))))
      (Tr.stop))

def f27 (d:Tys.data as27):Option (Tys.data rs27):=(t27 d.1 d.2.1).val
def g27 (d:Tys.data as27):Tys.data rs27:=(f27 d).getD (Tys.dflt rs27)
def p27:PureC:=pcOf as27 rs27 f27 g27

theorem w27 (x0:(List Int)) (x1:(List Int)):Walks (runPure (kl27_0 Go.Proofs.Try.prog).orc Go.Proofs.Try.prog 400 27 as27 rs27 (x0,x1,())) (t27 x0 x1) [([tt],[2]),([false,true,true],[2,4,6]),([false,true,false],[2,4,6])] :=
  ⟨by kernel_rfl,by kernel_rfl,by kernel_rfl,trivial⟩

theorem ok27_t (x0:(List Int)) (x1:(List Int)):TrOk (PureRuns Go.Proofs.Try.prog (kl27_0 Go.Proofs.Try.prog).orc 27 as27 rs27 (x0,x1,())) (t27 x0 x1) :=
  Walks.ok (fun _ _ _=>PureRuns.of) (w27 x0 x1) (by kernel_rfl)

theorem ok27:PureOk Go.Proofs.Try.prog 27 p27:=pureOk_of kl27_0_ok.base (T:=fun (d:Tys.data as27)=>t27 d.1 d.2.1) (by kernel_rfl) (fun (d:Tys.data as27)=>ok27_t d.1 d.2.1)
def kf27 (P:Go.Program):Known:=(kl27_0 P).func 27 p27
theorem kf27_ok:KnownOk Go.Proofs.Try.prog (kf27 Go.Proofs.Try.prog):=kl27_0_ok.func ok27

/-! ductility/ductilityref01.SameShare -/

abbrev as28:List Ty:=[(.pair (.slice (.int .i64)) (.pair (.pair (.int .i64) (.pair (.int .i64) (.pair (.int .i64) (.pair (.int .i64) (.pair (.int .i64) (.pair (.int .i64) .unit)))))) (.pair (.int .i64) .unit))),(.pair (.slice (.int .i64)) (.pair (.pair (.int .i64) (.pair (.int .i64) (.pair (.int .i64) (.pair (.int .i64) (.pair (.int .i64) (.pair (.int .i64) .unit)))))) (.pair (.int .i64) .unit)))]
abbrev rs28:List Ty:=[.bool]

def t28 (x0:(List Int)) (x0'_:Int) (x0'_':Int) (x0'_'':Int) (x0'_''':Int) (x0'_'''':Int) (x0'_''''':Int) (x0'':Int) (x1:(List Int)) (x1'_:Int) (x1'_':Int) (x1'_'':Int) (x1'_''':Int) (x1'_'''':Int) (x1'_''''':Int) (x1'':Int):Tr (Tys.data rs28) :=
  Tr.test ((eqF x0'' x1'':Bool))
    (Tr.test (x0'_ == x1'_ && (x0'_' == x1'_' && (x0'_'' == x1'_'' && (x0'_''' == x1'_''' && (x0'_'''' == x1'_'''' && (x0'_''''' == x1'_''''' && true))))))
      (Tr.test (Option.isSome (f27 (x0,(x1,()))))
        (let r0:=g27 (x0,(x1,()));
        Tr.fin ((r0.1,())))
        (Tr.stop))
      (Tr.fin (((false:Bool),()))))
    (Tr.fin ((false,())))

def f28 (d:Tys.data as28):Option (Tys.data rs28):=(t28 d.1.1 d.1.2.1.1 d.1.2.1.2.1 d.1.2.1.2.2.1 d.1.2.1.2.2.2.1 d.1.2.1.2.2.2.2.1 d.1.2.1.2.2.2.2.2.1 d.1.2.2.1 d.2.1.1 d.2.1.2.1.1 d.2.1.2.1.2.1 d.2.1.2.1.2.2.1 d.2.1.2.1.2.2.2.1 d.2.1.2.1.2.2.2.2.1 d.2.1.2.1.2.2.2.2.2.1 d.2.1.2.2.1).val
def g28 (d:Tys.data as28):Tys.data rs28:=(f28 d).getD (Tys.dflt rs28)
def p28:PureC:=pcOf as28 rs28 f28 g28

theorem w28 (x0:(List Int)) (x0'_:Int) (x0'_':Int) (x0'_'':Int) (x0'_''':Int) (x0'_'''':Int) (x0'_''''':Int) (x0'':Int) (x1:(List Int)) (x1'_:Int) (x1'_':Int) (x1'_'':Int) (x1'_''':Int) (x1'_'''':Int) (x1'_''''':Int) (x1'':Int):Walks (runPure (kf27 Go.Proofs.Try.prog).orc Go.Proofs.Try.prog 400 28 as28 rs28 ((x0,(x0'_,x0'_',x0'_'',x0'_''',x0'_'''',x0'_''''',()),x0'',()),(x1,(x1'_,x1'_',x1'_'',x1'_''',x1'_'''',x1'_''''',()),x1'',()),())) (t28 x0 x0'_ x0'_' x0'_'' x0'_''' x0'_'''' x0'_''''' x0'' x1 x1'_ x1'_' x1'_'' x1'_''' x1'_'''' x1'_''''' x1'') [([true,true,true],[4,2,4,0,4,4,0,4,4,6,6,1,1,6,6,1,1,6,6,1,1,1,1]),([true,false],[2,2,2,2,2,2,4,4,1,1,4,4,1,1,4,4,1,1,1,1]),([ff],[0,0,0,0,0,0,2,2,2,2,2,2,1,1,1,1])] :=
  ⟨by kernel_rfl,by kernel_rfl,by kernel_rfl,trivial⟩

theorem ok28_t (x0:(List Int)) (x0'_:Int) (x0'_':Int) (x0'_'':Int) (x0'_''':Int) (x0'_'''':Int) (x0'_''''':Int) (x0'':Int) (x1:(List Int)) (x1'_:Int) (x1'_':Int) (x1'_'':Int) (x1'_''':Int) (x1'_'''':Int) (x1'_''''':Int) (x1'':Int):TrOk (PureRuns Go.Proofs.Try.prog (kf27 Go.Proofs.Try.prog).orc 28 as28 rs28 ((x0,(x0'_,x0'_',x0'_'',x0'_''',x0'_'''',x0'_''''',()),x0'',()),(x1,(x1'_,x1'_',x1'_'',x1'_''',x1'_'''',x1'_''''',()),x1'',()),())) (t28 x0 x0'_ x0'_' x0'_'' x0'_''' x0'_'''' x0'_''''' x0'' x1 x1'_ x1'_' x1'_'' x1'_''' x1'_'''' x1'_''''' x1'') :=
  Walks.ok (fun _ _ _=>PureRuns.of) (w28 x0 x0'_ x0'_' x0'_'' x0'_''' x0'_'''' x0'_''''' x0'' x1 x1'_ x1'_' x1'_'' x1'_''' x1'_'''' x1'_''''' x1'') (by kernel_rfl)

theorem ok28:PureOk Go.Proofs.Try.prog 28 p28:=pureOk_of kf27_ok.base (T:=fun (d:Tys.data as28)=>t28 d.1.1 d.1.2.1.1 d.1.2.1.2.1 d.1.2.1.2.2.1 d.1.2.1.2.2.2.1 d.1.2.1.2.2.2.2.1 d.1.2.1.2.2.2.2.2.1 d.1.2.2.1 d.2.1.1 d.2.1.2.1.1 d.2.1.2.1.2.1 d.2.1.2.1.2.2.1 d.2.1.2.1.2.2.2.1 d.2.1.2.1.2.2.2.2.1 d.2.1.2.1.2.2.2.2.2.1 d.2.1.2.2.1) (by kernel_rfl) (fun (d:Tys.data as28)=>ok28_t d.1.1 d.1.2.1.1 d.1.2.1.2.1 d.1.2.1.2.2.1 d.1.2.1.2.2.2.1 d.1.2.1.2.2.2.2.1 d.1.2.1.2.2.2.2.2.1 d.1.2.2.1 d.2.1.1 d.2.1.2.1.1 d.2.1.2.1.2.1 d.2.1.2.1.2.2.1 d.2.1.2.1.2.2.2.1 d.2.1.2.1.2.2.2.2.1 d.2.1.2.1.2.2.2.2.2.1 d.2.1.2.2.1)
def kf28 (P:Go.Program):Known:=(kf27 P).func 28 p28
theorem kf28_ok:KnownOk Go.Proofs.Try.prog (kf28 Go.Proofs.Try.prog):=kf27_ok.func ok28

/-! ductility/jack.poseError -/

abbrev as42:List Ty:=[(.pair (.int .i64) (.pair (.int .i64) (.pair (.int .i64) (.pair (.int .i64) (.pair (.int .i64) (.pair (.int .i64) .unit))))))]
abbrev rs42:List Ty:=[(.int .i64)]

def t42 (x0:Int) (x0':Int) (x0'':Int) (x0''':Int) (x0'''':Int) (x0''''':Int):Tr (Tys.data rs42) :=
  Tr.test (Option.isSome (f33 ((1000:Int),(([x0,x0',x0'',x0''',x0'''',x0''''']:List Int),()))))
    (let r0:=g33 ((1000:Int),(([x0,x0',x0'',x0''',x0'''',x0''''']:List Int),()));
    Tr.test (Option.isSome (f35 (r0.1,((2:Int),()))))
      (let r1:=g35 (r0.1,((2:Int),()));
      Tr.fin ((r1.1,())))
      (Tr.stop))
    (Tr.stop)

def f42 (d:Tys.data as42):Option (Tys.data rs42):=(t42 d.1.1 d.1.2.1 d.1.2.2.1 d.1.2.2.2.1 d.1.2.2.2.2.1 d.1.2.2.2.2.2.1).val
def g42 (d:Tys.data as42):Tys.data rs42:=(f42 d).getD (Tys.dflt rs42)
def p42:PureC:=pcOf as42 rs42 f42 g42

theorem w42 (x0:Int) (x0':Int) (x0'':Int) (x0''':Int) (x0'''':Int) (x0''''':Int):Walks (runPure (kf28 Go.Proofs.Try.prog).orc Go.Proofs.Try.prog 400 42 as42 rs42 ((x0,x0',x0'',x0''',x0'''',x0''''',()),())) (t42 x0 x0' x0'' x0''' x0'''' x0''''') [([true,true],[2,4,1,1])] :=
  ⟨by kernel_rfl,trivial⟩

theorem ok42_t (x0:Int) (x0':Int) (x0'':Int) (x0''':Int) (x0'''':Int) (x0''''':Int):TrOk (PureRuns Go.Proofs.Try.prog (kf28 Go.Proofs.Try.prog).orc 42 as42 rs42 ((x0,x0',x0'',x0''',x0'''',x0''''',()),())) (t42 x0 x0' x0'' x0''' x0'''' x0''''') :=
  Walks.ok (fun _ _ _=>PureRuns.of) (w42 x0 x0' x0'' x0''' x0'''' x0''''') (by kernel_rfl)

theorem ok42:PureOk Go.Proofs.Try.prog 42 p42:=pureOk_of kf28_ok.base (T:=fun (d:Tys.data as42)=>t42 d.1.1 d.1.2.1 d.1.2.2.1 d.1.2.2.2.1 d.1.2.2.2.2.1 d.1.2.2.2.2.2.1) (by kernel_rfl) (fun (d:Tys.data as42)=>ok42_t d.1.1 d.1.2.1 d.1.2.2.1 d.1.2.2.2.1 d.1.2.2.2.2.1 d.1.2.2.2.2.2.1)
def kf42 (P:Go.Program):Known:=(kf28 P).func 42 p42
theorem kf42_ok:KnownOk Go.Proofs.Try.prog (kf42 Go.Proofs.Try.prog):=kf28_ok.func ok42

/-! loop 0 of slices.Min[[]int,int] -/

abbrev sh34_0:Sh:={ n:=25,slots:=[0,3,4],pats:=[.ty (.slice (.int .i64)),.ty (.int .i64),.ty (.int .i64)],boxes:=[] }
abbrev shb34_0:Sh:={ n:=25,slots:=[3],pats:=[.ty (.int .i64)],boxes:=[] }
abbrev shr34_0:Sh:={ n:=25,slots:=[],pats:=[],boxes:=[] }

def t34_0 (x0:(List Int)) (x1:Int) (x2:Int):Tr (Out sh34_0.data shb34_0.data shr34_0.data) :=
  Tr.test ((!leF (↑(List.length x0):Int) x2:Bool))
    (Tr.test (decide ((0:Int) ≤ x2) && decide (x2 < (↑(List.length x0):Int)))
      (Tr.fin (.again ((x0,((if List.getD x0 (Int.toNat x2) (0:Int) < x1 then List.getD x0 (Int.toNat x2) (0:Int) else x1:Int),((wrap64 (x2 + (1:Int)):Int),()))),())))
      (Tr.stop))
    (Tr.fin (.brk ((x1,()),())))

def s34_0 (d:sh34_0.data):Option (Out sh34_0.data shb34_0.data shr34_0.data):=(t34_0 d.1.1 d.1.2.1 d.1.2.2.1).val
def l34_0 (d:sh34_0.data):Option (shb34_0.data ⊕ shr34_0.data):=itr s34_0 rounds d
def b34_0 (d:sh34_0.data):shb34_0.data:=outB shb34_0.dflt (l34_0 d)
def lc34_0:LoopC:=lcB sh34_0 shb34_0 shr34_0 l34_0 b34_0

theorem w34_0 (x0:(List Int)) (x1:Int) (x2:Int):Walks (runBody (kf42 Go.Proofs.Try.prog).orc Go.Proofs.Try.prog 400 34 0 sh34_0 shb34_0 shr34_0 ((x0,x1,x2,()),())) (t34_0 x0 x1 x2) [([true,true],[2,4]),([ff],[2])] :=
  ⟨by kernel_rfl,by kernel_rfl,trivial⟩

theorem ok34_0_t (x0:(List Int)) (x1:Int) (x2:Int):TrOk (BodyRuns Go.Proofs.Try.prog (kf42 Go.Proofs.Try.prog).orc 34 0 sh34_0 shb34_0 shr34_0 ((x0,x1,x2,()),())) (t34_0 x0 x1 x2) :=
  Walks.ok (fun _ _ _=>BodyRuns.of) (w34_0 x0 x1 x2) (by kernel_rfl)

theorem ok34_0:LoopOk Go.Proofs.Try.prog 34 0 lc34_0:=loopOk_ofB (sh:=sh34_0) (shB:=shb34_0) (shR:=shr34_0) kf42_ok.base (T:=fun (d:sh34_0.data)=>t34_0 d.1.1 d.1.2.1 d.1.2.2.1) (by kernel_rfl) rfl (fun (d:sh34_0.data)=>ok34_0_t d.1.1 d.1.2.1 d.1.2.2.1) (fun _=>rfl)
def kl34_0 (P:Go.Program):Known:=(kf42 P).loop 34 0 lc34_0
theorem kl34_0_ok:KnownOk Go.Proofs.Try.prog (kl34_0 Go.Proofs.Try.prog):=kf42_ok.loop ok34_0

/-! slices.Min[[]int,int] -/

abbrev as34:List Ty:=[(.slice (.int .i64))]
abbrev rs34:List Ty:=[(.int .i64)]

def t34 (x0:(List Int)):Tr (Tys.data rs34) :=
  Tr.test ((!leF (1:Int) (↑(List.length x0):Int):Bool))
    (Tr.stop)
    (Tr.test (true && decide ((0:Int) < (↑(List.length x0):Int)))
      (Tr.test (isBrk (l34_0 ((x0,((List.getD x0 (0:Nat) (0:Int):Int),((1:Int),()))),())))
        (let r0:=b34_0 ((x0,((List.getD x0 (0:Nat) (0:Int):Int),((1:Int),()))),());
        Tr.fin ((r0.1.1,())))
        (Tr.stop))
      (Tr.stop))

def f34 (d:Tys.data as34):Option (Tys.data rs34):=(t34 d.1).val
def g34 (d:Tys.data as34):Tys.data rs34:=(f34 d).getD (Tys.dflt rs34)
def p34:PureC:=pcOf as34 rs34 f34 g34

theorem w34 (x0:(List Int)):Walks (runPure (kl34_0 Go.Proofs.Try.prog).orc Go.Proofs.Try.prog 400 34 as34 rs34 (x0,())) (t34 x0) [([false,true,true],[1,2,4,6])] :=
  ⟨by kernel_rfl,trivial⟩

theorem ok34_t (x0:(List Int)):TrOk (PureRuns Go.Proofs.Try.prog (kl34_0 Go.Proofs.Try.prog).orc 34 as34 rs34 (x0,())) (t34 x0) :=
  Walks.ok (fun _ _ _=>PureRuns.of) (w34 x0) (by kernel_rfl)

theorem ok34:PureOk Go.Proofs.Try.prog 34 p34:=pureOk_of kl34_0_ok.base (T:=fun (d:Tys.data as34)=>t34 d.1) (by kernel_rfl) (fun (d:Tys.data as34)=>ok34_t d.1)
def kf34 (P:Go.Program):Known:=(kl34_0 P).func 34 p34
theorem kf34_ok:KnownOk Go.Proofs.Try.prog (kf34 Go.Proofs.Try.prog):=kl34_0_ok.func ok34

/-! ductility/jack.unit -/

abbrev as71:List Ty:=[(.int .i64)]
abbrev rs71:List Ty:=[(.pair (.int .i64) (.pair (.int .i64) (.pair (.int .i64) (.pair (.int .i64) (.pair (.int .i64) (.pair (.int .i64) .unit))))))]

def t71 (x0:Int):Tr (Tys.data rs71) :=
  Tr.test ((decide ((0:Int) ≤ x0) && decide (x0 < (6:Int)):Bool))
    (Tr.test (Nat.ble ((0:Nat) + Int.toNat x0 * (1:Nat) + (1:Nat)) (6:Nat))
      (Tr.fin ((((List.getD (List.set [(0:Int),(0:Int),(0:Int),(0:Int),(0:Int),(0:Int)] ((0:Nat) + Int.toNat x0 * (1:Nat)) (1:Int)) (0:Nat) (0:Int):Int),((List.getD (List.set [(0:Int),(0:Int),(0:Int),(0:Int),(0:Int),(0:Int)] ((0:Nat) + Int.toNat x0 * (1:Nat)) (1:Int)) (1:Nat) (0:Int):Int),((List.getD (List.set [(0:Int),(0:Int),(0:Int),(0:Int),(0:Int),(0:Int)] ((0:Nat) + Int.toNat x0 * (1:Nat)) (1:Int)) (2:Nat) (0:Int):Int),((List.getD (List.set [(0:Int),(0:Int),(0:Int),(0:Int),(0:Int),(0:Int)] ((0:Nat) + Int.toNat x0 * (1:Nat)) (1:Int)) (3:Nat) (0:Int):Int),((List.getD (List.set [(0:Int),(0:Int),(0:Int),(0:Int),(0:Int),(0:Int)] ((0:Nat) + Int.toNat x0 * (1:Nat)) (1:Int)) (4:Nat) (0:Int):Int),((List.getD (List.set [(0:Int),(0:Int),(0:Int),(0:Int),(0:Int),(0:Int)] ((0:Nat) + Int.toNat x0 * (1:Nat)) (1:Int)) (5:Nat) (0:Int):Int),())))))),())))
      (Tr.stop))
    (Tr.stop)

def f71 (d:Tys.data as71):Option (Tys.data rs71):=(t71 d.1).val
def g71 (d:Tys.data as71):Tys.data rs71:=(f71 d).getD (Tys.dflt rs71)
def p71:PureC:=pcOf as71 rs71 f71 g71

theorem w71 (x0:Int):Walks (runPure (kf34 Go.Proofs.Try.prog).orc Go.Proofs.Try.prog 400 71 as71 rs71 (x0,())) (t71 x0) [([true,true],[2,4])] :=
  ⟨by kernel_rfl,trivial⟩

theorem ok71_t (x0:Int):TrOk (PureRuns Go.Proofs.Try.prog (kf34 Go.Proofs.Try.prog).orc 71 as71 rs71 (x0,())) (t71 x0) :=
  Walks.ok (fun _ _ _=>PureRuns.of) (w71 x0) (by kernel_rfl)

theorem ok71:PureOk Go.Proofs.Try.prog 71 p71:=pureOk_of kf34_ok.base (T:=fun (d:Tys.data as71)=>t71 d.1) (by kernel_rfl) (fun (d:Tys.data as71)=>ok71_t d.1)
def kf71 (P:Go.Program):Known:=(kf34 P).func 71 p71
theorem kf71_ok:KnownOk Go.Proofs.Try.prog (kf71 Go.Proofs.Try.prog):=kf34_ok.func ok71

theorem sc36_0:sameRf Go.Proofs.Try.prog 36 0 = true:=sameRf_ok (by kernel_rfl)

/-! loop 0 of (ductility/jack.rig).quantities$1 -/

abbrev sh84_0 (P:Go.Program):Sh:={ n:=37,slots:=[0,1,9,10,11],pats:=[.yld 0,.ptr 1 13 0,.ty (.slice (.pair (.pair (.int .i64) (.pair (.int .i64) (.pair (.int .i64) (.pair (.int .i64) (.pair (.int .i64) (.pair (.int .i64) .unit)))))) (.pair (.pair (.int .i64) (.pair (.int .i64) .unit)) .unit))),.ty (.int .i64),.ty (.int .i64)],boxes:=[.lp (lpOf P 36 0 .ready none 25 [3,4] 2) [.ptr 3 6 0,.ptr 4 1 0],.row [.ty (.slice (.pair (.pair (.int .i64) (.pair (.int .i64) (.pair (.int .i64) (.pair (.int .i64) (.pair (.int .i64) (.pair (.int .i64) .unit)))))) (.pair (.pair (.int .i64) (.pair (.int .i64) .unit)) .unit))),.ty (.int .i64),.ty (.int .i64),.ty (.int .i64),.ty (.int .i64),.ty (.int .i64),.ty (.int .i64),.ty (.int .i64),.ty (.int .i64),.ty (.int .i64),.ty (.int .i64),.ty (.int .i64),.ty (.int .i64)],.dfr,.row [.ty (.int .i64),.ty (.int .i64),.ty (.int .i64),.ty (.int .i64),.ty (.int .i64),.ty (.int .i64)],.row [.ty .bool]] }
abbrev shb84_0 (P:Go.Program):Sh:={ n:=37,slots:=[0,1],pats:=[.yld 0,.ptr 1 13 0],boxes:=[.lp (lpOf P 36 0 .ready none 25 [3,4] 2) [.ptr 3 6 0,.ptr 4 1 0],.row [.ty (.slice (.pair (.pair (.int .i64) (.pair (.int .i64) (.pair (.int .i64) (.pair (.int .i64) (.pair (.int .i64) (.pair (.int .i64) .unit)))))) (.pair (.pair (.int .i64) (.pair (.int .i64) .unit)) .unit))),.ty (.int .i64),.ty (.int .i64),.ty (.int .i64),.ty (.int .i64),.ty (.int .i64),.ty (.int .i64),.ty (.int .i64),.ty (.int .i64),.ty (.int .i64),.ty (.int .i64),.ty (.int .i64),.ty (.int .i64)],.dfr,.row [.ty (.int .i64),.ty (.int .i64),.ty (.int .i64),.ty (.int .i64),.ty (.int .i64),.ty (.int .i64)],.row [.ty .bool]] }
abbrev shr84_0 (P:Go.Program):Sh:={ n:=37,slots:=[],pats:=[],boxes:=[.lp (lpOf P 36 0 .done (some none) 25 [3,4] 2) [.ptr 3 6 0,.ptr 4 1 0],.row [.ty (.slice (.pair (.pair (.int .i64) (.pair (.int .i64) (.pair (.int .i64) (.pair (.int .i64) (.pair (.int .i64) (.pair (.int .i64) .unit)))))) (.pair (.pair (.int .i64) (.pair (.int .i64) .unit)) .unit))),.ty (.int .i64),.ty (.int .i64),.ty (.int .i64),.ty (.int .i64),.ty (.int .i64),.ty (.int .i64),.ty (.int .i64),.ty (.int .i64),.ty (.int .i64),.ty (.int .i64),.ty (.int .i64),.ty (.int .i64)],.dfr,.row [.ty (.int .i64),.ty (.int .i64),.ty (.int .i64),.ty (.int .i64),.ty (.int .i64),.ty (.int .i64)],.row [.ty .bool]] }

abbrev dt84_0:Type:=(List ((Int×Int×Int×Int×Int×Int×PUnit)×(Int×Int×PUnit)×PUnit)×Int×Int×PUnit)×PUnit×(List ((Int×Int×Int×Int×Int×Int×PUnit)×(Int×Int×PUnit)×PUnit)×Int×Int×Int×Int×Int×Int×Int×Int×Int×Int×Int×Int×PUnit)×(Int×Int×Int×Int×Int×Int×PUnit)×(Bool×PUnit)×PUnit
abbrev db84_0:Type:=PUnit×PUnit×(List ((Int×Int×Int×Int×Int×Int×PUnit)×(Int×Int×PUnit)×PUnit)×Int×Int×Int×Int×Int×Int×Int×Int×Int×Int×Int×Int×PUnit)×(Int×Int×Int×Int×Int×Int×PUnit)×(Bool×PUnit)×PUnit
abbrev dr84_0:Type:=PUnit×PUnit×(List ((Int×Int×Int×Int×Int×Int×PUnit)×(Int×Int×PUnit)×PUnit)×Int×Int×Int×Int×Int×Int×Int×Int×Int×Int×Int×Int×PUnit)×(Int×Int×Int×Int×Int×Int×PUnit)×(Bool×PUnit)×PUnit

def t84_0 (x2:(List ((Int×(Int×(Int×(Int×(Int×(Int×Unit))))))×((Int×(Int×Unit))×Unit)))) (x3:Int) (x4:Int) (b1_0:(List ((Int×(Int×(Int×(Int×(Int×(Int×Unit))))))×((Int×(Int×Unit))×Unit)))) (b1_1:Int) (b1_2:Int) (b1_3:Int) (b1_4:Int) (b1_5:Int) (b1_6:Int) (b1_7:Int) (b1_8:Int) (b1_9:Int) (b1_10:Int) (b1_11:Int) (b1_12:Int) (b3_0:Int) (b3_1:Int) (b3_2:Int) (b3_3:Int) (b3_4:Int) (b3_5:Int) (b4_0:Bool):Tr (Out dt84_0 db84_0 dr84_0) :=
  Tr.test ((!leF x3 x4:Bool))
    (Tr.test (decide ((0:Int) ≤ x4) && decide (x4 < (↑(List.length x2):Int)))
      (Tr.test (Option.isSome (f45 ((b3_0,(b3_1,(b3_2,(b3_3,(b3_4,(b3_5,())))))),((((List.getD x2 (Int.toNat x4) (((0:Int),(0:Int),(0:Int),(0:Int),(0:Int),(0:Int),()),((0:Int),(0:Int),()),())).1.1:Int),(((List.getD x2 (Int.toNat x4) (((0:Int),(0:Int),(0:Int),(0:Int),(0:Int),(0:Int),()),((0:Int),(0:Int),()),())).1.2.1:Int),(((List.getD x2 (Int.toNat x4) (((0:Int),(0:Int),(0:Int),(0:Int),(0:Int),(0:Int),()),((0:Int),(0:Int),()),())).1.2.2.1:Int),(((List.getD x2 (Int.toNat x4) (((0:Int),(0:Int),(0:Int),(0:Int),(0:Int),(0:Int),()),((0:Int),(0:Int),()),())).1.2.2.2.1:Int),(((List.getD x2 (Int.toNat x4) (((0:Int),(0:Int),(0:Int),(0:Int),(0:Int),(0:Int),()),((0:Int),(0:Int),()),())).1.2.2.2.2.1:Int),(((List.getD x2 (Int.toNat x4) (((0:Int),(0:Int),(0:Int),(0:Int),(0:Int),(0:Int),()),((0:Int),(0:Int),()),())).1.2.2.2.2.2.1:Int),())))))),()))))
        (let r0:=g45 ((b3_0,(b3_1,(b3_2,(b3_3,(b3_4,(b3_5,())))))),((((List.getD x2 (Int.toNat x4) (((0:Int),(0:Int),(0:Int),(0:Int),(0:Int),(0:Int),()),((0:Int),(0:Int),()),())).1.1:Int),(((List.getD x2 (Int.toNat x4) (((0:Int),(0:Int),(0:Int),(0:Int),(0:Int),(0:Int),()),((0:Int),(0:Int),()),())).1.2.1:Int),(((List.getD x2 (Int.toNat x4) (((0:Int),(0:Int),(0:Int),(0:Int),(0:Int),(0:Int),()),((0:Int),(0:Int),()),())).1.2.2.1:Int),(((List.getD x2 (Int.toNat x4) (((0:Int),(0:Int),(0:Int),(0:Int),(0:Int),(0:Int),()),((0:Int),(0:Int),()),())).1.2.2.2.1:Int),(((List.getD x2 (Int.toNat x4) (((0:Int),(0:Int),(0:Int),(0:Int),(0:Int),(0:Int),()),((0:Int),(0:Int),()),())).1.2.2.2.2.1:Int),(((List.getD x2 (Int.toNat x4) (((0:Int),(0:Int),(0:Int),(0:Int),(0:Int),(0:Int),()),((0:Int),(0:Int),()),())).1.2.2.2.2.2.1:Int),())))))),()));
        Tr.test ((!leF (List.getD x2 (Int.toNat x4) (((0:Int),(0:Int),(0:Int),(0:Int),(0:Int),(0:Int),()),((0:Int),(0:Int),()),())).2.1.1 r0.1:Bool))
          (Tr.fin (.ret ((),((),((b1_0,(b1_1,(b1_2,(b1_3,(b1_4,(b1_5,(b1_6,(b1_7,(b1_8,(b1_9,(b1_10,(b1_11,(b1_12,()))))))))))))),((b3_0,(b3_1,(b3_2,(b3_3,(b3_4,(b3_5,())))))),(((false:Bool),()),())))))))
          (Tr.test ((!leF r0.1 (List.getD x2 (Int.toNat x4) (((0:Int),(0:Int),(0:Int),(0:Int),(0:Int),(0:Int),()),((0:Int),(0:Int),()),())).2.1.2.1:Bool))
            (Tr.fin (.ret ((),((),((b1_0,(b1_1,(b1_2,(b1_3,(b1_4,(b1_5,(b1_6,(b1_7,(b1_8,(b1_9,(b1_10,(b1_11,(b1_12,()))))))))))))),((b3_0,(b3_1,(b3_2,(b3_3,(b3_4,(b3_5,())))))),(((false:Bool),()),())))))))
            (Tr.fin (.again ((x2,(x3,((wrap64 (x4 + (1:Int)):Int),()))),((),((b1_0,(b1_1,(b1_2,(b1_3,(b1_4,(b1_5,(b1_6,(b1_7,(b1_8,(b1_9,(b1_10,(b1_11,(b1_12,()))))))))))))),((b3_0,(b3_1,(b3_2,(b3_3,(b3_4,(b3_5,())))))),((b4_0,()),())))))))))
        (Tr.stop))
      (Tr.stop))
    (Tr.fin (.brk ((),((),((b1_0,(b1_1,(b1_2,(b1_3,(b1_4,(b1_5,(b1_6,(b1_7,(b1_8,(b1_9,(b1_10,(b1_11,(b1_12,()))))))))))))),((b3_0,(b3_1,(b3_2,(b3_3,(b3_4,(b3_5,())))))),((b4_0,()),())))))))

def s84_0 (d:dt84_0):Option (Out dt84_0 db84_0 dr84_0):=(t84_0 d.1.1 d.1.2.1 d.1.2.2.1 d.2.2.1.1 d.2.2.1.2.1 d.2.2.1.2.2.1 d.2.2.1.2.2.2.1 d.2.2.1.2.2.2.2.1 d.2.2.1.2.2.2.2.2.1 d.2.2.1.2.2.2.2.2.2.1 d.2.2.1.2.2.2.2.2.2.2.1 d.2.2.1.2.2.2.2.2.2.2.2.1 d.2.2.1.2.2.2.2.2.2.2.2.2.1 d.2.2.1.2.2.2.2.2.2.2.2.2.2.1 d.2.2.1.2.2.2.2.2.2.2.2.2.2.2.1 d.2.2.1.2.2.2.2.2.2.2.2.2.2.2.2.1 d.2.2.2.1.1 d.2.2.2.1.2.1 d.2.2.2.1.2.2.1 d.2.2.2.1.2.2.2.1 d.2.2.2.1.2.2.2.2.1 d.2.2.2.1.2.2.2.2.2.1 d.2.2.2.2.1.1).val
def l84_0 (d:dt84_0):Option (db84_0 ⊕ dr84_0):=itr s84_0 rounds d
def b84_0 (d:dt84_0):db84_0:=outB (((),((),((([]:List ((Int×Int×Int×Int×Int×Int×PUnit)×(Int×Int×PUnit)×PUnit)),((0:Int),((0:Int),((0:Int),((0:Int),((0:Int),((0:Int),((0:Int),((0:Int),((0:Int),((0:Int),((0:Int),((0:Int),()))))))))))))),(((0:Int),((0:Int),((0:Int),((0:Int),((0:Int),((0:Int),())))))),(((false:Bool),()),())))))) (l84_0 d)
def r84_0 (d:dt84_0):dr84_0:=outR (((),((),((([]:List ((Int×Int×Int×Int×Int×Int×PUnit)×(Int×Int×PUnit)×PUnit)),((0:Int),((0:Int),((0:Int),((0:Int),((0:Int),((0:Int),((0:Int),((0:Int),((0:Int),((0:Int),((0:Int),((0:Int),()))))))))))))),(((0:Int),((0:Int),((0:Int),((0:Int),((0:Int),((0:Int),())))))),(((false:Bool),()),())))))) (l84_0 d)
def lc84_0 (P:Go.Program):LoopC:=lcOf (sh84_0 P) (shb84_0 P) (shr84_0 P) l84_0 b84_0 r84_0

theorem e84_0_0 (x2:(List ((Int×(Int×(Int×(Int×(Int×(Int×Unit))))))×((Int×(Int×Unit))×Unit)))) (x3:Int) (x4:Int) (b1_0:(List ((Int×(Int×(Int×(Int×(Int×(Int×Unit))))))×((Int×(Int×Unit))×Unit)))) (b1_1:Int) (b1_2:Int) (b1_3:Int) (b1_4:Int) (b1_5:Int) (b1_6:Int) (b1_7:Int) (b1_8:Int) (b1_9:Int) (b1_10:Int) (b1_11:Int) (b1_12:Int) (b3_0:Int) (b3_1:Int) (b3_2:Int) (b3_3:Int) (b3_4:Int) (b3_5:Int) (b4_0:Bool):runBody (kf71 Go.Proofs.Try.prog).orc Go.Proofs.Try.prog 400 84 0 (sh84_0 Go.Proofs.Try.prog) (shb84_0 Go.Proofs.Try.prog) (shr84_0 Go.Proofs.Try.prog) ((x2,x3,x4,()),(),(b1_0,b1_1,b1_2,b1_3,b1_4,b1_5,b1_6,b1_7,b1_8,b1_9,b1_10,b1_11,b1_12,()),(b3_0,b3_1,b3_2,b3_3,b3_4,b3_5,()),(b4_0,()),()) [tt,tt,tt,tt,tt,tt,tt,tt,tt,tt,tt,tt] =
    (let r0:=g45 ((b3_0,(b3_1,(b3_2,(b3_3,(b3_4,(b3_5,())))))),((((List.getD x2 (Int.toNat x4) (((0:Int),(0:Int),(0:Int),(0:Int),(0:Int),(0:Int),()),((0:Int),(0:Int),()),())).1.1:Int),(((List.getD x2 (Int.toNat x4) (((0:Int),(0:Int),(0:Int),(0:Int),(0:Int),(0:Int),()),((0:Int),(0:Int),()),())).1.2.1:Int),(((List.getD x2 (Int.toNat x4) (((0:Int),(0:Int),(0:Int),(0:Int),(0:Int),(0:Int),()),((0:Int),(0:Int),()),())).1.2.2.1:Int),(((List.getD x2 (Int.toNat x4) (((0:Int),(0:Int),(0:Int),(0:Int),(0:Int),(0:Int),()),((0:Int),(0:Int),()),())).1.2.2.2.1:Int),(((List.getD x2 (Int.toNat x4) (((0:Int),(0:Int),(0:Int),(0:Int),(0:Int),(0:Int),()),((0:Int),(0:Int),()),())).1.2.2.2.2.1:Int),(((List.getD x2 (Int.toNat x4) (((0:Int),(0:Int),(0:Int),(0:Int),(0:Int),(0:Int),()),((0:Int),(0:Int),()),())).1.2.2.2.2.2.1:Int),())))))),())); some (.ret ((),((),((b1_0,(b1_1,(b1_2,(b1_3,(b1_4,(b1_5,(b1_6,(b1_7,(b1_8,(b1_9,(b1_10,(b1_11,(b1_12,()))))))))))))),((b3_0,(b3_1,(b3_2,(b3_3,(b3_4,(b3_5,())))))),((false,()),()))))),[(sameRf Go.Proofs.Try.prog (nat_lit 36) (nat_lit 0),true),(true,true),(true,true),(!leF (List.getD x2 (Int.toNat x4) (((0:Int),(0:Int),(0:Int),(0:Int),(0:Int),(0:Int),()),((0:Int),(0:Int),()),())).2.1.1 r0.1,true),(!leF (List.getD x2 (Int.toNat x4) (((0:Int),(0:Int),(0:Int),(0:Int),(0:Int),(0:Int),()),((0:Int),(0:Int),()),())).2.1.1 r0.1,true),(!leF (List.getD x2 (Int.toNat x4) (((0:Int),(0:Int),(0:Int),(0:Int),(0:Int),(0:Int),()),((0:Int),(0:Int),()),())).2.1.1 r0.1,true),(!leF (List.getD x2 (Int.toNat x4) (((0:Int),(0:Int),(0:Int),(0:Int),(0:Int),(0:Int),()),((0:Int),(0:Int),()),())).2.1.1 r0.1,true),(!leF (List.getD x2 (Int.toNat x4) (((0:Int),(0:Int),(0:Int),(0:Int),(0:Int),(0:Int),()),((0:Int),(0:Int),()),())).2.1.1 r0.1,true),(Option.isSome (f45 ((b3_0,(b3_1,(b3_2,(b3_3,(b3_4,(b3_5,())))))),((((List.getD x2 (Int.toNat x4) (((0:Int),(0:Int),(0:Int),(0:Int),(0:Int),(0:Int),()),((0:Int),(0:Int),()),())).1.1:Int),(((List.getD x2 (Int.toNat x4) (((0:Int),(0:Int),(0:Int),(0:Int),(0:Int),(0:Int),()),((0:Int),(0:Int),()),())).1.2.1:Int),(((List.getD x2 (Int.toNat x4) (((0:Int),(0:Int),(0:Int),(0:Int),(0:Int),(0:Int),()),((0:Int),(0:Int),()),())).1.2.2.1:Int),(((List.getD x2 (Int.toNat x4) (((0:Int),(0:Int),(0:Int),(0:Int),(0:Int),(0:Int),()),((0:Int),(0:Int),()),())).1.2.2.2.1:Int),(((List.getD x2 (Int.toNat x4) (((0:Int),(0:Int),(0:Int),(0:Int),(0:Int),(0:Int),()),((0:Int),(0:Int),()),())).1.2.2.2.2.1:Int),(((List.getD x2 (Int.toNat x4) (((0:Int),(0:Int),(0:Int),(0:Int),(0:Int),(0:Int),()),((0:Int),(0:Int),()),())).1.2.2.2.2.2.1:Int),())))))),()))),true),(true,true),(true,true),(decide ((0:Int) ≤ x4) && decide (x4 < (↑(List.length x2):Int)),true),(!leF x3 x4,true)])):=by kernel_rfl
theorem e84_0_1 (x2:(List ((Int×(Int×(Int×(Int×(Int×(Int×Unit))))))×((Int×(Int×Unit))×Unit)))) (x3:Int) (x4:Int) (b1_0:(List ((Int×(Int×(Int×(Int×(Int×(Int×Unit))))))×((Int×(Int×Unit))×Unit)))) (b1_1:Int) (b1_2:Int) (b1_3:Int) (b1_4:Int) (b1_5:Int) (b1_6:Int) (b1_7:Int) (b1_8:Int) (b1_9:Int) (b1_10:Int) (b1_11:Int) (b1_12:Int) (b3_0:Int) (b3_1:Int) (b3_2:Int) (b3_3:Int) (b3_4:Int) (b3_5:Int) (b4_0:Bool):runBody (kf71 Go.Proofs.Try.prog).orc Go.Proofs.Try.prog 400 84 0 (sh84_0 Go.Proofs.Try.prog) (shb84_0 Go.Proofs.Try.prog) (shr84_0 Go.Proofs.Try.prog) ((x2,x3,x4,()),(),(b1_0,b1_1,b1_2,b1_3,b1_4,b1_5,b1_6,b1_7,b1_8,b1_9,b1_10,b1_11,b1_12,()),(b3_0,b3_1,b3_2,b3_3,b3_4,b3_5,()),(b4_0,()),()) [tt,tt,tt,tt,tt,ff,ff,ff,ff,ff,tt,tt] =
    (let r0:=g45 ((b3_0,(b3_1,(b3_2,(b3_3,(b3_4,(b3_5,())))))),((((List.getD x2 (Int.toNat x4) (((0:Int),(0:Int),(0:Int),(0:Int),(0:Int),(0:Int),()),((0:Int),(0:Int),()),())).1.1:Int),(((List.getD x2 (Int.toNat x4) (((0:Int),(0:Int),(0:Int),(0:Int),(0:Int),(0:Int),()),((0:Int),(0:Int),()),())).1.2.1:Int),(((List.getD x2 (Int.toNat x4) (((0:Int),(0:Int),(0:Int),(0:Int),(0:Int),(0:Int),()),((0:Int),(0:Int),()),())).1.2.2.1:Int),(((List.getD x2 (Int.toNat x4) (((0:Int),(0:Int),(0:Int),(0:Int),(0:Int),(0:Int),()),((0:Int),(0:Int),()),())).1.2.2.2.1:Int),(((List.getD x2 (Int.toNat x4) (((0:Int),(0:Int),(0:Int),(0:Int),(0:Int),(0:Int),()),((0:Int),(0:Int),()),())).1.2.2.2.2.1:Int),(((List.getD x2 (Int.toNat x4) (((0:Int),(0:Int),(0:Int),(0:Int),(0:Int),(0:Int),()),((0:Int),(0:Int),()),())).1.2.2.2.2.2.1:Int),())))))),())); some (.ret ((),((),((b1_0,(b1_1,(b1_2,(b1_3,(b1_4,(b1_5,(b1_6,(b1_7,(b1_8,(b1_9,(b1_10,(b1_11,(b1_12,()))))))))))))),((b3_0,(b3_1,(b3_2,(b3_3,(b3_4,(b3_5,())))))),((false,()),()))))),[(sameRf Go.Proofs.Try.prog (nat_lit 36) (nat_lit 0),true),(true,true),(!leF r0.1 (List.getD x2 (Int.toNat x4) (((0:Int),(0:Int),(0:Int),(0:Int),(0:Int),(0:Int),()),((0:Int),(0:Int),()),())).2.1.2.1,true),(!leF (List.getD x2 (Int.toNat x4) (((0:Int),(0:Int),(0:Int),(0:Int),(0:Int),(0:Int),()),((0:Int),(0:Int),()),())).2.1.1 r0.1,false),(!leF (List.getD x2 (Int.toNat x4) (((0:Int),(0:Int),(0:Int),(0:Int),(0:Int),(0:Int),()),((0:Int),(0:Int),()),())).2.1.1 r0.1,false),(!leF (List.getD x2 (Int.toNat x4) (((0:Int),(0:Int),(0:Int),(0:Int),(0:Int),(0:Int),()),((0:Int),(0:Int),()),())).2.1.1 r0.1,false),(!leF (List.getD x2 (Int.toNat x4) (((0:Int),(0:Int),(0:Int),(0:Int),(0:Int),(0:Int),()),((0:Int),(0:Int),()),())).2.1.1 r0.1,false),(!leF (List.getD x2 (Int.toNat x4) (((0:Int),(0:Int),(0:Int),(0:Int),(0:Int),(0:Int),()),((0:Int),(0:Int),()),())).2.1.1 r0.1,false),(Option.isSome (f45 ((b3_0,(b3_1,(b3_2,(b3_3,(b3_4,(b3_5,())))))),((((List.getD x2 (Int.toNat x4) (((0:Int),(0:Int),(0:Int),(0:Int),(0:Int),(0:Int),()),((0:Int),(0:Int),()),())).1.1:Int),(((List.getD x2 (Int.toNat x4) (((0:Int),(0:Int),(0:Int),(0:Int),(0:Int),(0:Int),()),((0:Int),(0:Int),()),())).1.2.1:Int),(((List.getD x2 (Int.toNat x4) (((0:Int),(0:Int),(0:Int),(0:Int),(0:Int),(0:Int),()),((0:Int),(0:Int),()),())).1.2.2.1:Int),(((List.getD x2 (Int.toNat x4) (((0:Int),(0:Int),(0:Int),(0:Int),(0:Int),(0:Int),()),((0:Int),(0:Int),()),())).1.2.2.2.1:Int),(((List.getD x2 (Int.toNat x4) (((0:Int),(0:Int),(0:Int),(0:Int),(0:Int),(0:Int),()),((0:Int),(0:Int),()),())).1.2.2.2.2.1:Int),(((List.getD x2 (Int.toNat x4) (((0:Int),(0:Int),(0:Int),(0:Int),(0:Int),(0:Int),()),((0:Int),(0:Int),()),())).1.2.2.2.2.2.1:Int),())))))),()))),true),(true,true),(true,true),(decide ((0:Int) ≤ x4) && decide (x4 < (↑(List.length x2):Int)),true),(!leF x3 x4,true)])):=by kernel_rfl
theorem e84_0_2 (x2:(List ((Int×(Int×(Int×(Int×(Int×(Int×Unit))))))×((Int×(Int×Unit))×Unit)))) (x3:Int) (x4:Int) (b1_0:(List ((Int×(Int×(Int×(Int×(Int×(Int×Unit))))))×((Int×(Int×Unit))×Unit)))) (b1_1:Int) (b1_2:Int) (b1_3:Int) (b1_4:Int) (b1_5:Int) (b1_6:Int) (b1_7:Int) (b1_8:Int) (b1_9:Int) (b1_10:Int) (b1_11:Int) (b1_12:Int) (b3_0:Int) (b3_1:Int) (b3_2:Int) (b3_3:Int) (b3_4:Int) (b3_5:Int) (b4_0:Bool):runBody (kf71 Go.Proofs.Try.prog).orc Go.Proofs.Try.prog 400 84 0 (sh84_0 Go.Proofs.Try.prog) (shb84_0 Go.Proofs.Try.prog) (shr84_0 Go.Proofs.Try.prog) ((x2,x3,x4,()),(),(b1_0,b1_1,b1_2,b1_3,b1_4,b1_5,b1_6,b1_7,b1_8,b1_9,b1_10,b1_11,b1_12,()),(b3_0,b3_1,b3_2,b3_3,b3_4,b3_5,()),(b4_0,()),()) [tt,tt,tt,tt,tt,ff,ff,ff,ff,ff,ff,ff] =
    (let r0:=g45 ((b3_0,(b3_1,(b3_2,(b3_3,(b3_4,(b3_5,())))))),((((List.getD x2 (Int.toNat x4) (((0:Int),(0:Int),(0:Int),(0:Int),(0:Int),(0:Int),()),((0:Int),(0:Int),()),())).1.1:Int),(((List.getD x2 (Int.toNat x4) (((0:Int),(0:Int),(0:Int),(0:Int),(0:Int),(0:Int),()),((0:Int),(0:Int),()),())).1.2.1:Int),(((List.getD x2 (Int.toNat x4) (((0:Int),(0:Int),(0:Int),(0:Int),(0:Int),(0:Int),()),((0:Int),(0:Int),()),())).1.2.2.1:Int),(((List.getD x2 (Int.toNat x4) (((0:Int),(0:Int),(0:Int),(0:Int),(0:Int),(0:Int),()),((0:Int),(0:Int),()),())).1.2.2.2.1:Int),(((List.getD x2 (Int.toNat x4) (((0:Int),(0:Int),(0:Int),(0:Int),(0:Int),(0:Int),()),((0:Int),(0:Int),()),())).1.2.2.2.2.1:Int),(((List.getD x2 (Int.toNat x4) (((0:Int),(0:Int),(0:Int),(0:Int),(0:Int),(0:Int),()),((0:Int),(0:Int),()),())).1.2.2.2.2.2.1:Int),())))))),())); some (.again ((x2,(x3,((wrap64 (x4 + (1:Int)):Int),()))),((),((b1_0,(b1_1,(b1_2,(b1_3,(b1_4,(b1_5,(b1_6,(b1_7,(b1_8,(b1_9,(b1_10,(b1_11,(b1_12,()))))))))))))),((b3_0,(b3_1,(b3_2,(b3_3,(b3_4,(b3_5,())))))),((b4_0,()),()))))),[(sameRf Go.Proofs.Try.prog (nat_lit 36) (nat_lit 0),true),(false,false),(!leF r0.1 (List.getD x2 (Int.toNat x4) (((0:Int),(0:Int),(0:Int),(0:Int),(0:Int),(0:Int),()),((0:Int),(0:Int),()),())).2.1.2.1,false),(!leF (List.getD x2 (Int.toNat x4) (((0:Int),(0:Int),(0:Int),(0:Int),(0:Int),(0:Int),()),((0:Int),(0:Int),()),())).2.1.1 r0.1,false),(!leF (List.getD x2 (Int.toNat x4) (((0:Int),(0:Int),(0:Int),(0:Int),(0:Int),(0:Int),()),((0:Int),(0:Int),()),())).2.1.1 r0.1,false),(!leF (List.getD x2 (Int.toNat x4) (((0:Int),(0:Int),(0:Int),(0:Int),(0:Int),(0:Int),()),((0:Int),(0:Int),()),())).2.1.1 r0.1,false),(!leF (List.getD x2 (Int.toNat x4) (((0:Int),(0:Int),(0:Int),(0:Int),(0:Int),(0:Int),()),((0:Int),(0:Int),()),())).2.1.1 r0.1,false),(!leF (List.getD x2 (Int.toNat x4) (((0:Int),(0:Int),(0:Int),(0:Int),(0:Int),(0:Int),()),((0:Int),(0:Int),()),())).2.1.1 r0.1,false),(Option.isSome (f45 ((b3_0,(b3_1,(b3_2,(b3_3,(b3_4,(b3_5,())))))),((((List.getD x2 (Int.toNat x4) (((0:Int),(0:Int),(0:Int),(0:Int),(0:Int),(0:Int),()),((0:Int),(0:Int),()),())).1.1:Int),(((List.getD x2 (Int.toNat x4) (((0:Int),(0:Int),(0:Int),(0:Int),(0:Int),(0:Int),()),((0:Int),(0:Int),()),())).1.2.1:Int),(((List.getD x2 (Int.toNat x4) (((0:Int),(0:Int),(0:Int),(0:Int),(0:Int),(0:Int),()),((0:Int),(0:Int),()),())).1.2.2.1:Int),(((List.getD x2 (Int.toNat x4) (((0:Int),(0:Int),(0:Int),(0:Int),(0:Int),(0:Int),()),((0:Int),(0:Int),()),())).1.2.2.2.1:Int),(((List.getD x2 (Int.toNat x4) (((0:Int),(0:Int),(0:Int),(0:Int),(0:Int),(0:Int),()),((0:Int),(0:Int),()),())).1.2.2.2.2.1:Int),(((List.getD x2 (Int.toNat x4) (((0:Int),(0:Int),(0:Int),(0:Int),(0:Int),(0:Int),()),((0:Int),(0:Int),()),())).1.2.2.2.2.2.1:Int),())))))),()))),true),(true,true),(true,true),(decide ((0:Int) ≤ x4) && decide (x4 < (↑(List.length x2):Int)),true),(!leF x3 x4,true)])):=by kernel_rfl
theorem e84_0_4 (x2:(List ((Int×(Int×(Int×(Int×(Int×(Int×Unit))))))×((Int×(Int×Unit))×Unit)))) (x3:Int) (x4:Int) (b1_0:(List ((Int×(Int×(Int×(Int×(Int×(Int×Unit))))))×((Int×(Int×Unit))×Unit)))) (b1_1:Int) (b1_2:Int) (b1_3:Int) (b1_4:Int) (b1_5:Int) (b1_6:Int) (b1_7:Int) (b1_8:Int) (b1_9:Int) (b1_10:Int) (b1_11:Int) (b1_12:Int) (b3_0:Int) (b3_1:Int) (b3_2:Int) (b3_3:Int) (b3_4:Int) (b3_5:Int) (b4_0:Bool):runBody (kf71 Go.Proofs.Try.prog).orc Go.Proofs.Try.prog 400 84 0 (sh84_0 Go.Proofs.Try.prog) (shb84_0 Go.Proofs.Try.prog) (shr84_0 Go.Proofs.Try.prog) ((x2,x3,x4,()),(),(b1_0,b1_1,b1_2,b1_3,b1_4,b1_5,b1_6,b1_7,b1_8,b1_9,b1_10,b1_11,b1_12,()),(b3_0,b3_1,b3_2,b3_3,b3_4,b3_5,()),(b4_0,()),()) [ff] =
    (some (.brk ((),((),((b1_0,(b1_1,(b1_2,(b1_3,(b1_4,(b1_5,(b1_6,(b1_7,(b1_8,(b1_9,(b1_10,(b1_11,(b1_12,()))))))))))))),((b3_0,(b3_1,(b3_2,(b3_3,(b3_4,(b3_5,())))))),((b4_0,()),()))))),[(sameRf Go.Proofs.Try.prog (nat_lit 36) (nat_lit 0),true),(!leF x3 x4,false)])):=by kernel_rfl

theorem ok84_0_t (x2:(List ((Int×(Int×(Int×(Int×(Int×(Int×Unit))))))×((Int×(Int×Unit))×Unit)))) (x3:Int) (x4:Int) (b1_0:(List ((Int×(Int×(Int×(Int×(Int×(Int×Unit))))))×((Int×(Int×Unit))×Unit)))) (b1_1:Int) (b1_2:Int) (b1_3:Int) (b1_4:Int) (b1_5:Int) (b1_6:Int) (b1_7:Int) (b1_8:Int) (b1_9:Int) (b1_10:Int) (b1_11:Int) (b1_12:Int) (b3_0:Int) (b3_1:Int) (b3_2:Int) (b3_3:Int) (b3_4:Int) (b3_5:Int) (b4_0:Bool):TrOk (BodyRuns Go.Proofs.Try.prog (kf71 Go.Proofs.Try.prog).orc 84 0 (sh84_0 Go.Proofs.Try.prog) (shb84_0 Go.Proofs.Try.prog) (shr84_0 Go.Proofs.Try.prog) ((x2,x3,x4,()),(),(b1_0,b1_1,b1_2,b1_3,b1_4,b1_5,b1_6,b1_7,b1_8,b1_9,b1_10,b1_11,b1_12,()),(b3_0,b3_1,b3_2,b3_3,b3_4,b3_5,()),(b4_0,()),())) (t84_0 x2 x3 x4 b1_0 b1_1 b1_2 b1_3 b1_4 b1_5 b1_6 b1_7 b1_8 b1_9 b1_10 b1_11 b1_12 b3_0 b3_1 b3_2 b3_3 b3_4 b3_5 b4_0) :=
  TrOk.ofTest (fun h0=>TrOk.ofTest (fun h1=>TrOk.ofTest (fun h4=>TrOk.ofTest (fun h5=>TrOk.ofFin (BodyRuns.of (e84_0_0 x2 x3 x4 b1_0 b1_1 b1_2 b1_3 b1_4 b1_5 b1_6 b1_7 b1_8 b1_9 b1_10 b1_11 b1_12 b3_0 b3_1 b3_2 b3_3 b3_4 b3_5 b4_0) (ac (sc36_0) (ac rfl (ac rfl (ac (nn h5) (ac (nn h5) (ac (nn h5) (ac (nn h5) (ac h5 (ac h4 (ac rfl (ac rfl (ac h1 (ac h0 All.nil))))))))))))))) (fun h5=>TrOk.ofTest (fun h10=>TrOk.ofFin (BodyRuns.of (e84_0_1 x2 x3 x4 b1_0 b1_1 b1_2 b1_3 b1_4 b1_5 b1_6 b1_7 b1_8 b1_9 b1_10 b1_11 b1_12 b3_0 b3_1 b3_2 b3_3 b3_4 b3_5 b4_0) (ac (sc36_0) (ac rfl (ac h10 (ac (nn h5) (ac (nn h5) (ac (nn h5) (ac (nn h5) (ac h5 (ac h4 (ac rfl (ac rfl (ac h1 (ac h0 All.nil))))))))))))))) (fun h10=>TrOk.ofFin (BodyRuns.of (e84_0_2 x2 x3 x4 b1_0 b1_1 b1_2 b1_3 b1_4 b1_5 b1_6 b1_7 b1_8 b1_9 b1_10 b1_11 b1_12 b3_0 b3_1 b3_2 b3_3 b3_4 b3_5 b4_0) (ac (sc36_0) (ac rfl (ac h10 (ac (nn h5) (ac (nn h5) (ac (nn h5) (ac (nn h5) (ac h5 (ac h4 (ac rfl (ac rfl (ac h1 (ac h0 All.nil))))))))))))))))) (fun h4=>TrOk.ofStop)) (fun h1=>TrOk.ofStop)) (fun h0=>TrOk.ofFin (BodyRuns.of (e84_0_4 x2 x3 x4 b1_0 b1_1 b1_2 b1_3 b1_4 b1_5 b1_6 b1_7 b1_8 b1_9 b1_10 b1_11 b1_12 b3_0 b3_1 b3_2 b3_3 b3_4 b3_5 b4_0) (ac (sc36_0) (ac h0 All.nil))))

theorem ok84_0:LoopOk Go.Proofs.Try.prog 84 0 (lc84_0 Go.Proofs.Try.prog):=loopOk_of (sh:=(sh84_0 Go.Proofs.Try.prog)) (shB:=(shb84_0 Go.Proofs.Try.prog)) (shR:=(shr84_0 Go.Proofs.Try.prog)) kf71_ok.base (T:=fun (d:dt84_0)=>t84_0 d.1.1 d.1.2.1 d.1.2.2.1 d.2.2.1.1 d.2.2.1.2.1 d.2.2.1.2.2.1 d.2.2.1.2.2.2.1 d.2.2.1.2.2.2.2.1 d.2.2.1.2.2.2.2.2.1 d.2.2.1.2.2.2.2.2.2.1 d.2.2.1.2.2.2.2.2.2.2.1 d.2.2.1.2.2.2.2.2.2.2.2.1 d.2.2.1.2.2.2.2.2.2.2.2.2.1 d.2.2.1.2.2.2.2.2.2.2.2.2.2.1 d.2.2.1.2.2.2.2.2.2.2.2.2.2.2.1 d.2.2.1.2.2.2.2.2.2.2.2.2.2.2.2.1 d.2.2.2.1.1 d.2.2.2.1.2.1 d.2.2.2.1.2.2.1 d.2.2.2.1.2.2.2.1 d.2.2.2.1.2.2.2.2.1 d.2.2.2.1.2.2.2.2.2.1 d.2.2.2.2.1.1) (by kernel_rfl) rfl (fun (d:dt84_0)=>ok84_0_t d.1.1 d.1.2.1 d.1.2.2.1 d.2.2.1.1 d.2.2.1.2.1 d.2.2.1.2.2.1 d.2.2.1.2.2.2.1 d.2.2.1.2.2.2.2.1 d.2.2.1.2.2.2.2.2.1 d.2.2.1.2.2.2.2.2.2.1 d.2.2.1.2.2.2.2.2.2.2.1 d.2.2.1.2.2.2.2.2.2.2.2.1 d.2.2.1.2.2.2.2.2.2.2.2.2.1 d.2.2.1.2.2.2.2.2.2.2.2.2.2.1 d.2.2.1.2.2.2.2.2.2.2.2.2.2.2.1 d.2.2.1.2.2.2.2.2.2.2.2.2.2.2.2.1 d.2.2.2.1.1 d.2.2.2.1.2.1 d.2.2.2.1.2.2.1 d.2.2.2.1.2.2.2.1 d.2.2.2.1.2.2.2.2.1 d.2.2.2.1.2.2.2.2.2.1 d.2.2.2.2.1.1) (fun _=>rfl)
def kl84_0 (P:Go.Program):Known:=(kf71 P).loop 84 0 (lc84_0 P)
theorem kl84_0_ok:KnownOk Go.Proofs.Try.prog (kl84_0 Go.Proofs.Try.prog):=kf71_ok.loop ok84_0

end Go.Vm.Mo
