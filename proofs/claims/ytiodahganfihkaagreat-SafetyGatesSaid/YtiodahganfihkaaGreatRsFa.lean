import Derived.Test.YtiodahganfihkaaGreatA4
import Derived.KernelRfl
import Derived.Test.YtiodahganfihkaaGreatProg
set_option linter.unusedVariables false
set_option linter.unusedSimpArgs false

namespace Go.Vm.Mo
open Go
set_option linter.unusedVariables false

def kn0 (_:Go.Program):Known:=⟨[],[]⟩

abbrev tt:Bool:=true
abbrev ff:Bool:=false
theorem nn {b v:Bool} (h:(!b) = v):(!b) = !(!v):=not_of (of_not h)
theorem ac {b d:Bool} {r:List (Bool×Bool)} (h:b = d) (t:All r):All ((b, d) :: r):=All.cons h t

theorem plainP:Plain Go.Proofs.Tryz.prog:=by
  have h : (Go.Proofs.Tryz.prog.funcs.toList.all fun fn => !(fn.body.isSome && fn.name == "runtime.NumGoroutine")) = true := by kernel_rfl
  intro f fn hf hb
  have hm:fn ∈ Go.Proofs.Tryz.prog.funcs.toList:=by
    have:=Array.getElem?_eq_some_iff.1 hf
    obtain ⟨hlt,rfl⟩:=this
    simp
  have:=List.all_eq_true.1 h fn hm
  rw [hb] at this
  simpa using this

theorem kn0_ok:KnownOk Go.Proofs.Tryz.prog (kn0 Go.Proofs.Tryz.prog):=⟨plainP,by kernel_rfl,(fun _ h=>by cases h),(fun _ h=>by cases h)⟩

/-! loop 0 of ductility/safety.areWithin -/

abbrev sh94_0:Sh:={ n:=24,slots:=[0,1,9,10,11],pats:=[.ty (.int .i64),.ty (.int .i64),.ty (.slice (.int .i64)),.ty (.int .i64),.ty (.int .i64)],boxes:=[] }
abbrev shb94_0:Sh:={ n:=24,slots:=[],pats:=[],boxes:=[] }
abbrev shr94_0:Sh:={ n:=24,slots:=[6],pats:=[.ty .bool],boxes:=[] }

def t94_0 (x0:Int) (x1:Int) (x2:(List Int)) (x3:Int) (x4:Int):Tr (Out sh94_0.data shb94_0.data shr94_0.data) :=
  Tr.test ((!leF x3 x4:Bool))
    (Tr.test (decide ((0:Int) ≤ x4) && decide (x4 < (↑(List.length x2):Int)))
      (Tr.test ((!leF x0 (List.getD x2 (Int.toNat x4) (0:Int)):Bool))
        (Tr.fin (.ret (((false:Bool),()),())))
        (Tr.test ((!leF (List.getD x2 (Int.toNat x4) (0:Int)) x1:Bool))
          (Tr.fin (.ret (((false:Bool),()),())))
          (Tr.fin (.again ((x0,(x1,(x2,(x3,((wrap64 (x4 + (1:Int)):Int),()))))),())))))
      (Tr.stop))
    (Tr.fin (.brk ((),())))

def s94_0 (d:sh94_0.data):Option (Out sh94_0.data shb94_0.data shr94_0.data):=(t94_0 d.1.1 d.1.2.1 d.1.2.2.1 d.1.2.2.2.1 d.1.2.2.2.2.1).val
def l94_0 (d:sh94_0.data):Option (shb94_0.data ⊕ shr94_0.data):=itr s94_0 rounds d
def b94_0 (d:sh94_0.data):shb94_0.data:=outB shb94_0.dflt (l94_0 d)
def r94_0 (d:sh94_0.data):shr94_0.data:=outR shr94_0.dflt (l94_0 d)
def lc94_0:LoopC:=lcOf sh94_0 shb94_0 shr94_0 l94_0 b94_0 r94_0

theorem wk94_0 (x0:Int) (x1:Int) (x2:(List Int)) (x3:Int) (x4:Int):Walks (runBody (kn0 Go.Proofs.Tryz.prog).orc Go.Proofs.Tryz.prog 400 94 0 sh94_0 shb94_0 shr94_0 ((x0,x1,x2,x3,x4,()),())) (t94_0 x0 x1 x2 x3 x4) [(bl 3 7,[1,2,2,2,2,4,6]),(bl 4 11,[2,4,4,4,4,6,8]),(bl 4 3,[2,4,4,4,4,6,8]),(bl 1 0,[2])] :=
  ⟨by kernel_rfl,by kernel_rfl,by kernel_rfl,by kernel_rfl,trivial⟩

theorem ok94_0_t (x0:Int) (x1:Int) (x2:(List Int)) (x3:Int) (x4:Int):TrOk (BodyRuns Go.Proofs.Tryz.prog (kn0 Go.Proofs.Tryz.prog).orc 94 0 sh94_0 shb94_0 shr94_0 ((x0,x1,x2,x3,x4,()),())) (t94_0 x0 x1 x2 x3 x4) :=
  Walks.ok (fun _ _ _=>BodyRuns.of) (wk94_0 x0 x1 x2 x3 x4) (by kernel_rfl)

theorem ok94_0:LoopOk Go.Proofs.Tryz.prog 94 0 lc94_0:=loopOk_of (sh:=sh94_0) (shB:=shb94_0) (shR:=shr94_0) kn0_ok.base (T:=fun (d:sh94_0.data)=>t94_0 d.1.1 d.1.2.1 d.1.2.2.1 d.1.2.2.2.1 d.1.2.2.2.2.1) (by kernel_rfl) rfl (fun (d:sh94_0.data)=>ok94_0_t d.1.1 d.1.2.1 d.1.2.2.1 d.1.2.2.2.1 d.1.2.2.2.2.1) (fun _=>rfl)
def kl94_0 (P:Go.Program):Known:=(kn0 P).loop 94 0 lc94_0
theorem kl94_0_ok:KnownOk Go.Proofs.Tryz.prog (kl94_0 Go.Proofs.Tryz.prog):=kn0_ok.loop ok94_0

/-! ductility/safety.areWithin -/

abbrev as94:List Ty:=[(.int .i64),(.int .i64),(.slice (.int .i64))]
abbrev rs94:List Ty:=[.bool]

def t94 (x0:Int) (x1:Int) (x2:(List Int)):Tr (Tys.data rs94) :=
  Tr.test (Option.isSome (l94_0 ((x0,(x1,(x2,((↑(List.length x2):Int),((0:Int),()))))),())))
    (Tr.test (isRet (l94_0 ((x0,(x1,(x2,((↑(List.length x2):Int),((0:Int),()))))),())))
      (let r0:=r94_0 ((x0,(x1,(x2,((↑(List.length x2):Int),((0:Int),()))))),());
      Tr.fin ((r0.1.1,())))
      (Tr.fin (((true:Bool),()))))
    (Tr.stop)

def f94 (d:Tys.data as94):Option (Tys.data rs94):=(t94 d.1 d.2.1 d.2.2.1).val
def g94 (d:Tys.data as94):Tys.data rs94:=(f94 d).getD (Tys.dflt rs94)
def p94:PureC:=pcOf as94 rs94 f94 g94

theorem wk94 (x0:Int) (x1:Int) (x2:(List Int)):Walks (runPure (kl94_0 Go.Proofs.Tryz.prog).orc Go.Proofs.Tryz.prog 400 94 as94 rs94 (x0,x1,x2,())) (t94 x0 x1 x2) [(bl 2 3,[2,4]),(bl 2 1,[2,4])] :=
  ⟨by kernel_rfl,by kernel_rfl,trivial⟩

theorem ok94_t (x0:Int) (x1:Int) (x2:(List Int)):TrOk (PureRuns Go.Proofs.Tryz.prog (kl94_0 Go.Proofs.Tryz.prog).orc 94 as94 rs94 (x0,x1,x2,())) (t94 x0 x1 x2) :=
  Walks.ok (fun _ _ _=>PureRuns.of) (wk94 x0 x1 x2) (by kernel_rfl)

theorem ok94:PureOk Go.Proofs.Tryz.prog 94 p94:=pureOk_of kl94_0_ok.base (T:=fun (d:Tys.data as94)=>t94 d.1 d.2.1 d.2.2.1) (by kernel_rfl) (fun (d:Tys.data as94)=>ok94_t d.1 d.2.1 d.2.2.1)
def kf94 (P:Go.Program):Known:=(kl94_0 P).func 94 p94
theorem kf94_ok:KnownOk Go.Proofs.Tryz.prog (kf94 Go.Proofs.Tryz.prog):=kl94_0_ok.func ok94

/-! ductility/safety.isBeyond -/

abbrev as117:List Ty:=[(.int .i64),(.slice (.int .i64))]
abbrev rs117:List Ty:=[.bool]

def t117 (x0:Int) (x1:(List Int)):Tr (Tys.data rs117) :=
  Tr.test (Option.isSome (f94 ((Go.IntKind.wrap Go.IntKind.i64 ((0:Int) - x0):Int),(x0,(x1,())))))
    (let r0:=g94 ((Go.IntKind.wrap Go.IntKind.i64 ((0:Int) - x0):Int),(x0,(x1,())));
    Tr.fin (((!r0.1:Bool),())))
    (Tr.stop)

def f117 (d:Tys.data as117):Option (Tys.data rs117):=(t117 d.1 d.2.1).val
def g117 (d:Tys.data as117):Tys.data rs117:=(f117 d).getD (Tys.dflt rs117)
def p117:PureC:=pcOf as117 rs117 f117 g117

theorem wk117 (x0:Int) (x1:(List Int)):Walks (runPure (kf94 Go.Proofs.Tryz.prog).orc Go.Proofs.Tryz.prog 400 117 as117 rs117 (x0,x1,())) (t117 x0 x1) [(bl 1 1,[2])] :=
  ⟨by kernel_rfl,trivial⟩

theorem ok117_t (x0:Int) (x1:(List Int)):TrOk (PureRuns Go.Proofs.Tryz.prog (kf94 Go.Proofs.Tryz.prog).orc 117 as117 rs117 (x0,x1,())) (t117 x0 x1) :=
  Walks.ok (fun _ _ _=>PureRuns.of) (wk117 x0 x1) (by kernel_rfl)

theorem ok117:PureOk Go.Proofs.Tryz.prog 117 p117:=pureOk_of kf94_ok.base (T:=fun (d:Tys.data as117)=>t117 d.1 d.2.1) (by kernel_rfl) (fun (d:Tys.data as117)=>ok117_t d.1 d.2.1)
def kf117 (P:Go.Program):Known:=(kf94 P).func 117 p117
theorem kf117_ok:KnownOk Go.Proofs.Tryz.prog (kf117 Go.Proofs.Tryz.prog):=kf94_ok.func ok117

/-! ductility/safety.moved -/

abbrev as121:List Ty:=[(.pair (.int .i64) (.pair (.int .i64) (.pair (.int .i64) .unit))),(.int .i64)]
abbrev rs121:List Ty:=[(.pair (.int .i64) (.pair (.int .i64) (.pair (.int .i64) .unit)))]

def t121 (x0:Int) (x0':Int) (x0'':Int) (x1:Int):Tr (Tys.data rs121) :=
  Tr.fin ((((wrap64 (x0 + wrap64 (x0' + x1)):Int),((wrap64 (x0' + x1):Int),(x1,()))),()))

def f121 (d:Tys.data as121):Option (Tys.data rs121):=(t121 d.1.1 d.1.2.1 d.1.2.2.1 d.2.1).val
def g121 (d:Tys.data as121):Tys.data rs121:=(f121 d).getD (Tys.dflt rs121)
def p121:PureC:=pcOf as121 rs121 f121 g121

theorem wk121 (x0:Int) (x0':Int) (x0'':Int) (x1:Int):Walks (runPure (kf117 Go.Proofs.Tryz.prog).orc Go.Proofs.Tryz.prog 400 121 as121 rs121 ((x0,x0',x0'',()),x1,())) (t121 x0 x0' x0'' x1) [(bl 0 0,[])] :=
  ⟨by kernel_rfl,trivial⟩

theorem ok121_t (x0:Int) (x0':Int) (x0'':Int) (x1:Int):TrOk (PureRuns Go.Proofs.Tryz.prog (kf117 Go.Proofs.Tryz.prog).orc 121 as121 rs121 ((x0,x0',x0'',()),x1,())) (t121 x0 x0' x0'' x1) :=
  Walks.ok (fun _ _ _=>PureRuns.of) (wk121 x0 x0' x0'' x1) (by kernel_rfl)

theorem ok121:PureOk Go.Proofs.Tryz.prog 121 p121:=pureOk_of kf117_ok.base (T:=fun (d:Tys.data as121)=>t121 d.1.1 d.1.2.1 d.1.2.2.1 d.2.1) (by kernel_rfl) (fun (d:Tys.data as121)=>ok121_t d.1.1 d.1.2.1 d.1.2.2.1 d.2.1)
def kf121 (P:Go.Program):Known:=(kf117 P).func 121 p121
theorem kf121_ok:KnownOk Go.Proofs.Tryz.prog (kf121 Go.Proofs.Tryz.prog):=kf117_ok.func ok121

/-! (ductility/safety.limits).contain -/

abbrev as160:List Ty:=[(.pair (.pair (.pair (.int .i64) (.pair (.int .i64) .unit)) (.pair (.int .i64) (.pair (.int .i64) (.pair (.int .i64) .unit)))) .unit),(.pair (.int .i64) (.pair (.int .i64) (.pair (.int .i64) .unit)))]
abbrev rs160:List Ty:=[.bool]

def t160 (x0__:Int) (x0__':Int) (x0_':Int) (x0_'':Int) (x0_''':Int) (x1:Int) (x1':Int) (x1'':Int):Tr (Tys.data rs160) :=
  Tr.test (Option.isSome (f94 (x0__,(x0__',(([x1]:List Int),())))))
    (let r0:=g94 (x0__,(x0__',(([x1]:List Int),())));
    Tr.test (r0.1)
      (Tr.test (Option.isSome (f117 (x0_',(([x1']:List Int),()))))
        (let r1:=g117 (x0_',(([x1']:List Int),()));
        Tr.test ((!r1.1:Bool))
          (Tr.test (Option.isSome (f117 (x0_'',(([x1'']:List Int),()))))
            (let r2:=g117 (x0_'',(([x1'']:List Int),()));
            Tr.fin (((!r2.1:Bool),())))
            (Tr.stop))
          (Tr.fin (((false:Bool),()))))
        (Tr.stop))
      (Tr.fin (((false:Bool),()))))
    (Tr.stop)

def f160 (d:Tys.data as160):Option (Tys.data rs160):=(t160 d.1.1.1.1 d.1.1.1.2.1 d.1.1.2.1 d.1.1.2.2.1 d.1.1.2.2.2.1 d.2.1.1 d.2.1.2.1 d.2.1.2.2.1).val
def g160 (d:Tys.data as160):Tys.data rs160:=(f160 d).getD (Tys.dflt rs160)
def p160:PureC:=pcOf as160 rs160 f160 g160

theorem wk160 (x0__:Int) (x0__':Int) (x0_':Int) (x0_'':Int) (x0_''':Int) (x1:Int) (x1':Int) (x1'':Int):Walks (runPure (kf121 Go.Proofs.Tryz.prog).orc Go.Proofs.Tryz.prog 400 160 as160 rs160 ((((x0__,x0__',()),x0_',x0_'',x0_''',()),()),(x1,x1',x1'',()),())) (t160 x0__ x0__' x0_' x0_'' x0_''' x1 x1' x1'') [(bl 5 31,[4,4,2,4,4,4,4,1,4,4,4,8,8,6,8,8,8,8,1,8,8,8,10,1,1]),(bl 4 7,[2,2,2,2,2,2,2,2,2,6,6,4,6,6,6,6,1,6,6,6,8,1,1]),(bl 2 1,[0,0,0,0,0,0,0,0,0,2,2,2,2,2,2,2,2,2,4,1,1])] :=
  ⟨by kernel_rfl,by kernel_rfl,by kernel_rfl,trivial⟩

theorem ok160_t (x0__:Int) (x0__':Int) (x0_':Int) (x0_'':Int) (x0_''':Int) (x1:Int) (x1':Int) (x1'':Int):TrOk (PureRuns Go.Proofs.Tryz.prog (kf121 Go.Proofs.Tryz.prog).orc 160 as160 rs160 ((((x0__,x0__',()),x0_',x0_'',x0_''',()),()),(x1,x1',x1'',()),())) (t160 x0__ x0__' x0_' x0_'' x0_''' x1 x1' x1'') :=
  Walks.ok (fun _ _ _=>PureRuns.of) (wk160 x0__ x0__' x0_' x0_'' x0_''' x1 x1' x1'') (by kernel_rfl)

theorem ok160:PureOk Go.Proofs.Tryz.prog 160 p160:=pureOk_of kf121_ok.base (T:=fun (d:Tys.data as160)=>t160 d.1.1.1.1 d.1.1.1.2.1 d.1.1.2.1 d.1.1.2.2.1 d.1.1.2.2.2.1 d.2.1.1 d.2.1.2.1 d.2.1.2.2.1) (by kernel_rfl) (fun (d:Tys.data as160)=>ok160_t d.1.1.1.1 d.1.1.1.2.1 d.1.1.2.1 d.1.1.2.2.1 d.1.1.2.2.2.1 d.2.1.1 d.2.1.2.1 d.2.1.2.2.1)
def kf160 (P:Go.Program):Known:=(kf121 P).func 160 p160
theorem kf160_ok:KnownOk Go.Proofs.Tryz.prog (kf160 Go.Proofs.Tryz.prog):=kf121_ok.func ok160

/-! (ductility/safety.limits).permit -/

abbrev as120:List Ty:=[(.pair (.pair (.pair (.int .i64) (.pair (.int .i64) .unit)) (.pair (.int .i64) (.pair (.int .i64) (.pair (.int .i64) .unit)))) .unit),(.pair (.int .i64) (.pair (.int .i64) (.pair (.int .i64) .unit))),(.int .i64)]
abbrev rs120:List Ty:=[.bool]

def t120 (x0__:Int) (x0__':Int) (x0_':Int) (x0_'':Int) (x0_''':Int) (x1:Int) (x1':Int) (x1'':Int) (x2:Int):Tr (Tys.data rs120) :=
  Tr.test (Option.isSome (f117 (x0_'',(([x2]:List Int),()))))
    (let r0:=g117 (x0_'',(([x2]:List Int),()));
    Tr.test ((!r0.1:Bool))
      (Tr.test (Option.isSome (f117 (x0_''',(([wrap64 (x2 - x1'')]:List Int),()))))
        (let r1:=g117 (x0_''',(([wrap64 (x2 - x1'')]:List Int),()));
        Tr.test ((!r1.1:Bool))
          (Tr.test (Option.isSome (f121 ((x1,(x1',(x1'',()))),(x2,()))))
            (let r2:=g121 ((x1,(x1',(x1'',()))),(x2,()));
            Tr.test (Option.isSome (f160 ((((x0__,(x0__',())),(x0_',(x0_'',(x0_''',())))),()),((r2.1.1,(r2.1.2.1,(r2.1.2.2.1,()))),()))))
              (let r3:=g160 ((((x0__,(x0__',())),(x0_',(x0_'',(x0_''',())))),()),((r2.1.1,(r2.1.2.1,(r2.1.2.2.1,()))),()));
              Tr.fin ((r3.1,())))
              (Tr.stop))
            (Tr.stop))
          (Tr.fin (((false:Bool),()))))
        (Tr.stop))
      (Tr.fin (((false:Bool),()))))
    (Tr.stop)

def f120 (d:Tys.data as120):Option (Tys.data rs120):=(t120 d.1.1.1.1 d.1.1.1.2.1 d.1.1.2.1 d.1.1.2.2.1 d.1.1.2.2.2.1 d.2.1.1 d.2.1.2.1 d.2.1.2.2.1 d.2.2.1).val
def g120 (d:Tys.data as120):Tys.data rs120:=(f120 d).getD (Tys.dflt rs120)
def p120:PureC:=pcOf as120 rs120 f120 g120

theorem wk120 (x0__:Int) (x0__':Int) (x0_':Int) (x0_'':Int) (x0_''':Int) (x1:Int) (x1':Int) (x1'':Int) (x2:Int):Walks (runPure (kf160 Go.Proofs.Tryz.prog).orc Go.Proofs.Tryz.prog 400 120 as120 rs120 ((((x0__,x0__',()),x0_',x0_'',x0_''',()),()),(x1,x1',x1'',()),x2,())) (t120 x0__ x0__' x0_' x0_'' x0_''' x1 x1' x1'' x2) [(bl 6 63,[6,2,6,4,6,6,6,6,10,10,8,10,10,10,10,10,10,1,10,10,10,12,1]),(bl 4 7,[2,2,2,2,2,2,6,6,4,6,6,6,6,6,6,1,6,6,6,8,1]),(bl 2 1,[0,0,0,0,0,0,2,2,2,2,2,2,2,2,2,2,2,4,1])] :=
  ⟨by kernel_rfl,by kernel_rfl,by kernel_rfl,trivial⟩

theorem ok120_t (x0__:Int) (x0__':Int) (x0_':Int) (x0_'':Int) (x0_''':Int) (x1:Int) (x1':Int) (x1'':Int) (x2:Int):TrOk (PureRuns Go.Proofs.Tryz.prog (kf160 Go.Proofs.Tryz.prog).orc 120 as120 rs120 ((((x0__,x0__',()),x0_',x0_'',x0_''',()),()),(x1,x1',x1'',()),x2,())) (t120 x0__ x0__' x0_' x0_'' x0_''' x1 x1' x1'' x2) :=
  Walks.ok (fun _ _ _=>PureRuns.of) (wk120 x0__ x0__' x0_' x0_'' x0_''' x1 x1' x1'' x2) (by kernel_rfl)

theorem ok120:PureOk Go.Proofs.Tryz.prog 120 p120:=pureOk_of kf160_ok.base (T:=fun (d:Tys.data as120)=>t120 d.1.1.1.1 d.1.1.1.2.1 d.1.1.2.1 d.1.1.2.2.1 d.1.1.2.2.2.1 d.2.1.1 d.2.1.2.1 d.2.1.2.2.1 d.2.2.1) (by kernel_rfl) (fun (d:Tys.data as120)=>ok120_t d.1.1.1.1 d.1.1.1.2.1 d.1.1.2.1 d.1.1.2.2.1 d.1.1.2.2.2.1 d.2.1.1 d.2.1.2.1 d.2.1.2.2.1 d.2.2.1)
def kf120 (P:Go.Program):Known:=(kf160 P).func 120 p120
theorem kf120_ok:KnownOk Go.Proofs.Tryz.prog (kf120 Go.Proofs.Tryz.prog):=kf160_ok.func ok120

/-! ductility/safety.isStopped -/

abbrev as122:List Ty:=[(.pair (.int .i64) (.pair (.int .i64) (.pair (.int .i64) .unit)))]
abbrev rs122:List Ty:=[.bool]

def t122 (x0:Int) (x0':Int) (x0'':Int):Tr (Tys.data rs122) :=
  Tr.test ((eqF x0' 0:Bool))
    (Tr.fin ((eqF x0'' 0,())))
    (Tr.fin ((false,())))

def f122 (d:Tys.data as122):Option (Tys.data rs122):=(t122 d.1.1 d.1.2.1 d.1.2.2.1).val
def g122 (d:Tys.data as122):Tys.data rs122:=(f122 d).getD (Tys.dflt rs122)
def p122:PureC:=pcOf as122 rs122 f122 g122

theorem wk122 (x0:Int) (x0':Int) (x0'':Int):Walks (runPure (kf120 Go.Proofs.Tryz.prog).orc Go.Proofs.Tryz.prog 400 122 as122 rs122 ((x0,x0',x0'',()),())) (t122 x0 x0' x0'') [(bl 1 1,[2,2,2,2]),(bl 1 0,[2,2,2,2])] :=
  ⟨by kernel_rfl,by kernel_rfl,trivial⟩

theorem ok122_t (x0:Int) (x0':Int) (x0'':Int):TrOk (PureRuns Go.Proofs.Tryz.prog (kf120 Go.Proofs.Tryz.prog).orc 122 as122 rs122 ((x0,x0',x0'',()),())) (t122 x0 x0' x0'') :=
  Walks.ok (fun _ _ _=>PureRuns.of) (wk122 x0 x0' x0'') (by kernel_rfl)

theorem ok122:PureOk Go.Proofs.Tryz.prog 122 p122:=pureOk_of kf120_ok.base (T:=fun (d:Tys.data as122)=>t122 d.1.1 d.1.2.1 d.1.2.2.1) (by kernel_rfl) (fun (d:Tys.data as122)=>ok122_t d.1.1 d.1.2.1 d.1.2.2.1)
def kf122 (P:Go.Program):Known:=(kf120 P).func 122 p122
theorem kf122_ok:KnownOk Go.Proofs.Tryz.prog (kf122 Go.Proofs.Tryz.prog):=kf120_ok.func ok122

/-! ductility/ductilitylaw09.awake -/

abbrev as14:List Ty:=[]
abbrev rs14:List Ty:=[.bool]
def f14 (_:Tys.data as14):Option (Tys.data rs14):=some (true,())
def g14 (_:Tys.data as14):Tys.data rs14:=(true,())
def p14:PureC:=pcOf as14 rs14 f14 g14

theorem e14:runAsk (kf122 Go.Proofs.Tryz.prog).orc Go.Proofs.Tryz.prog 400 14 as14 rs14 () none = some ((true,()),[]):=by kernel_rfl
theorem ok14:PureOk Go.Proofs.Tryz.prog 14 p14:=pureOk_closed kf122_ok.base (by kernel_rfl) e14 All.nil
def kf14 (P:Go.Program):Known:=(kf122 P).func 14 p14
theorem kf14_ok:KnownOk Go.Proofs.Tryz.prog (kf14 Go.Proofs.Tryz.prog):=kf122_ok.func ok14

/-! loop 2 of ductility/ductilitylaw09.fewGates -/

abbrev sh57_2:Sh:={ n:=50,slots:=[0,3,4],pats:=[.ty (.slice (.pair .str (.pair (.slice .str) (.pair (.int .i64) .unit)))),.ty (.int .i64),.ty (.int .i64)],boxes:=[] }
abbrev shb57_2:Sh:={ n:=50,slots:=[0,3],pats:=[.ty (.slice (.pair .str (.pair (.slice .str) (.pair (.int .i64) .unit)))),.ty (.int .i64)],boxes:=[] }
abbrev shr57_2:Sh:={ n:=50,slots:=[2],pats:=[.ty .bool],boxes:=[] }

def t57_2 (x0:(List (ByteArray×((List ByteArray)×(Int×Unit))))) (x1:Int) (x2:Int):Tr (Out sh57_2.data shb57_2.data shr57_2.data) :=
  Tr.test ((decide ((0:Int) ≤ x1) && decide (x1 < (↑(List.length x0):Int)):Bool))
    (Tr.test (!leF (↑(List.length (List.getD x0 (Int.toNat x1) ({ data:={ toList:=[] } },[],(0:Int),())).2.1):Int) x2)
      (Tr.test ((decide ((0:Int) ≤ x2) && decide (x2 < (↑(List.length (List.getD x0 (Int.toNat x1) ({ data:={ toList:=[] } },[],(0:Int),())).2.1):Int)):Bool))
        (Tr.test ((!leF (↑(ByteArray.size (List.getD (List.getD x0 (Int.toNat x1) ({ data:={ toList:=[] } },[],(0:Int),())).2.1 (Int.toNat x2) { data:={ toList:=[] } })):Int) (30:Int):Bool))
          (Tr.fin (.ret (((false:Bool),()),())))
          (Tr.fin (.again ((x0,(x1,((wrap64 (x2 + (1:Int)):Int),()))),()))))
        (Tr.stop))
      (Tr.fin (.brk ((x0,(x1,())),()))))
    (Tr.stop)

def s57_2 (d:sh57_2.data):Option (Out sh57_2.data shb57_2.data shr57_2.data):=(t57_2 d.1.1 d.1.2.1 d.1.2.2.1).val
def l57_2 (d:sh57_2.data):Option (shb57_2.data ⊕ shr57_2.data):=itr s57_2 rounds d
def b57_2 (d:sh57_2.data):shb57_2.data:=outB shb57_2.dflt (l57_2 d)
def r57_2 (d:sh57_2.data):shr57_2.data:=outR shr57_2.dflt (l57_2 d)
def lc57_2:LoopC:=lcOf sh57_2 shb57_2 shr57_2 l57_2 b57_2 r57_2

theorem wk57_2 (x0:(List (ByteArray×((List ByteArray)×(Int×Unit))))) (x1:Int) (x2:Int):Walks (runBody (kf14 Go.Proofs.Tryz.prog).orc Go.Proofs.Tryz.prog 400 57 2 sh57_2 shb57_2 shr57_2 ((x0,x1,x2,()),())) (t57_2 x0 x1 x2) [(bl 4 15,[2,4,8,6,8]),(bl 4 7,[2,4,8,6,8]),(bl 2 1,[2,4])] :=
  ⟨by kernel_rfl,by kernel_rfl,by kernel_rfl,trivial⟩

theorem ok57_2_t (x0:(List (ByteArray×((List ByteArray)×(Int×Unit))))) (x1:Int) (x2:Int):TrOk (BodyRuns Go.Proofs.Tryz.prog (kf14 Go.Proofs.Tryz.prog).orc 57 2 sh57_2 shb57_2 shr57_2 ((x0,x1,x2,()),())) (t57_2 x0 x1 x2) :=
  Walks.ok (fun _ _ _=>BodyRuns.of) (wk57_2 x0 x1 x2) (by kernel_rfl)

theorem ok57_2:LoopOk Go.Proofs.Tryz.prog 57 2 lc57_2:=loopOk_of (sh:=sh57_2) (shB:=shb57_2) (shR:=shr57_2) kf14_ok.base (T:=fun (d:sh57_2.data)=>t57_2 d.1.1 d.1.2.1 d.1.2.2.1) (by kernel_rfl) rfl (fun (d:sh57_2.data)=>ok57_2_t d.1.1 d.1.2.1 d.1.2.2.1) (fun _=>rfl)
def kl57_2 (P:Go.Program):Known:=(kf14 P).loop 57 2 lc57_2
theorem kl57_2_ok:KnownOk Go.Proofs.Tryz.prog (kl57_2 Go.Proofs.Tryz.prog):=kf14_ok.loop ok57_2

/-! loop 0 of ductility/ductilitylaw09.fewGates -/

abbrev sh57_0:Sh:={ n:=50,slots:=[0,3],pats:=[.ty (.slice (.pair .str (.pair (.slice .str) (.pair (.int .i64) .unit)))),.ty (.int .i64)],boxes:=[] }
abbrev shb57_0:Sh:={ n:=50,slots:=[],pats:=[],boxes:=[] }
abbrev shr57_0:Sh:={ n:=50,slots:=[2],pats:=[.ty .bool],boxes:=[] }

def t57_0 (x0:(List (ByteArray×((List ByteArray)×(Int×Unit))))) (x1:Int):Tr (Out sh57_0.data shb57_0.data shr57_0.data) :=
  Tr.test ((!leF (↑(List.length x0):Int) x1:Bool))
    (Tr.test (decide ((0:Int) ≤ x1) && decide (x1 < (↑(List.length x0):Int)))
      (Tr.test ((!leF (↑(ByteArray.size (List.getD x0 (Int.toNat x1) ({ data:={ toList:=[] } },[],(0:Int),())).1):Int) (30:Int):Bool))
        (Tr.fin (.ret (((false:Bool),()),())))
        (Tr.test ((!leF (↑(List.length (List.getD x0 (Int.toNat x1) ({ data:={ toList:=[] } },[],(0:Int),())).2.1):Int) (6:Int):Bool))
          (Tr.fin (.ret (((false:Bool),()),())))
          (Tr.test (Option.isSome (l57_2 ((x0,(x1,((0:Int),()))),())))
            (Tr.test (isRet (l57_2 ((x0,(x1,((0:Int),()))),())))
              (let r0:=r57_2 ((x0,(x1,((0:Int),()))),());
              Tr.fin (.ret ((r0.1.1,()),())))
              (let r1:=b57_2 ((x0,(x1,((0:Int),()))),());
              Tr.fin (.again ((r1.1.1,((wrap64 (r1.1.2.1 + (1:Int)):Int),())),()))))
            (Tr.stop))))
      (Tr.stop))
    (Tr.fin (.brk ((),())))

def s57_0 (d:sh57_0.data):Option (Out sh57_0.data shb57_0.data shr57_0.data):=(t57_0 d.1.1 d.1.2.1).val
def l57_0 (d:sh57_0.data):Option (shb57_0.data ⊕ shr57_0.data):=itr s57_0 rounds d
def b57_0 (d:sh57_0.data):shb57_0.data:=outB shb57_0.dflt (l57_0 d)
def r57_0 (d:sh57_0.data):shr57_0.data:=outR shr57_0.dflt (l57_0 d)
def lc57_0:LoopC:=lcOf sh57_0 shb57_0 shr57_0 l57_0 b57_0 r57_0

theorem wk57_0 (x0:(List (ByteArray×((List ByteArray)×(Int×Unit))))) (x1:Int):Walks (runBody (kl57_2 Go.Proofs.Tryz.prog).orc Go.Proofs.Tryz.prog 400 57 0 sh57_0 shb57_0 shr57_0 ((x0,x1,()),())) (t57_0 x0 x1) [(bl 3 7,[1,2,2,2,2,2,2,2,2,4,6]),(bl 4 11,[2,4,4,4,4,4,6,4,4,4,6,8]),(bl 6 51,[2,4,6,8,8,8,8,8,10,8,8,8,10,12]),(bl 6 19,[2,4,6,8,8,8,8,8,10,8,8,8,10,12]),(bl 1 0,[2])] :=
  ⟨by kernel_rfl,by kernel_rfl,by kernel_rfl,by kernel_rfl,by kernel_rfl,trivial⟩

theorem ok57_0_t (x0:(List (ByteArray×((List ByteArray)×(Int×Unit))))) (x1:Int):TrOk (BodyRuns Go.Proofs.Tryz.prog (kl57_2 Go.Proofs.Tryz.prog).orc 57 0 sh57_0 shb57_0 shr57_0 ((x0,x1,()),())) (t57_0 x0 x1) :=
  Walks.ok (fun _ _ _=>BodyRuns.of) (wk57_0 x0 x1) (by kernel_rfl)

theorem ok57_0:LoopOk Go.Proofs.Tryz.prog 57 0 lc57_0:=loopOk_of (sh:=sh57_0) (shB:=shb57_0) (shR:=shr57_0) kl57_2_ok.base (T:=fun (d:sh57_0.data)=>t57_0 d.1.1 d.1.2.1) (by kernel_rfl) rfl (fun (d:sh57_0.data)=>ok57_0_t d.1.1 d.1.2.1) (fun _=>rfl)
def kl57_0 (P:Go.Program):Known:=(kl57_2 P).loop 57 0 lc57_0
theorem kl57_0_ok:KnownOk Go.Proofs.Tryz.prog (kl57_0 Go.Proofs.Tryz.prog):=kl57_2_ok.loop ok57_0

/-! ductility/ductilitylaw09.fewGates -/

abbrev as57:List Ty:=[(.slice (.pair .str (.pair (.slice .str) (.pair (.int .i64) .unit))))]
abbrev rs57:List Ty:=[.bool]

def t57 (x0:(List (ByteArray×((List ByteArray)×(Int×Unit))))):Tr (Tys.data rs57) :=
  Tr.test ((!leF (↑(List.length x0):Int) (8:Int):Bool))
    (Tr.fin ((false,())))
    (Tr.test (Option.isSome (l57_0 ((x0,((0:Int),())),())))
      (Tr.test (isRet (l57_0 ((x0,((0:Int),())),())))
        (let r0:=r57_0 ((x0,((0:Int),())),());
        Tr.fin ((r0.1.1,())))
        (Tr.fin (((true:Bool),()))))
      (Tr.stop))

def f57 (d:Tys.data as57):Option (Tys.data rs57):=(t57 d.1).val
def g57 (d:Tys.data as57):Tys.data rs57:=(f57 d).getD (Tys.dflt rs57)
def p57:PureC:=pcOf as57 rs57 f57 g57

theorem wk57 (x0:(List (ByteArray×((List ByteArray)×(Int×Unit))))):Walks (runPure (kl57_0 Go.Proofs.Tryz.prog).orc Go.Proofs.Tryz.prog 400 57 as57 rs57 (x0,())) (t57 x0) [(bl 1 1,[2]),(bl 3 6,[2,4,6]),(bl 3 2,[2,4,6])] :=
  ⟨by kernel_rfl,by kernel_rfl,by kernel_rfl,trivial⟩

theorem ok57_t (x0:(List (ByteArray×((List ByteArray)×(Int×Unit))))):TrOk (PureRuns Go.Proofs.Tryz.prog (kl57_0 Go.Proofs.Tryz.prog).orc 57 as57 rs57 (x0,())) (t57 x0) :=
  Walks.ok (fun _ _ _=>PureRuns.of) (wk57 x0) (by kernel_rfl)

theorem ok57:PureOk Go.Proofs.Tryz.prog 57 p57:=pureOk_of kl57_0_ok.base (T:=fun (d:Tys.data as57)=>t57 d.1) (by kernel_rfl) (fun (d:Tys.data as57)=>ok57_t d.1)
def kf57 (P:Go.Program):Known:=(kl57_0 P).func 57 p57
theorem kf57_ok:KnownOk Go.Proofs.Tryz.prog (kf57 Go.Proofs.Tryz.prog):=kl57_0_ok.func ok57

/-! loop 0 of ductility/ductilitylaw09.fewSigns -/

abbrev sh58_0:Sh:={ n:=29,slots:=[0,3],pats:=[.ty (.slice (.pair (.int .i64) (.pair .str (.pair .str .unit)))),.ty (.int .i64)],boxes:=[] }
abbrev shb58_0:Sh:={ n:=29,slots:=[],pats:=[],boxes:=[] }
abbrev shr58_0:Sh:={ n:=29,slots:=[2],pats:=[.ty .bool],boxes:=[] }

def t58_0 (x0:(List (Int×(ByteArray×(ByteArray×Unit))))) (x1:Int):Tr (Out sh58_0.data shb58_0.data shr58_0.data) :=
  Tr.test ((!leF (↑(List.length x0):Int) x1:Bool))
    (Tr.test (decide ((0:Int) ≤ x1) && decide (x1 < (↑(List.length x0):Int)))
      (Tr.test ((!leF (↑(ByteArray.size (List.getD x0 (Int.toNat x1) ((0:Int),{ data:={ toList:=[] } },{ data:={ toList:=[] } },())).2.1):Int) (30:Int):Bool))
        (Tr.fin (.ret (((false:Bool),()),())))
        (Tr.test ((!leF (↑(ByteArray.size (List.getD x0 (Int.toNat x1) ((0:Int),{ data:={ toList:=[] } },{ data:={ toList:=[] } },())).2.2.1):Int) (30:Int):Bool))
          (Tr.fin (.ret (((false:Bool),()),())))
          (Tr.fin (.again ((x0,((wrap64 (x1 + (1:Int)):Int),())),())))))
      (Tr.stop))
    (Tr.fin (.brk ((),())))

def s58_0 (d:sh58_0.data):Option (Out sh58_0.data shb58_0.data shr58_0.data):=(t58_0 d.1.1 d.1.2.1).val
def l58_0 (d:sh58_0.data):Option (shb58_0.data ⊕ shr58_0.data):=itr s58_0 rounds d
def b58_0 (d:sh58_0.data):shb58_0.data:=outB shb58_0.dflt (l58_0 d)
def r58_0 (d:sh58_0.data):shr58_0.data:=outR shr58_0.dflt (l58_0 d)
def lc58_0:LoopC:=lcOf sh58_0 shb58_0 shr58_0 l58_0 b58_0 r58_0

theorem wk58_0 (x0:(List (Int×(ByteArray×(ByteArray×Unit))))) (x1:Int):Walks (runBody (kf57 Go.Proofs.Tryz.prog).orc Go.Proofs.Tryz.prog 400 58 0 sh58_0 shb58_0 shr58_0 ((x0,x1,()),())) (t58_0 x0 x1) [(bl 3 7,[1,2,2,2,2,2,2,2,2,4,6]),(bl 4 11,[2,4,4,4,4,4,6,4,4,4,6,8]),(bl 4 3,[2,4,4,4,4,4,6,4,4,4,6,8]),(bl 1 0,[2])] :=
  ⟨by kernel_rfl,by kernel_rfl,by kernel_rfl,by kernel_rfl,trivial⟩

theorem ok58_0_t (x0:(List (Int×(ByteArray×(ByteArray×Unit))))) (x1:Int):TrOk (BodyRuns Go.Proofs.Tryz.prog (kf57 Go.Proofs.Tryz.prog).orc 58 0 sh58_0 shb58_0 shr58_0 ((x0,x1,()),())) (t58_0 x0 x1) :=
  Walks.ok (fun _ _ _=>BodyRuns.of) (wk58_0 x0 x1) (by kernel_rfl)

theorem ok58_0:LoopOk Go.Proofs.Tryz.prog 58 0 lc58_0:=loopOk_of (sh:=sh58_0) (shB:=shb58_0) (shR:=shr58_0) kf57_ok.base (T:=fun (d:sh58_0.data)=>t58_0 d.1.1 d.1.2.1) (by kernel_rfl) rfl (fun (d:sh58_0.data)=>ok58_0_t d.1.1 d.1.2.1) (fun _=>rfl)
def kl58_0 (P:Go.Program):Known:=(kf57 P).loop 58 0 lc58_0
theorem kl58_0_ok:KnownOk Go.Proofs.Tryz.prog (kl58_0 Go.Proofs.Tryz.prog):=kf57_ok.loop ok58_0

/-! ductility/ductilitylaw09.fewSigns -/

abbrev as58:List Ty:=[(.slice (.pair (.int .i64) (.pair .str (.pair .str .unit))))]
abbrev rs58:List Ty:=[.bool]

def t58 (x0:(List (Int×(ByteArray×(ByteArray×Unit))))):Tr (Tys.data rs58) :=
  Tr.test ((!leF (↑(List.length x0):Int) (22:Int):Bool))
    (Tr.fin ((false,())))
    (Tr.test (Option.isSome (l58_0 ((x0,((0:Int),())),())))
      (Tr.test (isRet (l58_0 ((x0,((0:Int),())),())))
        (let r0:=r58_0 ((x0,((0:Int),())),());
        Tr.fin ((r0.1.1,())))
        (Tr.fin (((true:Bool),()))))
      (Tr.stop))

def f58 (d:Tys.data as58):Option (Tys.data rs58):=(t58 d.1).val
def g58 (d:Tys.data as58):Tys.data rs58:=(f58 d).getD (Tys.dflt rs58)
def p58:PureC:=pcOf as58 rs58 f58 g58

theorem wk58 (x0:(List (Int×(ByteArray×(ByteArray×Unit))))):Walks (runPure (kl58_0 Go.Proofs.Tryz.prog).orc Go.Proofs.Tryz.prog 400 58 as58 rs58 (x0,())) (t58 x0) [(bl 1 1,[2]),(bl 3 6,[2,4,6]),(bl 3 2,[2,4,6])] :=
  ⟨by kernel_rfl,by kernel_rfl,by kernel_rfl,trivial⟩

theorem ok58_t (x0:(List (Int×(ByteArray×(ByteArray×Unit))))):TrOk (PureRuns Go.Proofs.Tryz.prog (kl58_0 Go.Proofs.Tryz.prog).orc 58 as58 rs58 (x0,())) (t58 x0) :=
  Walks.ok (fun _ _ _=>PureRuns.of) (wk58 x0) (by kernel_rfl)

theorem ok58:PureOk Go.Proofs.Tryz.prog 58 p58:=pureOk_of kl58_0_ok.base (T:=fun (d:Tys.data as58)=>t58 d.1) (by kernel_rfl) (fun (d:Tys.data as58)=>ok58_t d.1)
def kf58 (P:Go.Program):Known:=(kl58_0 P).func 58 p58
theorem kf58_ok:KnownOk Go.Proofs.Tryz.prog (kf58 Go.Proofs.Tryz.prog):=kl58_0_ok.func ok58

/-! ductility/ductilitybase.CopyTexts -/

abbrev as89:List Ty:=[(.slice .str)]
abbrev rs89:List Ty:=[(.slice .str)]

def t89 (x0:(List ByteArray)):Tr (Tys.data rs89) :=
  Tr.test ((Nat.ble (((2:Nat) * ((0:Nat) + List.length x0) + (192:Nat)) * (16:Nat)) (281474976710656:Nat) && Nat.ble ((0:Nat) + List.length x0) (281474976710656:Nat):Bool))
    (Tr.fin ((([]++x0:List ByteArray),())))
    (Tr.test (Nat.ble ((0:Nat) + List.length x0) (0:Nat))
      (Tr.stop)
      (Tr.stop))

def f89 (d:Tys.data as89):Option (Tys.data rs89):=(t89 d.1).val
def g89 (d:Tys.data as89):Tys.data rs89:=(f89 d).getD (Tys.dflt rs89)
def p89:PureC:=pcOf as89 rs89 f89 g89

theorem wk89 (x0:(List ByteArray)):Walks (runPure (kf58 Go.Proofs.Tryz.prog).orc Go.Proofs.Tryz.prog 400 89 as89 rs89 (x0,())) (t89 x0) [(bl 1 1,[2])] :=
  ⟨by kernel_rfl,trivial⟩

theorem ok89_t (x0:(List ByteArray)):TrOk (PureRuns Go.Proofs.Tryz.prog (kf58 Go.Proofs.Tryz.prog).orc 89 as89 rs89 (x0,())) (t89 x0) :=
  Walks.ok (fun _ _ _=>PureRuns.of) (wk89 x0) (by kernel_rfl)

theorem ok89:PureOk Go.Proofs.Tryz.prog 89 p89:=pureOk_of kf58_ok.base (T:=fun (d:Tys.data as89)=>t89 d.1) (by kernel_rfl) (fun (d:Tys.data as89)=>ok89_t d.1)
def kf89 (P:Go.Program):Known:=(kf58 P).func 89 p89
theorem kf89_ok:KnownOk Go.Proofs.Tryz.prog (kf89 Go.Proofs.Tryz.prog):=kf58_ok.func ok89

/-! loop 0 of ductility/ductilityref09.CopyGates -/

abbrev sh60_0:Sh:={ n:=32,slots:=[0,3,4],pats:=[.ty (.slice (.pair .str (.pair (.slice .str) (.pair (.int .i64) .unit)))),.acc (.pair .str (.pair (.slice .str) (.pair (.int .i64) .unit))),.ty (.int .i64)],boxes:=[] }
abbrev shb60_0:Sh:={ n:=32,slots:=[3],pats:=[.acc (.pair .str (.pair (.slice .str) (.pair (.int .i64) .unit)))],boxes:=[] }
abbrev shr60_0:Sh:={ n:=32,slots:=[],pats:=[],boxes:=[] }

def t60_0 (x0:(List (ByteArray×((List ByteArray)×(Int×Unit))))) (x1:(List (ByteArray×((List ByteArray)×(Int×Unit))))) (x2:Int):Tr (Out sh60_0.data shb60_0.data shr60_0.data) :=
  Tr.test ((!leF (↑(List.length x0):Int) x2:Bool))
    (Tr.test (decide ((0:Int) ≤ x2) && decide (x2 < (↑(List.length x0):Int)))
      (Tr.test (Option.isSome (f89 (((List.getD x0 (Int.toNat x2) ({ data:={ toList:=[] } },[],(0:Int),())).2.1:List ByteArray),())))
        (Tr.test ((Nat.ble (((2:Nat) * (List.length x1 + (1:Nat)) + (192:Nat)) * (48:Nat)) (281474976710656:Nat) && Nat.ble (List.length x1 + (1:Nat)) (281474976710656:Nat):Bool))
          (let r0:=g89 (((List.getD x0 (Int.toNat x2) ({ data:={ toList:=[] } },[],(0:Int),())).2.1:List ByteArray),());
          Tr.fin (.again ((x0,((x1++[((List.getD x0 (Int.toNat x2) ({ data:={ toList:=[] } },[],(0:Int),())).1,r0.1,(List.getD x0 (Int.toNat x2) ({ data:={ toList:=[] } },[],(0:Int),())).2.2.1,())]:List (ByteArray×List ByteArray×Int×PUnit)),((wrap64 (x2 + (1:Int)):Int),()))),())))
          (Tr.stop))
        (Tr.stop))
      (Tr.stop))
    (Tr.fin (.brk ((x1,()),())))

def s60_0 (d:sh60_0.data):Option (Out sh60_0.data shb60_0.data shr60_0.data):=(t60_0 d.1.1 d.1.2.1 d.1.2.2.1).val
def l60_0 (d:sh60_0.data):Option (shb60_0.data ⊕ shr60_0.data):=itr s60_0 rounds d
def b60_0 (d:sh60_0.data):shb60_0.data:=outB shb60_0.dflt (l60_0 d)
def lc60_0:LoopC:=lcB sh60_0 shb60_0 shr60_0 l60_0 b60_0

theorem wk60_0 (x0:(List (ByteArray×((List ByteArray)×(Int×Unit))))) (x1:(List (ByteArray×((List ByteArray)×(Int×Unit))))) (x2:Int):Walks (runBody (kf89 Go.Proofs.Tryz.prog).orc Go.Proofs.Tryz.prog 400 60 0 sh60_0 shb60_0 shr60_0 ((x0,x1,x2,()),())) (t60_0 x0 x1 x2) [(bl 4 15,[2,4,6,6,6,8]),(bl 1 0,[2])] :=
  ⟨by kernel_rfl,by kernel_rfl,trivial⟩

theorem ok60_0_t (x0:(List (ByteArray×((List ByteArray)×(Int×Unit))))) (x1:(List (ByteArray×((List ByteArray)×(Int×Unit))))) (x2:Int):TrOk (BodyRuns Go.Proofs.Tryz.prog (kf89 Go.Proofs.Tryz.prog).orc 60 0 sh60_0 shb60_0 shr60_0 ((x0,x1,x2,()),())) (t60_0 x0 x1 x2) :=
  Walks.ok (fun _ _ _=>BodyRuns.of) (wk60_0 x0 x1 x2) (by kernel_rfl)

theorem ok60_0:LoopOk Go.Proofs.Tryz.prog 60 0 lc60_0:=loopOk_ofB (sh:=sh60_0) (shB:=shb60_0) (shR:=shr60_0) kf89_ok.base (T:=fun (d:sh60_0.data)=>t60_0 d.1.1 d.1.2.1 d.1.2.2.1) (by kernel_rfl) rfl (fun (d:sh60_0.data)=>ok60_0_t d.1.1 d.1.2.1 d.1.2.2.1) (fun _=>rfl)
def kl60_0 (P:Go.Program):Known:=(kf89 P).loop 60 0 lc60_0
theorem kl60_0_ok:KnownOk Go.Proofs.Tryz.prog (kl60_0 Go.Proofs.Tryz.prog):=kf89_ok.loop ok60_0

/-! ductility/ductilityref09.CopyGates -/

abbrev as60:List Ty:=[(.slice (.pair .str (.pair (.slice .str) (.pair (.int .i64) .unit))))]
abbrev rs60:List Ty:=[(.slice (.pair .str (.pair (.slice .str) (.pair (.int .i64) .unit))))]

def t60 (x0:(List (ByteArray×((List ByteArray)×(Int×Unit))))):Tr (Tys.data rs60) :=
  Tr.test (isBrk (l60_0 ((x0,(([]:List (ByteArray×List ByteArray×Int×PUnit)),((0:Int),()))),())))
    (let r0:=b60_0 ((x0,(([]:List (ByteArray×List ByteArray×Int×PUnit)),((0:Int),()))),());
    Tr.fin ((r0.1.1,())))
    (Tr.stop)

def f60 (d:Tys.data as60):Option (Tys.data rs60):=(t60 d.1).val
def g60 (d:Tys.data as60):Tys.data rs60:=(f60 d).getD (Tys.dflt rs60)
def p60:PureC:=pcOf as60 rs60 f60 g60

theorem wk60 (x0:(List (ByteArray×((List ByteArray)×(Int×Unit))))):Walks (runPure (kl60_0 Go.Proofs.Tryz.prog).orc Go.Proofs.Tryz.prog 400 60 as60 rs60 (x0,())) (t60 x0) [(bl 1 1,[1,2])] :=
  ⟨by kernel_rfl,trivial⟩

theorem ok60_t (x0:(List (ByteArray×((List ByteArray)×(Int×Unit))))):TrOk (PureRuns Go.Proofs.Tryz.prog (kl60_0 Go.Proofs.Tryz.prog).orc 60 as60 rs60 (x0,())) (t60 x0) :=
  Walks.ok (fun _ _ _=>PureRuns.of) (wk60 x0) (by kernel_rfl)

theorem ok60:PureOk Go.Proofs.Tryz.prog 60 p60:=pureOk_of kl60_0_ok.base (T:=fun (d:Tys.data as60)=>t60 d.1) (by kernel_rfl) (fun (d:Tys.data as60)=>ok60_t d.1)
def kf60 (P:Go.Program):Known:=(kl60_0 P).func 60 p60
theorem kf60_ok:KnownOk Go.Proofs.Tryz.prog (kf60 Go.Proofs.Tryz.prog):=kl60_0_ok.func ok60

/-! ductility/safety.when -/

abbrev as80:List Ty:=[.bool,(.int .i64)]
abbrev rs80:List Ty:=[(.int .i64)]

def t80 (x0:Bool) (x1:Int):Tr (Tys.data rs80) :=
  Tr.test (x0)
    (Tr.fin ((x1,())))
    (Tr.fin (((0:Int),())))

def f80 (d:Tys.data as80):Option (Tys.data rs80):=(t80 d.1 d.2.1).val
def g80 (d:Tys.data as80):Tys.data rs80:=(f80 d).getD (Tys.dflt rs80)
def p80:PureC:=pcOf as80 rs80 f80 g80

theorem wk80 (x0:Bool) (x1:Int):Walks (runPure (kf60 Go.Proofs.Tryz.prog).orc Go.Proofs.Tryz.prog 400 80 as80 rs80 (x0,x1,())) (t80 x0 x1) [(bl 1 1,[2]),(bl 1 0,[2])] :=
  ⟨by kernel_rfl,by kernel_rfl,trivial⟩

theorem ok80_t (x0:Bool) (x1:Int):TrOk (PureRuns Go.Proofs.Tryz.prog (kf60 Go.Proofs.Tryz.prog).orc 80 as80 rs80 (x0,x1,())) (t80 x0 x1) :=
  Walks.ok (fun _ _ _=>PureRuns.of) (wk80 x0 x1) (by kernel_rfl)

theorem ok80:PureOk Go.Proofs.Tryz.prog 80 p80:=pureOk_of kf60_ok.base (T:=fun (d:Tys.data as80)=>t80 d.1 d.2.1) (by kernel_rfl) (fun (d:Tys.data as80)=>ok80_t d.1 d.2.1)
def kf80 (P:Go.Program):Known:=(kf60 P).func 80 p80
theorem kf80_ok:KnownOk Go.Proofs.Tryz.prog (kf80 Go.Proofs.Tryz.prog):=kf60_ok.func ok80

/-! loop 0 of ductility/safety.firstOf -/

abbrev sh79_0:Sh:={ n:=15,slots:=[5,6,7],pats:=[.ty (.slice (.int .i64)),.ty (.int .i64),.ty (.int .i64)],boxes:=[] }
abbrev shb79_0:Sh:={ n:=15,slots:=[],pats:=[],boxes:=[] }
abbrev shr79_0:Sh:={ n:=15,slots:=[2],pats:=[.ty (.int .i64)],boxes:=[] }

def t79_0 (x0:(List Int)) (x1:Int) (x2:Int):Tr (Out sh79_0.data shb79_0.data shr79_0.data) :=
  Tr.test ((!leF x1 x2:Bool))
    (Tr.test (decide ((0:Int) ≤ x2) && decide (x2 < (↑(List.length x0):Int)))
      (Tr.test ((!eqF (List.getD x0 (Int.toNat x2) (0:Int)) (0:Int):Bool))
        (Tr.fin (.ret (((List.getD x0 (Int.toNat x2) (0:Int):Int),()),())))
        (Tr.fin (.again ((x0,(x1,((wrap64 (x2 + (1:Int)):Int),()))),()))))
      (Tr.stop))
    (Tr.fin (.brk ((),())))

def s79_0 (d:sh79_0.data):Option (Out sh79_0.data shb79_0.data shr79_0.data):=(t79_0 d.1.1 d.1.2.1 d.1.2.2.1).val
def l79_0 (d:sh79_0.data):Option (shb79_0.data ⊕ shr79_0.data):=itr s79_0 rounds d
def b79_0 (d:sh79_0.data):shb79_0.data:=outB shb79_0.dflt (l79_0 d)
def r79_0 (d:sh79_0.data):shr79_0.data:=outR shr79_0.dflt (l79_0 d)
def lc79_0:LoopC:=lcOf sh79_0 shb79_0 shr79_0 l79_0 b79_0 r79_0

theorem wk79_0 (x0:(List Int)) (x1:Int) (x2:Int):Walks (runBody (kf80 Go.Proofs.Tryz.prog).orc Go.Proofs.Tryz.prog 400 79 0 sh79_0 shb79_0 shr79_0 ((x0,x1,x2,()),())) (t79_0 x0 x1 x2) [(bl 3 7,[2,4,6]),(bl 3 3,[2,4,6]),(bl 1 0,[2])] :=
  ⟨by kernel_rfl,by kernel_rfl,by kernel_rfl,trivial⟩

theorem ok79_0_t (x0:(List Int)) (x1:Int) (x2:Int):TrOk (BodyRuns Go.Proofs.Tryz.prog (kf80 Go.Proofs.Tryz.prog).orc 79 0 sh79_0 shb79_0 shr79_0 ((x0,x1,x2,()),())) (t79_0 x0 x1 x2) :=
  Walks.ok (fun _ _ _=>BodyRuns.of) (wk79_0 x0 x1 x2) (by kernel_rfl)

theorem ok79_0:LoopOk Go.Proofs.Tryz.prog 79 0 lc79_0:=loopOk_of (sh:=sh79_0) (shB:=shb79_0) (shR:=shr79_0) kf80_ok.base (T:=fun (d:sh79_0.data)=>t79_0 d.1.1 d.1.2.1 d.1.2.2.1) (by kernel_rfl) rfl (fun (d:sh79_0.data)=>ok79_0_t d.1.1 d.1.2.1 d.1.2.2.1) (fun _=>rfl)
def kl79_0 (P:Go.Program):Known:=(kf80 P).loop 79 0 lc79_0
theorem kl79_0_ok:KnownOk Go.Proofs.Tryz.prog (kl79_0 Go.Proofs.Tryz.prog):=kf80_ok.loop ok79_0

/-! ductility/safety.firstOf -/

abbrev as79:List Ty:=[(.slice (.int .i64))]
abbrev rs79:List Ty:=[(.int .i64)]

def t79 (x0:(List Int)):Tr (Tys.data rs79) :=
  Tr.test (Option.isSome (l79_0 ((x0,((↑(List.length x0):Int),((0:Int),()))),())))
    (Tr.test (isRet (l79_0 ((x0,((↑(List.length x0):Int),((0:Int),()))),())))
      (let r0:=r79_0 ((x0,((↑(List.length x0):Int),((0:Int),()))),());
      Tr.fin ((r0.1.1,())))
      (Tr.fin (((0:Int),()))))
    (Tr.stop)

def f79 (d:Tys.data as79):Option (Tys.data rs79):=(t79 d.1).val
def g79 (d:Tys.data as79):Tys.data rs79:=(f79 d).getD (Tys.dflt rs79)
def p79:PureC:=pcOf as79 rs79 f79 g79

theorem wk79 (x0:(List Int)):Walks (runPure (kl79_0 Go.Proofs.Tryz.prog).orc Go.Proofs.Tryz.prog 400 79 as79 rs79 (x0,())) (t79 x0) [(bl 2 3,[2,4]),(bl 2 1,[2,4])] :=
  ⟨by kernel_rfl,by kernel_rfl,trivial⟩

theorem ok79_t (x0:(List Int)):TrOk (PureRuns Go.Proofs.Tryz.prog (kl79_0 Go.Proofs.Tryz.prog).orc 79 as79 rs79 (x0,())) (t79 x0) :=
  Walks.ok (fun _ _ _=>PureRuns.of) (wk79 x0) (by kernel_rfl)

theorem ok79:PureOk Go.Proofs.Tryz.prog 79 p79:=pureOk_of kl79_0_ok.base (T:=fun (d:Tys.data as79)=>t79 d.1) (by kernel_rfl) (fun (d:Tys.data as79)=>ok79_t d.1)
def kf79 (P:Go.Program):Known:=(kl79_0 P).func 79 p79
theorem kf79_ok:KnownOk Go.Proofs.Tryz.prog (kf79 Go.Proofs.Tryz.prog):=kl79_0_ok.func ok79

/-! ductility/safety.isLetter -/

abbrev as182:List Ty:=[(.int .u8)]
abbrev rs182:List Ty:=[.bool]

def t182 (x0:Int):Tr (Tys.data rs182) :=
  Tr.test ((decide ((97:Int) ≤ x0):Bool))
    (Tr.test (decide (x0 ≤ (122:Int)))
      (Tr.fin (((true:Bool),())))
      (Tr.test ((decide ((65:Int) ≤ x0):Bool))
        (Tr.fin (((decide (x0 ≤ (90:Int)):Bool),())))
        (Tr.fin (((false:Bool),())))))
    (Tr.test (decide ((65:Int) ≤ x0))
      (Tr.fin (((decide (x0 ≤ (90:Int)):Bool),())))
      (Tr.fin (((false:Bool),()))))

def f182 (d:Tys.data as182):Option (Tys.data rs182):=(t182 d.1).val
def g182 (d:Tys.data as182):Tys.data rs182:=(f182 d).getD (Tys.dflt rs182)
def p182:PureC:=pcOf as182 rs182 f182 g182

theorem wk182 (x0:Int):Walks (runPure (kf79 Go.Proofs.Tryz.prog).orc Go.Proofs.Tryz.prog 400 182 as182 rs182 (x0,())) (t182 x0) [(bl 2 3,[2,2,2,2,2,4,4,4]),(bl 3 5,[4,2,4,2,2,4,4,4,6,6,6]),(bl 3 1,[4,2,4,2,2,4,4,4,6,6,6]),(bl 2 2,[0,2,0,2,2,0,0,0,4,4,4]),(bl 2 0,[0,2,0,2,2,0,0,0,4,4,4])] :=
  ⟨by kernel_rfl,by kernel_rfl,by kernel_rfl,by kernel_rfl,by kernel_rfl,trivial⟩

theorem ok182_t (x0:Int):TrOk (PureRuns Go.Proofs.Tryz.prog (kf79 Go.Proofs.Tryz.prog).orc 182 as182 rs182 (x0,())) (t182 x0) :=
  Walks.ok (fun _ _ _=>PureRuns.of) (wk182 x0) (by kernel_rfl)

theorem ok182:PureOk Go.Proofs.Tryz.prog 182 p182:=pureOk_of kf79_ok.base (T:=fun (d:Tys.data as182)=>t182 d.1) (by kernel_rfl) (fun (d:Tys.data as182)=>ok182_t d.1)
def kf182 (P:Go.Program):Known:=(kf79 P).func 182 p182
theorem kf182_ok:KnownOk Go.Proofs.Tryz.prog (kf182 Go.Proofs.Tryz.prog):=kf79_ok.func ok182

/-! ductility/safety.isDigit -/

abbrev as183:List Ty:=[(.int .u8)]
abbrev rs183:List Ty:=[.bool]

def t183 (x0:Int):Tr (Tys.data rs183) :=
  Tr.test ((decide ((48:Int) ≤ x0):Bool))
    (Tr.fin ((decide (x0 ≤ (57:Int)),())))
    (Tr.fin ((false,())))

def f183 (d:Tys.data as183):Option (Tys.data rs183):=(t183 d.1).val
def g183 (d:Tys.data as183):Tys.data rs183:=(f183 d).getD (Tys.dflt rs183)
def p183:PureC:=pcOf as183 rs183 f183 g183

theorem wk183 (x0:Int):Walks (runPure (kf182 Go.Proofs.Tryz.prog).orc Go.Proofs.Tryz.prog 400 183 as183 rs183 (x0,())) (t183 x0) [(bl 1 1,[2,2,2]),(bl 1 0,[2,2,2])] :=
  ⟨by kernel_rfl,by kernel_rfl,trivial⟩

theorem ok183_t (x0:Int):TrOk (PureRuns Go.Proofs.Tryz.prog (kf182 Go.Proofs.Tryz.prog).orc 183 as183 rs183 (x0,())) (t183 x0) :=
  Walks.ok (fun _ _ _=>PureRuns.of) (wk183 x0) (by kernel_rfl)

theorem ok183:PureOk Go.Proofs.Tryz.prog 183 p183:=pureOk_of kf182_ok.base (T:=fun (d:Tys.data as183)=>t183 d.1) (by kernel_rfl) (fun (d:Tys.data as183)=>ok183_t d.1)
def kf183 (P:Go.Program):Known:=(kf182 P).func 183 p183
theorem kf183_ok:KnownOk Go.Proofs.Tryz.prog (kf183 Go.Proofs.Tryz.prog):=kf182_ok.func ok183

/-! loop 0 of ductility/safety.isName -/

abbrev sh142_0:Sh:={ n:=39,slots:=[20,21,22],pats:=[.ty (.slice (.int .u8)),.ty (.int .i64),.ty (.int .i64)],boxes:=[] }
abbrev shb142_0:Sh:={ n:=39,slots:=[],pats:=[],boxes:=[] }
abbrev shr142_0:Sh:={ n:=39,slots:=[2],pats:=[.ty .bool],boxes:=[] }

def t142_0 (x0:(List Int)) (x1:Int) (x2:Int):Tr (Out sh142_0.data shb142_0.data shr142_0.data) :=
  Tr.test ((!leF x1 x2:Bool))
    (Tr.test (decide ((0:Int) ≤ x2) && decide (x2 < (↑(List.length x0):Int)))
      (Tr.test (Option.isSome (f182 ((List.getD x0 (Int.toNat x2) (0:Int):Int),())))
        (let r0:=g182 ((List.getD x0 (Int.toNat x2) (0:Int):Int),());
        Tr.test ((!r0.1:Bool))
          (Tr.test (Option.isSome (f183 ((List.getD x0 (Int.toNat x2) (0:Int):Int),())))
            (let r1:=g183 ((List.getD x0 (Int.toNat x2) (0:Int):Int),());
            Tr.test ((!r1.1:Bool))
              (Tr.test ((!List.getD x0 (Int.toNat x2) (0:Int) == (45:Int):Bool))
                (Tr.fin (.ret (((false:Bool),()),())))
                (Tr.fin (.again ((x0,(x1,((wrap64 (x2 + (1:Int)):Int),()))),()))))
              (Tr.fin (.again ((x0,(x1,((wrap64 (x2 + (1:Int)):Int),()))),()))))
            (Tr.stop))
          (Tr.fin (.again ((x0,(x1,((wrap64 (x2 + (1:Int)):Int),()))),()))))
        (Tr.stop))
      (Tr.stop))
    (Tr.fin (.brk ((),())))

def s142_0 (d:sh142_0.data):Option (Out sh142_0.data shb142_0.data shr142_0.data):=(t142_0 d.1.1 d.1.2.1 d.1.2.2.1).val
def l142_0 (d:sh142_0.data):Option (shb142_0.data ⊕ shr142_0.data):=itr s142_0 rounds d
def b142_0 (d:sh142_0.data):shb142_0.data:=outB shb142_0.dflt (l142_0 d)
def r142_0 (d:sh142_0.data):shr142_0.data:=outR shr142_0.dflt (l142_0 d)
def lc142_0:LoopC:=lcOf sh142_0 shb142_0 shr142_0 l142_0 b142_0 r142_0

theorem wk142_0 (x0:(List Int)) (x1:Int) (x2:Int):Walks (runBody (kf183 Go.Proofs.Tryz.prog).orc Go.Proofs.Tryz.prog 400 142 0 sh142_0 shb142_0 shr142_0 ((x0,x1,x2,()),())) (t142_0 x0 x1 x2) [(bl 7 127,[2,4,4,4,8,8,6,8,8,10,12,14]),(bl 7 63,[2,4,4,4,8,8,6,8,8,10,12,14]),(bl 6 31,[0,2,2,2,6,6,4,6,6,8,10,12]),(bl 4 7,[0,0,0,0,2,2,2,2,4,6,8]),(bl 1 0,[2])] :=
  ⟨by kernel_rfl,by kernel_rfl,by kernel_rfl,by kernel_rfl,by kernel_rfl,trivial⟩

theorem ok142_0_t (x0:(List Int)) (x1:Int) (x2:Int):TrOk (BodyRuns Go.Proofs.Tryz.prog (kf183 Go.Proofs.Tryz.prog).orc 142 0 sh142_0 shb142_0 shr142_0 ((x0,x1,x2,()),())) (t142_0 x0 x1 x2) :=
  Walks.ok (fun _ _ _=>BodyRuns.of) (wk142_0 x0 x1 x2) (by kernel_rfl)

theorem ok142_0:LoopOk Go.Proofs.Tryz.prog 142 0 lc142_0:=loopOk_of (sh:=sh142_0) (shB:=shb142_0) (shR:=shr142_0) kf183_ok.base (T:=fun (d:sh142_0.data)=>t142_0 d.1.1 d.1.2.1 d.1.2.2.1) (by kernel_rfl) rfl (fun (d:sh142_0.data)=>ok142_0_t d.1.1 d.1.2.1 d.1.2.2.1) (fun _=>rfl)
def kl142_0 (P:Go.Program):Known:=(kf183 P).loop 142 0 lc142_0
theorem kl142_0_ok:KnownOk Go.Proofs.Tryz.prog (kl142_0 Go.Proofs.Tryz.prog):=kf183_ok.loop ok142_0

/-! ductility/safety.isName -/

abbrev as142:List Ty:=[.str]
abbrev rs142:List Ty:=[.bool]

def t142 (x0:ByteArray):Tr (Tys.data rs142) :=
  Tr.test ((eqF (↑(ByteArray.size x0):Int) (0:Int):Bool))
    (Tr.fin ((false,())))
    (Tr.test (!leF (↑(ByteArray.size x0):Int) (12:Int))
      (Tr.fin (((false:Bool),())))
      (Tr.test ((true && decide ((0:Int) < (↑(ByteArray.size x0):Int)):Bool))
        (Tr.test (Option.isSome (f182 ((↑(List.getD x0.data.toList (Int.toNat (0:Int)) (0:UInt8)).toBitVec.toFin.1:Int),())))
          (let r0:=g182 ((↑(List.getD x0.data.toList (Int.toNat (0:Int)) (0:UInt8)).toBitVec.toFin.1:Int),());
          Tr.test ((!r0.1:Bool))
            (Tr.fin (((false:Bool),())))
            (Tr.test (Option.isSome (l142_0 (((bytesOf x0:List Int),((↑(List.length (bytesOf x0)):Int),((0:Int),()))),())))
              (Tr.test (isRet (l142_0 (((bytesOf x0:List Int),((↑(List.length (bytesOf x0)):Int),((0:Int),()))),())))
                (let r1:=r142_0 (((bytesOf x0:List Int),((↑(List.length (bytesOf x0)):Int),((0:Int),()))),());
                Tr.fin ((r1.1.1,())))
                (Tr.fin (((true:Bool),()))))
              (Tr.stop)))
          (Tr.stop))
        (Tr.stop)))

def f142 (d:Tys.data as142):Option (Tys.data rs142):=(t142 d.1).val
def g142 (d:Tys.data as142):Tys.data rs142:=(f142 d).getD (Tys.dflt rs142)
def p142:PureC:=pcOf as142 rs142 f142 g142

theorem wk142 (x0:ByteArray):Walks (runPure (kl142_0 Go.Proofs.Tryz.prog).orc Go.Proofs.Tryz.prog 400 142 as142 rs142 (x0,())) (t142 x0) [(bl 1 1,[1,1,1,1,1,1,2,2,2,2]),(bl 2 2,[1,2,2,2,2,2,4,4,4,4]),(bl 5 28,[2,8,8,4,8,6,8,8,10,10,10,10]),(bl 7 108,[2,4,6,12,12,8,12,10,12,12,14,14,14,14]),(bl 7 44,[2,4,6,12,12,8,12,10,12,12,14,14,14,14])] :=
  ⟨by kernel_rfl,by kernel_rfl,by kernel_rfl,by kernel_rfl,by kernel_rfl,trivial⟩

theorem ok142_t (x0:ByteArray):TrOk (PureRuns Go.Proofs.Tryz.prog (kl142_0 Go.Proofs.Tryz.prog).orc 142 as142 rs142 (x0,())) (t142 x0) :=
  Walks.ok (fun _ _ _=>PureRuns.of) (wk142 x0) (by kernel_rfl)

theorem ok142:PureOk Go.Proofs.Tryz.prog 142 p142:=pureOk_of kl142_0_ok.base (T:=fun (d:Tys.data as142)=>t142 d.1) (by kernel_rfl) (fun (d:Tys.data as142)=>ok142_t d.1)
def kf142 (P:Go.Program):Known:=(kl142_0 P).func 142 p142
theorem kf142_ok:KnownOk Go.Proofs.Tryz.prog (kf142 Go.Proofs.Tryz.prog):=kl142_0_ok.func ok142

/-! loop 0 of slices.Index[[]string,string] -/

abbrev sh184_0:Sh:={ n:=19,slots:=[0,1,7,8],pats:=[.ty (.slice .str),.ty .str,.ty (.int .i64),.ty (.int .i64)],boxes:=[] }
abbrev shb184_0:Sh:={ n:=19,slots:=[],pats:=[],boxes:=[] }
abbrev shr184_0:Sh:={ n:=19,slots:=[4],pats:=[.ty (.int .i64)],boxes:=[] }

def t184_0 (x0:(List ByteArray)) (x1:ByteArray) (x2:Int) (x3:Int):Tr (Out sh184_0.data shb184_0.data shr184_0.data) :=
  Tr.test ((!leF x2 x3:Bool))
    (Tr.test (decide ((0:Int) ≤ x3) && decide (x3 < (↑(List.length x0):Int)))
      (Tr.test ((strEq x1 (List.getD x0 (Int.toNat x3) { data:={ toList:=[] } }):Bool))
        (Tr.fin (.ret ((x3,()),())))
        (Tr.fin (.again ((x0,(x1,(x2,((wrap64 (x3 + (1:Int)):Int),())))),()))))
      (Tr.stop))
    (Tr.fin (.brk ((),())))

def s184_0 (d:sh184_0.data):Option (Out sh184_0.data shb184_0.data shr184_0.data):=(t184_0 d.1.1 d.1.2.1 d.1.2.2.1 d.1.2.2.2.1).val
def l184_0 (d:sh184_0.data):Option (shb184_0.data ⊕ shr184_0.data):=itr s184_0 rounds d
def b184_0 (d:sh184_0.data):shb184_0.data:=outB shb184_0.dflt (l184_0 d)
def r184_0 (d:sh184_0.data):shr184_0.data:=outR shr184_0.dflt (l184_0 d)
def lc184_0:LoopC:=lcOf sh184_0 shb184_0 shr184_0 l184_0 b184_0 r184_0

theorem wk184_0 (x0:(List ByteArray)) (x1:ByteArray) (x2:Int) (x3:Int):Walks (runBody (kf142 Go.Proofs.Tryz.prog).orc Go.Proofs.Tryz.prog 400 184 0 sh184_0 shb184_0 shr184_0 ((x0,x1,x2,x3,()),())) (t184_0 x0 x1 x2 x3) [(bl 3 7,[2,4,6]),(bl 3 3,[2,4,6]),(bl 1 0,[2])] :=
  ⟨by kernel_rfl,by kernel_rfl,by kernel_rfl,trivial⟩

theorem ok184_0_t (x0:(List ByteArray)) (x1:ByteArray) (x2:Int) (x3:Int):TrOk (BodyRuns Go.Proofs.Tryz.prog (kf142 Go.Proofs.Tryz.prog).orc 184 0 sh184_0 shb184_0 shr184_0 ((x0,x1,x2,x3,()),())) (t184_0 x0 x1 x2 x3) :=
  Walks.ok (fun _ _ _=>BodyRuns.of) (wk184_0 x0 x1 x2 x3) (by kernel_rfl)

theorem ok184_0:LoopOk Go.Proofs.Tryz.prog 184 0 lc184_0:=loopOk_of (sh:=sh184_0) (shB:=shb184_0) (shR:=shr184_0) kf142_ok.base (T:=fun (d:sh184_0.data)=>t184_0 d.1.1 d.1.2.1 d.1.2.2.1 d.1.2.2.2.1) (by kernel_rfl) rfl (fun (d:sh184_0.data)=>ok184_0_t d.1.1 d.1.2.1 d.1.2.2.1 d.1.2.2.2.1) (fun _=>rfl)
def kl184_0 (P:Go.Program):Known:=(kf142 P).loop 184 0 lc184_0
theorem kl184_0_ok:KnownOk Go.Proofs.Tryz.prog (kl184_0 Go.Proofs.Tryz.prog):=kf142_ok.loop ok184_0

/-! slices.Index[[]string,string] -/

abbrev as184:List Ty:=[(.slice .str),.str]
abbrev rs184:List Ty:=[(.int .i64)]

def t184 (x0:(List ByteArray)) (x1:ByteArray):Tr (Tys.data rs184) :=
  Tr.test (Option.isSome (l184_0 ((x0,(x1,((↑(List.length x0):Int),((0:Int),())))),())))
    (Tr.test (isRet (l184_0 ((x0,(x1,((↑(List.length x0):Int),((0:Int),())))),())))
      (let r0:=r184_0 ((x0,(x1,((↑(List.length x0):Int),((0:Int),())))),());
      Tr.fin ((r0.1.1,())))
      (Tr.fin (((-1:Int),()))))
    (Tr.stop)

def f184 (d:Tys.data as184):Option (Tys.data rs184):=(t184 d.1 d.2.1).val
def g184 (d:Tys.data as184):Tys.data rs184:=(f184 d).getD (Tys.dflt rs184)
def p184:PureC:=pcOf as184 rs184 f184 g184

theorem wk184 (x0:(List ByteArray)) (x1:ByteArray):Walks (runPure (kl184_0 Go.Proofs.Tryz.prog).orc Go.Proofs.Tryz.prog 400 184 as184 rs184 (x0,x1,())) (t184 x0 x1) [(bl 2 3,[2,4]),(bl 2 1,[2,4])] :=
  ⟨by kernel_rfl,by kernel_rfl,trivial⟩

theorem ok184_t (x0:(List ByteArray)) (x1:ByteArray):TrOk (PureRuns Go.Proofs.Tryz.prog (kl184_0 Go.Proofs.Tryz.prog).orc 184 as184 rs184 (x0,x1,())) (t184 x0 x1) :=
  Walks.ok (fun _ _ _=>PureRuns.of) (wk184 x0 x1) (by kernel_rfl)

theorem ok184:PureOk Go.Proofs.Tryz.prog 184 p184:=pureOk_of kl184_0_ok.base (T:=fun (d:Tys.data as184)=>t184 d.1 d.2.1) (by kernel_rfl) (fun (d:Tys.data as184)=>ok184_t d.1 d.2.1)
def kf184 (P:Go.Program):Known:=(kl184_0 P).func 184 p184
theorem kf184_ok:KnownOk Go.Proofs.Tryz.prog (kf184 Go.Proofs.Tryz.prog):=kl184_0_ok.func ok184

/-! slices.Contains[[]string,string] -/

abbrev as143:List Ty:=[(.slice .str),.str]
abbrev rs143:List Ty:=[.bool]

def t143 (x0:(List ByteArray)) (x1:ByteArray):Tr (Tys.data rs143) :=
  Tr.test (Option.isSome (f184 (x0,(x1,()))))
    (let r0:=g184 (x0,(x1,()));
    Tr.fin (((leF (0:Int) r0.1:Bool),())))
    (Tr.stop)

def f143 (d:Tys.data as143):Option (Tys.data rs143):=(t143 d.1 d.2.1).val
def g143 (d:Tys.data as143):Tys.data rs143:=(f143 d).getD (Tys.dflt rs143)
def p143:PureC:=pcOf as143 rs143 f143 g143

theorem wk143 (x0:(List ByteArray)) (x1:ByteArray):Walks (runPure (kf184 Go.Proofs.Tryz.prog).orc Go.Proofs.Tryz.prog 400 143 as143 rs143 (x0,x1,())) (t143 x0 x1) [(bl 1 1,[2])] :=
  ⟨by kernel_rfl,trivial⟩

theorem ok143_t (x0:(List ByteArray)) (x1:ByteArray):TrOk (PureRuns Go.Proofs.Tryz.prog (kf184 Go.Proofs.Tryz.prog).orc 143 as143 rs143 (x0,x1,())) (t143 x0 x1) :=
  Walks.ok (fun _ _ _=>PureRuns.of) (wk143 x0 x1) (by kernel_rfl)

theorem ok143:PureOk Go.Proofs.Tryz.prog 143 p143:=pureOk_of kf184_ok.base (T:=fun (d:Tys.data as143)=>t143 d.1 d.2.1) (by kernel_rfl) (fun (d:Tys.data as143)=>ok143_t d.1 d.2.1)
def kf143 (P:Go.Program):Known:=(kf184 P).func 143 p143
theorem kf143_ok:KnownOk Go.Proofs.Tryz.prog (kf143 Go.Proofs.Tryz.prog):=kf184_ok.func ok143

/-! ductility/safety.nameError -/

abbrev as83:List Ty:=[(.slice .str),(.int .i64),(.int .i64)]
abbrev rs83:List Ty:=[(.int .i64)]

def t83 (x0:(List ByteArray)) (x1:Int) (x2:Int):Tr (Tys.data rs83) :=
  Tr.test ((decide ((0:Int) ≤ x1) && decide (x1 < (↑(List.length x0):Int)):Bool))
    (Tr.test (Option.isSome (f142 ((List.getD x0 (Int.toNat x1) { data:={ toList:=[] } }:ByteArray),())))
      (let r0:=g142 ((List.getD x0 (Int.toNat x1) { data:={ toList:=[] } }:ByteArray),());
      Tr.test (Option.isSome (f80 ((!r0.1:Bool),((4:Int),()))))
        (Tr.test ((decide ((0:Int) ≤ x1) && decide (x1 ≤ (↑(List.length x0):Int)):Bool))
          (Tr.test (Option.isSome (f143 ((List.take (Int.toNat x1) x0:List ByteArray),((List.getD x0 (Int.toNat x1) { data:={ toList:=[] } }:ByteArray),()))))
            (let r2:=g143 ((List.take (Int.toNat x1) x0:List ByteArray),((List.getD x0 (Int.toNat x1) { data:={ toList:=[] } }:ByteArray),()));
            Tr.test (Option.isSome (f80 (r2.1,(x2,()))))
              (let r1:=g80 ((!r0.1:Bool),((4:Int),()));
              let r3:=g80 (r2.1,(x2,()));
              Tr.test (Option.isSome (f79 (([r1.1,r3.1]:List Int),())))
                (let r4:=g79 (([r1.1,r3.1]:List Int),());
                Tr.fin ((r4.1,())))
                (Tr.stop))
              (Tr.stop))
            (Tr.stop))
          (Tr.stop))
        (Tr.stop))
      (Tr.stop))
    (Tr.stop)

def f83 (d:Tys.data as83):Option (Tys.data rs83):=(t83 d.1 d.2.1 d.2.2.1).val
def g83 (d:Tys.data as83):Tys.data rs83:=(f83 d).getD (Tys.dflt rs83)
def p83:PureC:=pcOf as83 rs83 f83 g83

theorem wk83 (x0:(List ByteArray)) (x1:Int) (x2:Int):Walks (runPure (kf143 Go.Proofs.Tryz.prog).orc Go.Proofs.Tryz.prog 400 83 as83 rs83 (x0,x1,x2,())) (t83 x0 x1 x2) [(bl 7 127,[2,4,6,14,8,10,12,14])] :=
  ⟨by kernel_rfl,trivial⟩

theorem ok83_t (x0:(List ByteArray)) (x1:Int) (x2:Int):TrOk (PureRuns Go.Proofs.Tryz.prog (kf143 Go.Proofs.Tryz.prog).orc 83 as83 rs83 (x0,x1,x2,())) (t83 x0 x1 x2) :=
  Walks.ok (fun _ _ _=>PureRuns.of) (wk83 x0 x1 x2) (by kernel_rfl)

theorem ok83:PureOk Go.Proofs.Tryz.prog 83 p83:=pureOk_of kf143_ok.base (T:=fun (d:Tys.data as83)=>t83 d.1 d.2.1 d.2.2.1) (by kernel_rfl) (fun (d:Tys.data as83)=>ok83_t d.1 d.2.1 d.2.2.1)
def kf83 (P:Go.Program):Known:=(kf143 P).func 83 p83
theorem kf83_ok:KnownOk Go.Proofs.Tryz.prog (kf83 Go.Proofs.Tryz.prog):=kf143_ok.func ok83

/-! loop 0 of ductility/safety.checkItems[string] -/

abbrev sh81_0:Sh:={ n:=25,slots:=[1,9,10,11],pats:=[.fn 165 [(0,3)],.ty (.slice .str),.ty (.int .i64),.ty (.int .i64)],boxes:=[.row [.ty .str,.ty (.slice .str),.ty (.int .i64)]] }
abbrev shb81_0:Sh:={ n:=25,slots:=[],pats:=[],boxes:=[.row [.ty .str,.ty (.slice .str),.ty (.int .i64)]] }
abbrev shr81_0:Sh:={ n:=25,slots:=[4,5],pats:=[.ty (.int .i64),.ty (.int .i64)],boxes:=[.row [.ty .str,.ty (.slice .str),.ty (.int .i64)]] }

def t81_0 (x1:(List ByteArray)) (x2:Int) (x3:Int) (b0_0:ByteArray) (b0_1:(List ByteArray)) (b0_2:Int):Tr (Out sh81_0.data shb81_0.data shr81_0.data) :=
  Tr.test ((!leF x2 x3:Bool))
    (Tr.test (decide ((0:Int) ≤ x3) && decide (x3 < (↑(List.length x1):Int)))
      (Tr.test (Option.isSome (f83 (b0_1,(x3,((23:Int),())))))
        (let r0:=g83 (b0_1,(x3,((23:Int),())));
        Tr.test ((!eqF r0.1 0:Bool))
          (Tr.fin (.ret ((x3,(r0.1,())),((b0_0,(b0_1,(b0_2,()))),()))))
          (Tr.fin (.again ((x1,(x2,((wrap64 (x3 + (1:Int)):Int),()))),((b0_0,(b0_1,(b0_2,()))),())))))
        (Tr.stop))
      (Tr.stop))
    (Tr.fin (.brk ((),((b0_0,(b0_1,(b0_2,()))),()))))

def s81_0 (d:sh81_0.data):Option (Out sh81_0.data shb81_0.data shr81_0.data):=(t81_0 d.1.1 d.1.2.1 d.1.2.2.1 d.2.1.1 d.2.1.2.1 d.2.1.2.2.1).val
def l81_0 (d:sh81_0.data):Option (shb81_0.data ⊕ shr81_0.data):=itr s81_0 rounds d
def b81_0 (d:sh81_0.data):shb81_0.data:=outB shb81_0.dflt (l81_0 d)
def r81_0 (d:sh81_0.data):shr81_0.data:=outR shr81_0.dflt (l81_0 d)
def lc81_0:LoopC:=lcOf sh81_0 shb81_0 shr81_0 l81_0 b81_0 r81_0

theorem wk81_0 (x1:(List ByteArray)) (x2:Int) (x3:Int) (b0_0:ByteArray) (b0_1:(List ByteArray)) (b0_2:Int):Walks (runBody (kf83 Go.Proofs.Tryz.prog).orc Go.Proofs.Tryz.prog 400 81 0 sh81_0 shb81_0 shr81_0 ((x1,x2,x3,()),(b0_0,b0_1,b0_2,()),())) (t81_0 x1 x2 x3 b0_0 b0_1 b0_2) [(bl 4 15,[2,4,6,8]),(bl 4 7,[2,4,6,8]),(bl 1 0,[2])] :=
  ⟨by kernel_rfl,by kernel_rfl,by kernel_rfl,trivial⟩

theorem ok81_0_t (x1:(List ByteArray)) (x2:Int) (x3:Int) (b0_0:ByteArray) (b0_1:(List ByteArray)) (b0_2:Int):TrOk (BodyRuns Go.Proofs.Tryz.prog (kf83 Go.Proofs.Tryz.prog).orc 81 0 sh81_0 shb81_0 shr81_0 ((x1,x2,x3,()),(b0_0,b0_1,b0_2,()),())) (t81_0 x1 x2 x3 b0_0 b0_1 b0_2) :=
  Walks.ok (fun _ _ _=>BodyRuns.of) (wk81_0 x1 x2 x3 b0_0 b0_1 b0_2) (by kernel_rfl)

theorem ok81_0:LoopOk Go.Proofs.Tryz.prog 81 0 lc81_0:=loopOk_of (sh:=sh81_0) (shB:=shb81_0) (shR:=shr81_0) kf83_ok.base (T:=fun (d:sh81_0.data)=>t81_0 d.1.1 d.1.2.1 d.1.2.2.1 d.2.1.1 d.2.1.2.1 d.2.1.2.2.1) (by kernel_rfl) rfl (fun (d:sh81_0.data)=>ok81_0_t d.1.1 d.1.2.1 d.1.2.2.1 d.2.1.1 d.2.1.2.1 d.2.1.2.2.1) (fun _=>rfl)
def kl81_0 (P:Go.Program):Known:=(kf83 P).loop 81 0 lc81_0
theorem kl81_0_ok:KnownOk Go.Proofs.Tryz.prog (kl81_0 Go.Proofs.Tryz.prog):=kf83_ok.loop ok81_0

/-! ductility/safety.gateError -/

abbrev as131:List Ty:=[(.pair .str (.pair (.slice .str) (.pair (.int .i64) .unit)))]
abbrev rs131:List Ty:=[(.int .i64)]

def t131 (x0:ByteArray) (x0':(List ByteArray)) (x0'':Int):Tr (Tys.data rs131) :=
  Tr.test ((!leF (↑(List.length x0'):Int) (4:Int):Bool))
    (Tr.fin (((8:Int),())))
    (Tr.test (Option.isSome (l81_0 ((x0',((↑(List.length x0'):Int),((0:Int),()))),((x0,(x0',(x0'',()))),()))))
      (Tr.test (isRet (l81_0 ((x0',((↑(List.length x0'):Int),((0:Int),()))),((x0,(x0',(x0'',()))),()))))
        (let r0:=r81_0 ((x0',((↑(List.length x0'):Int),((0:Int),()))),((x0,(x0',(x0'',()))),()));
        Tr.test (Option.isSome (f94 ((0:Int),((20:Int),(([r0.2.1.2.2.1]:List Int),())))))
          (let r2:=g94 ((0:Int),((20:Int),(([r0.2.1.2.2.1]:List Int),())));
          Tr.test (Option.isSome (f80 ((!r2.1:Bool),((2:Int),()))))
            (let r3:=g80 ((!r2.1:Bool),((2:Int),()));
            Tr.test (Option.isSome (f79 (([r0.1.2.1,r3.1]:List Int),())))
              (let r4:=g79 (([r0.1.2.1,r3.1]:List Int),());
              Tr.fin ((r4.1,())))
              (Tr.stop))
            (Tr.stop))
          (Tr.stop))
        (let r1:=b81_0 ((x0',((↑(List.length x0'):Int),((0:Int),()))),((x0,(x0',(x0'',()))),()));
        Tr.test (Option.isSome (f94 ((0:Int),((20:Int),(([r1.2.1.2.2.1]:List Int),())))))
          (let r5:=g94 ((0:Int),((20:Int),(([r1.2.1.2.2.1]:List Int),())));
          Tr.test (Option.isSome (f80 ((!r5.1:Bool),((2:Int),()))))
            (let r6:=g80 ((!r5.1:Bool),((2:Int),()));
            Tr.test (Option.isSome (f79 (([(0:Int),r6.1]:List Int),())))
              (let r7:=g79 (([(0:Int),r6.1]:List Int),());
              Tr.fin ((r7.1,())))
              (Tr.stop))
            (Tr.stop))
          (Tr.stop)))
      (Tr.stop))

def f131 (d:Tys.data as131):Option (Tys.data rs131):=(t131 d.1.1 d.1.2.1 d.1.2.2.1).val
def g131 (d:Tys.data as131):Tys.data rs131:=(f131 d).getD (Tys.dflt rs131)
def p131:PureC:=pcOf as131 rs131 f131 g131

theorem wk131 (x0:ByteArray) (x0':(List ByteArray)) (x0'':Int):Walks (runPure (kl81_0 Go.Proofs.Tryz.prog).orc Go.Proofs.Tryz.prog 400 131 as131 rs131 ((x0,x0',x0'',()),())) (t131 x0 x0' x0'') [(bl 1 1,[2]),(bl 6 62,[2,4,6,8,10,12]),(bl 6 58,[2,4,6,8,10,12])] :=
  ⟨by kernel_rfl,by kernel_rfl,by kernel_rfl,trivial⟩

theorem ok131_t (x0:ByteArray) (x0':(List ByteArray)) (x0'':Int):TrOk (PureRuns Go.Proofs.Tryz.prog (kl81_0 Go.Proofs.Tryz.prog).orc 131 as131 rs131 ((x0,x0',x0'',()),())) (t131 x0 x0' x0'') :=
  Walks.ok (fun _ _ _=>PureRuns.of) (wk131 x0 x0' x0'') (by kernel_rfl)

theorem ok131:PureOk Go.Proofs.Tryz.prog 131 p131:=pureOk_of kl81_0_ok.base (T:=fun (d:Tys.data as131)=>t131 d.1.1 d.1.2.1 d.1.2.2.1) (by kernel_rfl) (fun (d:Tys.data as131)=>ok131_t d.1.1 d.1.2.1 d.1.2.2.1)
def kf131 (P:Go.Program):Known:=(kl81_0 P).func 131 p131
theorem kf131_ok:KnownOk Go.Proofs.Tryz.prog (kf131 Go.Proofs.Tryz.prog):=kl81_0_ok.func ok131

end Go.Vm.Mo
