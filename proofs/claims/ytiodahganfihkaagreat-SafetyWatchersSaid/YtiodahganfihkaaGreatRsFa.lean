import Derived.Test.YtiodahganfihkaaGreatA4
import Derived.KernelRfl
import Derived.Test.YtiodahganfihkaaGreatProg
set_option linter.unusedVariables false
set_option linter.unusedSimpArgs false

namespace Go.Vm.Mo
open Go
set_option linter.unusedVariables false

def kn0 (_:Go.Program):Known:=⟨[],[]⟩

abbrev tt:Bool:=true
abbrev ff:Bool:=false
theorem nn {b v:Bool} (h:(!b) = v):(!b) = !(!v):=not_of (of_not h)
theorem ac {b d:Bool} {r:List (Bool×Bool)} (h:b = d) (t:All r):All ((b, d) :: r):=All.cons h t

theorem plainP:Plain Go.Proofs.Tryz.prog:=by
  have h : (Go.Proofs.Tryz.prog.funcs.toList.all fun fn => !(fn.body.isSome && fn.name == "runtime.NumGoroutine")) = true := by kernel_rfl
  intro f fn hf hb
  have hm:fn ∈ Go.Proofs.Tryz.prog.funcs.toList:=by
    have:=Array.getElem?_eq_some_iff.1 hf
    obtain ⟨hlt,rfl⟩:=this
    simp
  have:=List.all_eq_true.1 h fn hm
  rw [hb] at this
  simpa using this

theorem kn0_ok:KnownOk Go.Proofs.Tryz.prog (kn0 Go.Proofs.Tryz.prog):=⟨plainP,by kernel_rfl,(fun _ h=>by cases h),(fun _ h=>by cases h)⟩

/-! loop 0 of ductility/safety.areWithin -/

abbrev sh94_0:Sh:={ n:=24,slots:=[0,1,9,10,11],pats:=[.ty (.int .i64),.ty (.int .i64),.ty (.slice (.int .i64)),.ty (.int .i64),.ty (.int .i64)],boxes:=[] }
abbrev shb94_0:Sh:={ n:=24,slots:=[],pats:=[],boxes:=[] }
abbrev shr94_0:Sh:={ n:=24,slots:=[6],pats:=[.ty .bool],boxes:=[] }

def t94_0 (x0:Int) (x1:Int) (x2:(List Int)) (x3:Int) (x4:Int):Tr (Out sh94_0.data shb94_0.data shr94_0.data) :=
  Tr.test ((!leF x3 x4:Bool))
    (Tr.test (decide ((0:Int) ≤ x4) && decide (x4 < (↑(List.length x2):Int)))
      (Tr.test ((!leF x0 (List.getD x2 (Int.toNat x4) (0:Int)):Bool))
        (Tr.fin (.ret (((false:Bool),()),())))
        (Tr.test ((!leF (List.getD x2 (Int.toNat x4) (0:Int)) x1:Bool))
          (Tr.fin (.ret (((false:Bool),()),())))
          (Tr.fin (.again ((x0,(x1,(x2,(x3,((wrap64 (x4 + (1:Int)):Int),()))))),())))))
      (Tr.stop))
    (Tr.fin (.brk ((),())))

def s94_0 (d:sh94_0.data):Option (Out sh94_0.data shb94_0.data shr94_0.data):=(t94_0 d.1.1 d.1.2.1 d.1.2.2.1 d.1.2.2.2.1 d.1.2.2.2.2.1).val
def l94_0 (d:sh94_0.data):Option (shb94_0.data ⊕ shr94_0.data):=itr s94_0 rounds d
def b94_0 (d:sh94_0.data):shb94_0.data:=outB shb94_0.dflt (l94_0 d)
def r94_0 (d:sh94_0.data):shr94_0.data:=outR shr94_0.dflt (l94_0 d)
def lc94_0:LoopC:=lcOf sh94_0 shb94_0 shr94_0 l94_0 b94_0 r94_0

theorem wk94_0 (x0:Int) (x1:Int) (x2:(List Int)) (x3:Int) (x4:Int):Walks (runBody (kn0 Go.Proofs.Tryz.prog).orc Go.Proofs.Tryz.prog 400 94 0 sh94_0 shb94_0 shr94_0 ((x0,x1,x2,x3,x4,()),())) (t94_0 x0 x1 x2 x3 x4) [(bl 3 7,[1,2,2,2,2,4,6]),(bl 4 11,[2,4,4,4,4,6,8]),(bl 4 3,[2,4,4,4,4,6,8]),(bl 1 0,[2])] :=
  ⟨by kernel_rfl,by kernel_rfl,by kernel_rfl,by kernel_rfl,trivial⟩

theorem ok94_0_t (x0:Int) (x1:Int) (x2:(List Int)) (x3:Int) (x4:Int):TrOk (BodyRuns Go.Proofs.Tryz.prog (kn0 Go.Proofs.Tryz.prog).orc 94 0 sh94_0 shb94_0 shr94_0 ((x0,x1,x2,x3,x4,()),())) (t94_0 x0 x1 x2 x3 x4) :=
  Walks.ok (fun _ _ _=>BodyRuns.of) (wk94_0 x0 x1 x2 x3 x4) (by kernel_rfl)

theorem ok94_0:LoopOk Go.Proofs.Tryz.prog 94 0 lc94_0:=loopOk_of (sh:=sh94_0) (shB:=shb94_0) (shR:=shr94_0) kn0_ok.base (T:=fun (d:sh94_0.data)=>t94_0 d.1.1 d.1.2.1 d.1.2.2.1 d.1.2.2.2.1 d.1.2.2.2.2.1) (by kernel_rfl) rfl (fun (d:sh94_0.data)=>ok94_0_t d.1.1 d.1.2.1 d.1.2.2.1 d.1.2.2.2.1 d.1.2.2.2.2.1) (fun _=>rfl)
def kl94_0 (P:Go.Program):Known:=(kn0 P).loop 94 0 lc94_0
theorem kl94_0_ok:KnownOk Go.Proofs.Tryz.prog (kl94_0 Go.Proofs.Tryz.prog):=kn0_ok.loop ok94_0

/-! ductility/safety.areWithin -/

abbrev as94:List Ty:=[(.int .i64),(.int .i64),(.slice (.int .i64))]
abbrev rs94:List Ty:=[.bool]

def t94 (x0:Int) (x1:Int) (x2:(List Int)):Tr (Tys.data rs94) :=
  Tr.test (Option.isSome (l94_0 ((x0,(x1,(x2,((↑(List.length x2):Int),((0:Int),()))))),())))
    (Tr.test (isRet (l94_0 ((x0,(x1,(x2,((↑(List.length x2):Int),((0:Int),()))))),())))
      (let r0:=r94_0 ((x0,(x1,(x2,((↑(List.length x2):Int),((0:Int),()))))),());
      Tr.fin ((r0.1.1,())))
      (Tr.fin (((true:Bool),()))))
    (Tr.stop)

def f94 (d:Tys.data as94):Option (Tys.data rs94):=(t94 d.1 d.2.1 d.2.2.1).val
def g94 (d:Tys.data as94):Tys.data rs94:=(f94 d).getD (Tys.dflt rs94)
def p94:PureC:=pcOf as94 rs94 f94 g94

theorem wk94 (x0:Int) (x1:Int) (x2:(List Int)):Walks (runPure (kl94_0 Go.Proofs.Tryz.prog).orc Go.Proofs.Tryz.prog 400 94 as94 rs94 (x0,x1,x2,())) (t94 x0 x1 x2) [(bl 2 3,[2,4]),(bl 2 1,[2,4])] :=
  ⟨by kernel_rfl,by kernel_rfl,trivial⟩

theorem ok94_t (x0:Int) (x1:Int) (x2:(List Int)):TrOk (PureRuns Go.Proofs.Tryz.prog (kl94_0 Go.Proofs.Tryz.prog).orc 94 as94 rs94 (x0,x1,x2,())) (t94 x0 x1 x2) :=
  Walks.ok (fun _ _ _=>PureRuns.of) (wk94 x0 x1 x2) (by kernel_rfl)

theorem ok94:PureOk Go.Proofs.Tryz.prog 94 p94:=pureOk_of kl94_0_ok.base (T:=fun (d:Tys.data as94)=>t94 d.1 d.2.1 d.2.2.1) (by kernel_rfl) (fun (d:Tys.data as94)=>ok94_t d.1 d.2.1 d.2.2.1)
def kf94 (P:Go.Program):Known:=(kl94_0 P).func 94 p94
theorem kf94_ok:KnownOk Go.Proofs.Tryz.prog (kf94 Go.Proofs.Tryz.prog):=kl94_0_ok.func ok94

/-! ductility/safety.isBeyond -/

abbrev as117:List Ty:=[(.int .i64),(.slice (.int .i64))]
abbrev rs117:List Ty:=[.bool]

def t117 (x0:Int) (x1:(List Int)):Tr (Tys.data rs117) :=
  Tr.test (Option.isSome (f94 ((Go.IntKind.wrap Go.IntKind.i64 ((0:Int) - x0):Int),(x0,(x1,())))))
    (let r0:=g94 ((Go.IntKind.wrap Go.IntKind.i64 ((0:Int) - x0):Int),(x0,(x1,())));
    Tr.fin (((!r0.1:Bool),())))
    (Tr.stop)

def f117 (d:Tys.data as117):Option (Tys.data rs117):=(t117 d.1 d.2.1).val
def g117 (d:Tys.data as117):Tys.data rs117:=(f117 d).getD (Tys.dflt rs117)
def p117:PureC:=pcOf as117 rs117 f117 g117

theorem wk117 (x0:Int) (x1:(List Int)):Walks (runPure (kf94 Go.Proofs.Tryz.prog).orc Go.Proofs.Tryz.prog 400 117 as117 rs117 (x0,x1,())) (t117 x0 x1) [(bl 1 1,[2])] :=
  ⟨by kernel_rfl,trivial⟩

theorem ok117_t (x0:Int) (x1:(List Int)):TrOk (PureRuns Go.Proofs.Tryz.prog (kf94 Go.Proofs.Tryz.prog).orc 117 as117 rs117 (x0,x1,())) (t117 x0 x1) :=
  Walks.ok (fun _ _ _=>PureRuns.of) (wk117 x0 x1) (by kernel_rfl)

theorem ok117:PureOk Go.Proofs.Tryz.prog 117 p117:=pureOk_of kf94_ok.base (T:=fun (d:Tys.data as117)=>t117 d.1 d.2.1) (by kernel_rfl) (fun (d:Tys.data as117)=>ok117_t d.1 d.2.1)
def kf117 (P:Go.Program):Known:=(kf94 P).func 117 p117
theorem kf117_ok:KnownOk Go.Proofs.Tryz.prog (kf117 Go.Proofs.Tryz.prog):=kf94_ok.func ok117

/-! ductility/safety.moved -/

abbrev as121:List Ty:=[(.pair (.int .i64) (.pair (.int .i64) (.pair (.int .i64) .unit))),(.int .i64)]
abbrev rs121:List Ty:=[(.pair (.int .i64) (.pair (.int .i64) (.pair (.int .i64) .unit)))]

def t121 (x0:Int) (x0':Int) (x0'':Int) (x1:Int):Tr (Tys.data rs121) :=
  Tr.fin ((((wrap64 (x0 + wrap64 (x0' + x1)):Int),((wrap64 (x0' + x1):Int),(x1,()))),()))

def f121 (d:Tys.data as121):Option (Tys.data rs121):=(t121 d.1.1 d.1.2.1 d.1.2.2.1 d.2.1).val
def g121 (d:Tys.data as121):Tys.data rs121:=(f121 d).getD (Tys.dflt rs121)
def p121:PureC:=pcOf as121 rs121 f121 g121

theorem wk121 (x0:Int) (x0':Int) (x0'':Int) (x1:Int):Walks (runPure (kf117 Go.Proofs.Tryz.prog).orc Go.Proofs.Tryz.prog 400 121 as121 rs121 ((x0,x0',x0'',()),x1,())) (t121 x0 x0' x0'' x1) [(bl 0 0,[])] :=
  ⟨by kernel_rfl,trivial⟩

theorem ok121_t (x0:Int) (x0':Int) (x0'':Int) (x1:Int):TrOk (PureRuns Go.Proofs.Tryz.prog (kf117 Go.Proofs.Tryz.prog).orc 121 as121 rs121 ((x0,x0',x0'',()),x1,())) (t121 x0 x0' x0'' x1) :=
  Walks.ok (fun _ _ _=>PureRuns.of) (wk121 x0 x0' x0'' x1) (by kernel_rfl)

theorem ok121:PureOk Go.Proofs.Tryz.prog 121 p121:=pureOk_of kf117_ok.base (T:=fun (d:Tys.data as121)=>t121 d.1.1 d.1.2.1 d.1.2.2.1 d.2.1) (by kernel_rfl) (fun (d:Tys.data as121)=>ok121_t d.1.1 d.1.2.1 d.1.2.2.1 d.2.1)
def kf121 (P:Go.Program):Known:=(kf117 P).func 121 p121
theorem kf121_ok:KnownOk Go.Proofs.Tryz.prog (kf121 Go.Proofs.Tryz.prog):=kf117_ok.func ok121

/-! (ductility/safety.limits).contain -/

abbrev as160:List Ty:=[(.pair (.pair (.pair (.int .i64) (.pair (.int .i64) .unit)) (.pair (.int .i64) (.pair (.int .i64) (.pair (.int .i64) .unit)))) .unit),(.pair (.int .i64) (.pair (.int .i64) (.pair (.int .i64) .unit)))]
abbrev rs160:List Ty:=[.bool]

def t160 (x0__:Int) (x0__':Int) (x0_':Int) (x0_'':Int) (x0_''':Int) (x1:Int) (x1':Int) (x1'':Int):Tr (Tys.data rs160) :=
  Tr.test (Option.isSome (f94 (x0__,(x0__',(([x1]:List Int),())))))
    (let r0:=g94 (x0__,(x0__',(([x1]:List Int),())));
    Tr.test (r0.1)
      (Tr.test (Option.isSome (f117 (x0_',(([x1']:List Int),()))))
        (let r1:=g117 (x0_',(([x1']:List Int),()));
        Tr.test ((!r1.1:Bool))
          (Tr.test (Option.isSome (f117 (x0_'',(([x1'']:List Int),()))))
            (let r2:=g117 (x0_'',(([x1'']:List Int),()));
            Tr.fin (((!r2.1:Bool),())))
            (Tr.stop))
          (Tr.fin (((false:Bool),()))))
        (Tr.stop))
      (Tr.fin (((false:Bool),()))))
    (Tr.stop)

def f160 (d:Tys.data as160):Option (Tys.data rs160):=(t160 d.1.1.1.1 d.1.1.1.2.1 d.1.1.2.1 d.1.1.2.2.1 d.1.1.2.2.2.1 d.2.1.1 d.2.1.2.1 d.2.1.2.2.1).val
def g160 (d:Tys.data as160):Tys.data rs160:=(f160 d).getD (Tys.dflt rs160)
def p160:PureC:=pcOf as160 rs160 f160 g160

theorem wk160 (x0__:Int) (x0__':Int) (x0_':Int) (x0_'':Int) (x0_''':Int) (x1:Int) (x1':Int) (x1'':Int):Walks (runPure (kf121 Go.Proofs.Tryz.prog).orc Go.Proofs.Tryz.prog 400 160 as160 rs160 ((((x0__,x0__',()),x0_',x0_'',x0_''',()),()),(x1,x1',x1'',()),())) (t160 x0__ x0__' x0_' x0_'' x0_''' x1 x1' x1'') [(bl 5 31,[4,4,2,4,4,4,4,1,4,4,4,8,8,6,8,8,8,8,1,8,8,8,10,1,1]),(bl 4 7,[2,2,2,2,2,2,2,2,2,6,6,4,6,6,6,6,1,6,6,6,8,1,1]),(bl 2 1,[0,0,0,0,0,0,0,0,0,2,2,2,2,2,2,2,2,2,4,1,1])] :=
  ⟨by kernel_rfl,by kernel_rfl,by kernel_rfl,trivial⟩

theorem ok160_t (x0__:Int) (x0__':Int) (x0_':Int) (x0_'':Int) (x0_''':Int) (x1:Int) (x1':Int) (x1'':Int):TrOk (PureRuns Go.Proofs.Tryz.prog (kf121 Go.Proofs.Tryz.prog).orc 160 as160 rs160 ((((x0__,x0__',()),x0_',x0_'',x0_''',()),()),(x1,x1',x1'',()),())) (t160 x0__ x0__' x0_' x0_'' x0_''' x1 x1' x1'') :=
  Walks.ok (fun _ _ _=>PureRuns.of) (wk160 x0__ x0__' x0_' x0_'' x0_''' x1 x1' x1'') (by kernel_rfl)

theorem ok160:PureOk Go.Proofs.Tryz.prog 160 p160:=pureOk_of kf121_ok.base (T:=fun (d:Tys.data as160)=>t160 d.1.1.1.1 d.1.1.1.2.1 d.1.1.2.1 d.1.1.2.2.1 d.1.1.2.2.2.1 d.2.1.1 d.2.1.2.1 d.2.1.2.2.1) (by kernel_rfl) (fun (d:Tys.data as160)=>ok160_t d.1.1.1.1 d.1.1.1.2.1 d.1.1.2.1 d.1.1.2.2.1 d.1.1.2.2.2.1 d.2.1.1 d.2.1.2.1 d.2.1.2.2.1)
def kf160 (P:Go.Program):Known:=(kf121 P).func 160 p160
theorem kf160_ok:KnownOk Go.Proofs.Tryz.prog (kf160 Go.Proofs.Tryz.prog):=kf121_ok.func ok160

/-! (ductility/safety.limits).permit -/

abbrev as120:List Ty:=[(.pair (.pair (.pair (.int .i64) (.pair (.int .i64) .unit)) (.pair (.int .i64) (.pair (.int .i64) (.pair (.int .i64) .unit)))) .unit),(.pair (.int .i64) (.pair (.int .i64) (.pair (.int .i64) .unit))),(.int .i64)]
abbrev rs120:List Ty:=[.bool]

def t120 (x0__:Int) (x0__':Int) (x0_':Int) (x0_'':Int) (x0_''':Int) (x1:Int) (x1':Int) (x1'':Int) (x2:Int):Tr (Tys.data rs120) :=
  Tr.test (Option.isSome (f117 (x0_'',(([x2]:List Int),()))))
    (let r0:=g117 (x0_'',(([x2]:List Int),()));
    Tr.test ((!r0.1:Bool))
      (Tr.test (Option.isSome (f117 (x0_''',(([wrap64 (x2 - x1'')]:List Int),()))))
        (let r1:=g117 (x0_''',(([wrap64 (x2 - x1'')]:List Int),()));
        Tr.test ((!r1.1:Bool))
          (Tr.test (Option.isSome (f121 ((x1,(x1',(x1'',()))),(x2,()))))
            (let r2:=g121 ((x1,(x1',(x1'',()))),(x2,()));
            Tr.test (Option.isSome (f160 ((((x0__,(x0__',())),(x0_',(x0_'',(x0_''',())))),()),((r2.1.1,(r2.1.2.1,(r2.1.2.2.1,()))),()))))
              (let r3:=g160 ((((x0__,(x0__',())),(x0_',(x0_'',(x0_''',())))),()),((r2.1.1,(r2.1.2.1,(r2.1.2.2.1,()))),()));
              Tr.fin ((r3.1,())))
              (Tr.stop))
            (Tr.stop))
          (Tr.fin (((false:Bool),()))))
        (Tr.stop))
      (Tr.fin (((false:Bool),()))))
    (Tr.stop)

def f120 (d:Tys.data as120):Option (Tys.data rs120):=(t120 d.1.1.1.1 d.1.1.1.2.1 d.1.1.2.1 d.1.1.2.2.1 d.1.1.2.2.2.1 d.2.1.1 d.2.1.2.1 d.2.1.2.2.1 d.2.2.1).val
def g120 (d:Tys.data as120):Tys.data rs120:=(f120 d).getD (Tys.dflt rs120)
def p120:PureC:=pcOf as120 rs120 f120 g120

theorem wk120 (x0__:Int) (x0__':Int) (x0_':Int) (x0_'':Int) (x0_''':Int) (x1:Int) (x1':Int) (x1'':Int) (x2:Int):Walks (runPure (kf160 Go.Proofs.Tryz.prog).orc Go.Proofs.Tryz.prog 400 120 as120 rs120 ((((x0__,x0__',()),x0_',x0_'',x0_''',()),()),(x1,x1',x1'',()),x2,())) (t120 x0__ x0__' x0_' x0_'' x0_''' x1 x1' x1'' x2) [(bl 6 63,[6,2,6,4,6,6,6,6,10,10,8,10,10,10,10,10,10,1,10,10,10,12,1]),(bl 4 7,[2,2,2,2,2,2,6,6,4,6,6,6,6,6,6,1,6,6,6,8,1]),(bl 2 1,[0,0,0,0,0,0,2,2,2,2,2,2,2,2,2,2,2,4,1])] :=
  ⟨by kernel_rfl,by kernel_rfl,by kernel_rfl,trivial⟩

theorem ok120_t (x0__:Int) (x0__':Int) (x0_':Int) (x0_'':Int) (x0_''':Int) (x1:Int) (x1':Int) (x1'':Int) (x2:Int):TrOk (PureRuns Go.Proofs.Tryz.prog (kf160 Go.Proofs.Tryz.prog).orc 120 as120 rs120 ((((x0__,x0__',()),x0_',x0_'',x0_''',()),()),(x1,x1',x1'',()),x2,())) (t120 x0__ x0__' x0_' x0_'' x0_''' x1 x1' x1'' x2) :=
  Walks.ok (fun _ _ _=>PureRuns.of) (wk120 x0__ x0__' x0_' x0_'' x0_''' x1 x1' x1'' x2) (by kernel_rfl)

theorem ok120:PureOk Go.Proofs.Tryz.prog 120 p120:=pureOk_of kf160_ok.base (T:=fun (d:Tys.data as120)=>t120 d.1.1.1.1 d.1.1.1.2.1 d.1.1.2.1 d.1.1.2.2.1 d.1.1.2.2.2.1 d.2.1.1 d.2.1.2.1 d.2.1.2.2.1 d.2.2.1) (by kernel_rfl) (fun (d:Tys.data as120)=>ok120_t d.1.1.1.1 d.1.1.1.2.1 d.1.1.2.1 d.1.1.2.2.1 d.1.1.2.2.2.1 d.2.1.1 d.2.1.2.1 d.2.1.2.2.1 d.2.2.1)
def kf120 (P:Go.Program):Known:=(kf160 P).func 120 p120
theorem kf120_ok:KnownOk Go.Proofs.Tryz.prog (kf120 Go.Proofs.Tryz.prog):=kf160_ok.func ok120

/-! ductility/safety.isStopped -/

abbrev as122:List Ty:=[(.pair (.int .i64) (.pair (.int .i64) (.pair (.int .i64) .unit)))]
abbrev rs122:List Ty:=[.bool]

def t122 (x0:Int) (x0':Int) (x0'':Int):Tr (Tys.data rs122) :=
  Tr.test ((eqF x0' 0:Bool))
    (Tr.fin ((eqF x0'' 0,())))
    (Tr.fin ((false,())))

def f122 (d:Tys.data as122):Option (Tys.data rs122):=(t122 d.1.1 d.1.2.1 d.1.2.2.1).val
def g122 (d:Tys.data as122):Tys.data rs122:=(f122 d).getD (Tys.dflt rs122)
def p122:PureC:=pcOf as122 rs122 f122 g122

theorem wk122 (x0:Int) (x0':Int) (x0'':Int):Walks (runPure (kf120 Go.Proofs.Tryz.prog).orc Go.Proofs.Tryz.prog 400 122 as122 rs122 ((x0,x0',x0'',()),())) (t122 x0 x0' x0'') [(bl 1 1,[2,2,2,2]),(bl 1 0,[2,2,2,2])] :=
  ⟨by kernel_rfl,by kernel_rfl,trivial⟩

theorem ok122_t (x0:Int) (x0':Int) (x0'':Int):TrOk (PureRuns Go.Proofs.Tryz.prog (kf120 Go.Proofs.Tryz.prog).orc 122 as122 rs122 ((x0,x0',x0'',()),())) (t122 x0 x0' x0'') :=
  Walks.ok (fun _ _ _=>PureRuns.of) (wk122 x0 x0' x0'') (by kernel_rfl)

theorem ok122:PureOk Go.Proofs.Tryz.prog 122 p122:=pureOk_of kf120_ok.base (T:=fun (d:Tys.data as122)=>t122 d.1.1 d.1.2.1 d.1.2.2.1) (by kernel_rfl) (fun (d:Tys.data as122)=>ok122_t d.1.1 d.1.2.1 d.1.2.2.1)
def kf122 (P:Go.Program):Known:=(kf120 P).func 122 p122
theorem kf122_ok:KnownOk Go.Proofs.Tryz.prog (kf122 Go.Proofs.Tryz.prog):=kf120_ok.func ok122

/-! ductility/ductilitylaw09.awake -/

abbrev as14:List Ty:=[]
abbrev rs14:List Ty:=[.bool]
def f14 (_:Tys.data as14):Option (Tys.data rs14):=some (true,())
def g14 (_:Tys.data as14):Tys.data rs14:=(true,())
def p14:PureC:=pcOf as14 rs14 f14 g14

theorem e14:runAsk (kf122 Go.Proofs.Tryz.prog).orc Go.Proofs.Tryz.prog 400 14 as14 rs14 () none = some ((true,()),[]):=by kernel_rfl
theorem ok14:PureOk Go.Proofs.Tryz.prog 14 p14:=pureOk_closed kf122_ok.base (by kernel_rfl) e14 All.nil
def kf14 (P:Go.Program):Known:=(kf122 P).func 14 p14
theorem kf14_ok:KnownOk Go.Proofs.Tryz.prog (kf14 Go.Proofs.Tryz.prog):=kf122_ok.func ok14

/-! ductility/ductilitybase.CopyRanges -/

abbrev as53:List Ty:=[(.slice (.pair (.int .i64) (.pair (.int .i64) .unit)))]
abbrev rs53:List Ty:=[(.slice (.pair (.int .i64) (.pair (.int .i64) .unit)))]

def t53 (x0:(List (Int×(Int×Unit)))):Tr (Tys.data rs53) :=
  Tr.test ((Nat.beq (List.length x0) (0:Nat):Bool))
    (Tr.fin ((([]:List (Int×Int×PUnit)),())))
    (Tr.test (Nat.ble ((0:Nat) + List.length x0) (0:Nat))
      (Tr.stop)
      (Tr.test ((Nat.ble (((2:Nat) * ((0:Nat) + List.length x0) + (192:Nat)) * (16:Nat)) (281474976710656:Nat) && Nat.ble ((0:Nat) + List.length x0) (281474976710656:Nat):Bool))
        (Tr.test ((Nat.beq ((0:Nat) + List.length x0) (List.length ([]++x0)):Bool))
          (Tr.fin ((([]++x0:List (Int×Int×PUnit)),())))
          (Tr.stop))
        (Tr.stop)))

def f53 (d:Tys.data as53):Option (Tys.data rs53):=(t53 d.1).val
def g53 (d:Tys.data as53):Tys.data rs53:=(f53 d).getD (Tys.dflt rs53)
def p53:PureC:=pcOf as53 rs53 f53 g53

theorem wk53 (x0:(List (Int×(Int×Unit)))):Walks (runPure (kf14 Go.Proofs.Tryz.prog).orc Go.Proofs.Tryz.prog 400 53 as53 rs53 (x0,())) (t53 x0) [(bl 1 1,[2]),(bl 4 12,[2,4,6,8])] :=
  ⟨by kernel_rfl,by kernel_rfl,trivial⟩

theorem ok53_t (x0:(List (Int×(Int×Unit)))):TrOk (PureRuns Go.Proofs.Tryz.prog (kf14 Go.Proofs.Tryz.prog).orc 53 as53 rs53 (x0,())) (t53 x0) :=
  Walks.ok (fun _ _ _=>PureRuns.of) (wk53 x0) (by kernel_rfl)

theorem ok53:PureOk Go.Proofs.Tryz.prog 53 p53:=pureOk_of kf14_ok.base (T:=fun (d:Tys.data as53)=>t53 d.1) (by kernel_rfl) (fun (d:Tys.data as53)=>ok53_t d.1)
def kf53 (P:Go.Program):Known:=(kf14 P).func 53 p53
theorem kf53_ok:KnownOk Go.Proofs.Tryz.prog (kf53 Go.Proofs.Tryz.prog):=kf14_ok.func ok53

/-! ductility/safety.when -/

abbrev as80:List Ty:=[.bool,(.int .i64)]
abbrev rs80:List Ty:=[(.int .i64)]

def t80 (x0:Bool) (x1:Int):Tr (Tys.data rs80) :=
  Tr.test (x0)
    (Tr.fin ((x1,())))
    (Tr.fin (((0:Int),())))

def f80 (d:Tys.data as80):Option (Tys.data rs80):=(t80 d.1 d.2.1).val
def g80 (d:Tys.data as80):Tys.data rs80:=(f80 d).getD (Tys.dflt rs80)
def p80:PureC:=pcOf as80 rs80 f80 g80

theorem wk80 (x0:Bool) (x1:Int):Walks (runPure (kf53 Go.Proofs.Tryz.prog).orc Go.Proofs.Tryz.prog 400 80 as80 rs80 (x0,x1,())) (t80 x0 x1) [(bl 1 1,[2]),(bl 1 0,[2])] :=
  ⟨by kernel_rfl,by kernel_rfl,trivial⟩

theorem ok80_t (x0:Bool) (x1:Int):TrOk (PureRuns Go.Proofs.Tryz.prog (kf53 Go.Proofs.Tryz.prog).orc 80 as80 rs80 (x0,x1,())) (t80 x0 x1) :=
  Walks.ok (fun _ _ _=>PureRuns.of) (wk80 x0 x1) (by kernel_rfl)

theorem ok80:PureOk Go.Proofs.Tryz.prog 80 p80:=pureOk_of kf53_ok.base (T:=fun (d:Tys.data as80)=>t80 d.1 d.2.1) (by kernel_rfl) (fun (d:Tys.data as80)=>ok80_t d.1 d.2.1)
def kf80 (P:Go.Program):Known:=(kf53 P).func 80 p80
theorem kf80_ok:KnownOk Go.Proofs.Tryz.prog (kf80 Go.Proofs.Tryz.prog):=kf53_ok.func ok80

/-! ductility/safety.watchError -/

abbrev as126:List Ty:=[(.pair (.int .i64) (.pair (.int .i64) .unit))]
abbrev rs126:List Ty:=[(.int .i64)]

def t126 (x0:Int) (x0':Int):Tr (Tys.data rs126) :=
  Tr.test (Option.isSome (f117 ((1000000:Int),(([x0]:List Int),()))))
    (let r0:=g117 ((1000000:Int),(([x0]:List Int),()));
    Tr.test (r0.1)
      (Tr.test (Option.isSome (f80 ((true:Bool),((2:Int),()))))
        (let r2:=g80 ((true:Bool),((2:Int),()));
        Tr.fin ((r2.1,())))
        (Tr.stop))
      (Tr.test (Option.isSome (f94 ((1:Int),((8:Int),(([x0']:List Int),())))))
        (let r1:=g94 ((1:Int),((8:Int),(([x0']:List Int),())));
        Tr.test (Option.isSome (f80 ((!r1.1:Bool),((2:Int),()))))
          (let r3:=g80 ((!r1.1:Bool),((2:Int),()));
          Tr.fin ((r3.1,())))
          (Tr.stop))
        (Tr.stop)))
    (Tr.stop)

def f126 (d:Tys.data as126):Option (Tys.data rs126):=(t126 d.1.1 d.1.2.1).val
def g126 (d:Tys.data as126):Tys.data rs126:=(f126 d).getD (Tys.dflt rs126)
def p126:PureC:=pcOf as126 rs126 f126 g126

theorem wk126 (x0:Int) (x0':Int):Walks (runPure (kf80 Go.Proofs.Tryz.prog).orc Go.Proofs.Tryz.prog 400 126 as126 rs126 ((x0,x0',()),())) (t126 x0 x0') [(bl 3 7,[2,4,4,4,4,4,4,6]),(bl 4 13,[2,6,6,4,6,6,6,6,8])] :=
  ⟨by kernel_rfl,by kernel_rfl,trivial⟩

theorem ok126_t (x0:Int) (x0':Int):TrOk (PureRuns Go.Proofs.Tryz.prog (kf80 Go.Proofs.Tryz.prog).orc 126 as126 rs126 ((x0,x0',()),())) (t126 x0 x0') :=
  Walks.ok (fun _ _ _=>PureRuns.of) (wk126 x0 x0') (by kernel_rfl)

theorem ok126:PureOk Go.Proofs.Tryz.prog 126 p126:=pureOk_of kf80_ok.base (T:=fun (d:Tys.data as126)=>t126 d.1.1 d.1.2.1) (by kernel_rfl) (fun (d:Tys.data as126)=>ok126_t d.1.1 d.1.2.1)
def kf126 (P:Go.Program):Known:=(kf80 P).func 126 p126
theorem kf126_ok:KnownOk Go.Proofs.Tryz.prog (kf126 Go.Proofs.Tryz.prog):=kf80_ok.func ok126

/-! loop 0 of ductility/safety.firstOf -/

abbrev sh79_0:Sh:={ n:=15,slots:=[5,6,7],pats:=[.ty (.slice (.int .i64)),.ty (.int .i64),.ty (.int .i64)],boxes:=[] }
abbrev shb79_0:Sh:={ n:=15,slots:=[],pats:=[],boxes:=[] }
abbrev shr79_0:Sh:={ n:=15,slots:=[2],pats:=[.ty (.int .i64)],boxes:=[] }

def t79_0 (x0:(List Int)) (x1:Int) (x2:Int):Tr (Out sh79_0.data shb79_0.data shr79_0.data) :=
  Tr.test ((!leF x1 x2:Bool))
    (Tr.test (decide ((0:Int) ≤ x2) && decide (x2 < (↑(List.length x0):Int)))
      (Tr.test ((!eqF (List.getD x0 (Int.toNat x2) (0:Int)) (0:Int):Bool))
        (Tr.fin (.ret (((List.getD x0 (Int.toNat x2) (0:Int):Int),()),())))
        (Tr.fin (.again ((x0,(x1,((wrap64 (x2 + (1:Int)):Int),()))),()))))
      (Tr.stop))
    (Tr.fin (.brk ((),())))

def s79_0 (d:sh79_0.data):Option (Out sh79_0.data shb79_0.data shr79_0.data):=(t79_0 d.1.1 d.1.2.1 d.1.2.2.1).val
def l79_0 (d:sh79_0.data):Option (shb79_0.data ⊕ shr79_0.data):=itr s79_0 rounds d
def b79_0 (d:sh79_0.data):shb79_0.data:=outB shb79_0.dflt (l79_0 d)
def r79_0 (d:sh79_0.data):shr79_0.data:=outR shr79_0.dflt (l79_0 d)
def lc79_0:LoopC:=lcOf sh79_0 shb79_0 shr79_0 l79_0 b79_0 r79_0

theorem wk79_0 (x0:(List Int)) (x1:Int) (x2:Int):Walks (runBody (kf126 Go.Proofs.Tryz.prog).orc Go.Proofs.Tryz.prog 400 79 0 sh79_0 shb79_0 shr79_0 ((x0,x1,x2,()),())) (t79_0 x0 x1 x2) [(bl 3 7,[2,4,6]),(bl 3 3,[2,4,6]),(bl 1 0,[2])] :=
  ⟨by kernel_rfl,by kernel_rfl,by kernel_rfl,trivial⟩

theorem ok79_0_t (x0:(List Int)) (x1:Int) (x2:Int):TrOk (BodyRuns Go.Proofs.Tryz.prog (kf126 Go.Proofs.Tryz.prog).orc 79 0 sh79_0 shb79_0 shr79_0 ((x0,x1,x2,()),())) (t79_0 x0 x1 x2) :=
  Walks.ok (fun _ _ _=>BodyRuns.of) (wk79_0 x0 x1 x2) (by kernel_rfl)

theorem ok79_0:LoopOk Go.Proofs.Tryz.prog 79 0 lc79_0:=loopOk_of (sh:=sh79_0) (shB:=shb79_0) (shR:=shr79_0) kf126_ok.base (T:=fun (d:sh79_0.data)=>t79_0 d.1.1 d.1.2.1 d.1.2.2.1) (by kernel_rfl) rfl (fun (d:sh79_0.data)=>ok79_0_t d.1.1 d.1.2.1 d.1.2.2.1) (fun _=>rfl)
def kl79_0 (P:Go.Program):Known:=(kf126 P).loop 79 0 lc79_0
theorem kl79_0_ok:KnownOk Go.Proofs.Tryz.prog (kl79_0 Go.Proofs.Tryz.prog):=kf126_ok.loop ok79_0

/-! ductility/safety.firstOf -/

abbrev as79:List Ty:=[(.slice (.int .i64))]
abbrev rs79:List Ty:=[(.int .i64)]

def t79 (x0:(List Int)):Tr (Tys.data rs79) :=
  Tr.test (Option.isSome (l79_0 ((x0,((↑(List.length x0):Int),((0:Int),()))),())))
    (Tr.test (isRet (l79_0 ((x0,((↑(List.length x0):Int),((0:Int),()))),())))
      (let r0:=r79_0 ((x0,((↑(List.length x0):Int),((0:Int),()))),());
      Tr.fin ((r0.1.1,())))
      (Tr.fin (((0:Int),()))))
    (Tr.stop)

def f79 (d:Tys.data as79):Option (Tys.data rs79):=(t79 d.1).val
def g79 (d:Tys.data as79):Tys.data rs79:=(f79 d).getD (Tys.dflt rs79)
def p79:PureC:=pcOf as79 rs79 f79 g79

theorem wk79 (x0:(List Int)):Walks (runPure (kl79_0 Go.Proofs.Tryz.prog).orc Go.Proofs.Tryz.prog 400 79 as79 rs79 (x0,())) (t79 x0) [(bl 2 3,[2,4]),(bl 2 1,[2,4])] :=
  ⟨by kernel_rfl,by kernel_rfl,trivial⟩

theorem ok79_t (x0:(List Int)):TrOk (PureRuns Go.Proofs.Tryz.prog (kl79_0 Go.Proofs.Tryz.prog).orc 79 as79 rs79 (x0,())) (t79 x0) :=
  Walks.ok (fun _ _ _=>PureRuns.of) (wk79 x0) (by kernel_rfl)

theorem ok79:PureOk Go.Proofs.Tryz.prog 79 p79:=pureOk_of kl79_0_ok.base (T:=fun (d:Tys.data as79)=>t79 d.1) (by kernel_rfl) (fun (d:Tys.data as79)=>ok79_t d.1)
def kf79 (P:Go.Program):Known:=(kl79_0 P).func 79 p79
theorem kf79_ok:KnownOk Go.Proofs.Tryz.prog (kf79 Go.Proofs.Tryz.prog):=kl79_0_ok.func ok79

/-! loop 0 of ductility/safety.checkItems[ductility/api.Range] -/

abbrev sh163_0:Sh:={ n:=25,slots:=[1,9,10,11],pats:=[.fn 164 [],.ty (.slice (.pair (.int .i64) (.pair (.int .i64) .unit))),.ty (.int .i64),.ty (.int .i64)],boxes:=[] }
abbrev shb163_0:Sh:={ n:=25,slots:=[],pats:=[],boxes:=[] }
abbrev shr163_0:Sh:={ n:=25,slots:=[4,5],pats:=[.ty (.int .i64),.ty (.int .i64)],boxes:=[] }

def t163_0 (x1:(List (Int×(Int×Unit)))) (x2:Int) (x3:Int):Tr (Out sh163_0.data shb163_0.data shr163_0.data) :=
  Tr.test ((!leF x2 x3:Bool))
    (Tr.test (decide ((0:Int) ≤ x3) && decide (x3 < (↑(List.length x1):Int)))
      (Tr.test (Option.isSome (f117 ((1000000:Int),(([(List.getD x1 (Int.toNat x3) ((0:Int),(0:Int),())).1,(List.getD x1 (Int.toNat x3) ((0:Int),(0:Int),())).2.1]:List Int),()))))
        (let r0:=g117 ((1000000:Int),(([(List.getD x1 (Int.toNat x3) ((0:Int),(0:Int),())).1,(List.getD x1 (Int.toNat x3) ((0:Int),(0:Int),())).2.1]:List Int),()));
        Tr.test (Option.isSome (f80 (r0.1,((2:Int),()))))
          (Tr.test (Option.isSome (f80 ((!leF (List.getD x1 (Int.toNat x3) ((0:Int),(0:Int),())).1 (List.getD x1 (Int.toNat x3) ((0:Int),(0:Int),())).2.1:Bool),((9:Int),()))))
            (let r1:=g80 (r0.1,((2:Int),()));
            let r2:=g80 ((!leF (List.getD x1 (Int.toNat x3) ((0:Int),(0:Int),())).1 (List.getD x1 (Int.toNat x3) ((0:Int),(0:Int),())).2.1:Bool),((9:Int),()));
            Tr.test (Option.isSome (f79 (([r1.1,r2.1]:List Int),())))
              (let r3:=g79 (([r1.1,r2.1]:List Int),());
              Tr.test ((!eqF r3.1 0:Bool))
                (Tr.fin (.ret ((x3,(r3.1,())),())))
                (Tr.fin (.again ((x1,(x2,((wrap64 (x3 + (1:Int)):Int),()))),()))))
              (Tr.stop))
            (Tr.stop))
          (Tr.stop))
        (Tr.stop))
      (Tr.stop))
    (Tr.fin (.brk ((),())))

def s163_0 (d:sh163_0.data):Option (Out sh163_0.data shb163_0.data shr163_0.data):=(t163_0 d.1.1 d.1.2.1 d.1.2.2.1).val
def l163_0 (d:sh163_0.data):Option (shb163_0.data ⊕ shr163_0.data):=itr s163_0 rounds d
def b163_0 (d:sh163_0.data):shb163_0.data:=outB shb163_0.dflt (l163_0 d)
def r163_0 (d:sh163_0.data):shr163_0.data:=outR shr163_0.dflt (l163_0 d)
def lc163_0:LoopC:=lcOf sh163_0 shb163_0 shr163_0 l163_0 b163_0 r163_0

theorem wk163_0 (x1:(List (Int×(Int×Unit)))) (x2:Int) (x3:Int):Walks (runBody (kf79 Go.Proofs.Tryz.prog).orc Go.Proofs.Tryz.prog 400 163 0 sh163_0 shb163_0 shr163_0 ((x1,x2,x3,()),())) (t163_0 x1 x2 x3) [(bl 7 127,[2,4,6,8,10,12,14]),(bl 7 63,[2,4,6,8,10,12,14]),(bl 1 0,[2])] :=
  ⟨by kernel_rfl,by kernel_rfl,by kernel_rfl,trivial⟩

theorem ok163_0_t (x1:(List (Int×(Int×Unit)))) (x2:Int) (x3:Int):TrOk (BodyRuns Go.Proofs.Tryz.prog (kf79 Go.Proofs.Tryz.prog).orc 163 0 sh163_0 shb163_0 shr163_0 ((x1,x2,x3,()),())) (t163_0 x1 x2 x3) :=
  Walks.ok (fun _ _ _=>BodyRuns.of) (wk163_0 x1 x2 x3) (by kernel_rfl)

theorem ok163_0:LoopOk Go.Proofs.Tryz.prog 163 0 lc163_0:=loopOk_of (sh:=sh163_0) (shB:=shb163_0) (shR:=shr163_0) kf79_ok.base (T:=fun (d:sh163_0.data)=>t163_0 d.1.1 d.1.2.1 d.1.2.2.1) (by kernel_rfl) rfl (fun (d:sh163_0.data)=>ok163_0_t d.1.1 d.1.2.1 d.1.2.2.1) (fun _=>rfl)
def kl163_0 (P:Go.Program):Known:=(kf79 P).loop 163 0 lc163_0
theorem kl163_0_ok:KnownOk Go.Proofs.Tryz.prog (kl163_0 Go.Proofs.Tryz.prog):=kf79_ok.loop ok163_0

/-! ductility/safety.readingsError -/

abbrev as127:List Ty:=[(.slice (.pair (.int .i64) (.pair (.int .i64) .unit)))]
abbrev rs127:List Ty:=[(.int .i64)]

def t127 (x0:(List (Int×(Int×Unit)))):Tr (Tys.data rs127) :=
  Tr.test ((!leF (↑(List.length x0):Int) (8:Int):Bool))
    (Tr.fin (((8:Int),())))
    (Tr.test (Option.isSome (l163_0 ((x0,((↑(List.length x0):Int),((0:Int),()))),())))
      (Tr.test (isRet (l163_0 ((x0,((↑(List.length x0):Int),((0:Int),()))),())))
        (let r0:=r163_0 ((x0,((↑(List.length x0):Int),((0:Int),()))),());
        Tr.fin ((r0.1.2.1,())))
        (Tr.fin (((0:Int),()))))
      (Tr.stop))

def f127 (d:Tys.data as127):Option (Tys.data rs127):=(t127 d.1).val
def g127 (d:Tys.data as127):Tys.data rs127:=(f127 d).getD (Tys.dflt rs127)
def p127:PureC:=pcOf as127 rs127 f127 g127

theorem wk127 (x0:(List (Int×(Int×Unit)))):Walks (runPure (kl163_0 Go.Proofs.Tryz.prog).orc Go.Proofs.Tryz.prog 400 127 as127 rs127 (x0,())) (t127 x0) [(bl 1 1,[2]),(bl 3 6,[2,4,6]),(bl 3 2,[2,4,6])] :=
  ⟨by kernel_rfl,by kernel_rfl,by kernel_rfl,trivial⟩

theorem ok127_t (x0:(List (Int×(Int×Unit)))):TrOk (PureRuns Go.Proofs.Tryz.prog (kl163_0 Go.Proofs.Tryz.prog).orc 127 as127 rs127 (x0,())) (t127 x0) :=
  Walks.ok (fun _ _ _=>PureRuns.of) (wk127 x0) (by kernel_rfl)

theorem ok127:PureOk Go.Proofs.Tryz.prog 127 p127:=pureOk_of kl163_0_ok.base (T:=fun (d:Tys.data as127)=>t127 d.1) (by kernel_rfl) (fun (d:Tys.data as127)=>ok127_t d.1)
def kf127 (P:Go.Program):Known:=(kl163_0 P).func 127 p127
theorem kf127_ok:KnownOk Go.Proofs.Tryz.prog (kf127 Go.Proofs.Tryz.prog):=kl163_0_ok.func ok127

/-! loop 0 of ductility/safety.TripOf -/

abbrev sh52_0:Sh:={ n:=51,slots:=[2,7,8,20,21,22],pats:=[.ptr 0 2 0,.ty (.int .i64),.ty (.int .i64),.ty (.slice (.pair (.int .i64) (.pair (.int .i64) .unit))),.ty (.int .i64),.ty (.int .i64)],boxes:=[.row [.ty (.int .i64),.ty (.int .i64)]] }
abbrev shb52_0:Sh:={ n:=51,slots:=[2,7,8],pats:=[.ptr 0 2 0,.ty (.int .i64),.ty (.int .i64)],boxes:=[.row [.ty (.int .i64),.ty (.int .i64)]] }
abbrev shr52_0:Sh:={ n:=51,slots:=[],pats:=[],boxes:=[.row [.ty (.int .i64),.ty (.int .i64)]] }

def t52_0 (x1:Int) (x2:Int) (x3:(List (Int×(Int×Unit)))) (x4:Int) (x5:Int) (b0_0:Int) (b0_1:Int):Tr (Out sh52_0.data shb52_0.data shr52_0.data) :=
  Tr.test ((!leF x4 x5:Bool))
    (Tr.test (decide ((0:Int) ≤ x5) && decide (x5 < (↑(List.length x3):Int)))
      (Tr.test ((!leF (List.getD x3 (Int.toNat x5) ((0:Int),(0:Int),())).1 b0_0:Bool))
        (Tr.test ((!leF (List.getD x3 (Int.toNat x5) ((0:Int),(0:Int),())).2.1 b0_0:Bool))
          (Tr.fin (.again (((wrap64 (x1 + (1:Int)):Int),((wrap64 (x2 + (1:Int)):Int),(x3,(x4,((wrap64 (x5 + (1:Int)):Int),()))))),((b0_0,(b0_1,())),()))))
          (Tr.fin (.again (((wrap64 (x1 + (1:Int)):Int),(x2,(x3,(x4,((wrap64 (x5 + (1:Int)):Int),()))))),((b0_0,(b0_1,())),())))))
        (Tr.test ((!leF (List.getD x3 (Int.toNat x5) ((0:Int),(0:Int),())).2.1 b0_0:Bool))
          (Tr.fin (.again ((x1,((wrap64 (x2 + (1:Int)):Int),(x3,(x4,((wrap64 (x5 + (1:Int)):Int),()))))),((b0_0,(b0_1,())),()))))
          (Tr.fin (.again ((x1,(x2,(x3,(x4,((wrap64 (x5 + (1:Int)):Int),()))))),((b0_0,(b0_1,())),()))))))
      (Tr.stop))
    (Tr.fin (.brk ((x1,(x2,())),((b0_0,(b0_1,())),()))))

def s52_0 (d:sh52_0.data):Option (Out sh52_0.data shb52_0.data shr52_0.data):=(t52_0 d.1.1 d.1.2.1 d.1.2.2.1 d.1.2.2.2.1 d.1.2.2.2.2.1 d.2.1.1 d.2.1.2.1).val
def l52_0 (d:sh52_0.data):Option (shb52_0.data ⊕ shr52_0.data):=itr s52_0 rounds d
def b52_0 (d:sh52_0.data):shb52_0.data:=outB shb52_0.dflt (l52_0 d)
def lc52_0:LoopC:=lcB sh52_0 shb52_0 shr52_0 l52_0 b52_0

theorem wk52_0 (x1:Int) (x2:Int) (x3:(List (Int×(Int×Unit)))) (x4:Int) (x5:Int) (b0_0:Int) (b0_1:Int):Walks (runBody (kf127 Go.Proofs.Tryz.prog).orc Go.Proofs.Tryz.prog 400 52 0 sh52_0 shb52_0 shr52_0 ((x1,x2,x3,x4,x5,()),(b0_0,b0_1,()),())) (t52_0 x1 x2 x3 x4 x5 b0_0 b0_1) [(bl 4 15,[2,4,6,8]),(bl 4 7,[2,4,6,8]),(bl 4 11,[2,4,6,8]),(bl 4 3,[2,4,6,8]),(bl 1 0,[2])] :=
  ⟨by kernel_rfl,by kernel_rfl,by kernel_rfl,by kernel_rfl,by kernel_rfl,trivial⟩

theorem ok52_0_t (x1:Int) (x2:Int) (x3:(List (Int×(Int×Unit)))) (x4:Int) (x5:Int) (b0_0:Int) (b0_1:Int):TrOk (BodyRuns Go.Proofs.Tryz.prog (kf127 Go.Proofs.Tryz.prog).orc 52 0 sh52_0 shb52_0 shr52_0 ((x1,x2,x3,x4,x5,()),(b0_0,b0_1,()),())) (t52_0 x1 x2 x3 x4 x5 b0_0 b0_1) :=
  Walks.ok (fun _ _ _=>BodyRuns.of) (wk52_0 x1 x2 x3 x4 x5 b0_0 b0_1) (by kernel_rfl)

theorem ok52_0:LoopOk Go.Proofs.Tryz.prog 52 0 lc52_0:=loopOk_ofB (sh:=sh52_0) (shB:=shb52_0) (shR:=shr52_0) kf127_ok.base (T:=fun (d:sh52_0.data)=>t52_0 d.1.1 d.1.2.1 d.1.2.2.1 d.1.2.2.2.1 d.1.2.2.2.2.1 d.2.1.1 d.2.1.2.1) (by kernel_rfl) rfl (fun (d:sh52_0.data)=>ok52_0_t d.1.1 d.1.2.1 d.1.2.2.1 d.1.2.2.2.1 d.1.2.2.2.2.1 d.2.1.1 d.2.1.2.1) (fun _=>rfl)
def kl52_0 (P:Go.Program):Known:=(kf127 P).loop 52 0 lc52_0
theorem kl52_0_ok:KnownOk Go.Proofs.Tryz.prog (kl52_0 Go.Proofs.Tryz.prog):=kf127_ok.loop ok52_0

/-! ductility/safety.TripOf -/

abbrev as52:List Ty:=[(.pair (.int .i64) (.pair (.int .i64) .unit)),(.slice (.pair (.int .i64) (.pair (.int .i64) .unit)))]
abbrev rs52:List Ty:=[(.int .i64),(.int .i64)]

def t52 (x0:Int) (x0':Int) (x1:(List (Int×(Int×Unit)))):Tr (Tys.data rs52) :=
  Tr.test (Option.isSome (f126 ((x0,(x0',())),())))
    (Tr.test (Option.isSome (f127 (x1,())))
      (let r0:=g126 ((x0,(x0',())),());
      let r1:=g127 (x1,());
      Tr.test (Option.isSome (f79 (([r0.1,r1.1]:List Int),())))
        (let r2:=g79 (([r0.1,r1.1]:List Int),());
        Tr.test ((!eqF r2.1 0:Bool))
          (Tr.fin (((0:Int),(r2.1,()))))
          (Tr.test (isBrk (l52_0 (((0:Int),((0:Int),(x1,((↑(List.length x1):Int),((0:Int),()))))),((x0,(x0',())),()))))
            (let r3:=b52_0 (((0:Int),((0:Int),(x1,((↑(List.length x1):Int),((0:Int),()))))),((x0,(x0',())),()));
            Tr.test ((leF r3.2.1.2.1 r3.1.1:Bool))
              (Tr.fin (((2:Int),((0:Int),()))))
              (Tr.test ((!leF r3.2.1.2.1 r3.1.2.1:Bool))
                (Tr.fin (((0:Int),((0:Int),()))))
                (Tr.fin (((1:Int),((0:Int),()))))))
            (Tr.stop)))
        (Tr.stop))
      (Tr.stop))
    (Tr.stop)

def f52 (d:Tys.data as52):Option (Tys.data rs52):=(t52 d.1.1 d.1.2.1 d.2.1).val
def g52 (d:Tys.data as52):Tys.data rs52:=(f52 d).getD (Tys.dflt rs52)
def p52:PureC:=pcOf as52 rs52 f52 g52

theorem wk52 (x0:Int) (x0':Int) (x1:(List (Int×(Int×Unit)))):Walks (runPure (kl52_0 Go.Proofs.Tryz.prog).orc Go.Proofs.Tryz.prog 400 52 as52 rs52 ((x0,x0',()),x1,())) (t52 x0 x0' x1) [(bl 4 15,[2,4,6,8]),(bl 6 55,[2,1,4,6,8,10,12]),(bl 7 87,[2,4,1,6,8,10,12,14]),(bl 7 23,[2,4,1,6,8,10,12,14])] :=
  ⟨by kernel_rfl,by kernel_rfl,by kernel_rfl,by kernel_rfl,trivial⟩

theorem ok52_t (x0:Int) (x0':Int) (x1:(List (Int×(Int×Unit)))):TrOk (PureRuns Go.Proofs.Tryz.prog (kl52_0 Go.Proofs.Tryz.prog).orc 52 as52 rs52 ((x0,x0',()),x1,())) (t52 x0 x0' x1) :=
  Walks.ok (fun _ _ _=>PureRuns.of) (wk52 x0 x0' x1) (by kernel_rfl)

theorem ok52:PureOk Go.Proofs.Tryz.prog 52 p52:=pureOk_of kl52_0_ok.base (T:=fun (d:Tys.data as52)=>t52 d.1.1 d.1.2.1 d.2.1) (by kernel_rfl) (fun (d:Tys.data as52)=>ok52_t d.1.1 d.1.2.1 d.2.1)
def kf52 (P:Go.Program):Known:=(kl52_0 P).func 52 p52
theorem kf52_ok:KnownOk Go.Proofs.Tryz.prog (kf52 Go.Proofs.Tryz.prog):=kl52_0_ok.func ok52

/-! ductility/ductilitybase.Within -/

abbrev as25:List Ty:=[(.int .i64),(.int .i64),(.int .i64)]
abbrev rs25:List Ty:=[.bool]

def t25 (x0:Int) (x1:Int) (x2:Int):Tr (Tys.data rs25) :=
  Tr.test ((leF x1 x0:Bool))
    (Tr.fin ((leF x0 x2,())))
    (Tr.fin ((false,())))

def f25 (d:Tys.data as25):Option (Tys.data rs25):=(t25 d.1 d.2.1 d.2.2.1).val
def g25 (d:Tys.data as25):Tys.data rs25:=(f25 d).getD (Tys.dflt rs25)
def p25:PureC:=pcOf as25 rs25 f25 g25

theorem wk25 (x0:Int) (x1:Int) (x2:Int):Walks (runPure (kf52 Go.Proofs.Tryz.prog).orc Go.Proofs.Tryz.prog 400 25 as25 rs25 (x0,x1,x2,())) (t25 x0 x1 x2) [(bl 1 1,[2,2,2,2]),(bl 1 0,[2,2,2,2])] :=
  ⟨by kernel_rfl,by kernel_rfl,trivial⟩

theorem ok25_t (x0:Int) (x1:Int) (x2:Int):TrOk (PureRuns Go.Proofs.Tryz.prog (kf52 Go.Proofs.Tryz.prog).orc 25 as25 rs25 (x0,x1,x2,())) (t25 x0 x1 x2) :=
  Walks.ok (fun _ _ _=>PureRuns.of) (wk25 x0 x1 x2) (by kernel_rfl)

theorem ok25:PureOk Go.Proofs.Tryz.prog 25 p25:=pureOk_of kf52_ok.base (T:=fun (d:Tys.data as25)=>t25 d.1 d.2.1 d.2.2.1) (by kernel_rfl) (fun (d:Tys.data as25)=>ok25_t d.1 d.2.1 d.2.2.1)
def kf25 (P:Go.Program):Known:=(kf52 P).func 25 p25
theorem kf25_ok:KnownOk Go.Proofs.Tryz.prog (kf25 Go.Proofs.Tryz.prog):=kf52_ok.func ok25

/-! ductility/ductilityref09.isReading -/

abbrev as128:List Ty:=[(.int .i64)]
abbrev rs128:List Ty:=[.bool]

def t128 (x0:Int):Tr (Tys.data rs128) :=
  Tr.test (Option.isSome (f25 (x0,((-1000000:Int),((1000000:Int),())))))
    (let r0:=g25 (x0,((-1000000:Int),((1000000:Int),())));
    Tr.fin ((r0.1,())))
    (Tr.stop)

def f128 (d:Tys.data as128):Option (Tys.data rs128):=(t128 d.1).val
def g128 (d:Tys.data as128):Tys.data rs128:=(f128 d).getD (Tys.dflt rs128)
def p128:PureC:=pcOf as128 rs128 f128 g128

theorem wk128 (x0:Int):Walks (runPure (kf25 Go.Proofs.Tryz.prog).orc Go.Proofs.Tryz.prog 400 128 as128 rs128 (x0,())) (t128 x0) [(bl 1 1,[2])] :=
  ⟨by kernel_rfl,trivial⟩

theorem ok128_t (x0:Int):TrOk (PureRuns Go.Proofs.Tryz.prog (kf25 Go.Proofs.Tryz.prog).orc 128 as128 rs128 (x0,())) (t128 x0) :=
  Walks.ok (fun _ _ _=>PureRuns.of) (wk128 x0) (by kernel_rfl)

theorem ok128:PureOk Go.Proofs.Tryz.prog 128 p128:=pureOk_of kf25_ok.base (T:=fun (d:Tys.data as128)=>t128 d.1) (by kernel_rfl) (fun (d:Tys.data as128)=>ok128_t d.1)
def kf128 (P:Go.Program):Known:=(kf25 P).func 128 p128
theorem kf128_ok:KnownOk Go.Proofs.Tryz.prog (kf128 Go.Proofs.Tryz.prog):=kf25_ok.func ok128

end Go.Vm.Mo
