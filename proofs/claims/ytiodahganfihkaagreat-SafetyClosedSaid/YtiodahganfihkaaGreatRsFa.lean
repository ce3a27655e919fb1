import Derived.Test.YtiodahganfihkaaGreatA4
import Derived.Test.YtiodahganfihkaaGreatA5
import Derived.KernelRfl
import Derived.Test.YtiodahganfihkaaGreatProg
set_option linter.unusedVariables false
set_option linter.unusedSimpArgs false

namespace Go.Vm.Mo
open Go
set_option linter.unusedVariables false

def kn0 (_:Go.Program):Known:=⟨[],[]⟩

abbrev tt:Bool:=true
abbrev ff:Bool:=false
theorem ac {b d:Bool} {r:List (Bool×Bool)} (h:b = d) (t:All r):All ((b, d) :: r):=All.cons h t

theorem plainP:Plain Go.Proofs.Tryz.prog:=by
  have h : (Go.Proofs.Tryz.prog.funcs.toList.all fun fn => !(fn.body.isSome && fn.name == "runtime.NumGoroutine")) = true := by kernel_rfl
  intro f fn hf hb
  have hm:fn ∈ Go.Proofs.Tryz.prog.funcs.toList:=by
    have:=Array.getElem?_eq_some_iff.1 hf
    obtain ⟨hlt,rfl⟩:=this
    simp
  have:=List.all_eq_true.1 h fn hm
  rw [hb] at this
  simpa using this

theorem kn0_ok:KnownOk Go.Proofs.Tryz.prog (kn0 Go.Proofs.Tryz.prog):=⟨plainP,by kernel_rfl,(fun _ h=>by cases h),(fun _ h=>by cases h)⟩

/-! loop 0 of ductility/safety.areWithin -/

abbrev sh94_0:Sh:={ n:=24,slots:=[0,1,9,10,11],pats:=[.ty (.int .i64),.ty (.int .i64),.ty (.slice (.int .i64)),.ty (.int .i64),.ty (.int .i64)],boxes:=[] }
abbrev shb94_0:Sh:={ n:=24,slots:=[],pats:=[],boxes:=[] }
abbrev shr94_0:Sh:={ n:=24,slots:=[6],pats:=[.ty .bool],boxes:=[] }

def t94_0 (x0:Int) (x1:Int) (x2:(List Int)) (x3:Int) (x4:Int):Tr (Out sh94_0.data shb94_0.data shr94_0.data) :=
  Tr.test ((!leF x3 x4:Bool))
    (Tr.test (decide ((0:Int) ≤ x4) && decide (x4 < (↑(List.length x2):Int)))
      (Tr.test ((!leF x0 (List.getD x2 (Int.toNat x4) (0:Int)):Bool))
        (Tr.fin (.ret (((false:Bool),()),())))
        (Tr.test ((!leF (List.getD x2 (Int.toNat x4) (0:Int)) x1:Bool))
          (Tr.fin (.ret (((false:Bool),()),())))
          (Tr.fin (.again ((x0,(x1,(x2,(x3,((wrap64 (x4 + (1:Int)):Int),()))))),())))))
      (Tr.stop))
    (Tr.fin (.brk ((),())))

def s94_0 (d:sh94_0.data):Option (Out sh94_0.data shb94_0.data shr94_0.data):=(t94_0 d.1.1 d.1.2.1 d.1.2.2.1 d.1.2.2.2.1 d.1.2.2.2.2.1).val
def l94_0 (d:sh94_0.data):Option (shb94_0.data ⊕ shr94_0.data):=itr s94_0 rounds d
def b94_0 (d:sh94_0.data):shb94_0.data:=outB shb94_0.dflt (l94_0 d)
def r94_0 (d:sh94_0.data):shr94_0.data:=outR shr94_0.dflt (l94_0 d)
def lc94_0:LoopC:=lcOf sh94_0 shb94_0 shr94_0 l94_0 b94_0 r94_0

theorem wk94_0 (x0:Int) (x1:Int) (x2:(List Int)) (x3:Int) (x4:Int):Walks (runBody (kn0 Go.Proofs.Tryz.prog).orc Go.Proofs.Tryz.prog 400 94 0 sh94_0 shb94_0 shr94_0 ((x0,x1,x2,x3,x4,()),())) (t94_0 x0 x1 x2 x3 x4) [(bl 3 7,[1,2,2,2,2,4,6]),(bl 4 11,[2,4,4,4,4,6,8]),(bl 4 3,[2,4,4,4,4,6,8]),(bl 1 0,[2])] :=
  ⟨by kernel_rfl,by kernel_rfl,by kernel_rfl,by kernel_rfl,trivial⟩

theorem ok94_0_t (x0:Int) (x1:Int) (x2:(List Int)) (x3:Int) (x4:Int):TrOk (BodyRuns Go.Proofs.Tryz.prog (kn0 Go.Proofs.Tryz.prog).orc 94 0 sh94_0 shb94_0 shr94_0 ((x0,x1,x2,x3,x4,()),())) (t94_0 x0 x1 x2 x3 x4) :=
  Walks.ok (fun _ _ _=>BodyRuns.of) (wk94_0 x0 x1 x2 x3 x4) (by kernel_rfl)

theorem ok94_0:LoopOk Go.Proofs.Tryz.prog 94 0 lc94_0:=loopOk_of (sh:=sh94_0) (shB:=shb94_0) (shR:=shr94_0) kn0_ok.base (T:=fun (d:sh94_0.data)=>t94_0 d.1.1 d.1.2.1 d.1.2.2.1 d.1.2.2.2.1 d.1.2.2.2.2.1) (by kernel_rfl) rfl (fun (d:sh94_0.data)=>ok94_0_t d.1.1 d.1.2.1 d.1.2.2.1 d.1.2.2.2.1 d.1.2.2.2.2.1) (fun _=>rfl)
def kl94_0 (P:Go.Program):Known:=(kn0 P).loop 94 0 lc94_0
theorem kl94_0_ok:KnownOk Go.Proofs.Tryz.prog (kl94_0 Go.Proofs.Tryz.prog):=kn0_ok.loop ok94_0

/-! ductility/safety.areWithin -/

abbrev as94:List Ty:=[(.int .i64),(.int .i64),(.slice (.int .i64))]
abbrev rs94:List Ty:=[.bool]

def t94 (x0:Int) (x1:Int) (x2:(List Int)):Tr (Tys.data rs94) :=
  Tr.test (Option.isSome (l94_0 ((x0,(x1,(x2,((↑(List.length x2):Int),((0:Int),()))))),())))
    (Tr.test (isRet (l94_0 ((x0,(x1,(x2,((↑(List.length x2):Int),((0:Int),()))))),())))
      (let r0:=r94_0 ((x0,(x1,(x2,((↑(List.length x2):Int),((0:Int),()))))),());
      Tr.fin ((r0.1.1,())))
      (Tr.fin (((true:Bool),()))))
    (Tr.stop)

def f94 (d:Tys.data as94):Option (Tys.data rs94):=(t94 d.1 d.2.1 d.2.2.1).val
def g94 (d:Tys.data as94):Tys.data rs94:=(f94 d).getD (Tys.dflt rs94)
def p94:PureC:=pcOf as94 rs94 f94 g94

theorem wk94 (x0:Int) (x1:Int) (x2:(List Int)):Walks (runPure (kl94_0 Go.Proofs.Tryz.prog).orc Go.Proofs.Tryz.prog 400 94 as94 rs94 (x0,x1,x2,())) (t94 x0 x1 x2) [(bl 2 3,[2,4]),(bl 2 1,[2,4])] :=
  ⟨by kernel_rfl,by kernel_rfl,trivial⟩

theorem ok94_t (x0:Int) (x1:Int) (x2:(List Int)):TrOk (PureRuns Go.Proofs.Tryz.prog (kl94_0 Go.Proofs.Tryz.prog).orc 94 as94 rs94 (x0,x1,x2,())) (t94 x0 x1 x2) :=
  Walks.ok (fun _ _ _=>PureRuns.of) (wk94 x0 x1 x2) (by kernel_rfl)

theorem ok94:PureOk Go.Proofs.Tryz.prog 94 p94:=pureOk_of kl94_0_ok.base (T:=fun (d:Tys.data as94)=>t94 d.1 d.2.1 d.2.2.1) (by kernel_rfl) (fun (d:Tys.data as94)=>ok94_t d.1 d.2.1 d.2.2.1)
def kf94 (P:Go.Program):Known:=(kl94_0 P).func 94 p94
theorem kf94_ok:KnownOk Go.Proofs.Tryz.prog (kf94 Go.Proofs.Tryz.prog):=kl94_0_ok.func ok94

/-! ductility/safety.isBeyond -/

abbrev as117:List Ty:=[(.int .i64),(.slice (.int .i64))]
abbrev rs117:List Ty:=[.bool]

def t117 (x0:Int) (x1:(List Int)):Tr (Tys.data rs117) :=
  Tr.test (Option.isSome (f94 ((Go.IntKind.wrap Go.IntKind.i64 ((0:Int) - x0):Int),(x0,(x1,())))))
    (let r0:=g94 ((Go.IntKind.wrap Go.IntKind.i64 ((0:Int) - x0):Int),(x0,(x1,())));
    Tr.fin (((!r0.1:Bool),())))
    (Tr.stop)

def f117 (d:Tys.data as117):Option (Tys.data rs117):=(t117 d.1 d.2.1).val
def g117 (d:Tys.data as117):Tys.data rs117:=(f117 d).getD (Tys.dflt rs117)
def p117:PureC:=pcOf as117 rs117 f117 g117

theorem wk117 (x0:Int) (x1:(List Int)):Walks (runPure (kf94 Go.Proofs.Tryz.prog).orc Go.Proofs.Tryz.prog 400 117 as117 rs117 (x0,x1,())) (t117 x0 x1) [(bl 1 1,[2])] :=
  ⟨by kernel_rfl,trivial⟩

theorem ok117_t (x0:Int) (x1:(List Int)):TrOk (PureRuns Go.Proofs.Tryz.prog (kf94 Go.Proofs.Tryz.prog).orc 117 as117 rs117 (x0,x1,())) (t117 x0 x1) :=
  Walks.ok (fun _ _ _=>PureRuns.of) (wk117 x0 x1) (by kernel_rfl)

theorem ok117:PureOk Go.Proofs.Tryz.prog 117 p117:=pureOk_of kf94_ok.base (T:=fun (d:Tys.data as117)=>t117 d.1 d.2.1) (by kernel_rfl) (fun (d:Tys.data as117)=>ok117_t d.1 d.2.1)
def kf117 (P:Go.Program):Known:=(kf94 P).func 117 p117
theorem kf117_ok:KnownOk Go.Proofs.Tryz.prog (kf117 Go.Proofs.Tryz.prog):=kf94_ok.func ok117

/-! ductility/safety.moved -/

abbrev as121:List Ty:=[(.pair (.int .i64) (.pair (.int .i64) (.pair (.int .i64) .unit))),(.int .i64)]
abbrev rs121:List Ty:=[(.pair (.int .i64) (.pair (.int .i64) (.pair (.int .i64) .unit)))]

def t121 (x0:Int) (x0':Int) (x0'':Int) (x1:Int):Tr (Tys.data rs121) :=
  Tr.fin ((((wrap64 (x0 + wrap64 (x0' + x1)):Int),((wrap64 (x0' + x1):Int),(x1,()))),()))

def f121 (d:Tys.data as121):Option (Tys.data rs121):=(t121 d.1.1 d.1.2.1 d.1.2.2.1 d.2.1).val
def g121 (d:Tys.data as121):Tys.data rs121:=(f121 d).getD (Tys.dflt rs121)
def p121:PureC:=pcOf as121 rs121 f121 g121

theorem wk121 (x0:Int) (x0':Int) (x0'':Int) (x1:Int):Walks (runPure (kf117 Go.Proofs.Tryz.prog).orc Go.Proofs.Tryz.prog 400 121 as121 rs121 ((x0,x0',x0'',()),x1,())) (t121 x0 x0' x0'' x1) [(bl 0 0,[])] :=
  ⟨by kernel_rfl,trivial⟩

theorem ok121_t (x0:Int) (x0':Int) (x0'':Int) (x1:Int):TrOk (PureRuns Go.Proofs.Tryz.prog (kf117 Go.Proofs.Tryz.prog).orc 121 as121 rs121 ((x0,x0',x0'',()),x1,())) (t121 x0 x0' x0'' x1) :=
  Walks.ok (fun _ _ _=>PureRuns.of) (wk121 x0 x0' x0'' x1) (by kernel_rfl)

theorem ok121:PureOk Go.Proofs.Tryz.prog 121 p121:=pureOk_of kf117_ok.base (T:=fun (d:Tys.data as121)=>t121 d.1.1 d.1.2.1 d.1.2.2.1 d.2.1) (by kernel_rfl) (fun (d:Tys.data as121)=>ok121_t d.1.1 d.1.2.1 d.1.2.2.1 d.2.1)
def kf121 (P:Go.Program):Known:=(kf117 P).func 121 p121
theorem kf121_ok:KnownOk Go.Proofs.Tryz.prog (kf121 Go.Proofs.Tryz.prog):=kf117_ok.func ok121

/-! (ductility/safety.limits).contain -/

abbrev as160:List Ty:=[(.pair (.pair (.pair (.int .i64) (.pair (.int .i64) .unit)) (.pair (.int .i64) (.pair (.int .i64) (.pair (.int .i64) .unit)))) .unit),(.pair (.int .i64) (.pair (.int .i64) (.pair (.int .i64) .unit)))]
abbrev rs160:List Ty:=[.bool]

def t160 (x0__:Int) (x0__':Int) (x0_':Int) (x0_'':Int) (x0_''':Int) (x1:Int) (x1':Int) (x1'':Int):Tr (Tys.data rs160) :=
  Tr.test (Option.isSome (f94 (x0__,(x0__',(([x1]:List Int),())))))
    (let r0:=g94 (x0__,(x0__',(([x1]:List Int),())));
    Tr.test (r0.1)
      (Tr.test (Option.isSome (f117 (x0_',(([x1']:List Int),()))))
        (let r1:=g117 (x0_',(([x1']:List Int),()));
        Tr.test ((!r1.1:Bool))
          (Tr.test (Option.isSome (f117 (x0_'',(([x1'']:List Int),()))))
            (let r2:=g117 (x0_'',(([x1'']:List Int),()));
            Tr.fin (((!r2.1:Bool),())))
            (Tr.stop))
          (Tr.fin (((false:Bool),()))))
        (Tr.stop))
      (Tr.fin (((false:Bool),()))))
    (Tr.stop)

def f160 (d:Tys.data as160):Option (Tys.data rs160):=(t160 d.1.1.1.1 d.1.1.1.2.1 d.1.1.2.1 d.1.1.2.2.1 d.1.1.2.2.2.1 d.2.1.1 d.2.1.2.1 d.2.1.2.2.1).val
def g160 (d:Tys.data as160):Tys.data rs160:=(f160 d).getD (Tys.dflt rs160)
def p160:PureC:=pcOf as160 rs160 f160 g160

theorem wk160 (x0__:Int) (x0__':Int) (x0_':Int) (x0_'':Int) (x0_''':Int) (x1:Int) (x1':Int) (x1'':Int):Walks (runPure (kf121 Go.Proofs.Tryz.prog).orc Go.Proofs.Tryz.prog 400 160 as160 rs160 ((((x0__,x0__',()),x0_',x0_'',x0_''',()),()),(x1,x1',x1'',()),())) (t160 x0__ x0__' x0_' x0_'' x0_''' x1 x1' x1'') [(bl 5 31,[4,4,2,4,4,4,4,1,4,4,4,8,8,6,8,8,8,8,1,8,8,8,10,1,1]),(bl 4 7,[2,2,2,2,2,2,2,2,2,6,6,4,6,6,6,6,1,6,6,6,8,1,1]),(bl 2 1,[0,0,0,0,0,0,0,0,0,2,2,2,2,2,2,2,2,2,4,1,1])] :=
  ⟨by kernel_rfl,by kernel_rfl,by kernel_rfl,trivial⟩

theorem ok160_t (x0__:Int) (x0__':Int) (x0_':Int) (x0_'':Int) (x0_''':Int) (x1:Int) (x1':Int) (x1'':Int):TrOk (PureRuns Go.Proofs.Tryz.prog (kf121 Go.Proofs.Tryz.prog).orc 160 as160 rs160 ((((x0__,x0__',()),x0_',x0_'',x0_''',()),()),(x1,x1',x1'',()),())) (t160 x0__ x0__' x0_' x0_'' x0_''' x1 x1' x1'') :=
  Walks.ok (fun _ _ _=>PureRuns.of) (wk160 x0__ x0__' x0_' x0_'' x0_''' x1 x1' x1'') (by kernel_rfl)

theorem ok160:PureOk Go.Proofs.Tryz.prog 160 p160:=pureOk_of kf121_ok.base (T:=fun (d:Tys.data as160)=>t160 d.1.1.1.1 d.1.1.1.2.1 d.1.1.2.1 d.1.1.2.2.1 d.1.1.2.2.2.1 d.2.1.1 d.2.1.2.1 d.2.1.2.2.1) (by kernel_rfl) (fun (d:Tys.data as160)=>ok160_t d.1.1.1.1 d.1.1.1.2.1 d.1.1.2.1 d.1.1.2.2.1 d.1.1.2.2.2.1 d.2.1.1 d.2.1.2.1 d.2.1.2.2.1)
def kf160 (P:Go.Program):Known:=(kf121 P).func 160 p160
theorem kf160_ok:KnownOk Go.Proofs.Tryz.prog (kf160 Go.Proofs.Tryz.prog):=kf121_ok.func ok160

/-! (ductility/safety.limits).permit -/

abbrev as120:List Ty:=[(.pair (.pair (.pair (.int .i64) (.pair (.int .i64) .unit)) (.pair (.int .i64) (.pair (.int .i64) (.pair (.int .i64) .unit)))) .unit),(.pair (.int .i64) (.pair (.int .i64) (.pair (.int .i64) .unit))),(.int .i64)]
abbrev rs120:List Ty:=[.bool]

def t120 (x0__:Int) (x0__':Int) (x0_':Int) (x0_'':Int) (x0_''':Int) (x1:Int) (x1':Int) (x1'':Int) (x2:Int):Tr (Tys.data rs120) :=
  Tr.test (Option.isSome (f117 (x0_'',(([x2]:List Int),()))))
    (let r0:=g117 (x0_'',(([x2]:List Int),()));
    Tr.test ((!r0.1:Bool))
      (Tr.test (Option.isSome (f117 (x0_''',(([wrap64 (x2 - x1'')]:List Int),()))))
        (let r1:=g117 (x0_''',(([wrap64 (x2 - x1'')]:List Int),()));
        Tr.test ((!r1.1:Bool))
          (Tr.test (Option.isSome (f121 ((x1,(x1',(x1'',()))),(x2,()))))
            (let r2:=g121 ((x1,(x1',(x1'',()))),(x2,()));
            Tr.test (Option.isSome (f160 ((((x0__,(x0__',())),(x0_',(x0_'',(x0_''',())))),()),((r2.1.1,(r2.1.2.1,(r2.1.2.2.1,()))),()))))
              (let r3:=g160 ((((x0__,(x0__',())),(x0_',(x0_'',(x0_''',())))),()),((r2.1.1,(r2.1.2.1,(r2.1.2.2.1,()))),()));
              Tr.fin ((r3.1,())))
              (Tr.stop))
            (Tr.stop))
          (Tr.fin (((false:Bool),()))))
        (Tr.stop))
      (Tr.fin (((false:Bool),()))))
    (Tr.stop)

def f120 (d:Tys.data as120):Option (Tys.data rs120):=(t120 d.1.1.1.1 d.1.1.1.2.1 d.1.1.2.1 d.1.1.2.2.1 d.1.1.2.2.2.1 d.2.1.1 d.2.1.2.1 d.2.1.2.2.1 d.2.2.1).val
def g120 (d:Tys.data as120):Tys.data rs120:=(f120 d).getD (Tys.dflt rs120)
def p120:PureC:=pcOf as120 rs120 f120 g120

theorem wk120 (x0__:Int) (x0__':Int) (x0_':Int) (x0_'':Int) (x0_''':Int) (x1:Int) (x1':Int) (x1'':Int) (x2:Int):Walks (runPure (kf160 Go.Proofs.Tryz.prog).orc Go.Proofs.Tryz.prog 400 120 as120 rs120 ((((x0__,x0__',()),x0_',x0_'',x0_''',()),()),(x1,x1',x1'',()),x2,())) (t120 x0__ x0__' x0_' x0_'' x0_''' x1 x1' x1'' x2) [(bl 6 63,[6,2,6,4,6,6,6,6,10,10,8,10,10,10,10,10,10,1,10,10,10,12,1]),(bl 4 7,[2,2,2,2,2,2,6,6,4,6,6,6,6,6,6,1,6,6,6,8,1]),(bl 2 1,[0,0,0,0,0,0,2,2,2,2,2,2,2,2,2,2,2,4,1])] :=
  ⟨by kernel_rfl,by kernel_rfl,by kernel_rfl,trivial⟩

theorem ok120_t (x0__:Int) (x0__':Int) (x0_':Int) (x0_'':Int) (x0_''':Int) (x1:Int) (x1':Int) (x1'':Int) (x2:Int):TrOk (PureRuns Go.Proofs.Tryz.prog (kf160 Go.Proofs.Tryz.prog).orc 120 as120 rs120 ((((x0__,x0__',()),x0_',x0_'',x0_''',()),()),(x1,x1',x1'',()),x2,())) (t120 x0__ x0__' x0_' x0_'' x0_''' x1 x1' x1'' x2) :=
  Walks.ok (fun _ _ _=>PureRuns.of) (wk120 x0__ x0__' x0_' x0_'' x0_''' x1 x1' x1'' x2) (by kernel_rfl)

theorem ok120:PureOk Go.Proofs.Tryz.prog 120 p120:=pureOk_of kf160_ok.base (T:=fun (d:Tys.data as120)=>t120 d.1.1.1.1 d.1.1.1.2.1 d.1.1.2.1 d.1.1.2.2.1 d.1.1.2.2.2.1 d.2.1.1 d.2.1.2.1 d.2.1.2.2.1 d.2.2.1) (by kernel_rfl) (fun (d:Tys.data as120)=>ok120_t d.1.1.1.1 d.1.1.1.2.1 d.1.1.2.1 d.1.1.2.2.1 d.1.1.2.2.2.1 d.2.1.1 d.2.1.2.1 d.2.1.2.2.1 d.2.2.1)
def kf120 (P:Go.Program):Known:=(kf160 P).func 120 p120
theorem kf120_ok:KnownOk Go.Proofs.Tryz.prog (kf120 Go.Proofs.Tryz.prog):=kf160_ok.func ok120

/-! ductility/safety.isStopped -/

abbrev as122:List Ty:=[(.pair (.int .i64) (.pair (.int .i64) (.pair (.int .i64) .unit)))]
abbrev rs122:List Ty:=[.bool]

def t122 (x0:Int) (x0':Int) (x0'':Int):Tr (Tys.data rs122) :=
  Tr.test ((eqF x0' 0:Bool))
    (Tr.fin ((eqF x0'' 0,())))
    (Tr.fin ((false,())))

def f122 (d:Tys.data as122):Option (Tys.data rs122):=(t122 d.1.1 d.1.2.1 d.1.2.2.1).val
def g122 (d:Tys.data as122):Tys.data rs122:=(f122 d).getD (Tys.dflt rs122)
def p122:PureC:=pcOf as122 rs122 f122 g122

theorem wk122 (x0:Int) (x0':Int) (x0'':Int):Walks (runPure (kf120 Go.Proofs.Tryz.prog).orc Go.Proofs.Tryz.prog 400 122 as122 rs122 ((x0,x0',x0'',()),())) (t122 x0 x0' x0'') [(bl 1 1,[2,2,2,2]),(bl 1 0,[2,2,2,2])] :=
  ⟨by kernel_rfl,by kernel_rfl,trivial⟩

theorem ok122_t (x0:Int) (x0':Int) (x0'':Int):TrOk (PureRuns Go.Proofs.Tryz.prog (kf120 Go.Proofs.Tryz.prog).orc 122 as122 rs122 ((x0,x0',x0'',()),())) (t122 x0 x0' x0'') :=
  Walks.ok (fun _ _ _=>PureRuns.of) (wk122 x0 x0' x0'') (by kernel_rfl)

theorem ok122:PureOk Go.Proofs.Tryz.prog 122 p122:=pureOk_of kf120_ok.base (T:=fun (d:Tys.data as122)=>t122 d.1.1 d.1.2.1 d.1.2.2.1) (by kernel_rfl) (fun (d:Tys.data as122)=>ok122_t d.1.1 d.1.2.1 d.1.2.2.1)
def kf122 (P:Go.Program):Known:=(kf120 P).func 122 p122
theorem kf122_ok:KnownOk Go.Proofs.Tryz.prog (kf122 Go.Proofs.Tryz.prog):=kf120_ok.func ok122

/-! ductility/ductilitylaw09.awake -/

abbrev as14:List Ty:=[]
abbrev rs14:List Ty:=[.bool]
def f14 (_:Tys.data as14):Option (Tys.data rs14):=some (true,())
def g14 (_:Tys.data as14):Tys.data rs14:=(true,())
def p14:PureC:=pcOf as14 rs14 f14 g14

theorem e14:runAsk (kf122 Go.Proofs.Tryz.prog).orc Go.Proofs.Tryz.prog 400 14 as14 rs14 () none = some ((true,()),[]):=by kernel_rfl
theorem ok14:PureOk Go.Proofs.Tryz.prog 14 p14:=pureOk_closed kf122_ok.base (by kernel_rfl) e14 All.nil
def kf14 (P:Go.Program):Known:=(kf122 P).func 14 p14
theorem kf14_ok:KnownOk Go.Proofs.Tryz.prog (kf14 Go.Proofs.Tryz.prog):=kf122_ok.func ok14

/-! ductility/ductilitylaw09.short -/

abbrev as78:List Ty:=[(.pair (.slice (.int .i64)) (.pair (.slice (.int .i64)) .unit))]
abbrev rs78:List Ty:=[.bool]

def t78 (x0:(List Int)) (x0':(List Int)):Tr (Tys.data rs78) :=
  Tr.test ((leF (↑(List.length x0):Int) (10:Int):Bool))
    (Tr.fin ((leF (↑(List.length x0'):Int) (10:Int),())))
    (Tr.fin ((false,())))

def f78 (d:Tys.data as78):Option (Tys.data rs78):=(t78 d.1.1 d.1.2.1).val
def g78 (d:Tys.data as78):Tys.data rs78:=(f78 d).getD (Tys.dflt rs78)
def p78:PureC:=pcOf as78 rs78 f78 g78

theorem wk78 (x0:(List Int)) (x0':(List Int)):Walks (runPure (kf14 Go.Proofs.Tryz.prog).orc Go.Proofs.Tryz.prog 400 78 as78 rs78 ((x0,x0',()),())) (t78 x0 x0') [(bl 1 1,[2,2,2,2,2]),(bl 1 0,[2,2,2,2,2])] :=
  ⟨by kernel_rfl,by kernel_rfl,trivial⟩

theorem ok78_t (x0:(List Int)) (x0':(List Int)):TrOk (PureRuns Go.Proofs.Tryz.prog (kf14 Go.Proofs.Tryz.prog).orc 78 as78 rs78 ((x0,x0',()),())) (t78 x0 x0') :=
  Walks.ok (fun _ _ _=>PureRuns.of) (wk78 x0 x0') (by kernel_rfl)

theorem ok78:PureOk Go.Proofs.Tryz.prog 78 p78:=pureOk_of kf14_ok.base (T:=fun (d:Tys.data as78)=>t78 d.1.1 d.1.2.1) (by kernel_rfl) (fun (d:Tys.data as78)=>ok78_t d.1.1 d.1.2.1)
def kf78 (P:Go.Program):Known:=(kf14 P).func 78 p78
theorem kf78_ok:KnownOk Go.Proofs.Tryz.prog (kf78 Go.Proofs.Tryz.prog):=kf14_ok.func ok78

/-! loop 0 of ductility/ductilitylaw09.few -/

abbrev sh15_0:Sh:={ n:=85,slots:=[1,3],pats:=[.ptr 0 3 0,.ty (.int .i64)],boxes:=[.row [.ty (.slice .str),.ty (.slice (.pair .str (.pair (.pair (.slice (.int .i64)) (.pair (.slice (.int .i64)) .unit)) (.pair (.pair (.slice (.int .i64)) (.pair (.slice (.int .i64)) .unit)) .unit)))),.ty (.slice (.pair (.slice (.int .i64)) (.pair (.slice (.int .i64)) .unit)))]] }
abbrev shb15_0:Sh:={ n:=85,slots:=[1],pats:=[.ptr 0 3 0],boxes:=[.row [.ty (.slice .str),.ty (.slice (.pair .str (.pair (.pair (.slice (.int .i64)) (.pair (.slice (.int .i64)) .unit)) (.pair (.pair (.slice (.int .i64)) (.pair (.slice (.int .i64)) .unit)) .unit)))),.ty (.slice (.pair (.slice (.int .i64)) (.pair (.slice (.int .i64)) .unit)))]] }
abbrev shr15_0:Sh:={ n:=85,slots:=[2],pats:=[.ty .bool],boxes:=[.row [.ty (.slice .str),.ty (.slice (.pair .str (.pair (.pair (.slice (.int .i64)) (.pair (.slice (.int .i64)) .unit)) (.pair (.pair (.slice (.int .i64)) (.pair (.slice (.int .i64)) .unit)) .unit)))),.ty (.slice (.pair (.slice (.int .i64)) (.pair (.slice (.int .i64)) .unit)))]] }

def t15_0 (x1:Int) (b0_0:(List ByteArray)) (b0_1:(List (ByteArray×(((List Int)×((List Int)×Unit))×(((List Int)×((List Int)×Unit))×Unit))))) (b0_2:(List ((List Int)×((List Int)×Unit)))):Tr (Out sh15_0.data shb15_0.data shr15_0.data) :=
  Tr.test ((!leF (↑(List.length b0_0):Int) x1:Bool))
    (Tr.test (decide ((0:Int) ≤ x1) && decide (x1 < (↑(List.length b0_0):Int)))
      (Tr.test ((!leF (↑(ByteArray.size (List.getD b0_0 (Int.toNat x1) { data:={ toList:=[] } })):Int) (30:Int):Bool))
        (Tr.fin (.ret (((false:Bool),()),((b0_0,(b0_1,(b0_2,()))),()))))
        (Tr.fin (.again (((wrap64 (x1 + (1:Int)):Int),()),((b0_0,(b0_1,(b0_2,()))),())))))
      (Tr.stop))
    (Tr.fin (.brk ((),((b0_0,(b0_1,(b0_2,()))),()))))

def s15_0 (d:sh15_0.data):Option (Out sh15_0.data shb15_0.data shr15_0.data):=(t15_0 d.1.1 d.2.1.1 d.2.1.2.1 d.2.1.2.2.1).val
def l15_0 (d:sh15_0.data):Option (shb15_0.data ⊕ shr15_0.data):=itr s15_0 rounds d
def b15_0 (d:sh15_0.data):shb15_0.data:=outB shb15_0.dflt (l15_0 d)
def r15_0 (d:sh15_0.data):shr15_0.data:=outR shr15_0.dflt (l15_0 d)
def lc15_0:LoopC:=lcOf sh15_0 shb15_0 shr15_0 l15_0 b15_0 r15_0

theorem wk15_0 (x1:Int) (b0_0:(List ByteArray)) (b0_1:(List (ByteArray×(((List Int)×((List Int)×Unit))×(((List Int)×((List Int)×Unit))×Unit))))) (b0_2:(List ((List Int)×((List Int)×Unit)))):Walks (runBody (kf78 Go.Proofs.Tryz.prog).orc Go.Proofs.Tryz.prog 400 15 0 sh15_0 shb15_0 shr15_0 ((x1,()),(b0_0,b0_1,b0_2,()),())) (t15_0 x1 b0_0 b0_1 b0_2) [(bl 3 7,[2,4,6]),(bl 3 3,[2,4,6]),(bl 1 0,[2])] :=
  ⟨by kernel_rfl,by kernel_rfl,by kernel_rfl,trivial⟩

theorem ok15_0_t (x1:Int) (b0_0:(List ByteArray)) (b0_1:(List (ByteArray×(((List Int)×((List Int)×Unit))×(((List Int)×((List Int)×Unit))×Unit))))) (b0_2:(List ((List Int)×((List Int)×Unit)))):TrOk (BodyRuns Go.Proofs.Tryz.prog (kf78 Go.Proofs.Tryz.prog).orc 15 0 sh15_0 shb15_0 shr15_0 ((x1,()),(b0_0,b0_1,b0_2,()),())) (t15_0 x1 b0_0 b0_1 b0_2) :=
  Walks.ok (fun _ _ _=>BodyRuns.of) (wk15_0 x1 b0_0 b0_1 b0_2) (by kernel_rfl)

theorem ok15_0:LoopOk Go.Proofs.Tryz.prog 15 0 lc15_0:=loopOk_of (sh:=sh15_0) (shB:=shb15_0) (shR:=shr15_0) kf78_ok.base (T:=fun (d:sh15_0.data)=>t15_0 d.1.1 d.2.1.1 d.2.1.2.1 d.2.1.2.2.1) (by kernel_rfl) rfl (fun (d:sh15_0.data)=>ok15_0_t d.1.1 d.2.1.1 d.2.1.2.1 d.2.1.2.2.1) (fun _=>rfl)
def kl15_0 (P:Go.Program):Known:=(kf78 P).loop 15 0 lc15_0
theorem kl15_0_ok:KnownOk Go.Proofs.Tryz.prog (kl15_0 Go.Proofs.Tryz.prog):=kf78_ok.loop ok15_0

/-! loop 2 of ductility/ductilitylaw09.few -/

abbrev sh15_2:Sh:={ n:=85,slots:=[1,4],pats:=[.ptr 0 3 0,.ty (.int .i64)],boxes:=[.row [.ty (.slice .str),.ty (.slice (.pair .str (.pair (.pair (.slice (.int .i64)) (.pair (.slice (.int .i64)) .unit)) (.pair (.pair (.slice (.int .i64)) (.pair (.slice (.int .i64)) .unit)) .unit)))),.ty (.slice (.pair (.slice (.int .i64)) (.pair (.slice (.int .i64)) .unit)))]] }
abbrev shb15_2:Sh:={ n:=85,slots:=[1],pats:=[.ptr 0 3 0],boxes:=[.row [.ty (.slice .str),.ty (.slice (.pair .str (.pair (.pair (.slice (.int .i64)) (.pair (.slice (.int .i64)) .unit)) (.pair (.pair (.slice (.int .i64)) (.pair (.slice (.int .i64)) .unit)) .unit)))),.ty (.slice (.pair (.slice (.int .i64)) (.pair (.slice (.int .i64)) .unit)))]] }
abbrev shr15_2:Sh:={ n:=85,slots:=[2],pats:=[.ty .bool],boxes:=[.row [.ty (.slice .str),.ty (.slice (.pair .str (.pair (.pair (.slice (.int .i64)) (.pair (.slice (.int .i64)) .unit)) (.pair (.pair (.slice (.int .i64)) (.pair (.slice (.int .i64)) .unit)) .unit)))),.ty (.slice (.pair (.slice (.int .i64)) (.pair (.slice (.int .i64)) .unit)))]] }

def t15_2 (x1:Int) (b0_0:(List ByteArray)) (b0_1:(List (ByteArray×(((List Int)×((List Int)×Unit))×(((List Int)×((List Int)×Unit))×Unit))))) (b0_2:(List ((List Int)×((List Int)×Unit)))):Tr (Out sh15_2.data shb15_2.data shr15_2.data) :=
  Tr.test ((!leF (↑(List.length b0_1):Int) x1:Bool))
    (Tr.test (decide ((0:Int) ≤ x1) && decide (x1 < (↑(List.length b0_1):Int)))
      (Tr.test ((!leF (↑(ByteArray.size (List.getD b0_1 (Int.toNat x1) ({ data:={ toList:=[] } },([],[],()),([],[],()),())).1):Int) (30:Int):Bool))
        (Tr.fin (.ret (((false:Bool),()),((b0_0,(b0_1,(b0_2,()))),()))))
        (Tr.test (Option.isSome (f78 ((((List.getD b0_1 (Int.toNat x1) ({ data:={ toList:=[] } },([],[],()),([],[],()),())).2.1.1:List Int),(((List.getD b0_1 (Int.toNat x1) ({ data:={ toList:=[] } },([],[],()),([],[],()),())).2.1.2.1:List Int),())),())))
          (let r0:=g78 ((((List.getD b0_1 (Int.toNat x1) ({ data:={ toList:=[] } },([],[],()),([],[],()),())).2.1.1:List Int),(((List.getD b0_1 (Int.toNat x1) ({ data:={ toList:=[] } },([],[],()),([],[],()),())).2.1.2.1:List Int),())),());
          Tr.test ((!r0.1:Bool))
            (Tr.fin (.ret (((false:Bool),()),((b0_0,(b0_1,(b0_2,()))),()))))
            (Tr.test (Option.isSome (f78 ((((List.getD b0_1 (Int.toNat x1) ({ data:={ toList:=[] } },([],[],()),([],[],()),())).2.2.1.1:List Int),(((List.getD b0_1 (Int.toNat x1) ({ data:={ toList:=[] } },([],[],()),([],[],()),())).2.2.1.2.1:List Int),())),())))
              (let r1:=g78 ((((List.getD b0_1 (Int.toNat x1) ({ data:={ toList:=[] } },([],[],()),([],[],()),())).2.2.1.1:List Int),(((List.getD b0_1 (Int.toNat x1) ({ data:={ toList:=[] } },([],[],()),([],[],()),())).2.2.1.2.1:List Int),())),());
              Tr.test ((!r1.1:Bool))
                (Tr.fin (.ret (((false:Bool),()),((b0_0,(b0_1,(b0_2,()))),()))))
                (Tr.fin (.again (((wrap64 (x1 + (1:Int)):Int),()),((b0_0,(b0_1,(b0_2,()))),())))))
              (Tr.stop)))
          (Tr.stop)))
      (Tr.stop))
    (Tr.fin (.brk ((),((b0_0,(b0_1,(b0_2,()))),()))))

def s15_2 (d:sh15_2.data):Option (Out sh15_2.data shb15_2.data shr15_2.data):=(t15_2 d.1.1 d.2.1.1 d.2.1.2.1 d.2.1.2.2.1).val
def l15_2 (d:sh15_2.data):Option (shb15_2.data ⊕ shr15_2.data):=itr s15_2 rounds d
def b15_2 (d:sh15_2.data):shb15_2.data:=outB shb15_2.dflt (l15_2 d)
def r15_2 (d:sh15_2.data):shr15_2.data:=outR shr15_2.dflt (l15_2 d)
def lc15_2:LoopC:=lcOf sh15_2 shb15_2 shr15_2 l15_2 b15_2 r15_2

theorem wk15_2 (x1:Int) (b0_0:(List ByteArray)) (b0_1:(List (ByteArray×(((List Int)×((List Int)×Unit))×(((List Int)×((List Int)×Unit))×Unit))))) (b0_2:(List ((List Int)×((List Int)×Unit)))):Walks (runBody (kl15_0 Go.Proofs.Tryz.prog).orc Go.Proofs.Tryz.prog 400 15 2 sh15_2 shb15_2 shr15_2 ((x1,()),(b0_0,b0_1,b0_2,()),())) (t15_2 x1 b0_0 b0_1 b0_2) [(bl 3 7,[1,1,1,1,1,1,1,1,1,1,2,2,2,2,2,2,2,2,2,4,6]),(bl 5 27,[1,2,2,2,2,2,2,2,2,2,6,6,4,6,6,6,8,6,6,6,6,8,10]),(bl 7 107,[2,6,6,4,6,6,6,12,6,6,6,6,10,10,8,10,10,10,12,10,10,10,10,12,14]),(bl 7 43,[2,6,6,4,6,6,6,12,6,6,6,6,10,10,8,10,10,10,12,10,10,10,10,12,14]),(bl 1 0,[2])] :=
  ⟨by kernel_rfl,by kernel_rfl,by kernel_rfl,by kernel_rfl,by kernel_rfl,trivial⟩

theorem ok15_2_t (x1:Int) (b0_0:(List ByteArray)) (b0_1:(List (ByteArray×(((List Int)×((List Int)×Unit))×(((List Int)×((List Int)×Unit))×Unit))))) (b0_2:(List ((List Int)×((List Int)×Unit)))):TrOk (BodyRuns Go.Proofs.Tryz.prog (kl15_0 Go.Proofs.Tryz.prog).orc 15 2 sh15_2 shb15_2 shr15_2 ((x1,()),(b0_0,b0_1,b0_2,()),())) (t15_2 x1 b0_0 b0_1 b0_2) :=
  Walks.ok (fun _ _ _=>BodyRuns.of) (wk15_2 x1 b0_0 b0_1 b0_2) (by kernel_rfl)

theorem ok15_2:LoopOk Go.Proofs.Tryz.prog 15 2 lc15_2:=loopOk_of (sh:=sh15_2) (shB:=shb15_2) (shR:=shr15_2) kl15_0_ok.base (T:=fun (d:sh15_2.data)=>t15_2 d.1.1 d.2.1.1 d.2.1.2.1 d.2.1.2.2.1) (by kernel_rfl) rfl (fun (d:sh15_2.data)=>ok15_2_t d.1.1 d.2.1.1 d.2.1.2.1 d.2.1.2.2.1) (fun _=>rfl)
def kl15_2 (P:Go.Program):Known:=(kl15_0 P).loop 15 2 lc15_2
theorem kl15_2_ok:KnownOk Go.Proofs.Tryz.prog (kl15_2 Go.Proofs.Tryz.prog):=kl15_0_ok.loop ok15_2

/-! loop 4 of ductility/ductilitylaw09.few -/

abbrev sh15_4:Sh:={ n:=85,slots:=[1,5],pats:=[.ptr 0 3 0,.ty (.int .i64)],boxes:=[.row [.ty (.slice .str),.ty (.slice (.pair .str (.pair (.pair (.slice (.int .i64)) (.pair (.slice (.int .i64)) .unit)) (.pair (.pair (.slice (.int .i64)) (.pair (.slice (.int .i64)) .unit)) .unit)))),.ty (.slice (.pair (.slice (.int .i64)) (.pair (.slice (.int .i64)) .unit)))]] }
abbrev shb15_4:Sh:={ n:=85,slots:=[],pats:=[],boxes:=[.row [.ty (.slice .str),.ty (.slice (.pair .str (.pair (.pair (.slice (.int .i64)) (.pair (.slice (.int .i64)) .unit)) (.pair (.pair (.slice (.int .i64)) (.pair (.slice (.int .i64)) .unit)) .unit)))),.ty (.slice (.pair (.slice (.int .i64)) (.pair (.slice (.int .i64)) .unit)))]] }
abbrev shr15_4:Sh:={ n:=85,slots:=[2],pats:=[.ty .bool],boxes:=[.row [.ty (.slice .str),.ty (.slice (.pair .str (.pair (.pair (.slice (.int .i64)) (.pair (.slice (.int .i64)) .unit)) (.pair (.pair (.slice (.int .i64)) (.pair (.slice (.int .i64)) .unit)) .unit)))),.ty (.slice (.pair (.slice (.int .i64)) (.pair (.slice (.int .i64)) .unit)))]] }

def t15_4 (x1:Int) (b0_0:(List ByteArray)) (b0_1:(List (ByteArray×(((List Int)×((List Int)×Unit))×(((List Int)×((List Int)×Unit))×Unit))))) (b0_2:(List ((List Int)×((List Int)×Unit)))):Tr (Out sh15_4.data shb15_4.data shr15_4.data) :=
  Tr.test ((!leF (↑(List.length b0_2):Int) x1:Bool))
    (Tr.test (decide ((0:Int) ≤ x1) && decide (x1 < (↑(List.length b0_2):Int)))
      (Tr.test (Option.isSome (f78 ((((List.getD b0_2 (Int.toNat x1) ([],[],())).1:List Int),(((List.getD b0_2 (Int.toNat x1) ([],[],())).2.1:List Int),())),())))
        (let r0:=g78 ((((List.getD b0_2 (Int.toNat x1) ([],[],())).1:List Int),(((List.getD b0_2 (Int.toNat x1) ([],[],())).2.1:List Int),())),());
        Tr.test ((!r0.1:Bool))
          (Tr.fin (.ret (((false:Bool),()),((b0_0,(b0_1,(b0_2,()))),()))))
          (Tr.fin (.again (((wrap64 (x1 + (1:Int)):Int),()),((b0_0,(b0_1,(b0_2,()))),())))))
        (Tr.stop))
      (Tr.stop))
    (Tr.fin (.brk ((),((b0_0,(b0_1,(b0_2,()))),()))))

def s15_4 (d:sh15_4.data):Option (Out sh15_4.data shb15_4.data shr15_4.data):=(t15_4 d.1.1 d.2.1.1 d.2.1.2.1 d.2.1.2.2.1).val
def l15_4 (d:sh15_4.data):Option (shb15_4.data ⊕ shr15_4.data):=itr s15_4 rounds d
def b15_4 (d:sh15_4.data):shb15_4.data:=outB shb15_4.dflt (l15_4 d)
def r15_4 (d:sh15_4.data):shr15_4.data:=outR shr15_4.dflt (l15_4 d)
def lc15_4:LoopC:=lcOf sh15_4 shb15_4 shr15_4 l15_4 b15_4 r15_4

theorem wk15_4 (x1:Int) (b0_0:(List ByteArray)) (b0_1:(List (ByteArray×(((List Int)×((List Int)×Unit))×(((List Int)×((List Int)×Unit))×Unit))))) (b0_2:(List ((List Int)×((List Int)×Unit)))):Walks (runBody (kl15_2 Go.Proofs.Tryz.prog).orc Go.Proofs.Tryz.prog 400 15 4 sh15_4 shb15_4 shr15_4 ((x1,()),(b0_0,b0_1,b0_2,()),())) (t15_4 x1 b0_0 b0_1 b0_2) [(bl 4 15,[2,4,6,8]),(bl 4 7,[2,4,6,8]),(bl 1 0,[2])] :=
  ⟨by kernel_rfl,by kernel_rfl,by kernel_rfl,trivial⟩

theorem ok15_4_t (x1:Int) (b0_0:(List ByteArray)) (b0_1:(List (ByteArray×(((List Int)×((List Int)×Unit))×(((List Int)×((List Int)×Unit))×Unit))))) (b0_2:(List ((List Int)×((List Int)×Unit)))):TrOk (BodyRuns Go.Proofs.Tryz.prog (kl15_2 Go.Proofs.Tryz.prog).orc 15 4 sh15_4 shb15_4 shr15_4 ((x1,()),(b0_0,b0_1,b0_2,()),())) (t15_4 x1 b0_0 b0_1 b0_2) :=
  Walks.ok (fun _ _ _=>BodyRuns.of) (wk15_4 x1 b0_0 b0_1 b0_2) (by kernel_rfl)

theorem ok15_4:LoopOk Go.Proofs.Tryz.prog 15 4 lc15_4:=loopOk_of (sh:=sh15_4) (shB:=shb15_4) (shR:=shr15_4) kl15_2_ok.base (T:=fun (d:sh15_4.data)=>t15_4 d.1.1 d.2.1.1 d.2.1.2.1 d.2.1.2.2.1) (by kernel_rfl) rfl (fun (d:sh15_4.data)=>ok15_4_t d.1.1 d.2.1.1 d.2.1.2.1 d.2.1.2.2.1) (fun _=>rfl)
def kl15_4 (P:Go.Program):Known:=(kl15_2 P).loop 15 4 lc15_4
theorem kl15_4_ok:KnownOk Go.Proofs.Tryz.prog (kl15_4 Go.Proofs.Tryz.prog):=kl15_2_ok.loop ok15_4

/-! ductility/ductilitylaw09.few -/

abbrev as15:List Ty:=[(.pair (.slice .str) (.pair (.slice (.pair .str (.pair (.pair (.slice (.int .i64)) (.pair (.slice (.int .i64)) .unit)) (.pair (.pair (.slice (.int .i64)) (.pair (.slice (.int .i64)) .unit)) .unit)))) (.pair (.slice (.pair (.slice (.int .i64)) (.pair (.slice (.int .i64)) .unit))) .unit)))]
abbrev rs15:List Ty:=[.bool]

def t15 (x0:(List ByteArray)) (x0':(List (ByteArray×(((List Int)×((List Int)×Unit))×(((List Int)×((List Int)×Unit))×Unit))))) (x0'':(List ((List Int)×((List Int)×Unit)))):Tr (Tys.data rs15) :=
  Tr.test ((!leF (↑(List.length x0):Int) (10:Int):Bool))
    (Tr.fin ((false,())))
    (Tr.test (!leF (↑(List.length x0'):Int) (12:Int))
      (Tr.fin (((false:Bool),())))
      (Tr.test ((!leF (↑(List.length x0''):Int) (6:Int):Bool))
        (Tr.fin (((false:Bool),())))
        (Tr.test (Option.isSome (l15_0 (((0:Int),()),((x0,(x0',(x0'',()))),()))))
          (Tr.test (isRet (l15_0 (((0:Int),()),((x0,(x0',(x0'',()))),()))))
            (let r0:=r15_0 (((0:Int),()),((x0,(x0',(x0'',()))),()));
            Tr.fin ((r0.1.1,())))
            (let r1:=b15_0 (((0:Int),()),((x0,(x0',(x0'',()))),()));
            Tr.test (Option.isSome (l15_2 (((0:Int),()),((r1.2.1.1,((r1.2.1.2.1:List (ByteArray×(List Int×List Int×PUnit)×(List Int×List Int×PUnit)×PUnit)),(r1.2.1.2.2.1,()))),()))))
              (Tr.test (isRet (l15_2 (((0:Int),()),((r1.2.1.1,((r1.2.1.2.1:List (ByteArray×(List Int×List Int×PUnit)×(List Int×List Int×PUnit)×PUnit)),(r1.2.1.2.2.1,()))),()))))
                (let r2:=r15_2 (((0:Int),()),((r1.2.1.1,((r1.2.1.2.1:List (ByteArray×(List Int×List Int×PUnit)×(List Int×List Int×PUnit)×PUnit)),(r1.2.1.2.2.1,()))),()));
                Tr.fin ((r2.1.1,())))
                (let r3:=b15_2 (((0:Int),()),((r1.2.1.1,((r1.2.1.2.1:List (ByteArray×(List Int×List Int×PUnit)×(List Int×List Int×PUnit)×PUnit)),(r1.2.1.2.2.1,()))),()));
                Tr.test (Option.isSome (l15_4 (((0:Int),()),((r3.2.1.1,((r3.2.1.2.1:List (ByteArray×(List Int×List Int×PUnit)×(List Int×List Int×PUnit)×PUnit)),(r3.2.1.2.2.1,()))),()))))
                  (Tr.test (isRet (l15_4 (((0:Int),()),((r3.2.1.1,((r3.2.1.2.1:List (ByteArray×(List Int×List Int×PUnit)×(List Int×List Int×PUnit)×PUnit)),(r3.2.1.2.2.1,()))),()))))
                    (let r4:=r15_4 (((0:Int),()),((r3.2.1.1,((r3.2.1.2.1:List (ByteArray×(List Int×List Int×PUnit)×(List Int×List Int×PUnit)×PUnit)),(r3.2.1.2.2.1,()))),()));
                    Tr.fin ((r4.1.1,())))
                    (Tr.fin (((true:Bool),()))))
                  (Tr.stop)))
              (Tr.stop)))
          (Tr.stop))))

def f15 (d:Tys.data as15):Option (Tys.data rs15):=(t15 d.1.1 d.1.2.1 d.1.2.2.1).val
def g15 (d:Tys.data as15):Tys.data rs15:=(f15 d).getD (Tys.dflt rs15)
def p15:PureC:=pcOf as15 rs15 f15 g15

theorem wk15 (x0:(List ByteArray)) (x0':(List (ByteArray×(((List Int)×((List Int)×Unit))×(((List Int)×((List Int)×Unit))×Unit))))) (x0'':(List ((List Int)×((List Int)×Unit)))):Walks (runPure (kl15_4 Go.Proofs.Tryz.prog).orc Go.Proofs.Tryz.prog 400 15 as15 rs15 ((x0,x0',x0'',()),())) (t15 x0 x0' x0'') [(bl 1 1,[1,1,1,1,1,1,2,2,2,2,2]),(bl 2 2,[1,2,2,2,2,2,4,4,4,4,4]),(bl 3 4,[2,4,4,4,4,4,6,6,6,6,6]),(bl 5 24,[2,4,6,8,8,8,8,8,10,10,10,10,10]),(bl 7 104,[2,4,6,8,10,12,12,12,12,12,14,14,14,14,14]),(bl 9 424,[2,4,6,8,10,12,14,16,16,16,16,16,18,18,18,18,18]),(bl 9 168,[2,4,6,8,10,12,14,16,16,16,16,16,18,18,18,18,18])] :=
  ⟨by kernel_rfl,by kernel_rfl,by kernel_rfl,by kernel_rfl,by kernel_rfl,by kernel_rfl,by kernel_rfl,trivial⟩

theorem ok15_t (x0:(List ByteArray)) (x0':(List (ByteArray×(((List Int)×((List Int)×Unit))×(((List Int)×((List Int)×Unit))×Unit))))) (x0'':(List ((List Int)×((List Int)×Unit)))):TrOk (PureRuns Go.Proofs.Tryz.prog (kl15_4 Go.Proofs.Tryz.prog).orc 15 as15 rs15 ((x0,x0',x0'',()),())) (t15 x0 x0' x0'') :=
  Walks.ok (fun _ _ _=>PureRuns.of) (wk15 x0 x0' x0'') (by kernel_rfl)

theorem ok15:PureOk Go.Proofs.Tryz.prog 15 p15:=pureOk_of kl15_4_ok.base (T:=fun (d:Tys.data as15)=>t15 d.1.1 d.1.2.1 d.1.2.2.1) (by kernel_rfl) (fun (d:Tys.data as15)=>ok15_t d.1.1 d.1.2.1 d.1.2.2.1)
def kf15 (P:Go.Program):Known:=(kl15_4 P).func 15 p15
theorem kf15_ok:KnownOk Go.Proofs.Tryz.prog (kf15 Go.Proofs.Tryz.prog):=kl15_4_ok.func ok15

/-! ductility/ductilitybase.CopyTexts -/

abbrev as89:List Ty:=[(.slice .str)]
abbrev rs89:List Ty:=[(.slice .str)]

def t89 (x0:(List ByteArray)):Tr (Tys.data rs89) :=
  Tr.test ((Nat.ble (((2:Nat) * ((0:Nat) + List.length x0) + (192:Nat)) * (16:Nat)) (281474976710656:Nat) && Nat.ble ((0:Nat) + List.length x0) (281474976710656:Nat):Bool))
    (Tr.fin ((([]++x0:List ByteArray),())))
    (Tr.test (Nat.ble ((0:Nat) + List.length x0) (0:Nat))
      (Tr.stop)
      (Tr.stop))

def f89 (d:Tys.data as89):Option (Tys.data rs89):=(t89 d.1).val
def g89 (d:Tys.data as89):Tys.data rs89:=(f89 d).getD (Tys.dflt rs89)
def p89:PureC:=pcOf as89 rs89 f89 g89

theorem wk89 (x0:(List ByteArray)):Walks (runPure (kf15 Go.Proofs.Tryz.prog).orc Go.Proofs.Tryz.prog 400 89 as89 rs89 (x0,())) (t89 x0) [(bl 1 1,[2])] :=
  ⟨by kernel_rfl,trivial⟩

theorem ok89_t (x0:(List ByteArray)):TrOk (PureRuns Go.Proofs.Tryz.prog (kf15 Go.Proofs.Tryz.prog).orc 89 as89 rs89 (x0,())) (t89 x0) :=
  Walks.ok (fun _ _ _=>PureRuns.of) (wk89 x0) (by kernel_rfl)

theorem ok89:PureOk Go.Proofs.Tryz.prog 89 p89:=pureOk_of kf15_ok.base (T:=fun (d:Tys.data as89)=>t89 d.1) (by kernel_rfl) (fun (d:Tys.data as89)=>ok89_t d.1)
def kf89 (P:Go.Program):Known:=(kf15 P).func 89 p89
theorem kf89_ok:KnownOk Go.Proofs.Tryz.prog (kf89 Go.Proofs.Tryz.prog):=kf15_ok.func ok89

/-! ductility/ductilitybase.CopyInts -/

abbrev as35:List Ty:=[(.slice (.int .i64))]
abbrev rs35:List Ty:=[(.slice (.int .i64))]

def t35 (x0:(List Int)):Tr (Tys.data rs35) :=
  Tr.test ((Nat.ble (((2:Nat) * ((0:Nat) + List.length x0) + (192:Nat)) * (8:Nat)) (281474976710656:Nat) && Nat.ble ((0:Nat) + List.length x0) (281474976710656:Nat):Bool))
    (Tr.fin ((([]++x0:List Int),())))
    (Tr.test (Nat.ble ((0:Nat) + List.length x0) (0:Nat))
      (Tr.stop)
      (Tr.stop))

def f35 (d:Tys.data as35):Option (Tys.data rs35):=(t35 d.1).val
def g35 (d:Tys.data as35):Tys.data rs35:=(f35 d).getD (Tys.dflt rs35)
def p35:PureC:=pcOf as35 rs35 f35 g35

theorem wk35 (x0:(List Int)):Walks (runPure (kf89 Go.Proofs.Tryz.prog).orc Go.Proofs.Tryz.prog 400 35 as35 rs35 (x0,())) (t35 x0) [(bl 1 1,[2])] :=
  ⟨by kernel_rfl,trivial⟩

theorem ok35_t (x0:(List Int)):TrOk (PureRuns Go.Proofs.Tryz.prog (kf89 Go.Proofs.Tryz.prog).orc 35 as35 rs35 (x0,())) (t35 x0) :=
  Walks.ok (fun _ _ _=>PureRuns.of) (wk35 x0) (by kernel_rfl)

theorem ok35:PureOk Go.Proofs.Tryz.prog 35 p35:=pureOk_of kf89_ok.base (T:=fun (d:Tys.data as35)=>t35 d.1) (by kernel_rfl) (fun (d:Tys.data as35)=>ok35_t d.1)
def kf35 (P:Go.Program):Known:=(kf89 P).func 35 p35
theorem kf35_ok:KnownOk Go.Proofs.Tryz.prog (kf35 Go.Proofs.Tryz.prog):=kf89_ok.func ok35

/-! ductility/ductilityref09.CopyTest -/

abbrev as90:List Ty:=[(.pair (.slice (.int .i64)) (.pair (.slice (.int .i64)) .unit))]
abbrev rs90:List Ty:=[(.pair (.slice (.int .i64)) (.pair (.slice (.int .i64)) .unit))]

def t90 (x0:(List Int)) (x0':(List Int)):Tr (Tys.data rs90) :=
  Tr.test (Option.isSome (f35 (x0,())))
    (Tr.test (Option.isSome (f35 (x0',())))
      (let r0:=g35 (x0,());
      let r1:=g35 (x0',());
      Tr.fin (((r0.1,(r1.1,())),())))
      (Tr.stop))
    (Tr.stop)

def f90 (d:Tys.data as90):Option (Tys.data rs90):=(t90 d.1.1 d.1.2.1).val
def g90 (d:Tys.data as90):Tys.data rs90:=(f90 d).getD (Tys.dflt rs90)
def p90:PureC:=pcOf as90 rs90 f90 g90

theorem wk90 (x0:(List Int)) (x0':(List Int)):Walks (runPure (kf35 Go.Proofs.Tryz.prog).orc Go.Proofs.Tryz.prog 400 90 as90 rs90 ((x0,x0',()),())) (t90 x0 x0') [(bl 2 3,[2,4])] :=
  ⟨by kernel_rfl,trivial⟩

theorem ok90_t (x0:(List Int)) (x0':(List Int)):TrOk (PureRuns Go.Proofs.Tryz.prog (kf35 Go.Proofs.Tryz.prog).orc 90 as90 rs90 ((x0,x0',()),())) (t90 x0 x0') :=
  Walks.ok (fun _ _ _=>PureRuns.of) (wk90 x0 x0') (by kernel_rfl)

theorem ok90:PureOk Go.Proofs.Tryz.prog 90 p90:=pureOk_of kf35_ok.base (T:=fun (d:Tys.data as90)=>t90 d.1.1 d.1.2.1) (by kernel_rfl) (fun (d:Tys.data as90)=>ok90_t d.1.1 d.1.2.1)
def kf90 (P:Go.Program):Known:=(kf35 P).func 90 p90
theorem kf90_ok:KnownOk Go.Proofs.Tryz.prog (kf90 Go.Proofs.Tryz.prog):=kf35_ok.func ok90

/-! loop 0 of ductility/ductilityref09.Copy -/

abbrev sh17_0:Sh:={ n:=62,slots:=[1,2,3,4],pats:=[.ptr 0 3 0,.ptr 1 3 0,.ptr 2 3 0,.ty (.int .i64)],boxes:=[.row [.ty (.slice .str),.ty (.slice (.pair .str (.pair (.pair (.slice (.int .i64)) (.pair (.slice (.int .i64)) .unit)) (.pair (.pair (.slice (.int .i64)) (.pair (.slice (.int .i64)) .unit)) .unit)))),.ty (.slice (.pair (.slice (.int .i64)) (.pair (.slice (.int .i64)) .unit)))],.row [.nil,.nil,.nil],.row [.ty (.slice .str),.acc (.pair .str (.pair (.pair (.slice (.int .i64)) (.pair (.slice (.int .i64)) .unit)) (.pair (.pair (.slice (.int .i64)) (.pair (.slice (.int .i64)) .unit)) .unit))),.nil]] }
abbrev shb17_0:Sh:={ n:=62,slots:=[1,2,3],pats:=[.ptr 0 3 0,.ptr 1 3 0,.ptr 2 3 0],boxes:=[.row [.ty (.slice .str),.ty (.slice (.pair .str (.pair (.pair (.slice (.int .i64)) (.pair (.slice (.int .i64)) .unit)) (.pair (.pair (.slice (.int .i64)) (.pair (.slice (.int .i64)) .unit)) .unit)))),.ty (.slice (.pair (.slice (.int .i64)) (.pair (.slice (.int .i64)) .unit)))],.row [.nil,.nil,.nil],.row [.ty (.slice .str),.acc (.pair .str (.pair (.pair (.slice (.int .i64)) (.pair (.slice (.int .i64)) .unit)) (.pair (.pair (.slice (.int .i64)) (.pair (.slice (.int .i64)) .unit)) .unit))),.nil]] }
abbrev shr17_0:Sh:={ n:=62,slots:=[],pats:=[],boxes:=[.row [.ty (.slice .str),.ty (.slice (.pair .str (.pair (.pair (.slice (.int .i64)) (.pair (.slice (.int .i64)) .unit)) (.pair (.pair (.slice (.int .i64)) (.pair (.slice (.int .i64)) .unit)) .unit)))),.ty (.slice (.pair (.slice (.int .i64)) (.pair (.slice (.int .i64)) .unit)))],.row [.nil,.nil,.nil],.row [.ty (.slice .str),.acc (.pair .str (.pair (.pair (.slice (.int .i64)) (.pair (.slice (.int .i64)) .unit)) (.pair (.pair (.slice (.int .i64)) (.pair (.slice (.int .i64)) .unit)) .unit))),.nil]] }

def t17_0 (x3:Int) (b0_0:(List ByteArray)) (b0_1:(List (ByteArray×(((List Int)×((List Int)×Unit))×(((List Int)×((List Int)×Unit))×Unit))))) (b0_2:(List ((List Int)×((List Int)×Unit)))) (b2_0:(List ByteArray)) (b2_1:(List (ByteArray×(((List Int)×((List Int)×Unit))×(((List Int)×((List Int)×Unit))×Unit))))):Tr (Out sh17_0.data shb17_0.data shr17_0.data) :=
  Tr.test ((!leF (↑(List.length b0_1):Int) x3:Bool))
    (Tr.test (decide ((0:Int) ≤ x3) && decide (x3 < (↑(List.length b0_1):Int)))
      (Tr.test (Option.isSome (f90 ((((List.getD b0_1 (Int.toNat x3) ({ data:={ toList:=[] } },([],[],()),([],[],()),())).2.1.1:List Int),(((List.getD b0_1 (Int.toNat x3) ({ data:={ toList:=[] } },([],[],()),([],[],()),())).2.1.2.1:List Int),())),())))
        (Tr.test (Option.isSome (f90 ((((List.getD b0_1 (Int.toNat x3) ({ data:={ toList:=[] } },([],[],()),([],[],()),())).2.2.1.1:List Int),(((List.getD b0_1 (Int.toNat x3) ({ data:={ toList:=[] } },([],[],()),([],[],()),())).2.2.1.2.1:List Int),())),())))
          (Tr.test ((Nat.ble (((2:Nat) * (List.length b2_1 + (1:Nat)) + (192:Nat)) * (112:Nat)) (281474976710656:Nat) && Nat.ble (List.length b2_1 + (1:Nat)) (281474976710656:Nat):Bool))
            (let r0:=g90 ((((List.getD b0_1 (Int.toNat x3) ({ data:={ toList:=[] } },([],[],()),([],[],()),())).2.1.1:List Int),(((List.getD b0_1 (Int.toNat x3) ({ data:={ toList:=[] } },([],[],()),([],[],()),())).2.1.2.1:List Int),())),());
            let r1:=g90 ((((List.getD b0_1 (Int.toNat x3) ({ data:={ toList:=[] } },([],[],()),([],[],()),())).2.2.1.1:List Int),(((List.getD b0_1 (Int.toNat x3) ({ data:={ toList:=[] } },([],[],()),([],[],()),())).2.2.1.2.1:List Int),())),());
            Tr.fin (.again (((wrap64 (x3 + (1:Int)):Int),()),((b0_0,(b0_1,(b0_2,()))),((),((b2_0,((b2_1++[((List.getD b0_1 (Int.toNat x3) ({ data:={ toList:=[] } },([],[],()),([],[],()),())).1,(r0.1.1,r0.1.2.1,()),(r1.1.1,r1.1.2.1,()),())]:List (ByteArray×(List Int×List Int×PUnit)×(List Int×List Int×PUnit)×PUnit)),())),()))))))
            (Tr.stop))
          (Tr.stop))
        (Tr.stop))
      (Tr.stop))
    (Tr.fin (.brk ((),((b0_0,(b0_1,(b0_2,()))),((),((b2_0,(b2_1,())),()))))))

def s17_0 (d:sh17_0.data):Option (Out sh17_0.data shb17_0.data shr17_0.data):=(t17_0 d.1.1 d.2.1.1 d.2.1.2.1 d.2.1.2.2.1 d.2.2.2.1.1 d.2.2.2.1.2.1).val
def l17_0 (d:sh17_0.data):Option (shb17_0.data ⊕ shr17_0.data):=itr s17_0 rounds d
def b17_0 (d:sh17_0.data):shb17_0.data:=outB shb17_0.dflt (l17_0 d)
def lc17_0:LoopC:=lcB sh17_0 shb17_0 shr17_0 l17_0 b17_0

theorem wk17_0 (x3:Int) (b0_0:(List ByteArray)) (b0_1:(List (ByteArray×(((List Int)×((List Int)×Unit))×(((List Int)×((List Int)×Unit))×Unit))))) (b0_2:(List ((List Int)×((List Int)×Unit)))) (b2_0:(List ByteArray)) (b2_1:(List (ByteArray×(((List Int)×((List Int)×Unit))×(((List Int)×((List Int)×Unit))×Unit))))):Walks (runBody (kf90 Go.Proofs.Tryz.prog).orc Go.Proofs.Tryz.prog 400 17 0 sh17_0 shb17_0 shr17_0 ((x3,()),(b0_0,b0_1,b0_2,()),(),(b2_0,b2_1,()),())) (t17_0 x3 b0_0 b0_1 b0_2 b2_0 b2_1) [(bl 5 31,[2,4,8,6,8,8,10]),(bl 1 0,[2])] :=
  ⟨by kernel_rfl,by kernel_rfl,trivial⟩

theorem ok17_0_t (x3:Int) (b0_0:(List ByteArray)) (b0_1:(List (ByteArray×(((List Int)×((List Int)×Unit))×(((List Int)×((List Int)×Unit))×Unit))))) (b0_2:(List ((List Int)×((List Int)×Unit)))) (b2_0:(List ByteArray)) (b2_1:(List (ByteArray×(((List Int)×((List Int)×Unit))×(((List Int)×((List Int)×Unit))×Unit))))):TrOk (BodyRuns Go.Proofs.Tryz.prog (kf90 Go.Proofs.Tryz.prog).orc 17 0 sh17_0 shb17_0 shr17_0 ((x3,()),(b0_0,b0_1,b0_2,()),(),(b2_0,b2_1,()),())) (t17_0 x3 b0_0 b0_1 b0_2 b2_0 b2_1) :=
  Walks.ok (fun _ _ _=>BodyRuns.of) (wk17_0 x3 b0_0 b0_1 b0_2 b2_0 b2_1) (by kernel_rfl)

theorem ok17_0:LoopOk Go.Proofs.Tryz.prog 17 0 lc17_0:=loopOk_ofB (sh:=sh17_0) (shB:=shb17_0) (shR:=shr17_0) kf90_ok.base (T:=fun (d:sh17_0.data)=>t17_0 d.1.1 d.2.1.1 d.2.1.2.1 d.2.1.2.2.1 d.2.2.2.1.1 d.2.2.2.1.2.1) (by kernel_rfl) rfl (fun (d:sh17_0.data)=>ok17_0_t d.1.1 d.2.1.1 d.2.1.2.1 d.2.1.2.2.1 d.2.2.2.1.1 d.2.2.2.1.2.1) (fun _=>rfl)
def kl17_0 (P:Go.Program):Known:=(kf90 P).loop 17 0 lc17_0
theorem kl17_0_ok:KnownOk Go.Proofs.Tryz.prog (kl17_0 Go.Proofs.Tryz.prog):=kf90_ok.loop ok17_0

end Go.Vm.Mo
