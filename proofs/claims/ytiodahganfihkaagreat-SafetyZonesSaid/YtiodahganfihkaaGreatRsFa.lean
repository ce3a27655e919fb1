import Derived.Test.YtiodahganfihkaaGreatA4
import Derived.Test.YtiodahganfihkaaGreatA5
import Derived.KernelRfl
import Derived.Test.YtiodahganfihkaaGreatProg
set_option linter.unusedVariables false
set_option linter.unusedSimpArgs false

namespace Go.Vm.Mo
open Go
set_option linter.unusedVariables false

def kn0 (_:Go.Program):Known:=⟨[],[]⟩

abbrev tt:Bool:=true
abbrev ff:Bool:=false
theorem ac {b d:Bool} {r:List (Bool×Bool)} (h:b = d) (t:All r):All ((b, d) :: r):=All.cons h t

theorem plainP:Plain Go.Proofs.Tryz.prog:=by
  have h : (Go.Proofs.Tryz.prog.funcs.toList.all fun fn => !(fn.body.isSome && fn.name == "runtime.NumGoroutine")) = true := by kernel_rfl
  intro f fn hf hb
  have hm:fn ∈ Go.Proofs.Tryz.prog.funcs.toList:=by
    have:=Array.getElem?_eq_some_iff.1 hf
    obtain ⟨hlt,rfl⟩:=this
    simp
  have:=List.all_eq_true.1 h fn hm
  rw [hb] at this
  simpa using this

theorem kn0_ok:KnownOk Go.Proofs.Tryz.prog (kn0 Go.Proofs.Tryz.prog):=⟨plainP,by kernel_rfl,(fun _ h=>by cases h),(fun _ h=>by cases h)⟩

/-! loop 0 of ductility/safety.areWithin -/

abbrev sh94_0:Sh:={ n:=24,slots:=[0,1,9,10,11],pats:=[.ty (.int .i64),.ty (.int .i64),.ty (.slice (.int .i64)),.ty (.int .i64),.ty (.int .i64)],boxes:=[] }
abbrev shb94_0:Sh:={ n:=24,slots:=[],pats:=[],boxes:=[] }
abbrev shr94_0:Sh:={ n:=24,slots:=[6],pats:=[.ty .bool],boxes:=[] }

def t94_0 (x0:Int) (x1:Int) (x2:(List Int)) (x3:Int) (x4:Int):Tr (Out sh94_0.data shb94_0.data shr94_0.data) :=
  Tr.test ((!leF x3 x4:Bool))
    (Tr.test (decide ((0:Int) ≤ x4) && decide (x4 < (↑(List.length x2):Int)))
      (Tr.test ((!leF x0 (List.getD x2 (Int.toNat x4) (0:Int)):Bool))
        (Tr.fin (.ret (((false:Bool),()),())))
        (Tr.test ((!leF (List.getD x2 (Int.toNat x4) (0:Int)) x1:Bool))
          (Tr.fin (.ret (((false:Bool),()),())))
          (Tr.fin (.again ((x0,(x1,(x2,(x3,((wrap64 (x4 + (1:Int)):Int),()))))),())))))
      (Tr.stop))
    (Tr.fin (.brk ((),())))

def s94_0 (d:sh94_0.data):Option (Out sh94_0.data shb94_0.data shr94_0.data):=(t94_0 d.1.1 d.1.2.1 d.1.2.2.1 d.1.2.2.2.1 d.1.2.2.2.2.1).val
def l94_0 (d:sh94_0.data):Option (shb94_0.data ⊕ shr94_0.data):=itr s94_0 rounds d
def b94_0 (d:sh94_0.data):shb94_0.data:=outB shb94_0.dflt (l94_0 d)
def r94_0 (d:sh94_0.data):shr94_0.data:=outR shr94_0.dflt (l94_0 d)
def lc94_0:LoopC:=lcOf sh94_0 shb94_0 shr94_0 l94_0 b94_0 r94_0

theorem wk94_0 (x0:Int) (x1:Int) (x2:(List Int)) (x3:Int) (x4:Int):Walks (runBody (kn0 Go.Proofs.Tryz.prog).orc Go.Proofs.Tryz.prog 400 94 0 sh94_0 shb94_0 shr94_0 ((x0,x1,x2,x3,x4,()),())) (t94_0 x0 x1 x2 x3 x4) [(bl 3 7,[1,2,2,2,2,4,6]),(bl 4 11,[2,4,4,4,4,6,8]),(bl 4 3,[2,4,4,4,4,6,8]),(bl 1 0,[2])] :=
  ⟨by kernel_rfl,by kernel_rfl,by kernel_rfl,by kernel_rfl,trivial⟩

theorem ok94_0_t (x0:Int) (x1:Int) (x2:(List Int)) (x3:Int) (x4:Int):TrOk (BodyRuns Go.Proofs.Tryz.prog (kn0 Go.Proofs.Tryz.prog).orc 94 0 sh94_0 shb94_0 shr94_0 ((x0,x1,x2,x3,x4,()),())) (t94_0 x0 x1 x2 x3 x4) :=
  Walks.ok (fun _ _ _=>BodyRuns.of) (wk94_0 x0 x1 x2 x3 x4) (by kernel_rfl)

theorem ok94_0:LoopOk Go.Proofs.Tryz.prog 94 0 lc94_0:=loopOk_of (sh:=sh94_0) (shB:=shb94_0) (shR:=shr94_0) kn0_ok.base (T:=fun (d:sh94_0.data)=>t94_0 d.1.1 d.1.2.1 d.1.2.2.1 d.1.2.2.2.1 d.1.2.2.2.2.1) (by kernel_rfl) rfl (fun (d:sh94_0.data)=>ok94_0_t d.1.1 d.1.2.1 d.1.2.2.1 d.1.2.2.2.1 d.1.2.2.2.2.1) (fun _=>rfl)
def kl94_0 (P:Go.Program):Known:=(kn0 P).loop 94 0 lc94_0
theorem kl94_0_ok:KnownOk Go.Proofs.Tryz.prog (kl94_0 Go.Proofs.Tryz.prog):=kn0_ok.loop ok94_0

/-! ductility/safety.areWithin -/

abbrev as94:List Ty:=[(.int .i64),(.int .i64),(.slice (.int .i64))]
abbrev rs94:List Ty:=[.bool]

def t94 (x0:Int) (x1:Int) (x2:(List Int)):Tr (Tys.data rs94) :=
  Tr.test (Option.isSome (l94_0 ((x0,(x1,(x2,((↑(List.length x2):Int),((0:Int),()))))),())))
    (Tr.test (isRet (l94_0 ((x0,(x1,(x2,((↑(List.length x2):Int),((0:Int),()))))),())))
      (let r0:=r94_0 ((x0,(x1,(x2,((↑(List.length x2):Int),((0:Int),()))))),());
      Tr.fin ((r0.1.1,())))
      (Tr.fin (((true:Bool),()))))
    (Tr.stop)

def f94 (d:Tys.data as94):Option (Tys.data rs94):=(t94 d.1 d.2.1 d.2.2.1).val
def g94 (d:Tys.data as94):Tys.data rs94:=(f94 d).getD (Tys.dflt rs94)
def p94:PureC:=pcOf as94 rs94 f94 g94

theorem wk94 (x0:Int) (x1:Int) (x2:(List Int)):Walks (runPure (kl94_0 Go.Proofs.Tryz.prog).orc Go.Proofs.Tryz.prog 400 94 as94 rs94 (x0,x1,x2,())) (t94 x0 x1 x2) [(bl 2 3,[2,4]),(bl 2 1,[2,4])] :=
  ⟨by kernel_rfl,by kernel_rfl,trivial⟩

theorem ok94_t (x0:Int) (x1:Int) (x2:(List Int)):TrOk (PureRuns Go.Proofs.Tryz.prog (kl94_0 Go.Proofs.Tryz.prog).orc 94 as94 rs94 (x0,x1,x2,())) (t94 x0 x1 x2) :=
  Walks.ok (fun _ _ _=>PureRuns.of) (wk94 x0 x1 x2) (by kernel_rfl)

theorem ok94:PureOk Go.Proofs.Tryz.prog 94 p94:=pureOk_of kl94_0_ok.base (T:=fun (d:Tys.data as94)=>t94 d.1 d.2.1 d.2.2.1) (by kernel_rfl) (fun (d:Tys.data as94)=>ok94_t d.1 d.2.1 d.2.2.1)
def kf94 (P:Go.Program):Known:=(kl94_0 P).func 94 p94
theorem kf94_ok:KnownOk Go.Proofs.Tryz.prog (kf94 Go.Proofs.Tryz.prog):=kl94_0_ok.func ok94

/-! ductility/safety.isBeyond -/

abbrev as117:List Ty:=[(.int .i64),(.slice (.int .i64))]
abbrev rs117:List Ty:=[.bool]

def t117 (x0:Int) (x1:(List Int)):Tr (Tys.data rs117) :=
  Tr.test (Option.isSome (f94 ((Go.IntKind.wrap Go.IntKind.i64 ((0:Int) - x0):Int),(x0,(x1,())))))
    (let r0:=g94 ((Go.IntKind.wrap Go.IntKind.i64 ((0:Int) - x0):Int),(x0,(x1,())));
    Tr.fin (((!r0.1:Bool),())))
    (Tr.stop)

def f117 (d:Tys.data as117):Option (Tys.data rs117):=(t117 d.1 d.2.1).val
def g117 (d:Tys.data as117):Tys.data rs117:=(f117 d).getD (Tys.dflt rs117)
def p117:PureC:=pcOf as117 rs117 f117 g117

theorem wk117 (x0:Int) (x1:(List Int)):Walks (runPure (kf94 Go.Proofs.Tryz.prog).orc Go.Proofs.Tryz.prog 400 117 as117 rs117 (x0,x1,())) (t117 x0 x1) [(bl 1 1,[2])] :=
  ⟨by kernel_rfl,trivial⟩

theorem ok117_t (x0:Int) (x1:(List Int)):TrOk (PureRuns Go.Proofs.Tryz.prog (kf94 Go.Proofs.Tryz.prog).orc 117 as117 rs117 (x0,x1,())) (t117 x0 x1) :=
  Walks.ok (fun _ _ _=>PureRuns.of) (wk117 x0 x1) (by kernel_rfl)

theorem ok117:PureOk Go.Proofs.Tryz.prog 117 p117:=pureOk_of kf94_ok.base (T:=fun (d:Tys.data as117)=>t117 d.1 d.2.1) (by kernel_rfl) (fun (d:Tys.data as117)=>ok117_t d.1 d.2.1)
def kf117 (P:Go.Program):Known:=(kf94 P).func 117 p117
theorem kf117_ok:KnownOk Go.Proofs.Tryz.prog (kf117 Go.Proofs.Tryz.prog):=kf94_ok.func ok117

/-! ductility/safety.moved -/

abbrev as121:List Ty:=[(.pair (.int .i64) (.pair (.int .i64) (.pair (.int .i64) .unit))),(.int .i64)]
abbrev rs121:List Ty:=[(.pair (.int .i64) (.pair (.int .i64) (.pair (.int .i64) .unit)))]

def t121 (x0:Int) (x0':Int) (x0'':Int) (x1:Int):Tr (Tys.data rs121) :=
  Tr.fin ((((wrap64 (x0 + wrap64 (x0' + x1)):Int),((wrap64 (x0' + x1):Int),(x1,()))),()))

def f121 (d:Tys.data as121):Option (Tys.data rs121):=(t121 d.1.1 d.1.2.1 d.1.2.2.1 d.2.1).val
def g121 (d:Tys.data as121):Tys.data rs121:=(f121 d).getD (Tys.dflt rs121)
def p121:PureC:=pcOf as121 rs121 f121 g121

theorem wk121 (x0:Int) (x0':Int) (x0'':Int) (x1:Int):Walks (runPure (kf117 Go.Proofs.Tryz.prog).orc Go.Proofs.Tryz.prog 400 121 as121 rs121 ((x0,x0',x0'',()),x1,())) (t121 x0 x0' x0'' x1) [(bl 0 0,[])] :=
  ⟨by kernel_rfl,trivial⟩

theorem ok121_t (x0:Int) (x0':Int) (x0'':Int) (x1:Int):TrOk (PureRuns Go.Proofs.Tryz.prog (kf117 Go.Proofs.Tryz.prog).orc 121 as121 rs121 ((x0,x0',x0'',()),x1,())) (t121 x0 x0' x0'' x1) :=
  Walks.ok (fun _ _ _=>PureRuns.of) (wk121 x0 x0' x0'' x1) (by kernel_rfl)

theorem ok121:PureOk Go.Proofs.Tryz.prog 121 p121:=pureOk_of kf117_ok.base (T:=fun (d:Tys.data as121)=>t121 d.1.1 d.1.2.1 d.1.2.2.1 d.2.1) (by kernel_rfl) (fun (d:Tys.data as121)=>ok121_t d.1.1 d.1.2.1 d.1.2.2.1 d.2.1)
def kf121 (P:Go.Program):Known:=(kf117 P).func 121 p121
theorem kf121_ok:KnownOk Go.Proofs.Tryz.prog (kf121 Go.Proofs.Tryz.prog):=kf117_ok.func ok121

/-! (ductility/safety.limits).contain -/

abbrev as160:List Ty:=[(.pair (.pair (.pair (.int .i64) (.pair (.int .i64) .unit)) (.pair (.int .i64) (.pair (.int .i64) (.pair (.int .i64) .unit)))) .unit),(.pair (.int .i64) (.pair (.int .i64) (.pair (.int .i64) .unit)))]
abbrev rs160:List Ty:=[.bool]

def t160 (x0__:Int) (x0__':Int) (x0_':Int) (x0_'':Int) (x0_''':Int) (x1:Int) (x1':Int) (x1'':Int):Tr (Tys.data rs160) :=
  Tr.test (Option.isSome (f94 (x0__,(x0__',(([x1]:List Int),())))))
    (let r0:=g94 (x0__,(x0__',(([x1]:List Int),())));
    Tr.test (r0.1)
      (Tr.test (Option.isSome (f117 (x0_',(([x1']:List Int),()))))
        (let r1:=g117 (x0_',(([x1']:List Int),()));
        Tr.test ((!r1.1:Bool))
          (Tr.test (Option.isSome (f117 (x0_'',(([x1'']:List Int),()))))
            (let r2:=g117 (x0_'',(([x1'']:List Int),()));
            Tr.fin (((!r2.1:Bool),())))
            (Tr.stop))
          (Tr.fin (((false:Bool),()))))
        (Tr.stop))
      (Tr.fin (((false:Bool),()))))
    (Tr.stop)

def f160 (d:Tys.data as160):Option (Tys.data rs160):=(t160 d.1.1.1.1 d.1.1.1.2.1 d.1.1.2.1 d.1.1.2.2.1 d.1.1.2.2.2.1 d.2.1.1 d.2.1.2.1 d.2.1.2.2.1).val
def g160 (d:Tys.data as160):Tys.data rs160:=(f160 d).getD (Tys.dflt rs160)
def p160:PureC:=pcOf as160 rs160 f160 g160

theorem wk160 (x0__:Int) (x0__':Int) (x0_':Int) (x0_'':Int) (x0_''':Int) (x1:Int) (x1':Int) (x1'':Int):Walks (runPure (kf121 Go.Proofs.Tryz.prog).orc Go.Proofs.Tryz.prog 400 160 as160 rs160 ((((x0__,x0__',()),x0_',x0_'',x0_''',()),()),(x1,x1',x1'',()),())) (t160 x0__ x0__' x0_' x0_'' x0_''' x1 x1' x1'') [(bl 5 31,[4,4,2,4,4,4,4,1,4,4,4,8,8,6,8,8,8,8,1,8,8,8,10,1,1]),(bl 4 7,[2,2,2,2,2,2,2,2,2,6,6,4,6,6,6,6,1,6,6,6,8,1,1]),(bl 2 1,[0,0,0,0,0,0,0,0,0,2,2,2,2,2,2,2,2,2,4,1,1])] :=
  ⟨by kernel_rfl,by kernel_rfl,by kernel_rfl,trivial⟩

theorem ok160_t (x0__:Int) (x0__':Int) (x0_':Int) (x0_'':Int) (x0_''':Int) (x1:Int) (x1':Int) (x1'':Int):TrOk (PureRuns Go.Proofs.Tryz.prog (kf121 Go.Proofs.Tryz.prog).orc 160 as160 rs160 ((((x0__,x0__',()),x0_',x0_'',x0_''',()),()),(x1,x1',x1'',()),())) (t160 x0__ x0__' x0_' x0_'' x0_''' x1 x1' x1'') :=
  Walks.ok (fun _ _ _=>PureRuns.of) (wk160 x0__ x0__' x0_' x0_'' x0_''' x1 x1' x1'') (by kernel_rfl)

theorem ok160:PureOk Go.Proofs.Tryz.prog 160 p160:=pureOk_of kf121_ok.base (T:=fun (d:Tys.data as160)=>t160 d.1.1.1.1 d.1.1.1.2.1 d.1.1.2.1 d.1.1.2.2.1 d.1.1.2.2.2.1 d.2.1.1 d.2.1.2.1 d.2.1.2.2.1) (by kernel_rfl) (fun (d:Tys.data as160)=>ok160_t d.1.1.1.1 d.1.1.1.2.1 d.1.1.2.1 d.1.1.2.2.1 d.1.1.2.2.2.1 d.2.1.1 d.2.1.2.1 d.2.1.2.2.1)
def kf160 (P:Go.Program):Known:=(kf121 P).func 160 p160
theorem kf160_ok:KnownOk Go.Proofs.Tryz.prog (kf160 Go.Proofs.Tryz.prog):=kf121_ok.func ok160

/-! (ductility/safety.limits).permit -/

abbrev as120:List Ty:=[(.pair (.pair (.pair (.int .i64) (.pair (.int .i64) .unit)) (.pair (.int .i64) (.pair (.int .i64) (.pair (.int .i64) .unit)))) .unit),(.pair (.int .i64) (.pair (.int .i64) (.pair (.int .i64) .unit))),(.int .i64)]
abbrev rs120:List Ty:=[.bool]

def t120 (x0__:Int) (x0__':Int) (x0_':Int) (x0_'':Int) (x0_''':Int) (x1:Int) (x1':Int) (x1'':Int) (x2:Int):Tr (Tys.data rs120) :=
  Tr.test (Option.isSome (f117 (x0_'',(([x2]:List Int),()))))
    (let r0:=g117 (x0_'',(([x2]:List Int),()));
    Tr.test ((!r0.1:Bool))
      (Tr.test (Option.isSome (f117 (x0_''',(([wrap64 (x2 - x1'')]:List Int),()))))
        (let r1:=g117 (x0_''',(([wrap64 (x2 - x1'')]:List Int),()));
        Tr.test ((!r1.1:Bool))
          (Tr.test (Option.isSome (f121 ((x1,(x1',(x1'',()))),(x2,()))))
            (let r2:=g121 ((x1,(x1',(x1'',()))),(x2,()));
            Tr.test (Option.isSome (f160 ((((x0__,(x0__',())),(x0_',(x0_'',(x0_''',())))),()),((r2.1.1,(r2.1.2.1,(r2.1.2.2.1,()))),()))))
              (let r3:=g160 ((((x0__,(x0__',())),(x0_',(x0_'',(x0_''',())))),()),((r2.1.1,(r2.1.2.1,(r2.1.2.2.1,()))),()));
              Tr.fin ((r3.1,())))
              (Tr.stop))
            (Tr.stop))
          (Tr.fin (((false:Bool),()))))
        (Tr.stop))
      (Tr.fin (((false:Bool),()))))
    (Tr.stop)

def f120 (d:Tys.data as120):Option (Tys.data rs120):=(t120 d.1.1.1.1 d.1.1.1.2.1 d.1.1.2.1 d.1.1.2.2.1 d.1.1.2.2.2.1 d.2.1.1 d.2.1.2.1 d.2.1.2.2.1 d.2.2.1).val
def g120 (d:Tys.data as120):Tys.data rs120:=(f120 d).getD (Tys.dflt rs120)
def p120:PureC:=pcOf as120 rs120 f120 g120

theorem wk120 (x0__:Int) (x0__':Int) (x0_':Int) (x0_'':Int) (x0_''':Int) (x1:Int) (x1':Int) (x1'':Int) (x2:Int):Walks (runPure (kf160 Go.Proofs.Tryz.prog).orc Go.Proofs.Tryz.prog 400 120 as120 rs120 ((((x0__,x0__',()),x0_',x0_'',x0_''',()),()),(x1,x1',x1'',()),x2,())) (t120 x0__ x0__' x0_' x0_'' x0_''' x1 x1' x1'' x2) [(bl 6 63,[6,2,6,4,6,6,6,6,10,10,8,10,10,10,10,10,10,1,10,10,10,12,1]),(bl 4 7,[2,2,2,2,2,2,6,6,4,6,6,6,6,6,6,1,6,6,6,8,1]),(bl 2 1,[0,0,0,0,0,0,2,2,2,2,2,2,2,2,2,2,2,4,1])] :=
  ⟨by kernel_rfl,by kernel_rfl,by kernel_rfl,trivial⟩

theorem ok120_t (x0__:Int) (x0__':Int) (x0_':Int) (x0_'':Int) (x0_''':Int) (x1:Int) (x1':Int) (x1'':Int) (x2:Int):TrOk (PureRuns Go.Proofs.Tryz.prog (kf160 Go.Proofs.Tryz.prog).orc 120 as120 rs120 ((((x0__,x0__',()),x0_',x0_'',x0_''',()),()),(x1,x1',x1'',()),x2,())) (t120 x0__ x0__' x0_' x0_'' x0_''' x1 x1' x1'' x2) :=
  Walks.ok (fun _ _ _=>PureRuns.of) (wk120 x0__ x0__' x0_' x0_'' x0_''' x1 x1' x1'' x2) (by kernel_rfl)

theorem ok120:PureOk Go.Proofs.Tryz.prog 120 p120:=pureOk_of kf160_ok.base (T:=fun (d:Tys.data as120)=>t120 d.1.1.1.1 d.1.1.1.2.1 d.1.1.2.1 d.1.1.2.2.1 d.1.1.2.2.2.1 d.2.1.1 d.2.1.2.1 d.2.1.2.2.1 d.2.2.1) (by kernel_rfl) (fun (d:Tys.data as120)=>ok120_t d.1.1.1.1 d.1.1.1.2.1 d.1.1.2.1 d.1.1.2.2.1 d.1.1.2.2.2.1 d.2.1.1 d.2.1.2.1 d.2.1.2.2.1 d.2.2.1)
def kf120 (P:Go.Program):Known:=(kf160 P).func 120 p120
theorem kf120_ok:KnownOk Go.Proofs.Tryz.prog (kf120 Go.Proofs.Tryz.prog):=kf160_ok.func ok120

/-! ductility/safety.isStopped -/

abbrev as122:List Ty:=[(.pair (.int .i64) (.pair (.int .i64) (.pair (.int .i64) .unit)))]
abbrev rs122:List Ty:=[.bool]

def t122 (x0:Int) (x0':Int) (x0'':Int):Tr (Tys.data rs122) :=
  Tr.test ((eqF x0' 0:Bool))
    (Tr.fin ((eqF x0'' 0,())))
    (Tr.fin ((false,())))

def f122 (d:Tys.data as122):Option (Tys.data rs122):=(t122 d.1.1 d.1.2.1 d.1.2.2.1).val
def g122 (d:Tys.data as122):Tys.data rs122:=(f122 d).getD (Tys.dflt rs122)
def p122:PureC:=pcOf as122 rs122 f122 g122

theorem wk122 (x0:Int) (x0':Int) (x0'':Int):Walks (runPure (kf120 Go.Proofs.Tryz.prog).orc Go.Proofs.Tryz.prog 400 122 as122 rs122 ((x0,x0',x0'',()),())) (t122 x0 x0' x0'') [(bl 1 1,[2,2,2,2]),(bl 1 0,[2,2,2,2])] :=
  ⟨by kernel_rfl,by kernel_rfl,trivial⟩

theorem ok122_t (x0:Int) (x0':Int) (x0'':Int):TrOk (PureRuns Go.Proofs.Tryz.prog (kf120 Go.Proofs.Tryz.prog).orc 122 as122 rs122 ((x0,x0',x0'',()),())) (t122 x0 x0' x0'') :=
  Walks.ok (fun _ _ _=>PureRuns.of) (wk122 x0 x0' x0'') (by kernel_rfl)

theorem ok122:PureOk Go.Proofs.Tryz.prog 122 p122:=pureOk_of kf120_ok.base (T:=fun (d:Tys.data as122)=>t122 d.1.1 d.1.2.1 d.1.2.2.1) (by kernel_rfl) (fun (d:Tys.data as122)=>ok122_t d.1.1 d.1.2.1 d.1.2.2.1)
def kf122 (P:Go.Program):Known:=(kf120 P).func 122 p122
theorem kf122_ok:KnownOk Go.Proofs.Tryz.prog (kf122 Go.Proofs.Tryz.prog):=kf120_ok.func ok122

/-! ductility/ductilitylaw09.awake -/

abbrev as14:List Ty:=[]
abbrev rs14:List Ty:=[.bool]
def f14 (_:Tys.data as14):Option (Tys.data rs14):=some (true,())
def g14 (_:Tys.data as14):Tys.data rs14:=(true,())
def p14:PureC:=pcOf as14 rs14 f14 g14

theorem e14:runAsk (kf122 Go.Proofs.Tryz.prog).orc Go.Proofs.Tryz.prog 400 14 as14 rs14 () none = some ((true,()),[]):=by kernel_rfl
theorem ok14:PureOk Go.Proofs.Tryz.prog 14 p14:=pureOk_closed kf122_ok.base (by kernel_rfl) e14 All.nil
def kf14 (P:Go.Program):Known:=(kf122 P).func 14 p14
theorem kf14_ok:KnownOk Go.Proofs.Tryz.prog (kf14 Go.Proofs.Tryz.prog):=kf122_ok.func ok14

/-! ductility/ductilityref09.CopyPath -/

abbrev as72:List Ty:=[(.slice (.pair (.int .i64) (.pair (.int .i64) .unit)))]
abbrev rs72:List Ty:=[(.slice (.pair (.int .i64) (.pair (.int .i64) .unit)))]

def t72 (x0:(List (Int×(Int×Unit)))):Tr (Tys.data rs72) :=
  Tr.test ((Nat.ble (((2:Nat) * ((0:Nat) + List.length x0) + (192:Nat)) * (16:Nat)) (281474976710656:Nat) && Nat.ble ((0:Nat) + List.length x0) (281474976710656:Nat):Bool))
    (Tr.fin ((([]++x0:List (Int×Int×PUnit)),())))
    (Tr.test (Nat.ble ((0:Nat) + List.length x0) (0:Nat))
      (Tr.stop)
      (Tr.stop))

def f72 (d:Tys.data as72):Option (Tys.data rs72):=(t72 d.1).val
def g72 (d:Tys.data as72):Tys.data rs72:=(f72 d).getD (Tys.dflt rs72)
def p72:PureC:=pcOf as72 rs72 f72 g72

theorem wk72 (x0:(List (Int×(Int×Unit)))):Walks (runPure (kf14 Go.Proofs.Tryz.prog).orc Go.Proofs.Tryz.prog 400 72 as72 rs72 (x0,())) (t72 x0) [(bl 1 1,[2])] :=
  ⟨by kernel_rfl,trivial⟩

theorem ok72_t (x0:(List (Int×(Int×Unit)))):TrOk (PureRuns Go.Proofs.Tryz.prog (kf14 Go.Proofs.Tryz.prog).orc 72 as72 rs72 (x0,())) (t72 x0) :=
  Walks.ok (fun _ _ _=>PureRuns.of) (wk72 x0) (by kernel_rfl)

theorem ok72:PureOk Go.Proofs.Tryz.prog 72 p72:=pureOk_of kf14_ok.base (T:=fun (d:Tys.data as72)=>t72 d.1) (by kernel_rfl) (fun (d:Tys.data as72)=>ok72_t d.1)
def kf72 (P:Go.Program):Known:=(kf14 P).func 72 p72
theorem kf72_ok:KnownOk Go.Proofs.Tryz.prog (kf72 Go.Proofs.Tryz.prog):=kf14_ok.func ok72

/-! ductility/safety.when -/

abbrev as80:List Ty:=[.bool,(.int .i64)]
abbrev rs80:List Ty:=[(.int .i64)]

def t80 (x0:Bool) (x1:Int):Tr (Tys.data rs80) :=
  Tr.test (x0)
    (Tr.fin ((x1,())))
    (Tr.fin (((0:Int),())))

def f80 (d:Tys.data as80):Option (Tys.data rs80):=(t80 d.1 d.2.1).val
def g80 (d:Tys.data as80):Tys.data rs80:=(f80 d).getD (Tys.dflt rs80)
def p80:PureC:=pcOf as80 rs80 f80 g80

theorem wk80 (x0:Bool) (x1:Int):Walks (runPure (kf72 Go.Proofs.Tryz.prog).orc Go.Proofs.Tryz.prog 400 80 as80 rs80 (x0,x1,())) (t80 x0 x1) [(bl 1 1,[2]),(bl 1 0,[2])] :=
  ⟨by kernel_rfl,by kernel_rfl,trivial⟩

theorem ok80_t (x0:Bool) (x1:Int):TrOk (PureRuns Go.Proofs.Tryz.prog (kf72 Go.Proofs.Tryz.prog).orc 80 as80 rs80 (x0,x1,())) (t80 x0 x1) :=
  Walks.ok (fun _ _ _=>PureRuns.of) (wk80 x0 x1) (by kernel_rfl)

theorem ok80:PureOk Go.Proofs.Tryz.prog 80 p80:=pureOk_of kf72_ok.base (T:=fun (d:Tys.data as80)=>t80 d.1 d.2.1) (by kernel_rfl) (fun (d:Tys.data as80)=>ok80_t d.1 d.2.1)
def kf80 (P:Go.Program):Known:=(kf72 P).func 80 p80
theorem kf80_ok:KnownOk Go.Proofs.Tryz.prog (kf80 Go.Proofs.Tryz.prog):=kf72_ok.func ok80

/-! loop 0 of ductility/safety.firstOf -/

abbrev sh79_0:Sh:={ n:=15,slots:=[5,6,7],pats:=[.ty (.slice (.int .i64)),.ty (.int .i64),.ty (.int .i64)],boxes:=[] }
abbrev shb79_0:Sh:={ n:=15,slots:=[],pats:=[],boxes:=[] }
abbrev shr79_0:Sh:={ n:=15,slots:=[2],pats:=[.ty (.int .i64)],boxes:=[] }

def t79_0 (x0:(List Int)) (x1:Int) (x2:Int):Tr (Out sh79_0.data shb79_0.data shr79_0.data) :=
  Tr.test ((!leF x1 x2:Bool))
    (Tr.test (decide ((0:Int) ≤ x2) && decide (x2 < (↑(List.length x0):Int)))
      (Tr.test ((!eqF (List.getD x0 (Int.toNat x2) (0:Int)) (0:Int):Bool))
        (Tr.fin (.ret (((List.getD x0 (Int.toNat x2) (0:Int):Int),()),())))
        (Tr.fin (.again ((x0,(x1,((wrap64 (x2 + (1:Int)):Int),()))),()))))
      (Tr.stop))
    (Tr.fin (.brk ((),())))

def s79_0 (d:sh79_0.data):Option (Out sh79_0.data shb79_0.data shr79_0.data):=(t79_0 d.1.1 d.1.2.1 d.1.2.2.1).val
def l79_0 (d:sh79_0.data):Option (shb79_0.data ⊕ shr79_0.data):=itr s79_0 rounds d
def b79_0 (d:sh79_0.data):shb79_0.data:=outB shb79_0.dflt (l79_0 d)
def r79_0 (d:sh79_0.data):shr79_0.data:=outR shr79_0.dflt (l79_0 d)
def lc79_0:LoopC:=lcOf sh79_0 shb79_0 shr79_0 l79_0 b79_0 r79_0

theorem wk79_0 (x0:(List Int)) (x1:Int) (x2:Int):Walks (runBody (kf80 Go.Proofs.Tryz.prog).orc Go.Proofs.Tryz.prog 400 79 0 sh79_0 shb79_0 shr79_0 ((x0,x1,x2,()),())) (t79_0 x0 x1 x2) [(bl 3 7,[2,4,6]),(bl 3 3,[2,4,6]),(bl 1 0,[2])] :=
  ⟨by kernel_rfl,by kernel_rfl,by kernel_rfl,trivial⟩

theorem ok79_0_t (x0:(List Int)) (x1:Int) (x2:Int):TrOk (BodyRuns Go.Proofs.Tryz.prog (kf80 Go.Proofs.Tryz.prog).orc 79 0 sh79_0 shb79_0 shr79_0 ((x0,x1,x2,()),())) (t79_0 x0 x1 x2) :=
  Walks.ok (fun _ _ _=>BodyRuns.of) (wk79_0 x0 x1 x2) (by kernel_rfl)

theorem ok79_0:LoopOk Go.Proofs.Tryz.prog 79 0 lc79_0:=loopOk_of (sh:=sh79_0) (shB:=shb79_0) (shR:=shr79_0) kf80_ok.base (T:=fun (d:sh79_0.data)=>t79_0 d.1.1 d.1.2.1 d.1.2.2.1) (by kernel_rfl) rfl (fun (d:sh79_0.data)=>ok79_0_t d.1.1 d.1.2.1 d.1.2.2.1) (fun _=>rfl)
def kl79_0 (P:Go.Program):Known:=(kf80 P).loop 79 0 lc79_0
theorem kl79_0_ok:KnownOk Go.Proofs.Tryz.prog (kl79_0 Go.Proofs.Tryz.prog):=kf80_ok.loop ok79_0

/-! ductility/safety.firstOf -/

abbrev as79:List Ty:=[(.slice (.int .i64))]
abbrev rs79:List Ty:=[(.int .i64)]

def t79 (x0:(List Int)):Tr (Tys.data rs79) :=
  Tr.test (Option.isSome (l79_0 ((x0,((↑(List.length x0):Int),((0:Int),()))),())))
    (Tr.test (isRet (l79_0 ((x0,((↑(List.length x0):Int),((0:Int),()))),())))
      (let r0:=r79_0 ((x0,((↑(List.length x0):Int),((0:Int),()))),());
      Tr.fin ((r0.1.1,())))
      (Tr.fin (((0:Int),()))))
    (Tr.stop)

def f79 (d:Tys.data as79):Option (Tys.data rs79):=(t79 d.1).val
def g79 (d:Tys.data as79):Tys.data rs79:=(f79 d).getD (Tys.dflt rs79)
def p79:PureC:=pcOf as79 rs79 f79 g79

theorem wk79 (x0:(List Int)):Walks (runPure (kl79_0 Go.Proofs.Tryz.prog).orc Go.Proofs.Tryz.prog 400 79 as79 rs79 (x0,())) (t79 x0) [(bl 2 3,[2,4]),(bl 2 1,[2,4])] :=
  ⟨by kernel_rfl,by kernel_rfl,trivial⟩

theorem ok79_t (x0:(List Int)):TrOk (PureRuns Go.Proofs.Tryz.prog (kl79_0 Go.Proofs.Tryz.prog).orc 79 as79 rs79 (x0,())) (t79 x0) :=
  Walks.ok (fun _ _ _=>PureRuns.of) (wk79 x0) (by kernel_rfl)

theorem ok79:PureOk Go.Proofs.Tryz.prog 79 p79:=pureOk_of kl79_0_ok.base (T:=fun (d:Tys.data as79)=>t79 d.1) (by kernel_rfl) (fun (d:Tys.data as79)=>ok79_t d.1)
def kf79 (P:Go.Program):Known:=(kl79_0 P).func 79 p79
theorem kf79_ok:KnownOk Go.Proofs.Tryz.prog (kf79 Go.Proofs.Tryz.prog):=kl79_0_ok.func ok79

/-! loop 0 of ductility/safety.checkItems[ductility/api.SafetyZone] -/

abbrev sh171_0:Sh:={ n:=25,slots:=[1,9,10,11],pats:=[.fn 172 [],.ty (.slice (.pair (.pair (.int .i64) (.pair (.int .i64) .unit)) (.pair (.pair (.int .i64) (.pair (.int .i64) .unit)) .unit))),.ty (.int .i64),.ty (.int .i64)],boxes:=[] }
abbrev shb171_0:Sh:={ n:=25,slots:=[],pats:=[],boxes:=[] }
abbrev shr171_0:Sh:={ n:=25,slots:=[4,5],pats:=[.ty (.int .i64),.ty (.int .i64)],boxes:=[] }

def t171_0 (x1:(List ((Int×(Int×Unit))×((Int×(Int×Unit))×Unit)))) (x2:Int) (x3:Int):Tr (Out sh171_0.data shb171_0.data shr171_0.data) :=
  Tr.test ((!leF x2 x3:Bool))
    (Tr.test (decide ((0:Int) ≤ x3) && decide (x3 < (↑(List.length x1):Int)))
      (Tr.test (Option.isSome (f117 ((1000:Int),(([(List.getD x1 (Int.toNat x3) (((0:Int),(0:Int),()),((0:Int),(0:Int),()),())).1.1,(List.getD x1 (Int.toNat x3) (((0:Int),(0:Int),()),((0:Int),(0:Int),()),())).1.2.1,(List.getD x1 (Int.toNat x3) (((0:Int),(0:Int),()),((0:Int),(0:Int),()),())).2.1.1,(List.getD x1 (Int.toNat x3) (((0:Int),(0:Int),()),((0:Int),(0:Int),()),())).2.1.2.1]:List Int),()))))
        (let r0:=g117 ((1000:Int),(([(List.getD x1 (Int.toNat x3) (((0:Int),(0:Int),()),((0:Int),(0:Int),()),())).1.1,(List.getD x1 (Int.toNat x3) (((0:Int),(0:Int),()),((0:Int),(0:Int),()),())).1.2.1,(List.getD x1 (Int.toNat x3) (((0:Int),(0:Int),()),((0:Int),(0:Int),()),())).2.1.1,(List.getD x1 (Int.toNat x3) (((0:Int),(0:Int),()),((0:Int),(0:Int),()),())).2.1.2.1]:List Int),()));
        Tr.test (Option.isSome (f80 (r0.1,((2:Int),()))))
          (Tr.test ((!leF (List.getD x1 (Int.toNat x3) (((0:Int),(0:Int),()),((0:Int),(0:Int),()),())).1.1 (List.getD x1 (Int.toNat x3) (((0:Int),(0:Int),()),((0:Int),(0:Int),()),())).1.2.1:Bool))
            (Tr.test (Option.isSome (f80 ((true:Bool),((9:Int),()))))
              (let r1:=g80 (r0.1,((2:Int),()));
              let r2:=g80 ((true:Bool),((9:Int),()));
              Tr.test (Option.isSome (f79 (([r1.1,r2.1]:List Int),())))
                (let r4:=g79 (([r1.1,r2.1]:List Int),());
                Tr.test ((!eqF r4.1 0:Bool))
                  (Tr.fin (.ret ((x3,(r4.1,())),())))
                  (Tr.fin (.again ((x1,(x2,((wrap64 (x3 + (1:Int)):Int),()))),()))))
                (Tr.stop))
              (Tr.stop))
            (Tr.test (Option.isSome (f80 ((!leF (List.getD x1 (Int.toNat x3) (((0:Int),(0:Int),()),((0:Int),(0:Int),()),())).2.1.1 (List.getD x1 (Int.toNat x3) (((0:Int),(0:Int),()),((0:Int),(0:Int),()),())).2.1.2.1:Bool),((9:Int),()))))
              (let r1:=g80 (r0.1,((2:Int),()));
              let r3:=g80 ((!leF (List.getD x1 (Int.toNat x3) (((0:Int),(0:Int),()),((0:Int),(0:Int),()),())).2.1.1 (List.getD x1 (Int.toNat x3) (((0:Int),(0:Int),()),((0:Int),(0:Int),()),())).2.1.2.1:Bool),((9:Int),()));
              Tr.test (Option.isSome (f79 (([r1.1,r3.1]:List Int),())))
                (let r5:=g79 (([r1.1,r3.1]:List Int),());
                Tr.test ((!eqF r5.1 0:Bool))
                  (Tr.fin (.ret ((x3,(r5.1,())),())))
                  (Tr.fin (.again ((x1,(x2,((wrap64 (x3 + (1:Int)):Int),()))),()))))
                (Tr.stop))
              (Tr.stop)))
          (Tr.stop))
        (Tr.stop))
      (Tr.stop))
    (Tr.fin (.brk ((),())))

def s171_0 (d:sh171_0.data):Option (Out sh171_0.data shb171_0.data shr171_0.data):=(t171_0 d.1.1 d.1.2.1 d.1.2.2.1).val
def l171_0 (d:sh171_0.data):Option (shb171_0.data ⊕ shr171_0.data):=itr s171_0 rounds d
def b171_0 (d:sh171_0.data):shb171_0.data:=outB shb171_0.dflt (l171_0 d)
def r171_0 (d:sh171_0.data):shr171_0.data:=outR shr171_0.dflt (l171_0 d)
def lc171_0:LoopC:=lcOf sh171_0 shb171_0 shr171_0 l171_0 b171_0 r171_0

theorem wk171_0 (x1:(List ((Int×(Int×Unit))×((Int×(Int×Unit))×Unit)))) (x2:Int) (x3:Int):Walks (runBody (kf79 Go.Proofs.Tryz.prog).orc Go.Proofs.Tryz.prog 400 171 0 sh171_0 shb171_0 shr171_0 ((x1,x2,x3,()),())) (t171_0 x1 x2 x3) [(bl 8 255,[2,4,6,8,8,8,8,8,8,8,8,1,1,10,12,1,1,1,1,14,16]),(bl 8 127,[2,4,6,8,8,8,8,8,8,8,8,1,1,10,12,1,1,1,1,14,16]),(bl 8 239,[2,4,6,8,8,1,8,8,8,1,8,8,8,1,1,10,12,1,1,1,1,14,16]),(bl 8 111,[2,4,6,8,8,1,8,8,8,1,8,8,8,1,1,10,12,1,1,1,1,14,16]),(bl 1 0,[2])] :=
  ⟨by kernel_rfl,by kernel_rfl,by kernel_rfl,by kernel_rfl,by kernel_rfl,trivial⟩

theorem ok171_0_t (x1:(List ((Int×(Int×Unit))×((Int×(Int×Unit))×Unit)))) (x2:Int) (x3:Int):TrOk (BodyRuns Go.Proofs.Tryz.prog (kf79 Go.Proofs.Tryz.prog).orc 171 0 sh171_0 shb171_0 shr171_0 ((x1,x2,x3,()),())) (t171_0 x1 x2 x3) :=
  Walks.ok (fun _ _ _=>BodyRuns.of) (wk171_0 x1 x2 x3) (by kernel_rfl)

theorem ok171_0:LoopOk Go.Proofs.Tryz.prog 171 0 lc171_0:=loopOk_of (sh:=sh171_0) (shB:=shb171_0) (shR:=shr171_0) kf79_ok.base (T:=fun (d:sh171_0.data)=>t171_0 d.1.1 d.1.2.1 d.1.2.2.1) (by kernel_rfl) rfl (fun (d:sh171_0.data)=>ok171_0_t d.1.1 d.1.2.1 d.1.2.2.1) (fun _=>rfl)
def kl171_0 (P:Go.Program):Known:=(kf79 P).loop 171 0 lc171_0
theorem kl171_0_ok:KnownOk Go.Proofs.Tryz.prog (kl171_0 Go.Proofs.Tryz.prog):=kf79_ok.loop ok171_0

/-! ductility/safety.zonesError -/

abbrev as135:List Ty:=[(.slice (.pair (.pair (.int .i64) (.pair (.int .i64) .unit)) (.pair (.pair (.int .i64) (.pair (.int .i64) .unit)) .unit)))]
abbrev rs135:List Ty:=[(.int .i64)]

def t135 (x0:(List ((Int×(Int×Unit))×((Int×(Int×Unit))×Unit)))):Tr (Tys.data rs135) :=
  Tr.test ((!leF (↑(List.length x0):Int) (8:Int):Bool))
    (Tr.fin (((8:Int),())))
    (Tr.test (Option.isSome (l171_0 ((x0,((↑(List.length x0):Int),((0:Int),()))),())))
      (Tr.test (isRet (l171_0 ((x0,((↑(List.length x0):Int),((0:Int),()))),())))
        (let r0:=r171_0 ((x0,((↑(List.length x0):Int),((0:Int),()))),());
        Tr.fin ((r0.1.2.1,())))
        (Tr.fin (((0:Int),()))))
      (Tr.stop))

def f135 (d:Tys.data as135):Option (Tys.data rs135):=(t135 d.1).val
def g135 (d:Tys.data as135):Tys.data rs135:=(f135 d).getD (Tys.dflt rs135)
def p135:PureC:=pcOf as135 rs135 f135 g135

theorem wk135 (x0:(List ((Int×(Int×Unit))×((Int×(Int×Unit))×Unit)))):Walks (runPure (kl171_0 Go.Proofs.Tryz.prog).orc Go.Proofs.Tryz.prog 400 135 as135 rs135 (x0,())) (t135 x0) [(bl 1 1,[2]),(bl 3 6,[2,4,6]),(bl 3 2,[2,4,6])] :=
  ⟨by kernel_rfl,by kernel_rfl,by kernel_rfl,trivial⟩

theorem ok135_t (x0:(List ((Int×(Int×Unit))×((Int×(Int×Unit))×Unit)))):TrOk (PureRuns Go.Proofs.Tryz.prog (kl171_0 Go.Proofs.Tryz.prog).orc 135 as135 rs135 (x0,())) (t135 x0) :=
  Walks.ok (fun _ _ _=>PureRuns.of) (wk135 x0) (by kernel_rfl)

theorem ok135:PureOk Go.Proofs.Tryz.prog 135 p135:=pureOk_of kl171_0_ok.base (T:=fun (d:Tys.data as135)=>t135 d.1) (by kernel_rfl) (fun (d:Tys.data as135)=>ok135_t d.1)
def kf135 (P:Go.Program):Known:=(kl171_0 P).func 135 p135
theorem kf135_ok:KnownOk Go.Proofs.Tryz.prog (kf135 Go.Proofs.Tryz.prog):=kl171_0_ok.func ok135

/-! loop 0 of ductility/safety.checkItems[[2]int] -/

abbrev sh173_0:Sh:={ n:=25,slots:=[1,9,10,11],pats:=[.fn 174 [],.ty (.slice (.pair (.int .i64) (.pair (.int .i64) .unit))),.ty (.int .i64),.ty (.int .i64)],boxes:=[] }
abbrev shb173_0:Sh:={ n:=25,slots:=[],pats:=[],boxes:=[] }
abbrev shr173_0:Sh:={ n:=25,slots:=[4,5],pats:=[.ty (.int .i64),.ty (.int .i64)],boxes:=[] }

def t173_0 (x1:(List (Int×(Int×Unit)))) (x2:Int) (x3:Int):Tr (Out sh173_0.data shb173_0.data shr173_0.data) :=
  Tr.test ((!leF x2 x3:Bool))
    (Tr.test (decide ((0:Int) ≤ x3) && decide (x3 < (↑(List.length x1):Int)))
      (Tr.test (Option.isSome (f117 ((1000:Int),(([(List.getD x1 (Int.toNat x3) ((0:Int),(0:Int),())).1,(List.getD x1 (Int.toNat x3) ((0:Int),(0:Int),())).2.1]:List Int),()))))
        (let r0:=g117 ((1000:Int),(([(List.getD x1 (Int.toNat x3) ((0:Int),(0:Int),())).1,(List.getD x1 (Int.toNat x3) ((0:Int),(0:Int),())).2.1]:List Int),()));
        Tr.test (Option.isSome (f80 (r0.1,((2:Int),()))))
          (let r1:=g80 (r0.1,((2:Int),()));
          Tr.test ((!eqF r1.1 0:Bool))
            (Tr.fin (.ret ((x3,(r1.1,())),())))
            (Tr.fin (.again ((x1,(x2,((wrap64 (x3 + (1:Int)):Int),()))),()))))
          (Tr.stop))
        (Tr.stop))
      (Tr.stop))
    (Tr.fin (.brk ((),())))

def s173_0 (d:sh173_0.data):Option (Out sh173_0.data shb173_0.data shr173_0.data):=(t173_0 d.1.1 d.1.2.1 d.1.2.2.1).val
def l173_0 (d:sh173_0.data):Option (shb173_0.data ⊕ shr173_0.data):=itr s173_0 rounds d
def b173_0 (d:sh173_0.data):shb173_0.data:=outB shb173_0.dflt (l173_0 d)
def r173_0 (d:sh173_0.data):shr173_0.data:=outR shr173_0.dflt (l173_0 d)
def lc173_0:LoopC:=lcOf sh173_0 shb173_0 shr173_0 l173_0 b173_0 r173_0

theorem wk173_0 (x1:(List (Int×(Int×Unit)))) (x2:Int) (x3:Int):Walks (runBody (kf135 Go.Proofs.Tryz.prog).orc Go.Proofs.Tryz.prog 400 173 0 sh173_0 shb173_0 shr173_0 ((x1,x2,x3,()),())) (t173_0 x1 x2 x3) [(bl 5 31,[2,4,6,1,1,8,10]),(bl 5 15,[2,4,6,1,1,8,10]),(bl 1 0,[2])] :=
  ⟨by kernel_rfl,by kernel_rfl,by kernel_rfl,trivial⟩

theorem ok173_0_t (x1:(List (Int×(Int×Unit)))) (x2:Int) (x3:Int):TrOk (BodyRuns Go.Proofs.Tryz.prog (kf135 Go.Proofs.Tryz.prog).orc 173 0 sh173_0 shb173_0 shr173_0 ((x1,x2,x3,()),())) (t173_0 x1 x2 x3) :=
  Walks.ok (fun _ _ _=>BodyRuns.of) (wk173_0 x1 x2 x3) (by kernel_rfl)

theorem ok173_0:LoopOk Go.Proofs.Tryz.prog 173 0 lc173_0:=loopOk_of (sh:=sh173_0) (shB:=shb173_0) (shR:=shr173_0) kf135_ok.base (T:=fun (d:sh173_0.data)=>t173_0 d.1.1 d.1.2.1 d.1.2.2.1) (by kernel_rfl) rfl (fun (d:sh173_0.data)=>ok173_0_t d.1.1 d.1.2.1 d.1.2.2.1) (fun _=>rfl)
def kl173_0 (P:Go.Program):Known:=(kf135 P).loop 173 0 lc173_0
theorem kl173_0_ok:KnownOk Go.Proofs.Tryz.prog (kl173_0 Go.Proofs.Tryz.prog):=kf135_ok.loop ok173_0

/-! ductility/safety.pathError -/

abbrev as136:List Ty:=[(.slice (.pair (.int .i64) (.pair (.int .i64) .unit)))]
abbrev rs136:List Ty:=[(.int .i64)]

def t136 (x0:(List (Int×(Int×Unit)))):Tr (Tys.data rs136) :=
  Tr.test ((!leF (↑(List.length x0):Int) (20:Int):Bool))
    (Tr.fin (((8:Int),())))
    (Tr.test (Option.isSome (l173_0 ((x0,((↑(List.length x0):Int),((0:Int),()))),())))
      (Tr.test (isRet (l173_0 ((x0,((↑(List.length x0):Int),((0:Int),()))),())))
        (let r0:=r173_0 ((x0,((↑(List.length x0):Int),((0:Int),()))),());
        Tr.fin ((r0.1.2.1,())))
        (Tr.fin (((0:Int),()))))
      (Tr.stop))

def f136 (d:Tys.data as136):Option (Tys.data rs136):=(t136 d.1).val
def g136 (d:Tys.data as136):Tys.data rs136:=(f136 d).getD (Tys.dflt rs136)
def p136:PureC:=pcOf as136 rs136 f136 g136

theorem wk136 (x0:(List (Int×(Int×Unit)))):Walks (runPure (kl173_0 Go.Proofs.Tryz.prog).orc Go.Proofs.Tryz.prog 400 136 as136 rs136 (x0,())) (t136 x0) [(bl 1 1,[2]),(bl 3 6,[2,4,6]),(bl 3 2,[2,4,6])] :=
  ⟨by kernel_rfl,by kernel_rfl,by kernel_rfl,trivial⟩

theorem ok136_t (x0:(List (Int×(Int×Unit)))):TrOk (PureRuns Go.Proofs.Tryz.prog (kl173_0 Go.Proofs.Tryz.prog).orc 136 as136 rs136 (x0,())) (t136 x0) :=
  Walks.ok (fun _ _ _=>PureRuns.of) (wk136 x0) (by kernel_rfl)

theorem ok136:PureOk Go.Proofs.Tryz.prog 136 p136:=pureOk_of kl173_0_ok.base (T:=fun (d:Tys.data as136)=>t136 d.1) (by kernel_rfl) (fun (d:Tys.data as136)=>ok136_t d.1)
def kf136 (P:Go.Program):Known:=(kl173_0 P).func 136 p136
theorem kf136_ok:KnownOk Go.Proofs.Tryz.prog (kf136 Go.Proofs.Tryz.prog):=kl173_0_ok.func ok136

/-! (ductility/safety.line).isBeside -/

abbrev as177:List Ty:=[(.pair (.pair (.int .i64) (.pair (.int .i64) .unit)) (.pair (.pair (.int .i64) (.pair (.int .i64) .unit)) .unit)),(.pair (.int .i64) (.pair (.int .i64) .unit)),(.int .i64)]
abbrev rs177:List Ty:=[.bool]

def t177 (x0_:Int) (x0_':Int) (x0'_:Int) (x0'_':Int) (x1:Int) (x1':Int) (x2:Int):Tr (Tys.data rs177) :=
  Tr.test ((decide ((0:Int) ≤ x2) && decide (x2 < (2:Int)):Bool))
    (Tr.test (Nat.ble ((0:Nat) + Int.toNat x2 * (1:Nat) + (1:Nat)) (4:Nat))
      (Tr.test ((Nat.ble ((2:Nat) + Int.toNat x2 * (1:Nat) + (1:Nat)) (4:Nat):Bool))
        (Tr.test ((!leF x1 (if List.getD [x0_,x0_',x0'_,x0'_'] ((0:Nat) + Int.toNat x2 * (1:Nat)) (0:Int) < List.getD [x0_,x0_',x0'_,x0'_'] ((2:Nat) + Int.toNat x2 * (1:Nat)) (0:Int) then List.getD [x0_,x0_',x0'_,x0'_'] ((2:Nat) + Int.toNat x2 * (1:Nat)) (0:Int) else List.getD [x0_,x0_',x0'_,x0'_'] ((0:Nat) + Int.toNat x2 * (1:Nat)) (0:Int)):Bool))
          (Tr.fin (((true:Bool),())))
          (Tr.fin (((!leF (if List.getD [x0_,x0_',x0'_,x0'_'] ((2:Nat) + Int.toNat x2 * (1:Nat)) (0:Int) < List.getD [x0_,x0_',x0'_,x0'_'] ((0:Nat) + Int.toNat x2 * (1:Nat)) (0:Int) then List.getD [x0_,x0_',x0'_,x0'_'] ((2:Nat) + Int.toNat x2 * (1:Nat)) (0:Int) else List.getD [x0_,x0_',x0'_,x0'_'] ((0:Nat) + Int.toNat x2 * (1:Nat)) (0:Int)) x1':Bool),()))))
        (Tr.stop))
      (Tr.stop))
    (Tr.stop)

def f177 (d:Tys.data as177):Option (Tys.data rs177):=(t177 d.1.1.1 d.1.1.2.1 d.1.2.1.1 d.1.2.1.2.1 d.2.1.1 d.2.1.2.1 d.2.2.1).val
def g177 (d:Tys.data as177):Tys.data rs177:=(f177 d).getD (Tys.dflt rs177)
def p177:PureC:=pcOf as177 rs177 f177 g177

theorem wk177 (x0_:Int) (x0_':Int) (x0'_:Int) (x0'_':Int) (x1:Int) (x1':Int) (x2:Int):Walks (runPure (kf136 Go.Proofs.Tryz.prog).orc Go.Proofs.Tryz.prog 400 177 as177 rs177 (((x0_,x0_',()),(x0'_,x0'_',()),()),(x1,x1',()),x2,())) (t177 x0_ x0_' x0'_ x0'_' x1 x1' x2) [(bl 4 15,[2,2,2,2,2,2,2,2,2,2,2,2,2,4,8,6,8]),(bl 4 7,[2,2,2,2,2,4,2,8,2,2,2,6,2,8,2,2,2,4,8,6,8])] :=
  ⟨by kernel_rfl,by kernel_rfl,trivial⟩

theorem ok177_t (x0_:Int) (x0_':Int) (x0'_:Int) (x0'_':Int) (x1:Int) (x1':Int) (x2:Int):TrOk (PureRuns Go.Proofs.Tryz.prog (kf136 Go.Proofs.Tryz.prog).orc 177 as177 rs177 (((x0_,x0_',()),(x0'_,x0'_',()),()),(x1,x1',()),x2,())) (t177 x0_ x0_' x0'_ x0'_' x1 x1' x2) :=
  Walks.ok (fun _ _ _=>PureRuns.of) (wk177 x0_ x0_' x0'_ x0'_' x1 x1' x2) (by kernel_rfl)

theorem ok177:PureOk Go.Proofs.Tryz.prog 177 p177:=pureOk_of kf136_ok.base (T:=fun (d:Tys.data as177)=>t177 d.1.1.1 d.1.1.2.1 d.1.2.1.1 d.1.2.1.2.1 d.2.1.1 d.2.1.2.1 d.2.2.1) (by kernel_rfl) (fun (d:Tys.data as177)=>ok177_t d.1.1.1 d.1.1.2.1 d.1.2.1.1 d.1.2.1.2.1 d.2.1.1 d.2.1.2.1 d.2.2.1)
def kf177 (P:Go.Program):Known:=(kf136 P).func 177 p177
theorem kf177_ok:KnownOk Go.Proofs.Tryz.prog (kf177 Go.Proofs.Tryz.prog):=kf136_ok.func ok177

/-! ductility/safety.cornersOf -/

abbrev as178:List Ty:=[(.pair (.pair (.int .i64) (.pair (.int .i64) .unit)) (.pair (.pair (.int .i64) (.pair (.int .i64) .unit)) .unit))]
abbrev rs178:List Ty:=[(.pair (.pair (.int .i64) (.pair (.int .i64) .unit)) (.pair (.pair (.int .i64) (.pair (.int .i64) .unit)) (.pair (.pair (.int .i64) (.pair (.int .i64) .unit)) (.pair (.pair (.int .i64) (.pair (.int .i64) .unit)) .unit))))]

def t178 (x0_:Int) (x0_':Int) (x0'_:Int) (x0'_':Int):Tr (Tys.data rs178) :=
  Tr.fin ((((x0_,(x0'_,())),((x0_,(x0'_',())),((x0_',(x0'_,())),((x0_',(x0'_',())),())))),()))

def f178 (d:Tys.data as178):Option (Tys.data rs178):=(t178 d.1.1.1 d.1.1.2.1 d.1.2.1.1 d.1.2.1.2.1).val
def g178 (d:Tys.data as178):Tys.data rs178:=(f178 d).getD (Tys.dflt rs178)
def p178:PureC:=pcOf as178 rs178 f178 g178

theorem wk178 (x0_:Int) (x0_':Int) (x0'_:Int) (x0'_':Int):Walks (runPure (kf177 Go.Proofs.Tryz.prog).orc Go.Proofs.Tryz.prog 400 178 as178 rs178 (((x0_,x0_',()),(x0'_,x0'_',()),()),())) (t178 x0_ x0_' x0'_ x0'_') [(bl 0 0,[1,1,1,1,1,1,1,1])] :=
  ⟨by kernel_rfl,trivial⟩

theorem ok178_t (x0_:Int) (x0_':Int) (x0'_:Int) (x0'_':Int):TrOk (PureRuns Go.Proofs.Tryz.prog (kf177 Go.Proofs.Tryz.prog).orc 178 as178 rs178 (((x0_,x0_',()),(x0'_,x0'_',()),()),())) (t178 x0_ x0_' x0'_ x0'_') :=
  Walks.ok (fun _ _ _=>PureRuns.of) (wk178 x0_ x0_' x0'_ x0'_') (by kernel_rfl)

theorem ok178:PureOk Go.Proofs.Tryz.prog 178 p178:=pureOk_of kf177_ok.base (T:=fun (d:Tys.data as178)=>t178 d.1.1.1 d.1.1.2.1 d.1.2.1.1 d.1.2.1.2.1) (by kernel_rfl) (fun (d:Tys.data as178)=>ok178_t d.1.1.1 d.1.1.2.1 d.1.2.1.1 d.1.2.1.2.1)
def kf178 (P:Go.Program):Known:=(kf177 P).func 178 p178
theorem kf178_ok:KnownOk Go.Proofs.Tryz.prog (kf178 Go.Proofs.Tryz.prog):=kf177_ok.func ok178

end Go.Vm.Mo
