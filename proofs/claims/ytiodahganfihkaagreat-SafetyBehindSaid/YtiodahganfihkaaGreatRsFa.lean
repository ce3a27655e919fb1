import Derived.Test.YtiodahganfihkaaGreatA4
import Derived.KernelRfl
import Derived.Test.YtiodahganfihkaaGreatProg
set_option linter.unusedVariables false
set_option linter.unusedSimpArgs false

namespace Go.Vm.Mo
open Go
set_option linter.unusedVariables false

def kn0 (_:Go.Program):Known:=⟨[],[]⟩

abbrev tt:Bool:=true

theorem plainP:Plain Go.Proofs.Tryz.prog:=by
  have h : (Go.Proofs.Tryz.prog.funcs.toList.all fun fn => !(fn.body.isSome && fn.name == "runtime.NumGoroutine")) = true := by kernel_rfl
  intro f fn hf hb
  have hm:fn ∈ Go.Proofs.Tryz.prog.funcs.toList:=by
    have:=Array.getElem?_eq_some_iff.1 hf
    obtain ⟨hlt,rfl⟩:=this
    simp
  have:=List.all_eq_true.1 h fn hm
  rw [hb] at this
  simpa using this

theorem kn0_ok:KnownOk Go.Proofs.Tryz.prog (kn0 Go.Proofs.Tryz.prog):=⟨plainP,by kernel_rfl,(fun _ h=>by cases h),(fun _ h=>by cases h)⟩

/-! loop 0 of ductility/safety.areWithin -/

abbrev sh94_0:Sh:={ n:=24,slots:=[0,1,9,10,11],pats:=[.ty (.int .i64),.ty (.int .i64),.ty (.slice (.int .i64)),.ty (.int .i64),.ty (.int .i64)],boxes:=[] }
abbrev shb94_0:Sh:={ n:=24,slots:=[],pats:=[],boxes:=[] }
abbrev shr94_0:Sh:={ n:=24,slots:=[6],pats:=[.ty .bool],boxes:=[] }

def t94_0 (x0:Int) (x1:Int) (x2:(List Int)) (x3:Int) (x4:Int):Tr (Out sh94_0.data shb94_0.data shr94_0.data) :=
  Tr.test ((!leF x3 x4:Bool))
    (Tr.test (decide ((0:Int) ≤ x4) && decide (x4 < (↑(List.length x2):Int)))
      (Tr.test ((!leF x0 (List.getD x2 (Int.toNat x4) (0:Int)):Bool))
        (Tr.fin (.ret (((false:Bool),()),())))
        (Tr.test ((!leF (List.getD x2 (Int.toNat x4) (0:Int)) x1:Bool))
          (Tr.fin (.ret (((false:Bool),()),())))
          (Tr.fin (.again ((x0,(x1,(x2,(x3,((wrap64 (x4 + (1:Int)):Int),()))))),())))))
      (Tr.stop))
    (Tr.fin (.brk ((),())))

def s94_0 (d:sh94_0.data):Option (Out sh94_0.data shb94_0.data shr94_0.data):=(t94_0 d.1.1 d.1.2.1 d.1.2.2.1 d.1.2.2.2.1 d.1.2.2.2.2.1).val
def l94_0 (d:sh94_0.data):Option (shb94_0.data ⊕ shr94_0.data):=itr s94_0 rounds d
def b94_0 (d:sh94_0.data):shb94_0.data:=outB shb94_0.dflt (l94_0 d)
def r94_0 (d:sh94_0.data):shr94_0.data:=outR shr94_0.dflt (l94_0 d)
def lc94_0:LoopC:=lcOf sh94_0 shb94_0 shr94_0 l94_0 b94_0 r94_0

theorem wk94_0 (x0:Int) (x1:Int) (x2:(List Int)) (x3:Int) (x4:Int):Walks (runBody (kn0 Go.Proofs.Tryz.prog).orc Go.Proofs.Tryz.prog 400 94 0 sh94_0 shb94_0 shr94_0 ((x0,x1,x2,x3,x4,()),())) (t94_0 x0 x1 x2 x3 x4) [(bl 3 7,[1,2,2,2,2,4,6]),(bl 4 11,[2,4,4,4,4,6,8]),(bl 4 3,[2,4,4,4,4,6,8]),(bl 1 0,[2])] :=
  ⟨by kernel_rfl,by kernel_rfl,by kernel_rfl,by kernel_rfl,trivial⟩

theorem ok94_0_t (x0:Int) (x1:Int) (x2:(List Int)) (x3:Int) (x4:Int):TrOk (BodyRuns Go.Proofs.Tryz.prog (kn0 Go.Proofs.Tryz.prog).orc 94 0 sh94_0 shb94_0 shr94_0 ((x0,x1,x2,x3,x4,()),())) (t94_0 x0 x1 x2 x3 x4) :=
  Walks.ok (fun _ _ _=>BodyRuns.of) (wk94_0 x0 x1 x2 x3 x4) (by kernel_rfl)

theorem ok94_0:LoopOk Go.Proofs.Tryz.prog 94 0 lc94_0:=loopOk_of (sh:=sh94_0) (shB:=shb94_0) (shR:=shr94_0) kn0_ok.base (T:=fun (d:sh94_0.data)=>t94_0 d.1.1 d.1.2.1 d.1.2.2.1 d.1.2.2.2.1 d.1.2.2.2.2.1) (by kernel_rfl) rfl (fun (d:sh94_0.data)=>ok94_0_t d.1.1 d.1.2.1 d.1.2.2.1 d.1.2.2.2.1 d.1.2.2.2.2.1) (fun _=>rfl)
def kl94_0 (P:Go.Program):Known:=(kn0 P).loop 94 0 lc94_0
theorem kl94_0_ok:KnownOk Go.Proofs.Tryz.prog (kl94_0 Go.Proofs.Tryz.prog):=kn0_ok.loop ok94_0

/-! ductility/safety.areWithin -/

abbrev as94:List Ty:=[(.int .i64),(.int .i64),(.slice (.int .i64))]
abbrev rs94:List Ty:=[.bool]

def t94 (x0:Int) (x1:Int) (x2:(List Int)):Tr (Tys.data rs94) :=
  Tr.test (Option.isSome (l94_0 ((x0,(x1,(x2,((↑(List.length x2):Int),((0:Int),()))))),())))
    (Tr.test (isRet (l94_0 ((x0,(x1,(x2,((↑(List.length x2):Int),((0:Int),()))))),())))
      (let r0:=r94_0 ((x0,(x1,(x2,((↑(List.length x2):Int),((0:Int),()))))),());
      Tr.fin ((r0.1.1,())))
      (Tr.fin (((true:Bool),()))))
    (Tr.stop)

def f94 (d:Tys.data as94):Option (Tys.data rs94):=(t94 d.1 d.2.1 d.2.2.1).val
def g94 (d:Tys.data as94):Tys.data rs94:=(f94 d).getD (Tys.dflt rs94)
def p94:PureC:=pcOf as94 rs94 f94 g94

theorem wk94 (x0:Int) (x1:Int) (x2:(List Int)):Walks (runPure (kl94_0 Go.Proofs.Tryz.prog).orc Go.Proofs.Tryz.prog 400 94 as94 rs94 (x0,x1,x2,())) (t94 x0 x1 x2) [(bl 2 3,[2,4]),(bl 2 1,[2,4])] :=
  ⟨by kernel_rfl,by kernel_rfl,trivial⟩

theorem ok94_t (x0:Int) (x1:Int) (x2:(List Int)):TrOk (PureRuns Go.Proofs.Tryz.prog (kl94_0 Go.Proofs.Tryz.prog).orc 94 as94 rs94 (x0,x1,x2,())) (t94 x0 x1 x2) :=
  Walks.ok (fun _ _ _=>PureRuns.of) (wk94 x0 x1 x2) (by kernel_rfl)

theorem ok94:PureOk Go.Proofs.Tryz.prog 94 p94:=pureOk_of kl94_0_ok.base (T:=fun (d:Tys.data as94)=>t94 d.1 d.2.1 d.2.2.1) (by kernel_rfl) (fun (d:Tys.data as94)=>ok94_t d.1 d.2.1 d.2.2.1)
def kf94 (P:Go.Program):Known:=(kl94_0 P).func 94 p94
theorem kf94_ok:KnownOk Go.Proofs.Tryz.prog (kf94 Go.Proofs.Tryz.prog):=kl94_0_ok.func ok94

/-! ductility/safety.isBeyond -/

abbrev as117:List Ty:=[(.int .i64),(.slice (.int .i64))]
abbrev rs117:List Ty:=[.bool]

def t117 (x0:Int) (x1:(List Int)):Tr (Tys.data rs117) :=
  Tr.test (Option.isSome (f94 ((Go.IntKind.wrap Go.IntKind.i64 ((0:Int) - x0):Int),(x0,(x1,())))))
    (let r0:=g94 ((Go.IntKind.wrap Go.IntKind.i64 ((0:Int) - x0):Int),(x0,(x1,())));
    Tr.fin (((!r0.1:Bool),())))
    (Tr.stop)

def f117 (d:Tys.data as117):Option (Tys.data rs117):=(t117 d.1 d.2.1).val
def g117 (d:Tys.data as117):Tys.data rs117:=(f117 d).getD (Tys.dflt rs117)
def p117:PureC:=pcOf as117 rs117 f117 g117

theorem wk117 (x0:Int) (x1:(List Int)):Walks (runPure (kf94 Go.Proofs.Tryz.prog).orc Go.Proofs.Tryz.prog 400 117 as117 rs117 (x0,x1,())) (t117 x0 x1) [(bl 1 1,[2])] :=
  ⟨by kernel_rfl,trivial⟩

theorem ok117_t (x0:Int) (x1:(List Int)):TrOk (PureRuns Go.Proofs.Tryz.prog (kf94 Go.Proofs.Tryz.prog).orc 117 as117 rs117 (x0,x1,())) (t117 x0 x1) :=
  Walks.ok (fun _ _ _=>PureRuns.of) (wk117 x0 x1) (by kernel_rfl)

theorem ok117:PureOk Go.Proofs.Tryz.prog 117 p117:=pureOk_of kf94_ok.base (T:=fun (d:Tys.data as117)=>t117 d.1 d.2.1) (by kernel_rfl) (fun (d:Tys.data as117)=>ok117_t d.1 d.2.1)
def kf117 (P:Go.Program):Known:=(kf94 P).func 117 p117
theorem kf117_ok:KnownOk Go.Proofs.Tryz.prog (kf117 Go.Proofs.Tryz.prog):=kf94_ok.func ok117

/-! ductility/safety.moved -/

abbrev as121:List Ty:=[(.pair (.int .i64) (.pair (.int .i64) (.pair (.int .i64) .unit))),(.int .i64)]
abbrev rs121:List Ty:=[(.pair (.int .i64) (.pair (.int .i64) (.pair (.int .i64) .unit)))]

def t121 (x0:Int) (x0':Int) (x0'':Int) (x1:Int):Tr (Tys.data rs121) :=
  Tr.fin ((((wrap64 (x0 + wrap64 (x0' + x1)):Int),((wrap64 (x0' + x1):Int),(x1,()))),()))

def f121 (d:Tys.data as121):Option (Tys.data rs121):=(t121 d.1.1 d.1.2.1 d.1.2.2.1 d.2.1).val
def g121 (d:Tys.data as121):Tys.data rs121:=(f121 d).getD (Tys.dflt rs121)
def p121:PureC:=pcOf as121 rs121 f121 g121

theorem wk121 (x0:Int) (x0':Int) (x0'':Int) (x1:Int):Walks (runPure (kf117 Go.Proofs.Tryz.prog).orc Go.Proofs.Tryz.prog 400 121 as121 rs121 ((x0,x0',x0'',()),x1,())) (t121 x0 x0' x0'' x1) [(bl 0 0,[])] :=
  ⟨by kernel_rfl,trivial⟩

theorem ok121_t (x0:Int) (x0':Int) (x0'':Int) (x1:Int):TrOk (PureRuns Go.Proofs.Tryz.prog (kf117 Go.Proofs.Tryz.prog).orc 121 as121 rs121 ((x0,x0',x0'',()),x1,())) (t121 x0 x0' x0'' x1) :=
  Walks.ok (fun _ _ _=>PureRuns.of) (wk121 x0 x0' x0'' x1) (by kernel_rfl)

theorem ok121:PureOk Go.Proofs.Tryz.prog 121 p121:=pureOk_of kf117_ok.base (T:=fun (d:Tys.data as121)=>t121 d.1.1 d.1.2.1 d.1.2.2.1 d.2.1) (by kernel_rfl) (fun (d:Tys.data as121)=>ok121_t d.1.1 d.1.2.1 d.1.2.2.1 d.2.1)
def kf121 (P:Go.Program):Known:=(kf117 P).func 121 p121
theorem kf121_ok:KnownOk Go.Proofs.Tryz.prog (kf121 Go.Proofs.Tryz.prog):=kf117_ok.func ok121

/-! (ductility/safety.limits).contain -/

abbrev as160:List Ty:=[(.pair (.pair (.pair (.int .i64) (.pair (.int .i64) .unit)) (.pair (.int .i64) (.pair (.int .i64) (.pair (.int .i64) .unit)))) .unit),(.pair (.int .i64) (.pair (.int .i64) (.pair (.int .i64) .unit)))]
abbrev rs160:List Ty:=[.bool]

def t160 (x0__:Int) (x0__':Int) (x0_':Int) (x0_'':Int) (x0_''':Int) (x1:Int) (x1':Int) (x1'':Int):Tr (Tys.data rs160) :=
  Tr.test (Option.isSome (f94 (x0__,(x0__',(([x1]:List Int),())))))
    (let r0:=g94 (x0__,(x0__',(([x1]:List Int),())));
    Tr.test (r0.1)
      (Tr.test (Option.isSome (f117 (x0_',(([x1']:List Int),()))))
        (let r1:=g117 (x0_',(([x1']:List Int),()));
        Tr.test ((!r1.1:Bool))
          (Tr.test (Option.isSome (f117 (x0_'',(([x1'']:List Int),()))))
            (let r2:=g117 (x0_'',(([x1'']:List Int),()));
            Tr.fin (((!r2.1:Bool),())))
            (Tr.stop))
          (Tr.fin (((false:Bool),()))))
        (Tr.stop))
      (Tr.fin (((false:Bool),()))))
    (Tr.stop)

def f160 (d:Tys.data as160):Option (Tys.data rs160):=(t160 d.1.1.1.1 d.1.1.1.2.1 d.1.1.2.1 d.1.1.2.2.1 d.1.1.2.2.2.1 d.2.1.1 d.2.1.2.1 d.2.1.2.2.1).val
def g160 (d:Tys.data as160):Tys.data rs160:=(f160 d).getD (Tys.dflt rs160)
def p160:PureC:=pcOf as160 rs160 f160 g160

theorem wk160 (x0__:Int) (x0__':Int) (x0_':Int) (x0_'':Int) (x0_''':Int) (x1:Int) (x1':Int) (x1'':Int):Walks (runPure (kf121 Go.Proofs.Tryz.prog).orc Go.Proofs.Tryz.prog 400 160 as160 rs160 ((((x0__,x0__',()),x0_',x0_'',x0_''',()),()),(x1,x1',x1'',()),())) (t160 x0__ x0__' x0_' x0_'' x0_''' x1 x1' x1'') [(bl 5 31,[4,4,2,4,4,4,4,1,4,4,4,8,8,6,8,8,8,8,1,8,8,8,10,1,1]),(bl 4 7,[2,2,2,2,2,2,2,2,2,6,6,4,6,6,6,6,1,6,6,6,8,1,1]),(bl 2 1,[0,0,0,0,0,0,0,0,0,2,2,2,2,2,2,2,2,2,4,1,1])] :=
  ⟨by kernel_rfl,by kernel_rfl,by kernel_rfl,trivial⟩

theorem ok160_t (x0__:Int) (x0__':Int) (x0_':Int) (x0_'':Int) (x0_''':Int) (x1:Int) (x1':Int) (x1'':Int):TrOk (PureRuns Go.Proofs.Tryz.prog (kf121 Go.Proofs.Tryz.prog).orc 160 as160 rs160 ((((x0__,x0__',()),x0_',x0_'',x0_''',()),()),(x1,x1',x1'',()),())) (t160 x0__ x0__' x0_' x0_'' x0_''' x1 x1' x1'') :=
  Walks.ok (fun _ _ _=>PureRuns.of) (wk160 x0__ x0__' x0_' x0_'' x0_''' x1 x1' x1'') (by kernel_rfl)

theorem ok160:PureOk Go.Proofs.Tryz.prog 160 p160:=pureOk_of kf121_ok.base (T:=fun (d:Tys.data as160)=>t160 d.1.1.1.1 d.1.1.1.2.1 d.1.1.2.1 d.1.1.2.2.1 d.1.1.2.2.2.1 d.2.1.1 d.2.1.2.1 d.2.1.2.2.1) (by kernel_rfl) (fun (d:Tys.data as160)=>ok160_t d.1.1.1.1 d.1.1.1.2.1 d.1.1.2.1 d.1.1.2.2.1 d.1.1.2.2.2.1 d.2.1.1 d.2.1.2.1 d.2.1.2.2.1)
def kf160 (P:Go.Program):Known:=(kf121 P).func 160 p160
theorem kf160_ok:KnownOk Go.Proofs.Tryz.prog (kf160 Go.Proofs.Tryz.prog):=kf121_ok.func ok160

/-! (ductility/safety.limits).permit -/

abbrev as120:List Ty:=[(.pair (.pair (.pair (.int .i64) (.pair (.int .i64) .unit)) (.pair (.int .i64) (.pair (.int .i64) (.pair (.int .i64) .unit)))) .unit),(.pair (.int .i64) (.pair (.int .i64) (.pair (.int .i64) .unit))),(.int .i64)]
abbrev rs120:List Ty:=[.bool]

def t120 (x0__:Int) (x0__':Int) (x0_':Int) (x0_'':Int) (x0_''':Int) (x1:Int) (x1':Int) (x1'':Int) (x2:Int):Tr (Tys.data rs120) :=
  Tr.test (Option.isSome (f117 (x0_'',(([x2]:List Int),()))))
    (let r0:=g117 (x0_'',(([x2]:List Int),()));
    Tr.test ((!r0.1:Bool))
      (Tr.test (Option.isSome (f117 (x0_''',(([wrap64 (x2 - x1'')]:List Int),()))))
        (let r1:=g117 (x0_''',(([wrap64 (x2 - x1'')]:List Int),()));
        Tr.test ((!r1.1:Bool))
          (Tr.test (Option.isSome (f121 ((x1,(x1',(x1'',()))),(x2,()))))
            (let r2:=g121 ((x1,(x1',(x1'',()))),(x2,()));
            Tr.test (Option.isSome (f160 ((((x0__,(x0__',())),(x0_',(x0_'',(x0_''',())))),()),((r2.1.1,(r2.1.2.1,(r2.1.2.2.1,()))),()))))
              (let r3:=g160 ((((x0__,(x0__',())),(x0_',(x0_'',(x0_''',())))),()),((r2.1.1,(r2.1.2.1,(r2.1.2.2.1,()))),()));
              Tr.fin ((r3.1,())))
              (Tr.stop))
            (Tr.stop))
          (Tr.fin (((false:Bool),()))))
        (Tr.stop))
      (Tr.fin (((false:Bool),()))))
    (Tr.stop)

def f120 (d:Tys.data as120):Option (Tys.data rs120):=(t120 d.1.1.1.1 d.1.1.1.2.1 d.1.1.2.1 d.1.1.2.2.1 d.1.1.2.2.2.1 d.2.1.1 d.2.1.2.1 d.2.1.2.2.1 d.2.2.1).val
def g120 (d:Tys.data as120):Tys.data rs120:=(f120 d).getD (Tys.dflt rs120)
def p120:PureC:=pcOf as120 rs120 f120 g120

theorem wk120 (x0__:Int) (x0__':Int) (x0_':Int) (x0_'':Int) (x0_''':Int) (x1:Int) (x1':Int) (x1'':Int) (x2:Int):Walks (runPure (kf160 Go.Proofs.Tryz.prog).orc Go.Proofs.Tryz.prog 400 120 as120 rs120 ((((x0__,x0__',()),x0_',x0_'',x0_''',()),()),(x1,x1',x1'',()),x2,())) (t120 x0__ x0__' x0_' x0_'' x0_''' x1 x1' x1'' x2) [(bl 6 63,[6,2,6,4,6,6,6,6,10,10,8,10,10,10,10,10,10,1,10,10,10,12,1]),(bl 4 7,[2,2,2,2,2,2,6,6,4,6,6,6,6,6,6,1,6,6,6,8,1]),(bl 2 1,[0,0,0,0,0,0,2,2,2,2,2,2,2,2,2,2,2,4,1])] :=
  ⟨by kernel_rfl,by kernel_rfl,by kernel_rfl,trivial⟩

theorem ok120_t (x0__:Int) (x0__':Int) (x0_':Int) (x0_'':Int) (x0_''':Int) (x1:Int) (x1':Int) (x1'':Int) (x2:Int):TrOk (PureRuns Go.Proofs.Tryz.prog (kf160 Go.Proofs.Tryz.prog).orc 120 as120 rs120 ((((x0__,x0__',()),x0_',x0_'',x0_''',()),()),(x1,x1',x1'',()),x2,())) (t120 x0__ x0__' x0_' x0_'' x0_''' x1 x1' x1'' x2) :=
  Walks.ok (fun _ _ _=>PureRuns.of) (wk120 x0__ x0__' x0_' x0_'' x0_''' x1 x1' x1'' x2) (by kernel_rfl)

theorem ok120:PureOk Go.Proofs.Tryz.prog 120 p120:=pureOk_of kf160_ok.base (T:=fun (d:Tys.data as120)=>t120 d.1.1.1.1 d.1.1.1.2.1 d.1.1.2.1 d.1.1.2.2.1 d.1.1.2.2.2.1 d.2.1.1 d.2.1.2.1 d.2.1.2.2.1 d.2.2.1) (by kernel_rfl) (fun (d:Tys.data as120)=>ok120_t d.1.1.1.1 d.1.1.1.2.1 d.1.1.2.1 d.1.1.2.2.1 d.1.1.2.2.2.1 d.2.1.1 d.2.1.2.1 d.2.1.2.2.1 d.2.2.1)
def kf120 (P:Go.Program):Known:=(kf160 P).func 120 p120
theorem kf120_ok:KnownOk Go.Proofs.Tryz.prog (kf120 Go.Proofs.Tryz.prog):=kf160_ok.func ok120

/-! ductility/safety.isStopped -/

abbrev as122:List Ty:=[(.pair (.int .i64) (.pair (.int .i64) (.pair (.int .i64) .unit)))]
abbrev rs122:List Ty:=[.bool]

def t122 (x0:Int) (x0':Int) (x0'':Int):Tr (Tys.data rs122) :=
  Tr.test ((eqF x0' 0:Bool))
    (Tr.fin ((eqF x0'' 0,())))
    (Tr.fin ((false,())))

def f122 (d:Tys.data as122):Option (Tys.data rs122):=(t122 d.1.1 d.1.2.1 d.1.2.2.1).val
def g122 (d:Tys.data as122):Tys.data rs122:=(f122 d).getD (Tys.dflt rs122)
def p122:PureC:=pcOf as122 rs122 f122 g122

theorem wk122 (x0:Int) (x0':Int) (x0'':Int):Walks (runPure (kf120 Go.Proofs.Tryz.prog).orc Go.Proofs.Tryz.prog 400 122 as122 rs122 ((x0,x0',x0'',()),())) (t122 x0 x0' x0'') [(bl 1 1,[2,2,2,2]),(bl 1 0,[2,2,2,2])] :=
  ⟨by kernel_rfl,by kernel_rfl,trivial⟩

theorem ok122_t (x0:Int) (x0':Int) (x0'':Int):TrOk (PureRuns Go.Proofs.Tryz.prog (kf120 Go.Proofs.Tryz.prog).orc 122 as122 rs122 ((x0,x0',x0'',()),())) (t122 x0 x0' x0'') :=
  Walks.ok (fun _ _ _=>PureRuns.of) (wk122 x0 x0' x0'') (by kernel_rfl)

theorem ok122:PureOk Go.Proofs.Tryz.prog 122 p122:=pureOk_of kf120_ok.base (T:=fun (d:Tys.data as122)=>t122 d.1.1 d.1.2.1 d.1.2.2.1) (by kernel_rfl) (fun (d:Tys.data as122)=>ok122_t d.1.1 d.1.2.1 d.1.2.2.1)
def kf122 (P:Go.Program):Known:=(kf120 P).func 122 p122
theorem kf122_ok:KnownOk Go.Proofs.Tryz.prog (kf122 Go.Proofs.Tryz.prog):=kf120_ok.func ok122

/-! ductility/ductilitylaw09.awake -/

abbrev as14:List Ty:=[]
abbrev rs14:List Ty:=[.bool]
def f14 (_:Tys.data as14):Option (Tys.data rs14):=some (true,())
def g14 (_:Tys.data as14):Tys.data rs14:=(true,())
def p14:PureC:=pcOf as14 rs14 f14 g14

theorem e14:runAsk (kf122 Go.Proofs.Tryz.prog).orc Go.Proofs.Tryz.prog 400 14 as14 rs14 () none = some ((true,()),[]):=by kernel_rfl
theorem ok14:PureOk Go.Proofs.Tryz.prog 14 p14:=pureOk_closed kf122_ok.base (by kernel_rfl) e14 All.nil
def kf14 (P:Go.Program):Known:=(kf122 P).func 14 p14
theorem kf14_ok:KnownOk Go.Proofs.Tryz.prog (kf14 Go.Proofs.Tryz.prog):=kf122_ok.func ok14

/-! loop 2 of ductility/ductilitylaw09.fewGates -/

abbrev sh57_2:Sh:={ n:=50,slots:=[0,3,4],pats:=[.ty (.slice (.pair .str (.pair (.slice .str) (.pair (.int .i64) .unit)))),.ty (.int .i64),.ty (.int .i64)],boxes:=[] }
abbrev shb57_2:Sh:={ n:=50,slots:=[0,3],pats:=[.ty (.slice (.pair .str (.pair (.slice .str) (.pair (.int .i64) .unit)))),.ty (.int .i64)],boxes:=[] }
abbrev shr57_2:Sh:={ n:=50,slots:=[2],pats:=[.ty .bool],boxes:=[] }

def t57_2 (x0:(List (ByteArray×((List ByteArray)×(Int×Unit))))) (x1:Int) (x2:Int):Tr (Out sh57_2.data shb57_2.data shr57_2.data) :=
  Tr.test ((decide ((0:Int) ≤ x1) && decide (x1 < (↑(List.length x0):Int)):Bool))
    (Tr.test (!leF (↑(List.length (List.getD x0 (Int.toNat x1) ({ data:={ toList:=[] } },[],(0:Int),())).2.1):Int) x2)
      (Tr.test ((decide ((0:Int) ≤ x2) && decide (x2 < (↑(List.length (List.getD x0 (Int.toNat x1) ({ data:={ toList:=[] } },[],(0:Int),())).2.1):Int)):Bool))
        (Tr.test ((!leF (↑(ByteArray.size (List.getD (List.getD x0 (Int.toNat x1) ({ data:={ toList:=[] } },[],(0:Int),())).2.1 (Int.toNat x2) { data:={ toList:=[] } })):Int) (30:Int):Bool))
          (Tr.fin (.ret (((false:Bool),()),())))
          (Tr.fin (.again ((x0,(x1,((wrap64 (x2 + (1:Int)):Int),()))),()))))
        (Tr.stop))
      (Tr.fin (.brk ((x0,(x1,())),()))))
    (Tr.stop)

def s57_2 (d:sh57_2.data):Option (Out sh57_2.data shb57_2.data shr57_2.data):=(t57_2 d.1.1 d.1.2.1 d.1.2.2.1).val
def l57_2 (d:sh57_2.data):Option (shb57_2.data ⊕ shr57_2.data):=itr s57_2 rounds d
def b57_2 (d:sh57_2.data):shb57_2.data:=outB shb57_2.dflt (l57_2 d)
def r57_2 (d:sh57_2.data):shr57_2.data:=outR shr57_2.dflt (l57_2 d)
def lc57_2:LoopC:=lcOf sh57_2 shb57_2 shr57_2 l57_2 b57_2 r57_2

theorem wk57_2 (x0:(List (ByteArray×((List ByteArray)×(Int×Unit))))) (x1:Int) (x2:Int):Walks (runBody (kf14 Go.Proofs.Tryz.prog).orc Go.Proofs.Tryz.prog 400 57 2 sh57_2 shb57_2 shr57_2 ((x0,x1,x2,()),())) (t57_2 x0 x1 x2) [(bl 4 15,[2,4,8,6,8]),(bl 4 7,[2,4,8,6,8]),(bl 2 1,[2,4])] :=
  ⟨by kernel_rfl,by kernel_rfl,by kernel_rfl,trivial⟩

theorem ok57_2_t (x0:(List (ByteArray×((List ByteArray)×(Int×Unit))))) (x1:Int) (x2:Int):TrOk (BodyRuns Go.Proofs.Tryz.prog (kf14 Go.Proofs.Tryz.prog).orc 57 2 sh57_2 shb57_2 shr57_2 ((x0,x1,x2,()),())) (t57_2 x0 x1 x2) :=
  Walks.ok (fun _ _ _=>BodyRuns.of) (wk57_2 x0 x1 x2) (by kernel_rfl)

theorem ok57_2:LoopOk Go.Proofs.Tryz.prog 57 2 lc57_2:=loopOk_of (sh:=sh57_2) (shB:=shb57_2) (shR:=shr57_2) kf14_ok.base (T:=fun (d:sh57_2.data)=>t57_2 d.1.1 d.1.2.1 d.1.2.2.1) (by kernel_rfl) rfl (fun (d:sh57_2.data)=>ok57_2_t d.1.1 d.1.2.1 d.1.2.2.1) (fun _=>rfl)
def kl57_2 (P:Go.Program):Known:=(kf14 P).loop 57 2 lc57_2
theorem kl57_2_ok:KnownOk Go.Proofs.Tryz.prog (kl57_2 Go.Proofs.Tryz.prog):=kf14_ok.loop ok57_2

/-! loop 0 of ductility/ductilitylaw09.fewGates -/

abbrev sh57_0:Sh:={ n:=50,slots:=[0,3],pats:=[.ty (.slice (.pair .str (.pair (.slice .str) (.pair (.int .i64) .unit)))),.ty (.int .i64)],boxes:=[] }
abbrev shb57_0:Sh:={ n:=50,slots:=[],pats:=[],boxes:=[] }
abbrev shr57_0:Sh:={ n:=50,slots:=[2],pats:=[.ty .bool],boxes:=[] }

def t57_0 (x0:(List (ByteArray×((List ByteArray)×(Int×Unit))))) (x1:Int):Tr (Out sh57_0.data shb57_0.data shr57_0.data) :=
  Tr.test ((!leF (↑(List.length x0):Int) x1:Bool))
    (Tr.test (decide ((0:Int) ≤ x1) && decide (x1 < (↑(List.length x0):Int)))
      (Tr.test ((!leF (↑(ByteArray.size (List.getD x0 (Int.toNat x1) ({ data:={ toList:=[] } },[],(0:Int),())).1):Int) (30:Int):Bool))
        (Tr.fin (.ret (((false:Bool),()),())))
        (Tr.test ((!leF (↑(List.length (List.getD x0 (Int.toNat x1) ({ data:={ toList:=[] } },[],(0:Int),())).2.1):Int) (6:Int):Bool))
          (Tr.fin (.ret (((false:Bool),()),())))
          (Tr.test (Option.isSome (l57_2 ((x0,(x1,((0:Int),()))),())))
            (Tr.test (isRet (l57_2 ((x0,(x1,((0:Int),()))),())))
              (let r0:=r57_2 ((x0,(x1,((0:Int),()))),());
              Tr.fin (.ret ((r0.1.1,()),())))
              (let r1:=b57_2 ((x0,(x1,((0:Int),()))),());
              Tr.fin (.again ((r1.1.1,((wrap64 (r1.1.2.1 + (1:Int)):Int),())),()))))
            (Tr.stop))))
      (Tr.stop))
    (Tr.fin (.brk ((),())))

def s57_0 (d:sh57_0.data):Option (Out sh57_0.data shb57_0.data shr57_0.data):=(t57_0 d.1.1 d.1.2.1).val
def l57_0 (d:sh57_0.data):Option (shb57_0.data ⊕ shr57_0.data):=itr s57_0 rounds d
def b57_0 (d:sh57_0.data):shb57_0.data:=outB shb57_0.dflt (l57_0 d)
def r57_0 (d:sh57_0.data):shr57_0.data:=outR shr57_0.dflt (l57_0 d)
def lc57_0:LoopC:=lcOf sh57_0 shb57_0 shr57_0 l57_0 b57_0 r57_0

theorem wk57_0 (x0:(List (ByteArray×((List ByteArray)×(Int×Unit))))) (x1:Int):Walks (runBody (kl57_2 Go.Proofs.Tryz.prog).orc Go.Proofs.Tryz.prog 400 57 0 sh57_0 shb57_0 shr57_0 ((x0,x1,()),())) (t57_0 x0 x1) [(bl 3 7,[1,2,2,2,2,2,2,2,2,4,6]),(bl 4 11,[2,4,4,4,4,4,6,4,4,4,6,8]),(bl 6 51,[2,4,6,8,8,8,8,8,10,8,8,8,10,12]),(bl 6 19,[2,4,6,8,8,8,8,8,10,8,8,8,10,12]),(bl 1 0,[2])] :=
  ⟨by kernel_rfl,by kernel_rfl,by kernel_rfl,by kernel_rfl,by kernel_rfl,trivial⟩

theorem ok57_0_t (x0:(List (ByteArray×((List ByteArray)×(Int×Unit))))) (x1:Int):TrOk (BodyRuns Go.Proofs.Tryz.prog (kl57_2 Go.Proofs.Tryz.prog).orc 57 0 sh57_0 shb57_0 shr57_0 ((x0,x1,()),())) (t57_0 x0 x1) :=
  Walks.ok (fun _ _ _=>BodyRuns.of) (wk57_0 x0 x1) (by kernel_rfl)

theorem ok57_0:LoopOk Go.Proofs.Tryz.prog 57 0 lc57_0:=loopOk_of (sh:=sh57_0) (shB:=shb57_0) (shR:=shr57_0) kl57_2_ok.base (T:=fun (d:sh57_0.data)=>t57_0 d.1.1 d.1.2.1) (by kernel_rfl) rfl (fun (d:sh57_0.data)=>ok57_0_t d.1.1 d.1.2.1) (fun _=>rfl)
def kl57_0 (P:Go.Program):Known:=(kl57_2 P).loop 57 0 lc57_0
theorem kl57_0_ok:KnownOk Go.Proofs.Tryz.prog (kl57_0 Go.Proofs.Tryz.prog):=kl57_2_ok.loop ok57_0

/-! ductility/ductilitylaw09.fewGates -/

abbrev as57:List Ty:=[(.slice (.pair .str (.pair (.slice .str) (.pair (.int .i64) .unit))))]
abbrev rs57:List Ty:=[.bool]

def t57 (x0:(List (ByteArray×((List ByteArray)×(Int×Unit))))):Tr (Tys.data rs57) :=
  Tr.test ((!leF (↑(List.length x0):Int) (8:Int):Bool))
    (Tr.fin ((false,())))
    (Tr.test (Option.isSome (l57_0 ((x0,((0:Int),())),())))
      (Tr.test (isRet (l57_0 ((x0,((0:Int),())),())))
        (let r0:=r57_0 ((x0,((0:Int),())),());
        Tr.fin ((r0.1.1,())))
        (Tr.fin (((true:Bool),()))))
      (Tr.stop))

def f57 (d:Tys.data as57):Option (Tys.data rs57):=(t57 d.1).val
def g57 (d:Tys.data as57):Tys.data rs57:=(f57 d).getD (Tys.dflt rs57)
def p57:PureC:=pcOf as57 rs57 f57 g57

theorem wk57 (x0:(List (ByteArray×((List ByteArray)×(Int×Unit))))):Walks (runPure (kl57_0 Go.Proofs.Tryz.prog).orc Go.Proofs.Tryz.prog 400 57 as57 rs57 (x0,())) (t57 x0) [(bl 1 1,[2]),(bl 3 6,[2,4,6]),(bl 3 2,[2,4,6])] :=
  ⟨by kernel_rfl,by kernel_rfl,by kernel_rfl,trivial⟩

theorem ok57_t (x0:(List (ByteArray×((List ByteArray)×(Int×Unit))))):TrOk (PureRuns Go.Proofs.Tryz.prog (kl57_0 Go.Proofs.Tryz.prog).orc 57 as57 rs57 (x0,())) (t57 x0) :=
  Walks.ok (fun _ _ _=>PureRuns.of) (wk57 x0) (by kernel_rfl)

theorem ok57:PureOk Go.Proofs.Tryz.prog 57 p57:=pureOk_of kl57_0_ok.base (T:=fun (d:Tys.data as57)=>t57 d.1) (by kernel_rfl) (fun (d:Tys.data as57)=>ok57_t d.1)
def kf57 (P:Go.Program):Known:=(kl57_0 P).func 57 p57
theorem kf57_ok:KnownOk Go.Proofs.Tryz.prog (kf57 Go.Proofs.Tryz.prog):=kl57_0_ok.func ok57

/-! loop 0 of ductility/ductilitybase.IsName -/

abbrev sh95_0:Sh:={ n:=55,slots:=[0,3],pats:=[.ty .str,.ty (.int .i64)],boxes:=[] }
abbrev shb95_0:Sh:={ n:=55,slots:=[],pats:=[],boxes:=[] }
abbrev shr95_0:Sh:={ n:=55,slots:=[2],pats:=[.ty .bool],boxes:=[] }

def t95_0 (x0:ByteArray) (x1:Int):Tr (Out sh95_0.data shb95_0.data shr95_0.data) :=
  Tr.test ((!leF (↑(ByteArray.size x0):Int) x1:Bool))
    (Tr.test (decide ((0:Int) ≤ x1) && decide (x1 < (↑(ByteArray.size x0):Int)))
      (Tr.test ((decide ((97:Int) ≤ (↑(List.getD x0.data.toList (Int.toNat x1) (0:UInt8)).toBitVec.toFin.1:Int)):Bool))
        (Tr.test ((decide ((↑(List.getD x0.data.toList (Int.toNat x1) (0:UInt8)).toBitVec.toFin.1:Int) ≤ (122:Int)):Bool))
          (Tr.fin (.again ((x0,((wrap64 (x1 + (1:Int)):Int),())),())))
          (Tr.test ((decide ((65:Int) ≤ (↑(List.getD x0.data.toList (Int.toNat x1) (0:UInt8)).toBitVec.toFin.1:Int)):Bool))
            (Tr.test ((!decide ((↑(List.getD x0.data.toList (Int.toNat x1) (0:UInt8)).toBitVec.toFin.1:Int) ≤ (90:Int)):Bool))
              (Tr.test ((eqF x1 0:Bool))
                (Tr.fin (.ret (((false:Bool),()),())))
                (Tr.test ((!(↑(List.getD x0.data.toList (Int.toNat x1) (0:UInt8)).toBitVec.toFin.1:Int) == (45:Int):Bool))
                  (Tr.test ((decide ((↑(List.getD x0.data.toList (Int.toNat x1) (0:UInt8)).toBitVec.toFin.1:Int) < (48:Int)):Bool))
                    (Tr.fin (.ret (((false:Bool),()),())))
                    (Tr.test ((decide ((57:Int) < (↑(List.getD x0.data.toList (Int.toNat x1) (0:UInt8)).toBitVec.toFin.1:Int)):Bool))
                      (Tr.fin (.ret (((false:Bool),()),())))
                      (Tr.fin (.again ((x0,((wrap64 (x1 + (1:Int)):Int),())),())))))
                  (Tr.fin (.again ((x0,((wrap64 (x1 + (1:Int)):Int),())),())))))
              (Tr.fin (.again ((x0,((wrap64 (x1 + (1:Int)):Int),())),()))))
            (Tr.test ((eqF x1 0:Bool))
              (Tr.fin (.ret (((false:Bool),()),())))
              (Tr.test ((!(↑(List.getD x0.data.toList (Int.toNat x1) (0:UInt8)).toBitVec.toFin.1:Int) == (45:Int):Bool))
                (Tr.test ((decide ((↑(List.getD x0.data.toList (Int.toNat x1) (0:UInt8)).toBitVec.toFin.1:Int) < (48:Int)):Bool))
                  (Tr.fin (.ret (((false:Bool),()),())))
                  (Tr.test ((decide ((57:Int) < (↑(List.getD x0.data.toList (Int.toNat x1) (0:UInt8)).toBitVec.toFin.1:Int)):Bool))
                    (Tr.fin (.ret (((false:Bool),()),())))
                    (Tr.fin (.again ((x0,((wrap64 (x1 + (1:Int)):Int),())),())))))
                (Tr.fin (.again ((x0,((wrap64 (x1 + (1:Int)):Int),())),())))))))
        (Tr.test ((decide ((65:Int) ≤ (↑(List.getD x0.data.toList (Int.toNat x1) (0:UInt8)).toBitVec.toFin.1:Int)):Bool))
          (Tr.test ((!decide ((↑(List.getD x0.data.toList (Int.toNat x1) (0:UInt8)).toBitVec.toFin.1:Int) ≤ (90:Int)):Bool))
            (Tr.test ((eqF x1 0:Bool))
              (Tr.fin (.ret (((false:Bool),()),())))
              (Tr.test ((!(↑(List.getD x0.data.toList (Int.toNat x1) (0:UInt8)).toBitVec.toFin.1:Int) == (45:Int):Bool))
                (Tr.test ((decide ((↑(List.getD x0.data.toList (Int.toNat x1) (0:UInt8)).toBitVec.toFin.1:Int) < (48:Int)):Bool))
                  (Tr.fin (.ret (((false:Bool),()),())))
                  (Tr.test ((decide ((57:Int) < (↑(List.getD x0.data.toList (Int.toNat x1) (0:UInt8)).toBitVec.toFin.1:Int)):Bool))
                    (Tr.fin (.ret (((false:Bool),()),())))
                    (Tr.fin (.again ((x0,((wrap64 (x1 + (1:Int)):Int),())),())))))
                (Tr.fin (.again ((x0,((wrap64 (x1 + (1:Int)):Int),())),())))))
            (Tr.fin (.again ((x0,((wrap64 (x1 + (1:Int)):Int),())),()))))
          (Tr.test ((eqF x1 0:Bool))
            (Tr.fin (.ret (((false:Bool),()),())))
            (Tr.test ((!(↑(List.getD x0.data.toList (Int.toNat x1) (0:UInt8)).toBitVec.toFin.1:Int) == (45:Int):Bool))
              (Tr.test ((decide ((↑(List.getD x0.data.toList (Int.toNat x1) (0:UInt8)).toBitVec.toFin.1:Int) < (48:Int)):Bool))
                (Tr.fin (.ret (((false:Bool),()),())))
                (Tr.test ((decide ((57:Int) < (↑(List.getD x0.data.toList (Int.toNat x1) (0:UInt8)).toBitVec.toFin.1:Int)):Bool))
                  (Tr.fin (.ret (((false:Bool),()),())))
                  (Tr.fin (.again ((x0,((wrap64 (x1 + (1:Int)):Int),())),())))))
              (Tr.fin (.again ((x0,((wrap64 (x1 + (1:Int)):Int),())),())))))))
      (Tr.stop))
    (Tr.fin (.brk ((),())))

def s95_0 (d:sh95_0.data):Option (Out sh95_0.data shb95_0.data shr95_0.data):=(t95_0 d.1.1 d.1.2.1).val
def l95_0 (d:sh95_0.data):Option (shb95_0.data ⊕ shr95_0.data):=itr s95_0 rounds d
def b95_0 (d:sh95_0.data):shb95_0.data:=outB shb95_0.dflt (l95_0 d)
def r95_0 (d:sh95_0.data):shr95_0.data:=outR shr95_0.dflt (l95_0 d)
def lc95_0:LoopC:=lcOf sh95_0 shb95_0 shr95_0 l95_0 b95_0 r95_0

theorem wk95_0n0 (x0:ByteArray) (x1:Int):Walks (runBody (kf57 Go.Proofs.Tryz.prog).orc Go.Proofs.Tryz.prog 400 95 0 sh95_0 shb95_0 shr95_0 ((x0,x1,()),())) (t95_0 x0 x1) [(bl 4 15,[0,0,0,0,0,0,2,2,2,2,2,4,4,4,6,8]),(bl 7 119,[1,4,2,4,2,2,2,2,4,4,4,8,6,8,6,6,8,8,8,10,10,10,12,14]),(bl 9 439,[1,8,6,8,4,6,2,4,2,2,4,4,4,6,6,6,8,8,8,12,10,12,10,10,12,12,12,14,14,14,16,18]),(bl 10 695,[2,10,8,10,6,8,4,6,4,4,6,6,6,8,8,8,10,10,10,14,12,14,12,12,14,14,14,16,16,16,18,20]),(bl 10 183,[2,10,8,10,6,8,4,6,4,4,6,6,6,8,8,8,10,10,10,14,12,14,12,12,14,14,14,16,16,16,18,20]),(bl 8 55,[0,6,4,6,2,4,2,2,2,2,4,4,4,6,6,6,10,8,10,8,8,10,10,10,12,12,12,14,16]),(bl 6 23,[0,2,2,2,2,2,6,4,6,4,4,6,6,6,8,8,8,10,12]),(bl 6 39,[1,1,2,1,2,2,2,2,1,1,1,6,4,6,4,4,6,6,6,8,8,8,10,12]),(bl 8 199,[1,1,6,1,4,6,2,4,2,2,4,4,4,6,6,6,1,1,1,10,8,10,8,8,10,10,10,12,12,12,14,16]),(bl 9 327,[2,1,8,1,6,8,4,6,4,4,6,6,6,8,8,8,1,1,1,12,10,12,10,10,12,12,12,14,14,14,16,18]),(bl 9 71,[2,1,8,1,6,8,4,6,4,4,6,6,6,8,8,8,1,1,1,12,10,12,10,10,12,12,12,14,14,14,16,18]),(bl 7 7,[0,1,4,1,2,4,2,2,2,2,4,4,4,1,1,1,8,6,8,6,6,8,8,8,10,10,10,12,14]),(bl 6 59,[1,4,2,4,2,2,2,2,4,4,4,0,6,0,6,6,0,0,0,8,8,8,10,12]),(bl 8 219,[1,8,6,8,4,6,2,4,2,2,4,4,4,6,6,6,8,8,8,0,10,0,10,10,0,0,0,12,12,12,14,16]),(bl 9 347,[2,10,8,10,6,8,4,6,4,4,6,6,6,8,8,8,10,10,10,0,12,0,12,12,0,0,0,14,14,14,16,18]),(bl 9 91,[2,10,8,10,6,8,4,6,4,4,6,6,6,8,8,8,10,10,10,0,12,0,12,12,0,0,0,14,14,14,16,18])] :=
  ⟨by kernel_rfl,by kernel_rfl,by kernel_rfl,by kernel_rfl,by kernel_rfl,by kernel_rfl,by kernel_rfl,by kernel_rfl,by kernel_rfl,by kernel_rfl,by kernel_rfl,by kernel_rfl,by kernel_rfl,by kernel_rfl,by kernel_rfl,by kernel_rfl,trivial⟩

theorem wk95_0n1 (x0:ByteArray) (x1:Int):Walks (runBody (kf57 Go.Proofs.Tryz.prog).orc Go.Proofs.Tryz.prog 400 95 0 sh95_0 shb95_0 shr95_0 ((x0,x1,()),())) (t95_0 x0 x1) [(bl 7 27,[0,6,4,6,2,4,2,2,2,2,4,4,4,6,6,6,0,8,0,8,8,0,0,0,10,10,10,12,14]),(bl 5 11,[0,2,2,2,2,2,0,4,0,4,4,0,0,0,6,6,6,8,10]),(bl 5 19,[1,1,2,1,2,2,2,2,1,1,1,0,4,0,4,4,0,0,0,6,6,6,8,10]),(bl 7 99,[1,1,6,1,4,6,2,4,2,2,4,4,4,6,6,6,1,1,1,0,8,0,8,8,0,0,0,10,10,10,12,14]),(bl 8 163,[2,1,8,1,6,8,4,6,4,4,6,6,6,8,8,8,1,1,1,0,10,0,10,10,0,0,0,12,12,12,14,16]),(bl 8 35,[2,1,8,1,6,8,4,6,4,4,6,6,6,8,8,8,1,1,1,0,10,0,10,10,0,0,0,12,12,12,14,16]),(bl 6 3,[0,1,4,1,2,4,2,2,2,2,4,4,4,1,1,1,0,6,0,6,6,0,0,0,8,8,8,10,12]),(bl 1 0,[2])] :=
  ⟨by kernel_rfl,by kernel_rfl,by kernel_rfl,by kernel_rfl,by kernel_rfl,by kernel_rfl,by kernel_rfl,by kernel_rfl,trivial⟩

theorem ok95_0_t (x0:ByteArray) (x1:Int):TrOk (BodyRuns Go.Proofs.Tryz.prog (kf57 Go.Proofs.Tryz.prog).orc 95 0 sh95_0 shb95_0 shr95_0 ((x0,x1,()),())) (t95_0 x0 x1) :=
  Walks.ok (fun _ _ _=>BodyRuns.of) ((wk95_0n0 x0 x1).append (wk95_0n1 x0 x1)) (by kernel_rfl)

theorem ok95_0:LoopOk Go.Proofs.Tryz.prog 95 0 lc95_0:=loopOk_of (sh:=sh95_0) (shB:=shb95_0) (shR:=shr95_0) kf57_ok.base (T:=fun (d:sh95_0.data)=>t95_0 d.1.1 d.1.2.1) (by kernel_rfl) rfl (fun (d:sh95_0.data)=>ok95_0_t d.1.1 d.1.2.1) (fun _=>rfl)
def kl95_0 (P:Go.Program):Known:=(kf57 P).loop 95 0 lc95_0
theorem kl95_0_ok:KnownOk Go.Proofs.Tryz.prog (kl95_0 Go.Proofs.Tryz.prog):=kf57_ok.loop ok95_0

/-! ductility/ductilitybase.IsName -/

abbrev as95:List Ty:=[.str]
abbrev rs95:List Ty:=[.bool]

def t95 (x0:ByteArray):Tr (Tys.data rs95) :=
  Tr.test ((!leF (1:Int) (↑(ByteArray.size x0):Int):Bool))
    (Tr.fin ((false,())))
    (Tr.test (!leF (↑(ByteArray.size x0):Int) (12:Int))
      (Tr.fin (((false:Bool),())))
      (Tr.test (Option.isSome (l95_0 ((x0,((0:Int),())),())))
        (Tr.test (isRet (l95_0 ((x0,((0:Int),())),())))
          (let r0:=r95_0 ((x0,((0:Int),())),());
          Tr.fin ((r0.1.1,())))
          (Tr.fin (((true:Bool),()))))
        (Tr.stop)))

def f95 (d:Tys.data as95):Option (Tys.data rs95):=(t95 d.1).val
def g95 (d:Tys.data as95):Tys.data rs95:=(f95 d).getD (Tys.dflt rs95)
def p95:PureC:=pcOf as95 rs95 f95 g95

theorem wk95 (x0:ByteArray):Walks (runPure (kl95_0 Go.Proofs.Tryz.prog).orc Go.Proofs.Tryz.prog 400 95 as95 rs95 (x0,())) (t95 x0) [(bl 1 1,[1,2,2,2,2]),(bl 2 2,[2,4,4,4,4]),(bl 4 12,[2,4,6,8,8,8,8]),(bl 4 4,[2,4,6,8,8,8,8])] :=
  ⟨by kernel_rfl,by kernel_rfl,by kernel_rfl,by kernel_rfl,trivial⟩

theorem ok95_t (x0:ByteArray):TrOk (PureRuns Go.Proofs.Tryz.prog (kl95_0 Go.Proofs.Tryz.prog).orc 95 as95 rs95 (x0,())) (t95 x0) :=
  Walks.ok (fun _ _ _=>PureRuns.of) (wk95 x0) (by kernel_rfl)

theorem ok95:PureOk Go.Proofs.Tryz.prog 95 p95:=pureOk_of kl95_0_ok.base (T:=fun (d:Tys.data as95)=>t95 d.1) (by kernel_rfl) (fun (d:Tys.data as95)=>ok95_t d.1)
def kf95 (P:Go.Program):Known:=(kl95_0 P).func 95 p95
theorem kf95_ok:KnownOk Go.Proofs.Tryz.prog (kf95 Go.Proofs.Tryz.prog):=kl95_0_ok.func ok95

/-! loop 0 of ductility/ductilitybase.HasText -/

abbrev sh96_0:Sh:={ n:=18,slots:=[0,1,5],pats:=[.ty (.slice .str),.ty .str,.ty (.int .i64)],boxes:=[] }
abbrev shb96_0:Sh:={ n:=18,slots:=[],pats:=[],boxes:=[] }
abbrev shr96_0:Sh:={ n:=18,slots:=[4],pats:=[.ty .bool],boxes:=[] }

def t96_0 (x0:(List ByteArray)) (x1:ByteArray) (x2:Int):Tr (Out sh96_0.data shb96_0.data shr96_0.data) :=
  Tr.test ((!leF (↑(List.length x0):Int) x2:Bool))
    (Tr.test (decide ((0:Int) ≤ x2) && decide (x2 < (↑(List.length x0):Int)))
      (Tr.test ((strEq (List.getD x0 (Int.toNat x2) { data:={ toList:=[] } }) x1:Bool))
        (Tr.fin (.ret (((true:Bool),()),())))
        (Tr.fin (.again ((x0,(x1,((wrap64 (x2 + (1:Int)):Int),()))),()))))
      (Tr.stop))
    (Tr.fin (.brk ((),())))

def s96_0 (d:sh96_0.data):Option (Out sh96_0.data shb96_0.data shr96_0.data):=(t96_0 d.1.1 d.1.2.1 d.1.2.2.1).val
def l96_0 (d:sh96_0.data):Option (shb96_0.data ⊕ shr96_0.data):=itr s96_0 rounds d
def b96_0 (d:sh96_0.data):shb96_0.data:=outB shb96_0.dflt (l96_0 d)
def r96_0 (d:sh96_0.data):shr96_0.data:=outR shr96_0.dflt (l96_0 d)
def lc96_0:LoopC:=lcOf sh96_0 shb96_0 shr96_0 l96_0 b96_0 r96_0

theorem wk96_0 (x0:(List ByteArray)) (x1:ByteArray) (x2:Int):Walks (runBody (kf95 Go.Proofs.Tryz.prog).orc Go.Proofs.Tryz.prog 400 96 0 sh96_0 shb96_0 shr96_0 ((x0,x1,x2,()),())) (t96_0 x0 x1 x2) [(bl 3 7,[2,4,6]),(bl 3 3,[2,4,6]),(bl 1 0,[2])] :=
  ⟨by kernel_rfl,by kernel_rfl,by kernel_rfl,trivial⟩

theorem ok96_0_t (x0:(List ByteArray)) (x1:ByteArray) (x2:Int):TrOk (BodyRuns Go.Proofs.Tryz.prog (kf95 Go.Proofs.Tryz.prog).orc 96 0 sh96_0 shb96_0 shr96_0 ((x0,x1,x2,()),())) (t96_0 x0 x1 x2) :=
  Walks.ok (fun _ _ _=>BodyRuns.of) (wk96_0 x0 x1 x2) (by kernel_rfl)

theorem ok96_0:LoopOk Go.Proofs.Tryz.prog 96 0 lc96_0:=loopOk_of (sh:=sh96_0) (shB:=shb96_0) (shR:=shr96_0) kf95_ok.base (T:=fun (d:sh96_0.data)=>t96_0 d.1.1 d.1.2.1 d.1.2.2.1) (by kernel_rfl) rfl (fun (d:sh96_0.data)=>ok96_0_t d.1.1 d.1.2.1 d.1.2.2.1) (fun _=>rfl)
def kl96_0 (P:Go.Program):Known:=(kf95 P).loop 96 0 lc96_0
theorem kl96_0_ok:KnownOk Go.Proofs.Tryz.prog (kl96_0 Go.Proofs.Tryz.prog):=kf95_ok.loop ok96_0

/-! ductility/ductilitybase.HasText -/

abbrev as96:List Ty:=[(.slice .str),.str]
abbrev rs96:List Ty:=[.bool]

def t96 (x0:(List ByteArray)) (x1:ByteArray):Tr (Tys.data rs96) :=
  Tr.test (Option.isSome (l96_0 ((x0,(x1,((0:Int),()))),())))
    (Tr.test (isRet (l96_0 ((x0,(x1,((0:Int),()))),())))
      (let r0:=r96_0 ((x0,(x1,((0:Int),()))),());
      Tr.fin ((r0.1.1,())))
      (Tr.fin (((false:Bool),()))))
    (Tr.stop)

def f96 (d:Tys.data as96):Option (Tys.data rs96):=(t96 d.1 d.2.1).val
def g96 (d:Tys.data as96):Tys.data rs96:=(f96 d).getD (Tys.dflt rs96)
def p96:PureC:=pcOf as96 rs96 f96 g96

theorem wk96 (x0:(List ByteArray)) (x1:ByteArray):Walks (runPure (kl96_0 Go.Proofs.Tryz.prog).orc Go.Proofs.Tryz.prog 400 96 as96 rs96 (x0,x1,())) (t96 x0 x1) [(bl 2 3,[2,4]),(bl 2 1,[2,4])] :=
  ⟨by kernel_rfl,by kernel_rfl,trivial⟩

theorem ok96_t (x0:(List ByteArray)) (x1:ByteArray):TrOk (PureRuns Go.Proofs.Tryz.prog (kl96_0 Go.Proofs.Tryz.prog).orc 96 as96 rs96 (x0,x1,())) (t96 x0 x1) :=
  Walks.ok (fun _ _ _=>PureRuns.of) (wk96 x0 x1) (by kernel_rfl)

theorem ok96:PureOk Go.Proofs.Tryz.prog 96 p96:=pureOk_of kl96_0_ok.base (T:=fun (d:Tys.data as96)=>t96 d.1 d.2.1) (by kernel_rfl) (fun (d:Tys.data as96)=>ok96_t d.1 d.2.1)
def kf96 (P:Go.Program):Known:=(kl96_0 P).func 96 p96
theorem kf96_ok:KnownOk Go.Proofs.Tryz.prog (kf96 Go.Proofs.Tryz.prog):=kl96_0_ok.func ok96

/-! ductility/ductilitybase.Within -/

abbrev as25:List Ty:=[(.int .i64),(.int .i64),(.int .i64)]
abbrev rs25:List Ty:=[.bool]

def t25 (x0:Int) (x1:Int) (x2:Int):Tr (Tys.data rs25) :=
  Tr.test ((leF x1 x0:Bool))
    (Tr.fin ((leF x0 x2,())))
    (Tr.fin ((false,())))

def f25 (d:Tys.data as25):Option (Tys.data rs25):=(t25 d.1 d.2.1 d.2.2.1).val
def g25 (d:Tys.data as25):Tys.data rs25:=(f25 d).getD (Tys.dflt rs25)
def p25:PureC:=pcOf as25 rs25 f25 g25

theorem wk25 (x0:Int) (x1:Int) (x2:Int):Walks (runPure (kf96 Go.Proofs.Tryz.prog).orc Go.Proofs.Tryz.prog 400 25 as25 rs25 (x0,x1,x2,())) (t25 x0 x1 x2) [(bl 1 1,[2,2,2,2]),(bl 1 0,[2,2,2,2])] :=
  ⟨by kernel_rfl,by kernel_rfl,trivial⟩

theorem ok25_t (x0:Int) (x1:Int) (x2:Int):TrOk (PureRuns Go.Proofs.Tryz.prog (kf96 Go.Proofs.Tryz.prog).orc 25 as25 rs25 (x0,x1,x2,())) (t25 x0 x1 x2) :=
  Walks.ok (fun _ _ _=>PureRuns.of) (wk25 x0 x1 x2) (by kernel_rfl)

theorem ok25:PureOk Go.Proofs.Tryz.prog 25 p25:=pureOk_of kf96_ok.base (T:=fun (d:Tys.data as25)=>t25 d.1 d.2.1 d.2.2.1) (by kernel_rfl) (fun (d:Tys.data as25)=>ok25_t d.1 d.2.1 d.2.2.1)
def kf25 (P:Go.Program):Known:=(kf96 P).func 25 p25
theorem kf25_ok:KnownOk Go.Proofs.Tryz.prog (kf25 Go.Proofs.Tryz.prog):=kf96_ok.func ok25

/-! loop 2 of ductility/ductilityref09.CheckGates -/

abbrev sh64_2:Sh:={ n:=98,slots:=[0,4,5],pats:=[.ty (.slice (.pair .str (.pair (.slice .str) (.pair (.int .i64) .unit)))),.ty (.int .i64),.ty (.int .i64)],boxes:=[] }
abbrev shb64_2:Sh:={ n:=98,slots:=[0,4],pats:=[.ty (.slice (.pair .str (.pair (.slice .str) (.pair (.int .i64) .unit)))),.ty (.int .i64)],boxes:=[] }
abbrev shr64_2:Sh:={ n:=98,slots:=[2,3],pats:=[.ty (.int .i64),.ty (.int .i64)],boxes:=[] }

def t64_2 (x0:(List (ByteArray×((List ByteArray)×(Int×Unit))))) (x1:Int) (x2:Int):Tr (Out sh64_2.data shb64_2.data shr64_2.data) :=
  Tr.test ((!leF x1 x2:Bool))
    (Tr.test (decide ((0:Int) ≤ x2) && decide (x2 < (↑(List.length x0):Int)))
      (Tr.test ((decide ((0:Int) ≤ x1) && decide (x1 < (↑(List.length x0):Int)):Bool))
        (Tr.test ((strEq (List.getD x0 (Int.toNat x2) ({ data:={ toList:=[] } },[],(0:Int),())).1 (List.getD x0 (Int.toNat x1) ({ data:={ toList:=[] } },[],(0:Int),())).1:Bool))
          (Tr.fin (.ret ((x1,((5:Int),())),())))
          (Tr.fin (.again ((x0,(x1,((wrap64 (x2 + (1:Int)):Int),()))),()))))
        (Tr.stop))
      (Tr.stop))
    (Tr.fin (.brk ((x0,(x1,())),())))

def s64_2 (d:sh64_2.data):Option (Out sh64_2.data shb64_2.data shr64_2.data):=(t64_2 d.1.1 d.1.2.1 d.1.2.2.1).val
def l64_2 (d:sh64_2.data):Option (shb64_2.data ⊕ shr64_2.data):=itr s64_2 rounds d
def b64_2 (d:sh64_2.data):shb64_2.data:=outB shb64_2.dflt (l64_2 d)
def r64_2 (d:sh64_2.data):shr64_2.data:=outR shr64_2.dflt (l64_2 d)
def lc64_2:LoopC:=lcOf sh64_2 shb64_2 shr64_2 l64_2 b64_2 r64_2

theorem wk64_2 (x0:(List (ByteArray×((List ByteArray)×(Int×Unit))))) (x1:Int) (x2:Int):Walks (runBody (kf25 Go.Proofs.Tryz.prog).orc Go.Proofs.Tryz.prog 400 64 2 sh64_2 shb64_2 shr64_2 ((x0,x1,x2,()),())) (t64_2 x0 x1 x2) [(bl 4 15,[2,4,6,8]),(bl 4 7,[2,4,6,8]),(bl 1 0,[2])] :=
  ⟨by kernel_rfl,by kernel_rfl,by kernel_rfl,trivial⟩

theorem ok64_2_t (x0:(List (ByteArray×((List ByteArray)×(Int×Unit))))) (x1:Int) (x2:Int):TrOk (BodyRuns Go.Proofs.Tryz.prog (kf25 Go.Proofs.Tryz.prog).orc 64 2 sh64_2 shb64_2 shr64_2 ((x0,x1,x2,()),())) (t64_2 x0 x1 x2) :=
  Walks.ok (fun _ _ _=>BodyRuns.of) (wk64_2 x0 x1 x2) (by kernel_rfl)

theorem ok64_2:LoopOk Go.Proofs.Tryz.prog 64 2 lc64_2:=loopOk_of (sh:=sh64_2) (shB:=shb64_2) (shR:=shr64_2) kf25_ok.base (T:=fun (d:sh64_2.data)=>t64_2 d.1.1 d.1.2.1 d.1.2.2.1) (by kernel_rfl) rfl (fun (d:sh64_2.data)=>ok64_2_t d.1.1 d.1.2.1 d.1.2.2.1) (fun _=>rfl)
def kl64_2 (P:Go.Program):Known:=(kf25 P).loop 64 2 lc64_2
theorem kl64_2_ok:KnownOk Go.Proofs.Tryz.prog (kl64_2 Go.Proofs.Tryz.prog):=kf25_ok.loop ok64_2

/-! loop 4 of ductility/ductilityref09.CheckGates -/

abbrev sh64_4:Sh:={ n:=98,slots:=[0,4,6],pats:=[.ty (.slice (.pair .str (.pair (.slice .str) (.pair (.int .i64) .unit)))),.ty (.int .i64),.ty (.int .i64)],boxes:=[] }
abbrev shb64_4:Sh:={ n:=98,slots:=[0,4],pats:=[.ty (.slice (.pair .str (.pair (.slice .str) (.pair (.int .i64) .unit)))),.ty (.int .i64)],boxes:=[] }
abbrev shr64_4:Sh:={ n:=98,slots:=[2,3],pats:=[.ty (.int .i64),.ty (.int .i64)],boxes:=[] }

def t64_4 (x0:(List (ByteArray×((List ByteArray)×(Int×Unit))))) (x1:Int) (x2:Int):Tr (Out sh64_4.data shb64_4.data shr64_4.data) :=
  Tr.test ((decide ((0:Int) ≤ x1) && decide (x1 < (↑(List.length x0):Int)):Bool))
    (Tr.test (!leF (↑(List.length (List.getD x0 (Int.toNat x1) ({ data:={ toList:=[] } },[],(0:Int),())).2.1):Int) x2)
      (Tr.test ((decide ((0:Int) ≤ x2) && decide (x2 < (↑(List.length (List.getD x0 (Int.toNat x1) ({ data:={ toList:=[] } },[],(0:Int),())).2.1):Int)):Bool))
        (Tr.test (Option.isSome (f95 ((List.getD (List.getD x0 (Int.toNat x1) ({ data:={ toList:=[] } },[],(0:Int),())).2.1 (Int.toNat x2) { data:={ toList:=[] } }:ByteArray),())))
          (let r0:=g95 ((List.getD (List.getD x0 (Int.toNat x1) ({ data:={ toList:=[] } },[],(0:Int),())).2.1 (Int.toNat x2) { data:={ toList:=[] } }:ByteArray),());
          Tr.test ((!r0.1:Bool))
            (Tr.fin (.ret ((x1,((4:Int),())),())))
            (Tr.test ((decide ((0:Int) ≤ x2) && decide (x2 ≤ (↑(List.length (List.getD x0 (Int.toNat x1) ({ data:={ toList:=[] } },[],(0:Int),())).2.1):Int)):Bool))
              (Tr.test (Option.isSome (f96 ((List.take (Int.toNat x2) (List.getD x0 (Int.toNat x1) ({ data:={ toList:=[] } },[],(0:Int),())).2.1:List ByteArray),((List.getD (List.getD x0 (Int.toNat x1) ({ data:={ toList:=[] } },[],(0:Int),())).2.1 (Int.toNat x2) { data:={ toList:=[] } }:ByteArray),()))))
                (let r1:=g96 ((List.take (Int.toNat x2) (List.getD x0 (Int.toNat x1) ({ data:={ toList:=[] } },[],(0:Int),())).2.1:List ByteArray),((List.getD (List.getD x0 (Int.toNat x1) ({ data:={ toList:=[] } },[],(0:Int),())).2.1 (Int.toNat x2) { data:={ toList:=[] } }:ByteArray),()));
                Tr.test (r1.1)
                  (Tr.fin (.ret ((x1,((23:Int),())),())))
                  (Tr.fin (.again ((x0,(x1,((wrap64 (x2 + (1:Int)):Int),()))),()))))
                (Tr.stop))
              (Tr.stop)))
          (Tr.stop))
        (Tr.stop))
      (Tr.fin (.brk ((x0,(x1,())),()))))
    (Tr.stop)

def s64_4 (d:sh64_4.data):Option (Out sh64_4.data shb64_4.data shr64_4.data):=(t64_4 d.1.1 d.1.2.1 d.1.2.2.1).val
def l64_4 (d:sh64_4.data):Option (shb64_4.data ⊕ shr64_4.data):=itr s64_4 rounds d
def b64_4 (d:sh64_4.data):shb64_4.data:=outB shb64_4.dflt (l64_4 d)
def r64_4 (d:sh64_4.data):shr64_4.data:=outR shr64_4.dflt (l64_4 d)
def lc64_4:LoopC:=lcOf sh64_4 shb64_4 shr64_4 l64_4 b64_4 r64_4

theorem wk64_4 (x0:(List (ByteArray×((List ByteArray)×(Int×Unit))))) (x1:Int) (x2:Int):Walks (runBody (kl64_2 Go.Proofs.Tryz.prog).orc Go.Proofs.Tryz.prog 400 64 4 sh64_4 shb64_4 shr64_4 ((x0,x1,x2,()),())) (t64_4 x0 x1 x2) [(bl 5 31,[2,4,6,10,8,10]),(bl 8 239,[2,4,12,16,6,16,8,10,12,16,14,16]),(bl 8 111,[2,4,12,16,6,16,8,10,12,16,14,16]),(bl 2 1,[2,4])] :=
  ⟨by kernel_rfl,by kernel_rfl,by kernel_rfl,by kernel_rfl,trivial⟩

theorem ok64_4_t (x0:(List (ByteArray×((List ByteArray)×(Int×Unit))))) (x1:Int) (x2:Int):TrOk (BodyRuns Go.Proofs.Tryz.prog (kl64_2 Go.Proofs.Tryz.prog).orc 64 4 sh64_4 shb64_4 shr64_4 ((x0,x1,x2,()),())) (t64_4 x0 x1 x2) :=
  Walks.ok (fun _ _ _=>BodyRuns.of) (wk64_4 x0 x1 x2) (by kernel_rfl)

theorem ok64_4:LoopOk Go.Proofs.Tryz.prog 64 4 lc64_4:=loopOk_of (sh:=sh64_4) (shB:=shb64_4) (shR:=shr64_4) kl64_2_ok.base (T:=fun (d:sh64_4.data)=>t64_4 d.1.1 d.1.2.1 d.1.2.2.1) (by kernel_rfl) rfl (fun (d:sh64_4.data)=>ok64_4_t d.1.1 d.1.2.1 d.1.2.2.1) (fun _=>rfl)
def kl64_4 (P:Go.Program):Known:=(kl64_2 P).loop 64 4 lc64_4
theorem kl64_4_ok:KnownOk Go.Proofs.Tryz.prog (kl64_4 Go.Proofs.Tryz.prog):=kl64_2_ok.loop ok64_4

end Go.Vm.Mo
