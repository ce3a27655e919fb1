import Derived.Test.YtiodahganfihkaaGreatA5
import Derived.KernelRfl
import Derived.Test.YtiodahganfihkaaGreatProg
set_option linter.unusedVariables false
set_option linter.unusedSimpArgs false

namespace Go.Vm.Mo
open Go
abbrev MT:Ty:=.pair (.int .i64) (.pair (.int .i64) (.pair (.int .i64) .unit))
set_option linter.unusedVariables false
def kn0 (_:Go.Program):Known:=⟨[],[]⟩
abbrev tt:Bool:=true
abbrev ff:Bool:=false
theorem ac {b d:Bool} {r:List (Bool×Bool)} (h:b = d) (t:All r):All ((b, d) :: r):=All.cons h t
theorem plainP:Plain Proofs.Tryz.prog:=by
  have h : (Proofs.Tryz.prog.funcs.toList.all fun fn => !(fn.body.isSome && fn.name == "runtime.NumGoroutine")) = true := by kernel_rfl
  intro f fn hf hb
  have hm:fn ∈ Proofs.Tryz.prog.funcs.toList:=by
    have:=Array.getElem?_eq_some_iff.1 hf
    obtain ⟨hlt,rfl⟩:=this
    simp
  have:=List.all_eq_true.1 h fn hm
  rw [hb] at this
  simpa using this
theorem kn0_ok:KnownOk Proofs.Tryz.prog (kn0 Proofs.Tryz.prog):=⟨plainP,by kernel_rfl,(fun _ h=>by cases h),(fun _ h=>by cases h)⟩
abbrev sh94_0:Sh:={ n:=24,slots:=[0,1,9,10,11],pats:=[.ty (.int .i64),.ty (.int .i64),.ty (.slice (.int .i64)),.ty (.int .i64),.ty (.int .i64)],boxes:=[] }
abbrev shb94_0:Sh:={ n:=24,slots:=[],pats:=[],boxes:=[] }
abbrev shr94_0:Sh:={ n:=24,slots:=[6],pats:=[.ty .bool],boxes:=[] }
def t94_0 (x0:Int) (x1:Int) (x2:(List Int)) (x3:Int) (x4:Int):Tr (Out sh94_0.data shb94_0.data shr94_0.data) :=
  Tr.test ((!leF x3 x4:Bool))
    (Tr.test (decide ((0:Int) ≤ x4) && decide (x4 < (↑(List.length x2):Int)))
      (Tr.test ((!leF x0 (List.getD x2 (Int.toNat x4) (0:Int)):Bool))
        (Tr.fin (.ret (((false:Bool),()),())))
        (Tr.test ((!leF (List.getD x2 (Int.toNat x4) (0:Int)) x1:Bool))
          (Tr.fin (.ret (((false:Bool),()),())))
          (Tr.fin (.again ((x0,(x1,(x2,(x3,((wrap64 (x4 + (1:Int)):Int),()))))),())))))
      (Tr.stop))
    (Tr.fin (.brk ((),())))
def s94_0 (d:sh94_0.data):Option (Out sh94_0.data shb94_0.data shr94_0.data):=(t94_0 d.1.1 d.1.2.1 d.1.2.2.1 d.1.2.2.2.1 d.1.2.2.2.2.1).val
def l94_0 (d:sh94_0.data):Option (shb94_0.data ⊕ shr94_0.data):=itr s94_0 rounds d
def b94_0 (d:sh94_0.data):shb94_0.data:=outB shb94_0.dflt (l94_0 d)
def r94_0 (d:sh94_0.data):shr94_0.data:=outR shr94_0.dflt (l94_0 d)
def lc94_0:LoopC:=lcOf sh94_0 shb94_0 shr94_0 l94_0 b94_0 r94_0
theorem wk94_0 (x0:Int) (x1:Int) (x2:(List Int)) (x3:Int) (x4:Int):Walks (qap (kn0 Proofs.Tryz.prog).orc Proofs.Tryz.prog 400 94 0 sh94_0 shb94_0 shr94_0 ((x0,x1,x2,x3,x4,()),())) (t94_0 x0 x1 x2 x3 x4) [(bl 3 7,[1,2,2,2,2,4,6]),(bl 4 11,[2,4,4,4,4,6,8]),(bl 4 3,[2,4,4,4,4,6,8]),(bl 1 0,[2])] :=
  ⟨by kernel_rfl,by kernel_rfl,by kernel_rfl,by kernel_rfl,trivial⟩
theorem ok94_0_t (x0:Int) (x1:Int) (x2:(List Int)) (x3:Int) (x4:Int):TrOk (BodyRuns Proofs.Tryz.prog (kn0 Proofs.Tryz.prog).orc 94 0 sh94_0 shb94_0 shr94_0 ((x0,x1,x2,x3,x4,()),())) (t94_0 x0 x1 x2 x3 x4) :=
  Walks.ok (fun _ _ _=>BodyRuns.of) (wk94_0 x0 x1 x2 x3 x4) (by kernel_rfl)
theorem ok94_0:qba Proofs.Tryz.prog 94 0 lc94_0:=qca (sh:=sh94_0) (shB:=shb94_0) (shR:=shr94_0) kn0_ok.base (T:=fun (d:sh94_0.data)=>t94_0 d.1.1 d.1.2.1 d.1.2.2.1 d.1.2.2.2.1 d.1.2.2.2.2.1) (by kernel_rfl) rfl (fun (d:sh94_0.data)=>ok94_0_t d.1.1 d.1.2.1 d.1.2.2.1 d.1.2.2.2.1 d.1.2.2.2.2.1) (fun _=>rfl)
def kl94_0 (P:Go.Program):Known:=(kn0 P).loop 94 0 lc94_0
theorem kl94_0_ok:KnownOk Proofs.Tryz.prog (kl94_0 Proofs.Tryz.prog):=kn0_ok.loop ok94_0
abbrev as94:List Ty:=[(.int .i64),(.int .i64),(.slice (.int .i64))]
abbrev rs94:List Ty:=[.bool]
def t94 (x0:Int) (x1:Int) (x2:(List Int)):Tr (Tys.data rs94) :=
  Tr.test (Option.isSome (l94_0 ((x0,(x1,(x2,((↑(List.length x2):Int),((0:Int),()))))),())))
    (Tr.test (qbT (l94_0 ((x0,(x1,(x2,((↑(List.length x2):Int),((0:Int),()))))),())))
      (let r0:=r94_0 ((x0,(x1,(x2,((↑(List.length x2):Int),((0:Int),()))))),());
      Tr.fin ((r0.1.1,())))
      (Tr.fin (((true:Bool),()))))
    (Tr.stop)
def f94 (d:Tys.data as94):Option (Tys.data rs94):=(t94 d.1 d.2.1 d.2.2.1).val
def g94 (d:Tys.data as94):Tys.data rs94:=(f94 d).getD (Tys.dflt rs94)
def p94:PureC:=pcOf as94 rs94 f94 g94
theorem wk94 (x0:Int) (x1:Int) (x2:(List Int)):Walks (runPure (kl94_0 Proofs.Tryz.prog).orc Proofs.Tryz.prog 400 94 as94 rs94 (x0,x1,x2,())) (t94 x0 x1 x2) [(bl 2 3,[2,4]),(bl 2 1,[2,4])] :=
  ⟨by kernel_rfl,by kernel_rfl,trivial⟩
theorem ok94_t (x0:Int) (x1:Int) (x2:(List Int)):TrOk (PureRuns Proofs.Tryz.prog (kl94_0 Proofs.Tryz.prog).orc 94 as94 rs94 (x0,x1,x2,())) (t94 x0 x1 x2) :=
  Walks.ok (fun _ _ _=>PureRuns.of) (wk94 x0 x1 x2) (by kernel_rfl)
theorem ok94:PureOk Proofs.Tryz.prog 94 p94:=qag kl94_0_ok.base (T:=fun (d:Tys.data as94)=>t94 d.1 d.2.1 d.2.2.1) (by kernel_rfl) (fun (d:Tys.data as94)=>ok94_t d.1 d.2.1 d.2.2.1)
def kf94 (P:Go.Program):Known:=(kl94_0 P).func 94 p94
theorem kf94_ok:KnownOk Proofs.Tryz.prog (kf94 Proofs.Tryz.prog):=kl94_0_ok.func ok94
abbrev as117:List Ty:=[(.int .i64),(.slice (.int .i64))]
abbrev rs117:List Ty:=[.bool]
def t117 (x0:Int) (x1:(List Int)):Tr (Tys.data rs117) :=
  Tr.test (Option.isSome (f94 ((Go.IntKind.wrap Go.IntKind.i64 ((0:Int) - x0):Int),(x0,(x1,())))))
    (let r0:=g94 ((Go.IntKind.wrap Go.IntKind.i64 ((0:Int) - x0):Int),(x0,(x1,())));
    Tr.fin (((!r0.1:Bool),())))
    (Tr.stop)
def f117 (d:Tys.data as117):Option (Tys.data rs117):=(t117 d.1 d.2.1).val
def g117 (d:Tys.data as117):Tys.data rs117:=(f117 d).getD (Tys.dflt rs117)
def p117:PureC:=pcOf as117 rs117 f117 g117
theorem wk117 (x0:Int) (x1:(List Int)):Walks (runPure (kf94 Proofs.Tryz.prog).orc Proofs.Tryz.prog 400 117 as117 rs117 (x0,x1,())) (t117 x0 x1) [(bl 1 1,[2])] :=
  ⟨by kernel_rfl,trivial⟩
theorem ok117_t (x0:Int) (x1:(List Int)):TrOk (PureRuns Proofs.Tryz.prog (kf94 Proofs.Tryz.prog).orc 117 as117 rs117 (x0,x1,())) (t117 x0 x1) :=
  Walks.ok (fun _ _ _=>PureRuns.of) (wk117 x0 x1) (by kernel_rfl)
theorem ok117:PureOk Proofs.Tryz.prog 117 p117:=qag kf94_ok.base (T:=fun (d:Tys.data as117)=>t117 d.1 d.2.1) (by kernel_rfl) (fun (d:Tys.data as117)=>ok117_t d.1 d.2.1)
def kf117 (P:Go.Program):Known:=(kf94 P).func 117 p117
theorem kf117_ok:KnownOk Proofs.Tryz.prog (kf117 Proofs.Tryz.prog):=kf94_ok.func ok117
abbrev as121:List Ty:=[(.pair (.int .i64) (.pair (.int .i64) (.pair (.int .i64) .unit))),(.int .i64)]
abbrev rs121:List Ty:=[(.pair (.int .i64) (.pair (.int .i64) (.pair (.int .i64) .unit)))]
def t121 (x0:Int) (x0':Int) (x0'':Int) (x1:Int):Tr (Tys.data rs121) :=
  Tr.fin ((((wrap64 (x0 + wrap64 (x0' + x1)):Int),((wrap64 (x0' + x1):Int),(x1,()))),()))
def f121 (d:Tys.data as121):Option (Tys.data rs121):=(t121 d.1.1 d.1.2.1 d.1.2.2.1 d.2.1).val
def g121 (d:Tys.data as121):Tys.data rs121:=(f121 d).getD (Tys.dflt rs121)
def p121:PureC:=pcOf as121 rs121 f121 g121
theorem wk121 (x0:Int) (x0':Int) (x0'':Int) (x1:Int):Walks (runPure (kf117 Proofs.Tryz.prog).orc Proofs.Tryz.prog 400 121 as121 rs121 ((x0,x0',x0'',()),x1,())) (t121 x0 x0' x0'' x1) [(bl 0 0,[])] :=
  ⟨by kernel_rfl,trivial⟩
theorem ok121_t (x0:Int) (x0':Int) (x0'':Int) (x1:Int):TrOk (PureRuns Proofs.Tryz.prog (kf117 Proofs.Tryz.prog).orc 121 as121 rs121 ((x0,x0',x0'',()),x1,())) (t121 x0 x0' x0'' x1) :=
  Walks.ok (fun _ _ _=>PureRuns.of) (wk121 x0 x0' x0'' x1) (by kernel_rfl)
theorem ok121:PureOk Proofs.Tryz.prog 121 p121:=qag kf117_ok.base (T:=fun (d:Tys.data as121)=>t121 d.1.1 d.1.2.1 d.1.2.2.1 d.2.1) (by kernel_rfl) (fun (d:Tys.data as121)=>ok121_t d.1.1 d.1.2.1 d.1.2.2.1 d.2.1)
def kf121 (P:Go.Program):Known:=(kf117 P).func 121 p121
theorem kf121_ok:KnownOk Proofs.Tryz.prog (kf121 Proofs.Tryz.prog):=kf117_ok.func ok121
abbrev as160:List Ty:=[(.pair (.pair (.pair (.int .i64) (.pair (.int .i64) .unit)) (.pair (.int .i64) (.pair (.int .i64) (.pair (.int .i64) .unit)))) .unit),(.pair (.int .i64) (.pair (.int .i64) (.pair (.int .i64) .unit)))]
abbrev rs160:List Ty:=[.bool]
def t160 (x0__:Int) (x0__':Int) (x0_':Int) (x0_'':Int) (x0_''':Int) (x1:Int) (x1':Int) (x1'':Int):Tr (Tys.data rs160) :=
  Tr.test (Option.isSome (f94 (x0__,(x0__',(([x1]:List Int),())))))
    (let r0:=g94 (x0__,(x0__',(([x1]:List Int),())));
    Tr.test (r0.1)
      (Tr.test (Option.isSome (f117 (x0_',(([x1']:List Int),()))))
        (let r1:=g117 (x0_',(([x1']:List Int),()));
        Tr.test ((!r1.1:Bool))
          (Tr.test (Option.isSome (f117 (x0_'',(([x1'']:List Int),()))))
            (let r2:=g117 (x0_'',(([x1'']:List Int),()));
            Tr.fin (((!r2.1:Bool),())))
            (Tr.stop))
          (Tr.fin (((false:Bool),()))))
        (Tr.stop))
      (Tr.fin (((false:Bool),()))))
    (Tr.stop)
def f160 (d:Tys.data as160):Option (Tys.data rs160):=(t160 d.1.1.1.1 d.1.1.1.2.1 d.1.1.2.1 d.1.1.2.2.1 d.1.1.2.2.2.1 d.2.1.1 d.2.1.2.1 d.2.1.2.2.1).val
def g160 (d:Tys.data as160):Tys.data rs160:=(f160 d).getD (Tys.dflt rs160)
def p160:PureC:=pcOf as160 rs160 f160 g160
theorem wk160 (x0__:Int) (x0__':Int) (x0_':Int) (x0_'':Int) (x0_''':Int) (x1:Int) (x1':Int) (x1'':Int):Walks (runPure (kf121 Proofs.Tryz.prog).orc Proofs.Tryz.prog 400 160 as160 rs160 ((((x0__,x0__',()),x0_',x0_'',x0_''',()),()),(x1,x1',x1'',()),())) (t160 x0__ x0__' x0_' x0_'' x0_''' x1 x1' x1'') [(bl 5 31,[4,4,2,4,4,4,4,1,4,4,4,8,8,6,8,8,8,8,1,8,8,8,10,1,1]),(bl 4 7,[2,2,2,2,2,2,2,2,2,6,6,4,6,6,6,6,1,6,6,6,8,1,1]),(bl 2 1,[0,0,0,0,0,0,0,0,0,2,2,2,2,2,2,2,2,2,4,1,1])] :=
  ⟨by kernel_rfl,by kernel_rfl,by kernel_rfl,trivial⟩
theorem ok160_t (x0__:Int) (x0__':Int) (x0_':Int) (x0_'':Int) (x0_''':Int) (x1:Int) (x1':Int) (x1'':Int):TrOk (PureRuns Proofs.Tryz.prog (kf121 Proofs.Tryz.prog).orc 160 as160 rs160 ((((x0__,x0__',()),x0_',x0_'',x0_''',()),()),(x1,x1',x1'',()),())) (t160 x0__ x0__' x0_' x0_'' x0_''' x1 x1' x1'') :=
  Walks.ok (fun _ _ _=>PureRuns.of) (wk160 x0__ x0__' x0_' x0_'' x0_''' x1 x1' x1'') (by kernel_rfl)
theorem ok160:PureOk Proofs.Tryz.prog 160 p160:=qag kf121_ok.base (T:=fun (d:Tys.data as160)=>t160 d.1.1.1.1 d.1.1.1.2.1 d.1.1.2.1 d.1.1.2.2.1 d.1.1.2.2.2.1 d.2.1.1 d.2.1.2.1 d.2.1.2.2.1) (by kernel_rfl) (fun (d:Tys.data as160)=>ok160_t d.1.1.1.1 d.1.1.1.2.1 d.1.1.2.1 d.1.1.2.2.1 d.1.1.2.2.2.1 d.2.1.1 d.2.1.2.1 d.2.1.2.2.1)
def kf160 (P:Go.Program):Known:=(kf121 P).func 160 p160
theorem kf160_ok:KnownOk Proofs.Tryz.prog (kf160 Proofs.Tryz.prog):=kf121_ok.func ok160
abbrev as120:List Ty:=[(.pair (.pair (.pair (.int .i64) (.pair (.int .i64) .unit)) (.pair (.int .i64) (.pair (.int .i64) (.pair (.int .i64) .unit)))) .unit),(.pair (.int .i64) (.pair (.int .i64) (.pair (.int .i64) .unit))),(.int .i64)]
abbrev rs120:List Ty:=[.bool]
def t120 (x0__:Int) (x0__':Int) (x0_':Int) (x0_'':Int) (x0_''':Int) (x1:Int) (x1':Int) (x1'':Int) (x2:Int):Tr (Tys.data rs120) :=
  Tr.test (Option.isSome (f117 (x0_'',(([x2]:List Int),()))))
    (let r0:=g117 (x0_'',(([x2]:List Int),()));
    Tr.test ((!r0.1:Bool))
      (Tr.test (Option.isSome (f117 (x0_''',(([wrap64 (x2 - x1'')]:List Int),()))))
        (let r1:=g117 (x0_''',(([wrap64 (x2 - x1'')]:List Int),()));
        Tr.test ((!r1.1:Bool))
          (Tr.test (Option.isSome (f121 ((x1,(x1',(x1'',()))),(x2,()))))
            (let r2:=g121 ((x1,(x1',(x1'',()))),(x2,()));
            Tr.test (Option.isSome (f160 ((((x0__,(x0__',())),(x0_',(x0_'',(x0_''',())))),()),((r2.1.1,(r2.1.2.1,(r2.1.2.2.1,()))),()))))
              (let r3:=g160 ((((x0__,(x0__',())),(x0_',(x0_'',(x0_''',())))),()),((r2.1.1,(r2.1.2.1,(r2.1.2.2.1,()))),()));
              Tr.fin ((r3.1,())))
              (Tr.stop))
            (Tr.stop))
          (Tr.fin (((false:Bool),()))))
        (Tr.stop))
      (Tr.fin (((false:Bool),()))))
    (Tr.stop)
def f120 (d:Tys.data as120):Option (Tys.data rs120):=(t120 d.1.1.1.1 d.1.1.1.2.1 d.1.1.2.1 d.1.1.2.2.1 d.1.1.2.2.2.1 d.2.1.1 d.2.1.2.1 d.2.1.2.2.1 d.2.2.1).val
def g120 (d:Tys.data as120):Tys.data rs120:=(f120 d).getD (Tys.dflt rs120)
def p120:PureC:=pcOf as120 rs120 f120 g120
theorem wk120 (x0__:Int) (x0__':Int) (x0_':Int) (x0_'':Int) (x0_''':Int) (x1:Int) (x1':Int) (x1'':Int) (x2:Int):Walks (runPure (kf160 Proofs.Tryz.prog).orc Proofs.Tryz.prog 400 120 as120 rs120 ((((x0__,x0__',()),x0_',x0_'',x0_''',()),()),(x1,x1',x1'',()),x2,())) (t120 x0__ x0__' x0_' x0_'' x0_''' x1 x1' x1'' x2) [(bl 6 63,[6,2,6,4,6,6,6,6,10,10,8,10,10,10,10,10,10,1,10,10,10,12,1]),(bl 4 7,[2,2,2,2,2,2,6,6,4,6,6,6,6,6,6,1,6,6,6,8,1]),(bl 2 1,[0,0,0,0,0,0,2,2,2,2,2,2,2,2,2,2,2,4,1])] :=
  ⟨by kernel_rfl,by kernel_rfl,by kernel_rfl,trivial⟩
theorem ok120_t (x0__:Int) (x0__':Int) (x0_':Int) (x0_'':Int) (x0_''':Int) (x1:Int) (x1':Int) (x1'':Int) (x2:Int):TrOk (PureRuns Proofs.Tryz.prog (kf160 Proofs.Tryz.prog).orc 120 as120 rs120 ((((x0__,x0__',()),x0_',x0_'',x0_''',()),()),(x1,x1',x1'',()),x2,())) (t120 x0__ x0__' x0_' x0_'' x0_''' x1 x1' x1'' x2) :=
  Walks.ok (fun _ _ _=>PureRuns.of) (wk120 x0__ x0__' x0_' x0_'' x0_''' x1 x1' x1'' x2) (by kernel_rfl)
theorem ok120:PureOk Proofs.Tryz.prog 120 p120:=qag kf160_ok.base (T:=fun (d:Tys.data as120)=>t120 d.1.1.1.1 d.1.1.1.2.1 d.1.1.2.1 d.1.1.2.2.1 d.1.1.2.2.2.1 d.2.1.1 d.2.1.2.1 d.2.1.2.2.1 d.2.2.1) (by kernel_rfl) (fun (d:Tys.data as120)=>ok120_t d.1.1.1.1 d.1.1.1.2.1 d.1.1.2.1 d.1.1.2.2.1 d.1.1.2.2.2.1 d.2.1.1 d.2.1.2.1 d.2.1.2.2.1 d.2.2.1)
def kf120 (P:Go.Program):Known:=(kf160 P).func 120 p120
theorem kf120_ok:KnownOk Proofs.Tryz.prog (kf120 Proofs.Tryz.prog):=kf160_ok.func ok120
abbrev as122:List Ty:=[(.pair (.int .i64) (.pair (.int .i64) (.pair (.int .i64) .unit)))]
abbrev rs122:List Ty:=[.bool]
def t122 (x0:Int) (x0':Int) (x0'':Int):Tr (Tys.data rs122) :=
  Tr.test ((eqF x0' 0:Bool))
    (Tr.fin ((eqF x0'' 0,())))
    (Tr.fin ((false,())))
def f122 (d:Tys.data as122):Option (Tys.data rs122):=(t122 d.1.1 d.1.2.1 d.1.2.2.1).val
def g122 (d:Tys.data as122):Tys.data rs122:=(f122 d).getD (Tys.dflt rs122)
def p122:PureC:=pcOf as122 rs122 f122 g122
theorem wk122 (x0:Int) (x0':Int) (x0'':Int):Walks (runPure (kf120 Proofs.Tryz.prog).orc Proofs.Tryz.prog 400 122 as122 rs122 ((x0,x0',x0'',()),())) (t122 x0 x0' x0'') [(bl 1 1,[2,2,2,2]),(bl 1 0,[2,2,2,2])] :=
  ⟨by kernel_rfl,by kernel_rfl,trivial⟩
theorem ok122_t (x0:Int) (x0':Int) (x0'':Int):TrOk (PureRuns Proofs.Tryz.prog (kf120 Proofs.Tryz.prog).orc 122 as122 rs122 ((x0,x0',x0'',()),())) (t122 x0 x0' x0'') :=
  Walks.ok (fun _ _ _=>PureRuns.of) (wk122 x0 x0' x0'') (by kernel_rfl)
theorem ok122:PureOk Proofs.Tryz.prog 122 p122:=qag kf120_ok.base (T:=fun (d:Tys.data as122)=>t122 d.1.1 d.1.2.1 d.1.2.2.1) (by kernel_rfl) (fun (d:Tys.data as122)=>ok122_t d.1.1 d.1.2.1 d.1.2.2.1)
def kf122 (P:Go.Program):Known:=(kf120 P).func 122 p122
theorem kf122_ok:KnownOk Proofs.Tryz.prog (kf122 Proofs.Tryz.prog):=kf120_ok.func ok122
abbrev as14:List Ty:=[]
abbrev rs14:List Ty:=[.bool]
def f14 (_:Tys.data as14):Option (Tys.data rs14):=some (true,())
def g14 (_:Tys.data as14):Tys.data rs14:=(true,())
def p14:PureC:=pcOf as14 rs14 f14 g14
theorem e14:qjg (kf122 Proofs.Tryz.prog).orc Proofs.Tryz.prog 400 14 as14 rs14 () none = some ((true,()),[]):=by kernel_rfl
theorem ok14:PureOk Proofs.Tryz.prog 14 p14:=qiy kf122_ok.base (by kernel_rfl) e14 All.nil
def kf14 (P:Go.Program):Known:=(kf122 P).func 14 p14
theorem kf14_ok:KnownOk Proofs.Tryz.prog (kf14 Proofs.Tryz.prog):=kf122_ok.func ok14
abbrev as25:List Ty:=[(.int .i64),(.int .i64),(.int .i64)]
abbrev rs25:List Ty:=[.bool]
def t25 (x0:Int) (x1:Int) (x2:Int):Tr (Tys.data rs25) :=
  Tr.test ((leF x1 x0:Bool))
    (Tr.fin ((leF x0 x2,())))
    (Tr.fin ((false,())))
def f25 (d:Tys.data as25):Option (Tys.data rs25):=(t25 d.1 d.2.1 d.2.2.1).val
def g25 (d:Tys.data as25):Tys.data rs25:=(f25 d).getD (Tys.dflt rs25)
def p25:PureC:=pcOf as25 rs25 f25 g25
theorem wk25 (x0:Int) (x1:Int) (x2:Int):Walks (runPure (kf14 Proofs.Tryz.prog).orc Proofs.Tryz.prog 400 25 as25 rs25 (x0,x1,x2,())) (t25 x0 x1 x2) [(bl 1 1,[2,2,2,2]),(bl 1 0,[2,2,2,2])] :=
  ⟨by kernel_rfl,by kernel_rfl,trivial⟩
theorem ok25_t (x0:Int) (x1:Int) (x2:Int):TrOk (PureRuns Proofs.Tryz.prog (kf14 Proofs.Tryz.prog).orc 25 as25 rs25 (x0,x1,x2,())) (t25 x0 x1 x2) :=
  Walks.ok (fun _ _ _=>PureRuns.of) (wk25 x0 x1 x2) (by kernel_rfl)
theorem ok25:PureOk Proofs.Tryz.prog 25 p25:=qag kf14_ok.base (T:=fun (d:Tys.data as25)=>t25 d.1 d.2.1 d.2.2.1) (by kernel_rfl) (fun (d:Tys.data as25)=>ok25_t d.1 d.2.1 d.2.2.1)
def kf25 (P:Go.Program):Known:=(kf14 P).func 25 p25
theorem kf25_ok:KnownOk Proofs.Tryz.prog (kf25 Proofs.Tryz.prog):=kf14_ok.func ok25
abbrev as43:List Ty:=[(.pair (.pair (.int .i64) (.pair (.int .i64) .unit)) (.pair (.int .i64) (.pair (.int .i64) (.pair (.int .i64) .unit))))]
abbrev rs43:List Ty:=[(.int .i64)]
def t43 (x0_:Int) (x0_':Int) (x0':Int) (x0'':Int) (x0''':Int):Tr (Tys.data rs43) :=
  Tr.test (Option.isSome (f25 (x0_,((-60:Int),((60:Int),())))))
    (let r0:=g25 (x0_,((-60:Int),((60:Int),())));
    Tr.test ((!r0.1:Bool))
      (Tr.fin (((2:Int),())))
      (Tr.test (Option.isSome (f25 (x0_',((-60:Int),((60:Int),())))))
        (let r1:=g25 (x0_',((-60:Int),((60:Int),())));
        Tr.test ((!r1.1:Bool))
          (Tr.fin (((2:Int),())))
          (Tr.test (Option.isSome (f25 (x0',((1:Int),((8:Int),())))))
            (let r2:=g25 (x0',((1:Int),((8:Int),())));
            Tr.test ((!r2.1:Bool))
              (Tr.fin (((2:Int),())))
              (Tr.test (Option.isSome (f25 (x0'',((1:Int),((3:Int),())))))
                (let r3:=g25 (x0'',((1:Int),((3:Int),())));
                Tr.test ((!r3.1:Bool))
                  (Tr.fin (((2:Int),())))
                  (Tr.test (Option.isSome (f25 (x0''',((1:Int),((6:Int),())))))
                    (let r4:=g25 (x0''',((1:Int),((6:Int),())));
                    Tr.test ((!r4.1:Bool))
                      (Tr.fin (((2:Int),())))
                      (Tr.test ((!leF x0_ x0_':Bool))
                        (Tr.fin (((9:Int),())))
                        (Tr.fin (((0:Int),())))))
                    (Tr.stop)))
                (Tr.stop)))
            (Tr.stop)))
        (Tr.stop)))
    (Tr.stop)
def f43 (d:Tys.data as43):Option (Tys.data rs43):=(t43 d.1.1.1 d.1.1.2.1 d.1.2.1 d.1.2.2.1 d.1.2.2.2.1).val
def g43 (d:Tys.data as43):Tys.data rs43:=(f43 d).getD (Tys.dflt rs43)
def p43:PureC:=pcOf as43 rs43 f43 g43
theorem wk43 (x0_:Int) (x0_':Int) (x0':Int) (x0'':Int) (x0''':Int):Walks (runPure (kf25 Proofs.Tryz.prog).orc Proofs.Tryz.prog 400 43 as43 rs43 (((x0_,x0_',()),x0',x0'',x0''',()),())) (t43 x0_ x0_' x0' x0'' x0''') [(bl 2 3,[1,1,1,1,1,1,1,1,1,1,1,1,1,1,1,1,2,2,2,2,2,2,4,1]),(bl 4 13,[1,1,1,1,1,1,1,1,1,1,1,2,2,2,2,2,6,6,4,6,1,6,6,6,8,1]),(bl 6 53,[1,1,1,1,1,1,2,2,2,2,2,6,6,4,6,1,6,6,10,10,8,10,1,10,10,10,12,1]),(bl 8 213,[1,2,2,2,2,2,6,6,4,6,1,6,6,10,10,8,10,1,10,10,14,14,12,14,1,14,14,14,16,1]),(bl 10 853,[2,6,6,4,6,1,6,6,10,10,8,10,1,10,10,14,14,12,14,1,14,14,18,18,16,18,1,18,18,18,20,1]),(bl 11 1365,[2,1,1,4,8,8,6,8,1,8,8,12,12,10,12,1,12,12,16,16,14,16,1,16,16,20,20,18,20,1,20,20,20,22,1]),(bl 11 341,[2,1,1,4,8,8,6,8,1,8,8,12,12,10,12,1,12,12,16,16,14,16,1,16,16,20,20,18,20,1,20,20,20,22,1])] :=
  ⟨by kernel_rfl,by kernel_rfl,by kernel_rfl,by kernel_rfl,by kernel_rfl,by kernel_rfl,by kernel_rfl,trivial⟩
theorem ok43_t (x0_:Int) (x0_':Int) (x0':Int) (x0'':Int) (x0''':Int):TrOk (PureRuns Proofs.Tryz.prog (kf25 Proofs.Tryz.prog).orc 43 as43 rs43 (((x0_,x0_',()),x0',x0'',x0''',()),())) (t43 x0_ x0_' x0' x0'' x0''') :=
  Walks.ok (fun _ _ _=>PureRuns.of) (wk43 x0_ x0_' x0' x0'' x0''') (by kernel_rfl)
theorem ok43:PureOk Proofs.Tryz.prog 43 p43:=qag kf25_ok.base (T:=fun (d:Tys.data as43)=>t43 d.1.1.1 d.1.1.2.1 d.1.2.1 d.1.2.2.1 d.1.2.2.2.1) (by kernel_rfl) (fun (d:Tys.data as43)=>ok43_t d.1.1.1 d.1.1.2.1 d.1.2.1 d.1.2.2.1 d.1.2.2.2.1)
def kf43 (P:Go.Program):Known:=(kf25 P).func 43 p43
theorem kf43_ok:KnownOk Proofs.Tryz.prog (kf43 Proofs.Tryz.prog):=kf25_ok.func ok43
abbrev as123:List Ty:=[(.pair (.pair (.int .i64) (.pair (.int .i64) .unit)) (.pair (.int .i64) (.pair (.int .i64) (.pair (.int .i64) .unit)))),(.pair (.int .i64) (.pair (.int .i64) (.pair (.int .i64) .unit)))]
abbrev rs123:List Ty:=[(.int .i64)]
def t123 (x0_:Int) (x0_':Int) (x0':Int) (x0'':Int) (x0''':Int) (x1:Int) (x1':Int) (x1'':Int):Tr (Tys.data rs123) :=
  Tr.test (Option.isSome (f25 (x1,(x0_,(x0_',())))))
    (let r0:=g25 (x1,(x0_,(x0_',())));
    Tr.test ((!r0.1:Bool))
      (Tr.fin (((2:Int),())))
      (Tr.test (Option.isSome (f25 (x1',((Go.IntKind.wrap Go.IntKind.i64 ((0:Int) - x0'):Int),(x0',())))))
        (let r1:=g25 (x1',((Go.IntKind.wrap Go.IntKind.i64 ((0:Int) - x0'):Int),(x0',())));
        Tr.test ((!r1.1:Bool))
          (Tr.fin (((2:Int),())))
          (Tr.test (Option.isSome (f25 (x1'',((Go.IntKind.wrap Go.IntKind.i64 ((0:Int) - x0''):Int),(x0'',())))))
            (let r2:=g25 (x1'',((Go.IntKind.wrap Go.IntKind.i64 ((0:Int) - x0''):Int),(x0'',())));
            Tr.test ((!r2.1:Bool))
              (Tr.fin (((2:Int),())))
              (Tr.fin (((0:Int),()))))
            (Tr.stop)))
        (Tr.stop)))
    (Tr.stop)
def f123 (d:Tys.data as123):Option (Tys.data rs123):=(t123 d.1.1.1 d.1.1.2.1 d.1.2.1 d.1.2.2.1 d.1.2.2.2.1 d.2.1.1 d.2.1.2.1 d.2.1.2.2.1).val
def g123 (d:Tys.data as123):Tys.data rs123:=(f123 d).getD (Tys.dflt rs123)
def p123:PureC:=pcOf as123 rs123 f123 g123
theorem wk123 (x0_:Int) (x0_':Int) (x0':Int) (x0'':Int) (x0''':Int) (x1:Int) (x1':Int) (x1'':Int):Walks (runPure (kf43 Proofs.Tryz.prog).orc Proofs.Tryz.prog 400 123 as123 rs123 (((x0_,x0_',()),x0',x0'',x0''',()),(x1,x1',x1'',()),())) (t123 x0_ x0_' x0' x0'' x0''' x1 x1' x1'') [(bl 2 3,[1,1,1,1,1,1,1,1,1,1,1,2,2,2,2,2,2,2,2,2,2,4,1,1]),(bl 4 13,[1,2,2,2,2,2,2,2,2,2,2,6,6,4,6,1,6,6,6,1,6,6,6,6,8,1,1]),(bl 6 53,[2,6,6,4,6,1,6,6,6,1,6,6,6,6,10,10,8,10,1,10,10,10,1,10,10,10,10,12,1,1]),(bl 6 21,[2,6,6,4,6,1,6,6,6,1,6,6,6,6,10,10,8,10,1,10,10,10,1,10,10,10,10,12,1,1])] :=
  ⟨by kernel_rfl,by kernel_rfl,by kernel_rfl,by kernel_rfl,trivial⟩
theorem ok123_t (x0_:Int) (x0_':Int) (x0':Int) (x0'':Int) (x0''':Int) (x1:Int) (x1':Int) (x1'':Int):TrOk (PureRuns Proofs.Tryz.prog (kf43 Proofs.Tryz.prog).orc 123 as123 rs123 (((x0_,x0_',()),x0',x0'',x0''',()),(x1,x1',x1'',()),())) (t123 x0_ x0_' x0' x0'' x0''' x1 x1' x1'') :=
  Walks.ok (fun _ _ _=>PureRuns.of) (wk123 x0_ x0_' x0' x0'' x0''' x1 x1' x1'') (by kernel_rfl)
theorem ok123:PureOk Proofs.Tryz.prog 123 p123:=qag kf43_ok.base (T:=fun (d:Tys.data as123)=>t123 d.1.1.1 d.1.1.2.1 d.1.2.1 d.1.2.2.1 d.1.2.2.2.1 d.2.1.1 d.2.1.2.1 d.2.1.2.2.1) (by kernel_rfl) (fun (d:Tys.data as123)=>ok123_t d.1.1.1 d.1.1.2.1 d.1.2.1 d.1.2.2.1 d.1.2.2.2.1 d.2.1.1 d.2.1.2.1 d.2.1.2.2.1)
def kf123 (P:Go.Program):Known:=(kf43 P).func 123 p123
theorem kf123_ok:KnownOk Proofs.Tryz.prog (kf123 Proofs.Tryz.prog):=kf43_ok.func ok123
abbrev as44:List Ty:=[(.pair (.pair (.int .i64) (.pair (.int .i64) .unit)) (.pair (.int .i64) (.pair (.int .i64) (.pair (.int .i64) .unit)))),(.pair (.int .i64) (.pair (.int .i64) (.pair (.int .i64) .unit)))]
abbrev rs44:List Ty:=[(.int .i64)]
def t44 (x0_:Int) (x0_':Int) (x0':Int) (x0'':Int) (x0''':Int) (x1:Int) (x1':Int) (x1'':Int):Tr (Tys.data rs44) :=
  Tr.test (Option.isSome (f43 (((x0_,(x0_',())),(x0',(x0'',(x0''',())))),())))
    (let r0:=g43 (((x0_,(x0_',())),(x0',(x0'',(x0''',())))),());
    Tr.test ((!eqF r0.1 0:Bool))
      (Tr.fin ((r0.1,())))
      (Tr.test (Option.isSome (f123 (((x0_,(x0_',())),(x0',(x0'',(x0''',())))),((x1,(x1',(x1'',()))),()))))
        (let r1:=g123 (((x0_,(x0_',())),(x0',(x0'',(x0''',())))),((x1,(x1',(x1'',()))),()));
        Tr.fin ((r1.1,())))
        (Tr.stop)))
    (Tr.stop)
def f44 (d:Tys.data as44):Option (Tys.data rs44):=(t44 d.1.1.1 d.1.1.2.1 d.1.2.1 d.1.2.2.1 d.1.2.2.2.1 d.2.1.1 d.2.1.2.1 d.2.1.2.2.1).val
def g44 (d:Tys.data as44):Tys.data rs44:=(f44 d).getD (Tys.dflt rs44)
def p44:PureC:=pcOf as44 rs44 f44 g44
theorem wk44 (x0_:Int) (x0_':Int) (x0':Int) (x0'':Int) (x0''':Int) (x1:Int) (x1':Int) (x1'':Int):Walks (runPure (kf123 Proofs.Tryz.prog).orc Proofs.Tryz.prog 400 44 as44 rs44 (((x0_,x0_',()),x0',x0'',x0''',()),(x1,x1',x1'',()),())) (t44 x0_ x0_' x0' x0'' x0''' x1 x1' x1'') [(bl 2 3,[2,4]),(bl 3 5,[2,4,6])] :=
  ⟨by kernel_rfl,by kernel_rfl,trivial⟩
theorem ok44_t (x0_:Int) (x0_':Int) (x0':Int) (x0'':Int) (x0''':Int) (x1:Int) (x1':Int) (x1'':Int):TrOk (PureRuns Proofs.Tryz.prog (kf123 Proofs.Tryz.prog).orc 44 as44 rs44 (((x0_,x0_',()),x0',x0'',x0''',()),(x1,x1',x1'',()),())) (t44 x0_ x0_' x0' x0'' x0''' x1 x1' x1'') :=
  Walks.ok (fun _ _ _=>PureRuns.of) (wk44 x0_ x0_' x0' x0'' x0''' x1 x1' x1'') (by kernel_rfl)
theorem ok44:PureOk Proofs.Tryz.prog 44 p44:=qag kf123_ok.base (T:=fun (d:Tys.data as44)=>t44 d.1.1.1 d.1.1.2.1 d.1.2.1 d.1.2.2.1 d.1.2.2.2.1 d.2.1.1 d.2.1.2.1 d.2.1.2.2.1) (by kernel_rfl) (fun (d:Tys.data as44)=>ok44_t d.1.1.1 d.1.1.2.1 d.1.2.1 d.1.2.2.1 d.1.2.2.2.1 d.2.1.1 d.2.1.2.1 d.2.1.2.2.1)
def kf44 (P:Go.Program):Known:=(kf123 P).func 44 p44
theorem kf44_ok:KnownOk Proofs.Tryz.prog (kf44 Proofs.Tryz.prog):=kf123_ok.func ok44
abbrev as80:List Ty:=[.bool,(.int .i64)]
abbrev rs80:List Ty:=[(.int .i64)]
def t80 (x0:Bool) (x1:Int):Tr (Tys.data rs80) :=
  Tr.test (x0)
    (Tr.fin ((x1,())))
    (Tr.fin (((0:Int),())))
def f80 (d:Tys.data as80):Option (Tys.data rs80):=(t80 d.1 d.2.1).val
def g80 (d:Tys.data as80):Tys.data rs80:=(f80 d).getD (Tys.dflt rs80)
def p80:PureC:=pcOf as80 rs80 f80 g80
theorem wk80 (x0:Bool) (x1:Int):Walks (runPure (kf44 Proofs.Tryz.prog).orc Proofs.Tryz.prog 400 80 as80 rs80 (x0,x1,())) (t80 x0 x1) [(bl 1 1,[2]),(bl 1 0,[2])] :=
  ⟨by kernel_rfl,by kernel_rfl,trivial⟩
theorem ok80_t (x0:Bool) (x1:Int):TrOk (PureRuns Proofs.Tryz.prog (kf44 Proofs.Tryz.prog).orc 80 as80 rs80 (x0,x1,())) (t80 x0 x1) :=
  Walks.ok (fun _ _ _=>PureRuns.of) (wk80 x0 x1) (by kernel_rfl)
theorem ok80:PureOk Proofs.Tryz.prog 80 p80:=qag kf44_ok.base (T:=fun (d:Tys.data as80)=>t80 d.1 d.2.1) (by kernel_rfl) (fun (d:Tys.data as80)=>ok80_t d.1 d.2.1)
def kf80 (P:Go.Program):Known:=(kf44 P).func 80 p80
theorem kf80_ok:KnownOk Proofs.Tryz.prog (kf80 Proofs.Tryz.prog):=kf44_ok.func ok80
abbrev sh79_0:Sh:={ n:=15,slots:=[5,6,7],pats:=[.ty (.slice (.int .i64)),.ty (.int .i64),.ty (.int .i64)],boxes:=[] }
abbrev shb79_0:Sh:={ n:=15,slots:=[],pats:=[],boxes:=[] }
abbrev shr79_0:Sh:={ n:=15,slots:=[2],pats:=[.ty (.int .i64)],boxes:=[] }
def t79_0 (x0:(List Int)) (x1:Int) (x2:Int):Tr (Out sh79_0.data shb79_0.data shr79_0.data) :=
  Tr.test ((!leF x1 x2:Bool))
    (Tr.test (decide ((0:Int) ≤ x2) && decide (x2 < (↑(List.length x0):Int)))
      (Tr.test ((!eqF (List.getD x0 (Int.toNat x2) (0:Int)) (0:Int):Bool))
        (Tr.fin (.ret (((List.getD x0 (Int.toNat x2) (0:Int):Int),()),())))
        (Tr.fin (.again ((x0,(x1,((wrap64 (x2 + (1:Int)):Int),()))),()))))
      (Tr.stop))
    (Tr.fin (.brk ((),())))
def s79_0 (d:sh79_0.data):Option (Out sh79_0.data shb79_0.data shr79_0.data):=(t79_0 d.1.1 d.1.2.1 d.1.2.2.1).val
def l79_0 (d:sh79_0.data):Option (shb79_0.data ⊕ shr79_0.data):=itr s79_0 rounds d
def b79_0 (d:sh79_0.data):shb79_0.data:=outB shb79_0.dflt (l79_0 d)
def r79_0 (d:sh79_0.data):shr79_0.data:=outR shr79_0.dflt (l79_0 d)
def lc79_0:LoopC:=lcOf sh79_0 shb79_0 shr79_0 l79_0 b79_0 r79_0
theorem wk79_0 (x0:(List Int)) (x1:Int) (x2:Int):Walks (qap (kf80 Proofs.Tryz.prog).orc Proofs.Tryz.prog 400 79 0 sh79_0 shb79_0 shr79_0 ((x0,x1,x2,()),())) (t79_0 x0 x1 x2) [(bl 3 7,[2,4,6]),(bl 3 3,[2,4,6]),(bl 1 0,[2])] :=
  ⟨by kernel_rfl,by kernel_rfl,by kernel_rfl,trivial⟩
theorem ok79_0_t (x0:(List Int)) (x1:Int) (x2:Int):TrOk (BodyRuns Proofs.Tryz.prog (kf80 Proofs.Tryz.prog).orc 79 0 sh79_0 shb79_0 shr79_0 ((x0,x1,x2,()),())) (t79_0 x0 x1 x2) :=
  Walks.ok (fun _ _ _=>BodyRuns.of) (wk79_0 x0 x1 x2) (by kernel_rfl)
theorem ok79_0:qba Proofs.Tryz.prog 79 0 lc79_0:=qca (sh:=sh79_0) (shB:=shb79_0) (shR:=shr79_0) kf80_ok.base (T:=fun (d:sh79_0.data)=>t79_0 d.1.1 d.1.2.1 d.1.2.2.1) (by kernel_rfl) rfl (fun (d:sh79_0.data)=>ok79_0_t d.1.1 d.1.2.1 d.1.2.2.1) (fun _=>rfl)
def kl79_0 (P:Go.Program):Known:=(kf80 P).loop 79 0 lc79_0
theorem kl79_0_ok:KnownOk Proofs.Tryz.prog (kl79_0 Proofs.Tryz.prog):=kf80_ok.loop ok79_0
abbrev as79:List Ty:=[(.slice (.int .i64))]
abbrev rs79:List Ty:=[(.int .i64)]
def t79 (x0:(List Int)):Tr (Tys.data rs79) :=
  Tr.test (Option.isSome (l79_0 ((x0,((↑(List.length x0):Int),((0:Int),()))),())))
    (Tr.test (qbT (l79_0 ((x0,((↑(List.length x0):Int),((0:Int),()))),())))
      (let r0:=r79_0 ((x0,((↑(List.length x0):Int),((0:Int),()))),());
      Tr.fin ((r0.1.1,())))
      (Tr.fin (((0:Int),()))))
    (Tr.stop)
def f79 (d:Tys.data as79):Option (Tys.data rs79):=(t79 d.1).val
def g79 (d:Tys.data as79):Tys.data rs79:=(f79 d).getD (Tys.dflt rs79)
def p79:PureC:=pcOf as79 rs79 f79 g79
theorem wk79 (x0:(List Int)):Walks (runPure (kl79_0 Proofs.Tryz.prog).orc Proofs.Tryz.prog 400 79 as79 rs79 (x0,())) (t79 x0) [(bl 2 3,[2,4]),(bl 2 1,[2,4])] :=
  ⟨by kernel_rfl,by kernel_rfl,trivial⟩
theorem ok79_t (x0:(List Int)):TrOk (PureRuns Proofs.Tryz.prog (kl79_0 Proofs.Tryz.prog).orc 79 as79 rs79 (x0,())) (t79 x0) :=
  Walks.ok (fun _ _ _=>PureRuns.of) (wk79 x0) (by kernel_rfl)
theorem ok79:PureOk Proofs.Tryz.prog 79 p79:=qag kl79_0_ok.base (T:=fun (d:Tys.data as79)=>t79 d.1) (by kernel_rfl) (fun (d:Tys.data as79)=>ok79_t d.1)
def kf79 (P:Go.Program):Known:=(kl79_0 P).func 79 p79
theorem kf79_ok:KnownOk Proofs.Tryz.prog (kf79 Proofs.Tryz.prog):=kl79_0_ok.func ok79
abbrev as39:List Ty:=[(.pair (.pair (.int .i64) (.pair (.int .i64) .unit)) (.pair (.int .i64) (.pair (.int .i64) (.pair (.int .i64) .unit))))]
abbrev rs39:List Ty:=[(.int .i64)]
def t39 (x0_:Int) (x0_':Int) (x0':Int) (x0'':Int) (x0''':Int):Tr (Tys.data rs39) :=
  Tr.test (Option.isSome (f117 ((60:Int),(([x0_,x0_']:List Int),()))))
    (let r0:=g117 ((60:Int),(([x0_,x0_']:List Int),()));
    Tr.test ((!r0.1:Bool))
      (Tr.test (Option.isSome (f94 ((1:Int),((8:Int),(([x0']:List Int),())))))
        (let r1:=g94 ((1:Int),((8:Int),(([x0']:List Int),())));
        Tr.test (r1.1)
          (Tr.test (Option.isSome (f94 ((1:Int),((3:Int),(([x0'']:List Int),())))))
            (let r2:=g94 ((1:Int),((3:Int),(([x0'']:List Int),())));
            Tr.test (r2.1)
              (Tr.test (Option.isSome (f94 ((1:Int),((6:Int),(([x0''']:List Int),())))))
                (let r3:=g94 ((1:Int),((6:Int),(([x0''']:List Int),())));
                Tr.test (Option.isSome (f80 ((!r3.1:Bool),((2:Int),()))))
                  (Tr.test (Option.isSome (f80 ((!leF x0_ x0_':Bool),((9:Int),()))))
                    (let r4:=g80 ((!r3.1:Bool),((2:Int),()));
                    let r5:=g80 ((!leF x0_ x0_':Bool),((9:Int),()));
                    Tr.test (Option.isSome (f79 (([r4.1,r5.1]:List Int),())))
                      (let r6:=g79 (([r4.1,r5.1]:List Int),());
                      Tr.fin ((r6.1,())))
                      (Tr.stop))
                    (Tr.stop))
                  (Tr.stop))
                (Tr.stop))
              (Tr.test (Option.isSome (f80 ((true:Bool),((2:Int),()))))
                (Tr.test (Option.isSome (f80 ((!leF x0_ x0_':Bool),((9:Int),()))))
                  (let r5:=g80 ((!leF x0_ x0_':Bool),((9:Int),()));
                  let r7:=g80 ((true:Bool),((2:Int),()));
                  Tr.test (Option.isSome (f79 (([r7.1,r5.1]:List Int),())))
                    (let r8:=g79 (([r7.1,r5.1]:List Int),());
                    Tr.fin ((r8.1,())))
                    (Tr.stop))
                  (Tr.stop))
                (Tr.stop)))
            (Tr.stop))
          (Tr.test (Option.isSome (f80 ((true:Bool),((2:Int),()))))
            (Tr.test (Option.isSome (f80 ((!leF x0_ x0_':Bool),((9:Int),()))))
              (let r5:=g80 ((!leF x0_ x0_':Bool),((9:Int),()));
              let r7:=g80 ((true:Bool),((2:Int),()));
              Tr.test (Option.isSome (f79 (([r7.1,r5.1]:List Int),())))
                (let r8:=g79 (([r7.1,r5.1]:List Int),());
                Tr.fin ((r8.1,())))
                (Tr.stop))
              (Tr.stop))
            (Tr.stop)))
        (Tr.stop))
      (Tr.test (Option.isSome (f80 ((true:Bool),((2:Int),()))))
        (Tr.test (Option.isSome (f80 ((!leF x0_ x0_':Bool),((9:Int),()))))
          (let r5:=g80 ((!leF x0_ x0_':Bool),((9:Int),()));
          let r7:=g80 ((true:Bool),((2:Int),()));
          Tr.test (Option.isSome (f79 (([r7.1,r5.1]:List Int),())))
            (let r8:=g79 (([r7.1,r5.1]:List Int),());
            Tr.fin ((r8.1,())))
            (Tr.stop))
          (Tr.stop))
        (Tr.stop)))
    (Tr.stop)
def f39 (d:Tys.data as39):Option (Tys.data rs39):=(t39 d.1.1.1 d.1.1.2.1 d.1.2.1 d.1.2.2.1 d.1.2.2.2.1).val
def g39 (d:Tys.data as39):Tys.data rs39:=(f39 d).getD (Tys.dflt rs39)
def p39:PureC:=pcOf as39 rs39 f39 g39
theorem wk39 (x0_:Int) (x0_':Int) (x0':Int) (x0'':Int) (x0''':Int):Walks (runPure (kf79 Proofs.Tryz.prog).orc Proofs.Tryz.prog 400 39 as39 rs39 (((x0_,x0_',()),x0',x0'',x0''',()),())) (t39 x0_ x0_' x0' x0'' x0''') [(bl 10 1023,[2,4,1,1,6,10,8,10,10,1,10,10,14,12,14,14,1,14,14,18,16,18,18,1,18,18,20,1,1]),(bl 9 479,[2,4,1,1,6,8,8,8,8,8,12,10,12,12,1,12,12,16,14,16,16,1,16,16,18,1,1]),(bl 7 119,[2,4,1,1,6,0,0,0,0,0,8,8,8,8,8,12,10,12,12,1,12,12,14,1,1]),(bl 5 29,[2,4,1,1,6,0,0,0,0,0,0,0,0,0,0,8,8,8,8,8,10,1,1])] :=
  ⟨by kernel_rfl,by kernel_rfl,by kernel_rfl,by kernel_rfl,trivial⟩
theorem ok39_t (x0_:Int) (x0_':Int) (x0':Int) (x0'':Int) (x0''':Int):TrOk (PureRuns Proofs.Tryz.prog (kf79 Proofs.Tryz.prog).orc 39 as39 rs39 (((x0_,x0_',()),x0',x0'',x0''',()),())) (t39 x0_ x0_' x0' x0'' x0''') :=
  Walks.ok (fun _ _ _=>PureRuns.of) (wk39 x0_ x0_' x0' x0'' x0''') (by kernel_rfl)
theorem ok39:PureOk Proofs.Tryz.prog 39 p39:=qag kf79_ok.base (T:=fun (d:Tys.data as39)=>t39 d.1.1.1 d.1.1.2.1 d.1.2.1 d.1.2.2.1 d.1.2.2.2.1) (by kernel_rfl) (fun (d:Tys.data as39)=>ok39_t d.1.1.1 d.1.1.2.1 d.1.2.1 d.1.2.2.1 d.1.2.2.2.1)
def kf39 (P:Go.Program):Known:=(kf79 P).func 39 p39
theorem kf39_ok:KnownOk Proofs.Tryz.prog (kf39 Proofs.Tryz.prog):=kf79_ok.func ok39
abbrev as118:List Ty:=[(.pair (.pair (.int .i64) (.pair (.int .i64) .unit)) (.pair (.int .i64) (.pair (.int .i64) (.pair (.int .i64) .unit)))),(.pair (.int .i64) (.pair (.int .i64) (.pair (.int .i64) .unit)))]
abbrev rs118:List Ty:=[(.pair (.pair (.pair (.int .i64) (.pair (.int .i64) .unit)) (.pair (.int .i64) (.pair (.int .i64) (.pair (.int .i64) .unit)))) .unit),(.int .i64)]
def t118 (x0_:Int) (x0_':Int) (x0':Int) (x0'':Int) (x0''':Int) (x1:Int) (x1':Int) (x1'':Int):Tr (Tys.data rs118) :=
  Tr.test (Option.isSome (f39 (((x0_,(x0_',())),(x0',(x0'',(x0''',())))),())))
    (Tr.test (Option.isSome (f160 ((((x0_,(x0_',())),(x0',(x0'',(x0''',())))),()),((x1,(x1',(x1'',()))),()))))
      (let r1:=g160 ((((x0_,(x0_',())),(x0',(x0'',(x0''',())))),()),((x1,(x1',(x1'',()))),()));
      Tr.test (Option.isSome (f80 ((!r1.1:Bool),((2:Int),()))))
        (let r0:=g39 (((x0_,(x0_',())),(x0',(x0'',(x0''',())))),());
        let r2:=g80 ((!r1.1:Bool),((2:Int),()));
        Tr.test (Option.isSome (f79 (([r0.1,r2.1]:List Int),())))
          (let r3:=g79 (([r0.1,r2.1]:List Int),());
          Tr.test ((!eqF r3.1 0:Bool))
            (Tr.fin ((((((0:Int),((0:Int),())),((0:Int),((0:Int),((0:Int),())))),()),(r3.1,()))))
            (Tr.fin (((((x0_,(x0_',())),(x0',(x0'',(x0''',())))),()),((0:Int),())))))
          (Tr.stop))
        (Tr.stop))
      (Tr.stop))
    (Tr.stop)
def f118 (d:Tys.data as118):Option (Tys.data rs118):=(t118 d.1.1.1 d.1.1.2.1 d.1.2.1 d.1.2.2.1 d.1.2.2.2.1 d.2.1.1 d.2.1.2.1 d.2.1.2.2.1).val
def g118 (d:Tys.data as118):Tys.data rs118:=(f118 d).getD (Tys.dflt rs118)
def p118:PureC:=pcOf as118 rs118 f118 g118
theorem wk118 (x0_:Int) (x0_':Int) (x0':Int) (x0'':Int) (x0''':Int) (x1:Int) (x1':Int) (x1'':Int):Walks (runPure (kf39 Proofs.Tryz.prog).orc Proofs.Tryz.prog 400 118 as118 rs118 (((x0_,x0_',()),x0',x0'',x0''',()),(x1,x1',x1'',()),())) (t118 x0_ x0_' x0' x0'' x0''' x1 x1' x1'') [(bl 5 31,[2,4,6,8,10]),(bl 5 15,[2,4,6,8,10])] :=
  ⟨by kernel_rfl,by kernel_rfl,trivial⟩
theorem ok118_t (x0_:Int) (x0_':Int) (x0':Int) (x0'':Int) (x0''':Int) (x1:Int) (x1':Int) (x1'':Int):TrOk (PureRuns Proofs.Tryz.prog (kf39 Proofs.Tryz.prog).orc 118 as118 rs118 (((x0_,x0_',()),x0',x0'',x0''',()),(x1,x1',x1'',()),())) (t118 x0_ x0_' x0' x0'' x0''' x1 x1' x1'') :=
  Walks.ok (fun _ _ _=>PureRuns.of) (wk118 x0_ x0_' x0' x0'' x0''' x1 x1' x1'') (by kernel_rfl)
theorem ok118:PureOk Proofs.Tryz.prog 118 p118:=qag kf39_ok.base (T:=fun (d:Tys.data as118)=>t118 d.1.1.1 d.1.1.2.1 d.1.2.1 d.1.2.2.1 d.1.2.2.2.1 d.2.1.1 d.2.1.2.1 d.2.1.2.2.1) (by kernel_rfl) (fun (d:Tys.data as118)=>ok118_t d.1.1.1 d.1.1.2.1 d.1.2.1 d.1.2.2.1 d.1.2.2.2.1 d.2.1.1 d.2.1.2.1 d.2.1.2.2.1)
def kf118 (P:Go.Program):Known:=(kf39 P).func 118 p118
theorem kf118_ok:KnownOk Proofs.Tryz.prog (kf118 Proofs.Tryz.prog):=kf39_ok.func ok118
abbrev sh161_0:Sh:={ n:=22,slots:=[0,3,5],pats:=[.map 0,.ptr 1 3 0,.aco (.int .i64)],boxes:=[.map (.pair (.int .i64) (.pair (.int .i64) (.pair (.int .i64) .unit))) (.pair (.int .i64) (.pair (.int .i64) (.pair (.int .i64) .unit))),.row [.ty (.int .i64),.ty (.int .i64),.ty (.int .i64)]] }
abbrev shb161_0:Sh:={ n:=22,slots:=[5],pats:=[.aco (.int .i64)],boxes:=[.map (.pair (.int .i64) (.pair (.int .i64) (.pair (.int .i64) .unit))) (.pair (.int .i64) (.pair (.int .i64) (.pair (.int .i64) .unit))),.row [.ty (.int .i64),.ty (.int .i64),.ty (.int .i64)]] }
abbrev shr161_0:Sh:={ n:=22,slots:=[],pats:=[],boxes:=[.map (.pair (.int .i64) (.pair (.int .i64) (.pair (.int .i64) .unit))) (.pair (.int .i64) (.pair (.int .i64) (.pair (.int .i64) .unit))),.row [.ty (.int .i64),.ty (.int .i64),.ty (.int .i64)]] }
def t161_0 (x2:(List Int)) (b0:(List ((Int×(Int×(Int×Unit)))×(Int×(Int×(Int×Unit)))))) (b1_0:Int) (b1_1:Int) (b1_2:Int):Tr (Out sh161_0.data shb161_0.data shr161_0.data) :=
  Tr.test ((!((qeB (qcF (k:=MT) (v:=MT) b0 (b1_0,b1_1,b1_2,())) ((0:Int),(0:Int),(0:Int),())).1 == b1_0 && ((qeB (qcF (k:=MT) (v:=MT) b0 (b1_0,b1_1,b1_2,())) ((0:Int),(0:Int),(0:Int),())).2.1 == b1_1 && ((qeB (qcF (k:=MT) (v:=MT) b0 (b1_0,b1_1,b1_2,())) ((0:Int),(0:Int),(0:Int),())).2.2.1 == b1_2 && true))):Bool))
    (Tr.test (Nat.ble (((2:Nat) * (List.length x2 + (1:Nat)) + (192:Nat)) * (8:Nat)) (281474976710656:Nat) && Nat.ble (List.length x2 + (1:Nat)) (281474976710656:Nat))
      (Tr.fin (.again (((x2++[b1_2]:List Int),()),(b0,((((qeB (qcF (k:=MT) (v:=MT) b0 (b1_0,b1_1,b1_2,())) ((0:Int),(0:Int),(0:Int),())).1:Int),(((qeB (qcF (k:=MT) (v:=MT) b0 (b1_0,b1_1,b1_2,())) ((0:Int),(0:Int),(0:Int),())).2.1:Int),(((qeB (qcF (k:=MT) (v:=MT) b0 (b1_0,b1_1,b1_2,())) ((0:Int),(0:Int),(0:Int),())).2.2.1:Int),()))),())))))
      (Tr.stop))
    (Tr.fin (.brk ((x2,()),(b0,((b1_0,(b1_1,(b1_2,()))),())))))
def s161_0 (d:sh161_0.data):Option (Out sh161_0.data shb161_0.data shr161_0.data):=(t161_0 d.1.1 d.2.1 d.2.2.1.1 d.2.2.1.2.1 d.2.2.1.2.2.1).val
def l161_0 (d:sh161_0.data):Option (shb161_0.data ⊕ shr161_0.data):=itr s161_0 rounds d
def b161_0 (d:sh161_0.data):shb161_0.data:=outB shb161_0.dflt (l161_0 d)
def lc161_0:LoopC:=lcB sh161_0 shb161_0 shr161_0 l161_0 b161_0
theorem wk161_0 (x2:(List Int)) (b0:(List ((Int×(Int×(Int×Unit)))×(Int×(Int×(Int×Unit)))))) (b1_0:Int) (b1_1:Int) (b1_2:Int):Walks (qap (kf118 Proofs.Tryz.prog).orc Proofs.Tryz.prog 400 161 0 sh161_0 shb161_0 shr161_0 ((x2,()),b0,(b1_0,b1_1,b1_2,()),())) (t161_0 x2 b0 b1_0 b1_1 b1_2) [(bl 2 3,[2,4]),(bl 1 0,[2])] :=
  ⟨by kernel_rfl,by kernel_rfl,trivial⟩
theorem ok161_0_t (x2:(List Int)) (b0:(List ((Int×(Int×(Int×Unit)))×(Int×(Int×(Int×Unit)))))) (b1_0:Int) (b1_1:Int) (b1_2:Int):TrOk (BodyRuns Proofs.Tryz.prog (kf118 Proofs.Tryz.prog).orc 161 0 sh161_0 shb161_0 shr161_0 ((x2,()),b0,(b1_0,b1_1,b1_2,()),())) (t161_0 x2 b0 b1_0 b1_1 b1_2) :=
  Walks.ok (fun _ _ _=>BodyRuns.of) (wk161_0 x2 b0 b1_0 b1_1 b1_2) (by kernel_rfl)
theorem ok161_0:qba Proofs.Tryz.prog 161 0 lc161_0:=qcQ (sh:=sh161_0) (shB:=shb161_0) (shR:=shr161_0) kf118_ok.base (T:=fun (d:sh161_0.data)=>t161_0 d.1.1 d.2.1 d.2.2.1.1 d.2.2.1.2.1 d.2.2.1.2.2.1) (by kernel_rfl) rfl (fun (d:sh161_0.data)=>ok161_0_t d.1.1 d.2.1 d.2.2.1.1 d.2.2.1.2.1 d.2.2.1.2.2.1) (fun _=>rfl)
def kl161_0 (P:Go.Program):Known:=(kf118 P).loop 161 0 lc161_0
theorem kl161_0_ok:KnownOk Proofs.Tryz.prog (kl161_0 Proofs.Tryz.prog):=kf118_ok.loop ok161_0
abbrev sh155_0:Sh:={ n:=28,slots:=[0,2,3],pats:=[.slu 0 1,.ty (.int .i64),.ty (.int .i64)],boxes:=[.arr (.int .i64)] }
abbrev shb155_0:Sh:={ n:=28,slots:=[],pats:=[],boxes:=[.arr (.int .i64)] }
abbrev shr155_0:Sh:={ n:=28,slots:=[],pats:=[],boxes:=[.arr (.int .i64)] }
def t155_0 (x0n:Nat) (x1:Int) (x2:Int) (b0:(List Int)):Tr (Out sh155_0.data shb155_0.data shr155_0.data) :=
  Tr.test ((!leF x2 x1:Bool))
    (Tr.test (decide ((0:Int) ≤ x2) && decide (x2 < (↑x0n:Int)))
      (Tr.test ((Nat.ble ((0:Nat) + Int.toNat x2 + (1:Nat)) (List.length b0):Bool))
        (Tr.test ((decide ((0:Int) ≤ x1) && decide (x1 < (↑x0n:Int)):Bool))
          (Tr.test ((Nat.ble ((0:Nat) + Int.toNat x1 + (1:Nat)) (List.length b0):Bool))
            (Tr.test ((Nat.ble ((0:Nat) + Int.toNat x2 + (1:Nat)) (List.length (List.set b0 ((0:Nat) + Int.toNat x1) (List.getD b0 ((0:Nat) + Int.toNat x2) (0:Int)))):Bool))
              (Tr.fin (.again ((x0n,((wrap64 (x1 + (1:Int)):Int),((wrap64 (x2 - (1:Int)):Int),()))),((List.set (List.set b0 ((0:Nat) + Int.toNat x1) (List.getD b0 ((0:Nat) + Int.toNat x2) (0:Int))) ((0:Nat) + Int.toNat x2) (List.getD b0 ((0:Nat) + Int.toNat x1) (0:Int)):List Int),()))))
              (Tr.stop))
            (Tr.stop))
          (Tr.stop))
        (Tr.stop))
      (Tr.stop))
    (Tr.fin (.brk ((),(b0,()))))
def s155_0 (d:sh155_0.data):Option (Out sh155_0.data shb155_0.data shr155_0.data):=(t155_0 d.1.1 d.1.2.1 d.1.2.2.1 d.2.1).val
def l155_0 (d:sh155_0.data):Option (shb155_0.data ⊕ shr155_0.data):=itr s155_0 rounds d
def b155_0 (d:sh155_0.data):shb155_0.data:=outB shb155_0.dflt (l155_0 d)
def lc155_0:LoopC:=lcB sh155_0 shb155_0 shr155_0 l155_0 b155_0
theorem wk155_0 (x0n:Nat) (x1:Int) (x2:Int) (b0:(List Int)):Walks (qap (kl161_0 Proofs.Tryz.prog).orc Proofs.Tryz.prog 400 155 0 sh155_0 shb155_0 shr155_0 ((x0n,x1,x2,()),b0,())) (t155_0 x0n x1 x2 b0) [(bl 6 63,[2,10,4,6,4,6,8,10,12]),(bl 1 0,[2])] :=
  ⟨by kernel_rfl,by kernel_rfl,trivial⟩
theorem ok155_0_t (x0n:Nat) (x1:Int) (x2:Int) (b0:(List Int)):TrOk (BodyRuns Proofs.Tryz.prog (kl161_0 Proofs.Tryz.prog).orc 155 0 sh155_0 shb155_0 shr155_0 ((x0n,x1,x2,()),b0,())) (t155_0 x0n x1 x2 b0) :=
  Walks.ok (fun _ _ _=>BodyRuns.of) (wk155_0 x0n x1 x2 b0) (by kernel_rfl)
theorem ok155_0:qba Proofs.Tryz.prog 155 0 lc155_0:=qcQ (sh:=sh155_0) (shB:=shb155_0) (shR:=shr155_0) kl161_0_ok.base (T:=fun (d:sh155_0.data)=>t155_0 d.1.1 d.1.2.1 d.1.2.2.1 d.2.1) (by kernel_rfl) rfl (fun (d:sh155_0.data)=>ok155_0_t d.1.1 d.1.2.1 d.1.2.2.1 d.2.1) (fun _=>rfl)
def kl155_0 (P:Go.Program):Known:=(kl161_0 P).loop 155 0 lc155_0
theorem kl155_0_ok:KnownOk Proofs.Tryz.prog (kl155_0 Proofs.Tryz.prog):=kl161_0_ok.loop ok155_0
abbrev sh155_0_1:Sh:={ n:=28,slots:=[0,2,3],pats:=[.aco (.int .i64),.ty (.int .i64),.ty (.int .i64)],boxes:=[] }
abbrev shb155_0_1:Sh:={ n:=28,slots:=[],pats:=[],boxes:=[] }
abbrev shr155_0_1:Sh:={ n:=28,slots:=[],pats:=[],boxes:=[] }
def t155_0_1 (x0:(List Int)) (x1:Int) (x2:Int):Tr (Out sh155_0_1.data shb155_0_1.data shr155_0_1.data) :=
  Tr.test ((!leF x2 x1:Bool))
    (Tr.test (decide ((0:Int) ≤ x2) && decide (x2 < (↑(List.length x0):Int)))
      (Tr.test ((decide ((0:Int) ≤ x1) && decide (x1 < (↑(List.length x0):Int)):Bool))
        (Tr.stop)
        (Tr.stop))
      (Tr.stop))
    (Tr.fin (.brk ((),())))
def s155_0_1 (d:sh155_0_1.data):Option (Out sh155_0_1.data shb155_0_1.data shr155_0_1.data):=(t155_0_1 d.1.1 d.1.2.1 d.1.2.2.1).val
def l155_0_1 (d:sh155_0_1.data):Option (shb155_0_1.data ⊕ shr155_0_1.data):=itr s155_0_1 rounds d
def b155_0_1 (d:sh155_0_1.data):shb155_0_1.data:=outB shb155_0_1.dflt (l155_0_1 d)
def lc155_0_1:LoopC:=lcB sh155_0_1 shb155_0_1 shr155_0_1 l155_0_1 b155_0_1
theorem wk155_0_1 (x0:(List Int)) (x1:Int) (x2:Int):Walks (qap (kl155_0 Proofs.Tryz.prog).orc Proofs.Tryz.prog 400 155 0 sh155_0_1 shb155_0_1 shr155_0_1 ((x0,x1,x2,()),())) (t155_0_1 x0 x1 x2) [(bl 1 0,[2])] :=
  ⟨by kernel_rfl,trivial⟩
theorem ok155_0_1_t (x0:(List Int)) (x1:Int) (x2:Int):TrOk (BodyRuns Proofs.Tryz.prog (kl155_0 Proofs.Tryz.prog).orc 155 0 sh155_0_1 shb155_0_1 shr155_0_1 ((x0,x1,x2,()),())) (t155_0_1 x0 x1 x2) :=
  Walks.ok (fun _ _ _=>BodyRuns.of) (wk155_0_1 x0 x1 x2) (by kernel_rfl)
theorem ok155_0_1:qba Proofs.Tryz.prog 155 0 lc155_0_1:=qcQ (sh:=sh155_0_1) (shB:=shb155_0_1) (shR:=shr155_0_1) kl155_0_ok.base (T:=fun (d:sh155_0_1.data)=>t155_0_1 d.1.1 d.1.2.1 d.1.2.2.1) (by kernel_rfl) rfl (fun (d:sh155_0_1.data)=>ok155_0_1_t d.1.1 d.1.2.1 d.1.2.2.1) (fun _=>rfl)
def kl155_0_1 (P:Go.Program):Known:=(kl155_0 P).loop 155 0 lc155_0_1
theorem kl155_0_1_ok:KnownOk Proofs.Tryz.prog (kl155_0_1 Proofs.Tryz.prog):=kl155_0_ok.loop ok155_0_1
theorem sc119_0:qcM Proofs.Tryz.prog 119 0 = true:=qji (by kernel_rfl)
abbrev sh162_0 (P:Go.Program):Sh:={ n:=29,slots:=[0,1,2,4],pats:=[.yld 0,.ptr 1 5 0,.ptr 2 3 0,.ty (.int .i64)],boxes:=[.lp (lpOf P 119 0 .ready none 55 [6,7,9] 3) [.ptr 4 1 0,.ptr 5 1 0,.ptr 6 3 0],.row [.ty (.int .i64),.ty (.int .i64),.ty (.int .i64),.ty (.int .i64),.ty (.int .i64)],.row [.ty (.int .i64),.ty (.int .i64),.ty (.int .i64)],.dfr,.row [.acc (.pair (.int .i64) (.pair (.int .i64) (.pair (.int .i64) .unit)))],.row [.map 7],.row [.ty (.int .i64),.ty (.int .i64),.ty (.int .i64)],.map (.pair (.int .i64) (.pair (.int .i64) (.pair (.int .i64) .unit))) (.pair (.int .i64) (.pair (.int .i64) (.pair (.int .i64) .unit)))] }
abbrev shb162_0 (P:Go.Program):Sh:={ n:=29,slots:=[],pats:=[],boxes:=[.lp (lpOf P 119 0 .ready none 55 [6,7,9] 3) [.ptr 4 1 0,.ptr 5 1 0,.ptr 6 3 0],.row [.ty (.int .i64),.ty (.int .i64),.ty (.int .i64),.ty (.int .i64),.ty (.int .i64)],.row [.ty (.int .i64),.ty (.int .i64),.ty (.int .i64)],.dfr,.row [.acc (.pair (.int .i64) (.pair (.int .i64) (.pair (.int .i64) .unit)))],.row [.map 7],.row [.ty (.int .i64),.ty (.int .i64),.ty (.int .i64)],.map (.pair (.int .i64) (.pair (.int .i64) (.pair (.int .i64) .unit))) (.pair (.int .i64) (.pair (.int .i64) (.pair (.int .i64) .unit)))] }
abbrev shr162_0 (P:Go.Program):Sh:={ n:=29,slots:=[],pats:=[],boxes:=[.lp (lpOf P 119 0 .ready none 55 [6,7,9] 3) [.ptr 4 1 0,.ptr 5 1 0,.ptr 6 3 0],.row [.ty (.int .i64),.ty (.int .i64),.ty (.int .i64),.ty (.int .i64),.ty (.int .i64)],.row [.ty (.int .i64),.ty (.int .i64),.ty (.int .i64)],.dfr,.row [.acc (.pair (.int .i64) (.pair (.int .i64) (.pair (.int .i64) .unit)))],.row [.map 7],.row [.ty (.int .i64),.ty (.int .i64),.ty (.int .i64)],.map (.pair (.int .i64) (.pair (.int .i64) (.pair (.int .i64) .unit))) (.pair (.int .i64) (.pair (.int .i64) (.pair (.int .i64) .unit)))] }
abbrev dt162_0:Type:=(Int×PUnit)×PUnit×(Int×Int×Int×Int×Int×PUnit)×(Int×Int×Int×PUnit)×(List (Int×Int×Int×PUnit)×PUnit)×PUnit×(Int×Int×Int×PUnit)×List ((Int×Int×Int×PUnit)×Int×Int×Int×PUnit)×PUnit
abbrev db162_0:Type:=PUnit×PUnit×(Int×Int×Int×Int×Int×PUnit)×(Int×Int×Int×PUnit)×(List (Int×Int×Int×PUnit)×PUnit)×PUnit×(Int×Int×Int×PUnit)×List ((Int×Int×Int×PUnit)×Int×Int×Int×PUnit)×PUnit
abbrev dr162_0:Type:=PUnit×PUnit×(Int×Int×Int×Int×Int×PUnit)×(Int×Int×Int×PUnit)×(List (Int×Int×Int×PUnit)×PUnit)×PUnit×(Int×Int×Int×PUnit)×List ((Int×Int×Int×PUnit)×Int×Int×Int×PUnit)×PUnit
def t162_0 (x3:Int) (b1_0:Int) (b1_1:Int) (b1_2:Int) (b1_3:Int) (b1_4:Int) (b2_0:Int) (b2_1:Int) (b2_2:Int) (b4_0:(List (Int×(Int×(Int×Unit))))) (b6_0:Int) (b6_1:Int) (b6_2:Int) (b7:(List ((Int×(Int×(Int×Unit)))×(Int×(Int×(Int×Unit)))))):Tr (Out dt162_0 db162_0 dr162_0) :=
  Tr.test ((leF x3 b1_3:Bool))
    (Tr.test (Option.isSome (f120 ((((b1_0,(b1_1,())),(b1_2,(b1_3,(b1_4,())))),()),((b2_0,(b2_1,(b2_2,()))),(x3,())))))
      (let r0:=g120 ((((b1_0,(b1_1,())),(b1_2,(b1_3,(b1_4,())))),()),((b2_0,(b2_1,(b2_2,()))),(x3,())));
      Tr.test (r0.1)
        (Tr.test (Option.isSome (f121 ((b2_0,(b2_1,(b2_2,()))),(x3,()))))
          (let r1:=g121 ((b2_0,(b2_1,(b2_2,()))),(x3,()));
          Tr.test ((!found (qcF (k:=MT) (v:=MT) b7 (r1.1.1,r1.1.2.1,r1.1.2.2.1,())):Bool))
            (Tr.test ((Nat.ble (((2:Nat) * (List.length b4_0 + (1:Nat)) + (192:Nat)) * (24:Nat)) (281474976710656:Nat) && Nat.ble (List.length b4_0 + (1:Nat)) (281474976710656:Nat):Bool))
              (Tr.fin (.again (((wrap64 (x3 + (1:Int)):Int),()),((),((b1_0,(b1_1,(b1_2,(b1_3,(b1_4,()))))),((b2_0,(b2_1,(b2_2,()))),(((b4_0++[(r1.1.1,r1.1.2.1,r1.1.2.2.1,())]:List (Int×Int×Int×PUnit)),()),((),((b6_0,(b6_1,(b6_2,()))),((mput (k:=MT) (v:=MT) b7 (r1.1.1,r1.1.2.1,r1.1.2.2.1,()) (b6_0,b6_1,b6_2,()):List (Ty.data (Ty.pair (Ty.int Go.IntKind.i64) (Ty.pair (Ty.int Go.IntKind.i64) (Ty.pair (Ty.int Go.IntKind.i64) Ty.unit)))×Ty.data (Ty.pair (Ty.int Go.IntKind.i64) (Ty.pair (Ty.int Go.IntKind.i64) (Ty.pair (Ty.int Go.IntKind.i64) Ty.unit))))),()))))))))))
              (Tr.stop))
            (Tr.fin (.again (((wrap64 (x3 + (1:Int)):Int),()),((),((b1_0,(b1_1,(b1_2,(b1_3,(b1_4,()))))),((b2_0,(b2_1,(b2_2,()))),((b4_0,()),((),((b6_0,(b6_1,(b6_2,()))),(b7,())))))))))))
          (Tr.stop))
        (Tr.fin (.again (((wrap64 (x3 + (1:Int)):Int),()),((),((b1_0,(b1_1,(b1_2,(b1_3,(b1_4,()))))),((b2_0,(b2_1,(b2_2,()))),((b4_0,()),((),((b6_0,(b6_1,(b6_2,()))),(b7,())))))))))))
      (Tr.stop))
    (Tr.fin (.brk ((),((),((b1_0,(b1_1,(b1_2,(b1_3,(b1_4,()))))),((b2_0,(b2_1,(b2_2,()))),((b4_0,()),((),((b6_0,(b6_1,(b6_2,()))),(b7,()))))))))))
def s162_0 (d:dt162_0):Option (Out dt162_0 db162_0 dr162_0):=(t162_0 d.1.1 d.2.2.1.1 d.2.2.1.2.1 d.2.2.1.2.2.1 d.2.2.1.2.2.2.1 d.2.2.1.2.2.2.2.1 d.2.2.2.1.1 d.2.2.2.1.2.1 d.2.2.2.1.2.2.1 d.2.2.2.2.1.1 d.2.2.2.2.2.2.1.1 d.2.2.2.2.2.2.1.2.1 d.2.2.2.2.2.2.1.2.2.1 d.2.2.2.2.2.2.2.1).val
def l162_0 (d:dt162_0):Option (db162_0 ⊕ dr162_0):=itr s162_0 rounds d
def b162_0 (d:dt162_0):db162_0:=outB (((),((),(((0:Int),((0:Int),((0:Int),((0:Int),((0:Int),()))))),(((0:Int),((0:Int),((0:Int),()))),((([]:List (Int×Int×Int×PUnit)),()),((),(((0:Int),((0:Int),((0:Int),()))),(([]:List ((Int×Int×Int×PUnit)×Int×Int×Int×PUnit)),()))))))))) (l162_0 d)
def lc162_0 (P:Go.Program):LoopC:=lcB (sh162_0 P) (shb162_0 P) (shr162_0 P) l162_0 b162_0
theorem e162_0_0 (x3:Int) (b1_0:Int) (b1_1:Int) (b1_2:Int) (b1_3:Int) (b1_4:Int) (b2_0:Int) (b2_1:Int) (b2_2:Int) (b4_0:(List (Int×(Int×(Int×Unit))))) (b6_0:Int) (b6_1:Int) (b6_2:Int) (b7:(List ((Int×(Int×(Int×Unit)))×(Int×(Int×(Int×Unit)))))):qap (kl155_0_1 Proofs.Tryz.prog).orc Proofs.Tryz.prog 400 162 0 (sh162_0 Proofs.Tryz.prog) (shb162_0 Proofs.Tryz.prog) (shr162_0 Proofs.Tryz.prog) ((x3,()),(),(b1_0,b1_1,b1_2,b1_3,b1_4,()),(b2_0,b2_1,b2_2,()),(b4_0,()),(),(b6_0,b6_1,b6_2,()),b7,()) [tt,tt,tt,tt,tt,tt,tt,tt,tt,tt,tt,tt,tt,tt,ff] =
    (let r0:=g120 ((((b1_0,(b1_1,())),(b1_2,(b1_3,(b1_4,())))),()),((b2_0,(b2_1,(b2_2,()))),(x3,())));let r1:=g121 ((b2_0,(b2_1,(b2_2,()))),(x3,())); some (.again (((wrap64 (x3 + (1:Int)):Int),()),((),((b1_0,(b1_1,(b1_2,(b1_3,(b1_4,()))))),((b2_0,(b2_1,(b2_2,()))),(((b4_0++[(r1.1.1,r1.1.2.1,r1.1.2.2.1,())]:List (Int×Int×Int×PUnit)),()),((),((b6_0,(b6_1,(b6_2,()))),((mput (k:=MT) (v:=MT) b7 (r1.1.1,r1.1.2.1,r1.1.2.2.1,()) (b6_0,b6_1,b6_2,()):List (Ty.data (Ty.pair (Ty.int Go.IntKind.i64) (Ty.pair (Ty.int Go.IntKind.i64) (Ty.pair (Ty.int Go.IntKind.i64) Ty.unit)))×Ty.data (Ty.pair (Ty.int Go.IntKind.i64) (Ty.pair (Ty.int Go.IntKind.i64) (Ty.pair (Ty.int Go.IntKind.i64) Ty.unit))))),())))))))),[(qcM Proofs.Tryz.prog (nat_lit 119) (nat_lit 0),true),(false,false),(r0.1,true),(r0.1,true),(Nat.ble (((2:Nat) * (List.length b4_0 + (1:Nat)) + (192:Nat)) * (24:Nat)) (281474976710656:Nat) && Nat.ble (List.length b4_0 + (1:Nat)) (281474976710656:Nat),true),(!found (qcF (k:=MT) (v:=MT) b7 (r1.1.1,r1.1.2.1,r1.1.2.2.1,())),true),(r0.1,true),(Option.isSome (f121 ((b2_0,(b2_1,(b2_2,()))),(x3,()))),true),(r0.1,true),(r0.1,true),(r0.1,true),(r0.1,true),(r0.1,true),(Option.isSome (f120 ((((b1_0,(b1_1,())),(b1_2,(b1_3,(b1_4,())))),()),((b2_0,(b2_1,(b2_2,()))),(x3,())))),true),(leF x3 b1_3,true),(true,true)])):=by kernel_rfl
theorem e162_0_2 (x3:Int) (b1_0:Int) (b1_1:Int) (b1_2:Int) (b1_3:Int) (b1_4:Int) (b2_0:Int) (b2_1:Int) (b2_2:Int) (b4_0:(List (Int×(Int×(Int×Unit))))) (b6_0:Int) (b6_1:Int) (b6_2:Int) (b7:(List ((Int×(Int×(Int×Unit)))×(Int×(Int×(Int×Unit)))))):qap (kl155_0_1 Proofs.Tryz.prog).orc Proofs.Tryz.prog 400 162 0 (sh162_0 Proofs.Tryz.prog) (shb162_0 Proofs.Tryz.prog) (shr162_0 Proofs.Tryz.prog) ((x3,()),(),(b1_0,b1_1,b1_2,b1_3,b1_4,()),(b2_0,b2_1,b2_2,()),(b4_0,()),(),(b6_0,b6_1,b6_2,()),b7,()) [tt,tt,tt,tt,tt,tt,tt,tt,tt,tt,ff,tt,tt,ff] =
    (let r0:=g120 ((((b1_0,(b1_1,())),(b1_2,(b1_3,(b1_4,())))),()),((b2_0,(b2_1,(b2_2,()))),(x3,())));let r1:=g121 ((b2_0,(b2_1,(b2_2,()))),(x3,())); some (.again (((wrap64 (x3 + (1:Int)):Int),()),((),((b1_0,(b1_1,(b1_2,(b1_3,(b1_4,()))))),((b2_0,(b2_1,(b2_2,()))),((b4_0,()),((),((b6_0,(b6_1,(b6_2,()))),(b7,())))))))),[(qcM Proofs.Tryz.prog (nat_lit 119) (nat_lit 0),true),(false,false),(r0.1,true),(r0.1,true),(!found (qcF (k:=MT) (v:=MT) b7 (r1.1.1,r1.1.2.1,r1.1.2.2.1,())),false),(r0.1,true),(Option.isSome (f121 ((b2_0,(b2_1,(b2_2,()))),(x3,()))),true),(r0.1,true),(r0.1,true),(r0.1,true),(r0.1,true),(r0.1,true),(Option.isSome (f120 ((((b1_0,(b1_1,())),(b1_2,(b1_3,(b1_4,())))),()),((b2_0,(b2_1,(b2_2,()))),(x3,())))),true),(leF x3 b1_3,true),(true,true)])):=by kernel_rfl
theorem e162_0_3 (x3:Int) (b1_0:Int) (b1_1:Int) (b1_2:Int) (b1_3:Int) (b1_4:Int) (b2_0:Int) (b2_1:Int) (b2_2:Int) (b4_0:(List (Int×(Int×(Int×Unit))))) (b6_0:Int) (b6_1:Int) (b6_2:Int) (b7:(List ((Int×(Int×(Int×Unit)))×(Int×(Int×(Int×Unit)))))):qap (kl155_0_1 Proofs.Tryz.prog).orc Proofs.Tryz.prog 400 162 0 (sh162_0 Proofs.Tryz.prog) (shb162_0 Proofs.Tryz.prog) (shr162_0 Proofs.Tryz.prog) ((x3,()),(),(b1_0,b1_1,b1_2,b1_3,b1_4,()),(b2_0,b2_1,b2_2,()),(b4_0,()),(),(b6_0,b6_1,b6_2,()),b7,()) [tt,tt,tt,ff,ff,ff,ff,ff,ff,ff,ff,ff] =
    (let r0:=g120 ((((b1_0,(b1_1,())),(b1_2,(b1_3,(b1_4,())))),()),((b2_0,(b2_1,(b2_2,()))),(x3,()))); some (.again (((wrap64 (x3 + (1:Int)):Int),()),((),((b1_0,(b1_1,(b1_2,(b1_3,(b1_4,()))))),((b2_0,(b2_1,(b2_2,()))),((b4_0,()),((),((b6_0,(b6_1,(b6_2,()))),(b7,())))))))),[(qcM Proofs.Tryz.prog (nat_lit 119) (nat_lit 0),true),(false,false),(r0.1,false),(r0.1,false),(r0.1,false),(r0.1,false),(r0.1,false),(r0.1,false),(r0.1,false),(r0.1,false),(Option.isSome (f120 ((((b1_0,(b1_1,())),(b1_2,(b1_3,(b1_4,())))),()),((b2_0,(b2_1,(b2_2,()))),(x3,())))),true),(leF x3 b1_3,true),(true,true)])):=by kernel_rfl
theorem e162_0_4 (x3:Int) (b1_0:Int) (b1_1:Int) (b1_2:Int) (b1_3:Int) (b1_4:Int) (b2_0:Int) (b2_1:Int) (b2_2:Int) (b4_0:(List (Int×(Int×(Int×Unit))))) (b6_0:Int) (b6_1:Int) (b6_2:Int) (b7:(List ((Int×(Int×(Int×Unit)))×(Int×(Int×(Int×Unit)))))):qap (kl155_0_1 Proofs.Tryz.prog).orc Proofs.Tryz.prog 400 162 0 (sh162_0 Proofs.Tryz.prog) (shb162_0 Proofs.Tryz.prog) (shr162_0 Proofs.Tryz.prog) ((x3,()),(),(b1_0,b1_1,b1_2,b1_3,b1_4,()),(b2_0,b2_1,b2_2,()),(b4_0,()),(),(b6_0,b6_1,b6_2,()),b7,()) [tt,ff] =
    (some (.brk ((),((),((b1_0,(b1_1,(b1_2,(b1_3,(b1_4,()))))),((b2_0,(b2_1,(b2_2,()))),((b4_0,()),((),((b6_0,(b6_1,(b6_2,()))),(b7,())))))))),[(qcM Proofs.Tryz.prog (nat_lit 119) (nat_lit 0),true),(leF x3 b1_3,false),(true,true)])):=by kernel_rfl
theorem ok162_0_t (x3:Int) (b1_0:Int) (b1_1:Int) (b1_2:Int) (b1_3:Int) (b1_4:Int) (b2_0:Int) (b2_1:Int) (b2_2:Int) (b4_0:(List (Int×(Int×(Int×Unit))))) (b6_0:Int) (b6_1:Int) (b6_2:Int) (b7:(List ((Int×(Int×(Int×Unit)))×(Int×(Int×(Int×Unit)))))):TrOk (BodyRuns Proofs.Tryz.prog (kl155_0_1 Proofs.Tryz.prog).orc 162 0 (sh162_0 Proofs.Tryz.prog) (shb162_0 Proofs.Tryz.prog) (shr162_0 Proofs.Tryz.prog) ((x3,()),(),(b1_0,b1_1,b1_2,b1_3,b1_4,()),(b2_0,b2_1,b2_2,()),(b4_0,()),(),(b6_0,b6_1,b6_2,()),b7,())) (t162_0 x3 b1_0 b1_1 b1_2 b1_3 b1_4 b2_0 b2_1 b2_2 b4_0 b6_0 b6_1 b6_2 b7) :=
  TrOk.ofTest (fun h1=>TrOk.ofTest (fun h2=>TrOk.ofTest (fun h3=>TrOk.ofTest (fun h8=>TrOk.ofTest (fun h10=>TrOk.ofTest (fun h11=>TrOk.ofFin (BodyRuns.of (e162_0_0 x3 b1_0 b1_1 b1_2 b1_3 b1_4 b2_0 b2_1 b2_2 b4_0 b6_0 b6_1 b6_2 b7) (ac (sc119_0) (ac rfl (ac h3 (ac h3 (ac h11 (ac h10 (ac h3 (ac h8 (ac h3 (ac h3 (ac h3 (ac h3 (ac h3 (ac h2 (ac h1 (ac rfl All.nil)))))))))))))))))) (fun h11=>TrOk.ofStop)) (fun h10=>TrOk.ofFin (BodyRuns.of (e162_0_2 x3 b1_0 b1_1 b1_2 b1_3 b1_4 b2_0 b2_1 b2_2 b4_0 b6_0 b6_1 b6_2 b7) (ac (sc119_0) (ac rfl (ac h3 (ac h3 (ac h10 (ac h3 (ac h8 (ac h3 (ac h3 (ac h3 (ac h3 (ac h3 (ac h2 (ac h1 (ac rfl All.nil)))))))))))))))))) (fun h8=>TrOk.ofStop)) (fun h3=>TrOk.ofFin (BodyRuns.of (e162_0_3 x3 b1_0 b1_1 b1_2 b1_3 b1_4 b2_0 b2_1 b2_2 b4_0 b6_0 b6_1 b6_2 b7) (ac (sc119_0) (ac rfl (ac h3 (ac h3 (ac h3 (ac h3 (ac h3 (ac h3 (ac h3 (ac h3 (ac h2 (ac h1 (ac rfl All.nil)))))))))))))))) (fun h2=>TrOk.ofStop)) (fun h1=>TrOk.ofFin (BodyRuns.of (e162_0_4 x3 b1_0 b1_1 b1_2 b1_3 b1_4 b2_0 b2_1 b2_2 b4_0 b6_0 b6_1 b6_2 b7) (ac (sc119_0) (ac h1 (ac rfl All.nil)))))
theorem ok162_0:qba Proofs.Tryz.prog 162 0 (lc162_0 Proofs.Tryz.prog):=qcQ (sh:=(sh162_0 Proofs.Tryz.prog)) (shB:=(shb162_0 Proofs.Tryz.prog)) (shR:=(shr162_0 Proofs.Tryz.prog)) kl155_0_1_ok.base (T:=fun (d:dt162_0)=>t162_0 d.1.1 d.2.2.1.1 d.2.2.1.2.1 d.2.2.1.2.2.1 d.2.2.1.2.2.2.1 d.2.2.1.2.2.2.2.1 d.2.2.2.1.1 d.2.2.2.1.2.1 d.2.2.2.1.2.2.1 d.2.2.2.2.1.1 d.2.2.2.2.2.2.1.1 d.2.2.2.2.2.2.1.2.1 d.2.2.2.2.2.2.1.2.2.1 d.2.2.2.2.2.2.2.1) (by kernel_rfl) rfl (fun (d:dt162_0)=>ok162_0_t d.1.1 d.2.2.1.1 d.2.2.1.2.1 d.2.2.1.2.2.1 d.2.2.1.2.2.2.1 d.2.2.1.2.2.2.2.1 d.2.2.2.1.1 d.2.2.2.1.2.1 d.2.2.2.1.2.2.1 d.2.2.2.2.1.1 d.2.2.2.2.2.2.1.1 d.2.2.2.2.2.2.1.2.1 d.2.2.2.2.2.2.1.2.2.1 d.2.2.2.2.2.2.2.1) (fun _=>rfl)
def kl162_0 (P:Go.Program):Known:=(kl155_0_1 P).loop 162 0 (lc162_0 P)
theorem kl162_0_ok:KnownOk Proofs.Tryz.prog (kl162_0 Proofs.Tryz.prog):=kl155_0_1_ok.loop ok162_0
abbrev sh119_0:Sh:={ n:=55,slots:=[2,6,7,8],pats:=[.ptr 0 5 0,.ptr 1 1 0,.ptr 2 1 0,.ty (.int .i64)],boxes:=[.row [.ty (.int .i64),.ty (.int .i64),.ty (.int .i64),.ty (.int .i64),.ty (.int .i64)],.row [.acc (.pair (.int .i64) (.pair (.int .i64) (.pair (.int .i64) .unit)))],.row [.map 3],.map (.pair (.int .i64) (.pair (.int .i64) (.pair (.int .i64) .unit))) (.pair (.int .i64) (.pair (.int .i64) (.pair (.int .i64) .unit)))] }
abbrev shb119_0:Sh:={ n:=55,slots:=[],pats:=[],boxes:=[.row [.ty (.int .i64),.ty (.int .i64),.ty (.int .i64),.ty (.int .i64),.ty (.int .i64)],.row [.acc (.pair (.int .i64) (.pair (.int .i64) (.pair (.int .i64) .unit)))],.row [.map 3],.map (.pair (.int .i64) (.pair (.int .i64) (.pair (.int .i64) .unit))) (.pair (.int .i64) (.pair (.int .i64) (.pair (.int .i64) .unit)))] }
abbrev shr119_0:Sh:={ n:=55,slots:=[4,5],pats:=[.ty (.slice (.int .i64)),.ty .bool],boxes:=[.row [.ty (.int .i64),.ty (.int .i64),.ty (.int .i64),.ty (.int .i64),.ty (.int .i64)],.row [.acc (.pair (.int .i64) (.pair (.int .i64) (.pair (.int .i64) .unit)))],.row [.map 3],.map (.pair (.int .i64) (.pair (.int .i64) (.pair (.int .i64) .unit))) (.pair (.int .i64) (.pair (.int .i64) (.pair (.int .i64) .unit)))] }
def t119_0 (x3:Int) (b0_0:Int) (b0_1:Int) (b0_2:Int) (b0_3:Int) (b0_4:Int) (b1_0:(List (Int×(Int×(Int×Unit))))) (b3:(List ((Int×(Int×(Int×Unit)))×(Int×(Int×(Int×Unit)))))):Tr (Out sh119_0.data shb119_0.data shr119_0.data) :=
  Tr.test ((!leF (↑(List.length b1_0):Int) x3:Bool))
    (Tr.test (decide ((0:Int) ≤ x3) && decide (x3 < (↑(List.length b1_0):Int)))
      (Tr.test (Option.isSome (f122 ((((List.getD b1_0 (Int.toNat x3) ((0:Int),(0:Int),(0:Int),())).1:Int),(((List.getD b1_0 (Int.toNat x3) ((0:Int),(0:Int),(0:Int),())).2.1:Int),(((List.getD b1_0 (Int.toNat x3) ((0:Int),(0:Int),(0:Int),())).2.2.1:Int),()))),())))
        (let r0:=g122 ((((List.getD b1_0 (Int.toNat x3) ((0:Int),(0:Int),(0:Int),())).1:Int),(((List.getD b1_0 (Int.toNat x3) ((0:Int),(0:Int),(0:Int),())).2.1:Int),(((List.getD b1_0 (Int.toNat x3) ((0:Int),(0:Int),(0:Int),())).2.2.1:Int),()))),());
        Tr.test (r0.1)
          (Tr.test (qc2 (l161_0 ((([]:List Int),()),(b3,((((List.getD b1_0 (Int.toNat x3) ((0:Int),(0:Int),(0:Int),())).1:Int),(((List.getD b1_0 (Int.toNat x3) ((0:Int),(0:Int),(0:Int),())).2.1:Int),(((List.getD b1_0 (Int.toNat x3) ((0:Int),(0:Int),(0:Int),())).2.2.1:Int),()))),())))))
            (let r1:=b161_0 ((([]:List Int),()),(b3,((((List.getD b1_0 (Int.toNat x3) ((0:Int),(0:Int),(0:Int),())).1:Int),(((List.getD b1_0 (Int.toNat x3) ((0:Int),(0:Int),(0:Int),())).2.1:Int),(((List.getD b1_0 (Int.toNat x3) ((0:Int),(0:Int),(0:Int),())).2.2.1:Int),()))),())));
            Tr.test ((Nat.ble (1:Nat) (List.length r1.1.1):Bool))
              (Tr.test (qc2 (l155_0 (((List.length r1.1.1:Nat),((0:Int),((wrap64 ((↑(List.length r1.1.1):Int) - (1:Int)):Int),()))),(r1.1.1,()))))
                (let r2:=b155_0 (((List.length r1.1.1:Nat),((0:Int),((wrap64 ((↑(List.length r1.1.1):Int) - (1:Int)):Int),()))),(r1.1.1,()));
                Tr.test ((Nat.beq (List.length r1.1.1) (List.length r2.2.1):Bool))
                  (Tr.fin (.ret ((r2.2.1,((true:Bool),())),((b0_0,(b0_1,(b0_2,(b0_3,(b0_4,()))))),((b1_0,()),((),((r1.2.1:List ((Int×Int×Int×PUnit)×Int×Int×Int×PUnit)),())))))))
                  (Tr.test ((Nat.ble (List.length r1.1.1) (List.length r2.2.1):Bool))
                    (Tr.fin (.ret (((List.take (List.length r1.1.1) r2.2.1:List Int),((true:Bool),())),((b0_0,(b0_1,(b0_2,(b0_3,(b0_4,()))))),((b1_0,()),((),((r1.2.1:List ((Int×Int×Int×PUnit)×Int×Int×Int×PUnit)),())))))))
                    (Tr.stop)))
                (Tr.stop))
              (Tr.test (qc2 (l155_0_1 ((r1.1.1,((0:Int),((wrap64 ((↑(List.length r1.1.1):Int) - (1:Int)):Int),()))),())))
                (Tr.fin (.ret ((r1.1.1,((true:Bool),())),((b0_0,(b0_1,(b0_2,(b0_3,(b0_4,()))))),((b1_0,()),((),((r1.2.1:List ((Int×Int×Int×PUnit)×Int×Int×Int×PUnit)),())))))))
                (Tr.stop)))
            (Tr.stop))
          (Tr.test (qc2 (l162_0 (((Go.IntKind.wrap Go.IntKind.i64 ((0:Int) - b0_3):Int),()),((),((b0_0,(b0_1,(b0_2,(b0_3,(b0_4,()))))),((((List.getD b1_0 (Int.toNat x3) ((0:Int),(0:Int),(0:Int),())).1:Int),(((List.getD b1_0 (Int.toNat x3) ((0:Int),(0:Int),(0:Int),())).2.1:Int),(((List.getD b1_0 (Int.toNat x3) ((0:Int),(0:Int),(0:Int),())).2.2.1:Int),()))),((b1_0,()),((),((((List.getD b1_0 (Int.toNat x3) ((0:Int),(0:Int),(0:Int),())).1:Int),(((List.getD b1_0 (Int.toNat x3) ((0:Int),(0:Int),(0:Int),())).2.1:Int),(((List.getD b1_0 (Int.toNat x3) ((0:Int),(0:Int),(0:Int),())).2.2.1:Int),()))),(b3,()))))))))))
            (let r3:=b162_0 (((Go.IntKind.wrap Go.IntKind.i64 ((0:Int) - b0_3):Int),()),((),((b0_0,(b0_1,(b0_2,(b0_3,(b0_4,()))))),((((List.getD b1_0 (Int.toNat x3) ((0:Int),(0:Int),(0:Int),())).1:Int),(((List.getD b1_0 (Int.toNat x3) ((0:Int),(0:Int),(0:Int),())).2.1:Int),(((List.getD b1_0 (Int.toNat x3) ((0:Int),(0:Int),(0:Int),())).2.2.1:Int),()))),((b1_0,()),((),((((List.getD b1_0 (Int.toNat x3) ((0:Int),(0:Int),(0:Int),())).1:Int),(((List.getD b1_0 (Int.toNat x3) ((0:Int),(0:Int),(0:Int),())).2.1:Int),(((List.getD b1_0 (Int.toNat x3) ((0:Int),(0:Int),(0:Int),())).2.2.1:Int),()))),(b3,()))))))));
            Tr.fin (.again (((wrap64 (x3 + (1:Int)):Int),()),((b0_0,(b0_1,(b0_2,(b0_3,(b0_4,()))))),((r3.2.2.2.2.1.1,()),((),((r3.2.2.2.2.2.2.2.1:List ((Int×Int×Int×PUnit)×Int×Int×Int×PUnit)),())))))))
            (Tr.stop)))
        (Tr.stop))
      (Tr.stop))
    (Tr.fin (.brk ((),((b0_0,(b0_1,(b0_2,(b0_3,(b0_4,()))))),((b1_0,()),((),(b3,())))))))
def s119_0 (d:sh119_0.data):Option (Out sh119_0.data shb119_0.data shr119_0.data):=(t119_0 d.1.1 d.2.1.1 d.2.1.2.1 d.2.1.2.2.1 d.2.1.2.2.2.1 d.2.1.2.2.2.2.1 d.2.2.1.1 d.2.2.2.2.1).val
def l119_0 (d:sh119_0.data):Option (shb119_0.data ⊕ shr119_0.data):=itr s119_0 rounds d
def b119_0 (d:sh119_0.data):shb119_0.data:=outB shb119_0.dflt (l119_0 d)
def r119_0 (d:sh119_0.data):shr119_0.data:=outR shr119_0.dflt (l119_0 d)
def lc119_0:LoopC:=lcOf sh119_0 shb119_0 shr119_0 l119_0 b119_0 r119_0
theorem e119_0_0 (x3:Int) (b0_0:Int) (b0_1:Int) (b0_2:Int) (b0_3:Int) (b0_4:Int) (b1_0:(List (Int×(Int×(Int×Unit))))) (b3:(List ((Int×(Int×(Int×Unit)))×(Int×(Int×(Int×Unit)))))):qap (kl162_0 Proofs.Tryz.prog).orc Proofs.Tryz.prog 400 119 0 sh119_0 shb119_0 shr119_0 ((x3,()),(b0_0,b0_1,b0_2,b0_3,b0_4,()),(b1_0,()),(),b3,()) [tt,tt,tt,tt,tt,tt,tt,tt,tt,tt] =
    (let r0:=g122 ((((List.getD b1_0 (Int.toNat x3) ((0:Int),(0:Int),(0:Int),())).1:Int),(((List.getD b1_0 (Int.toNat x3) ((0:Int),(0:Int),(0:Int),())).2.1:Int),(((List.getD b1_0 (Int.toNat x3) ((0:Int),(0:Int),(0:Int),())).2.2.1:Int),()))),());let r1:=b161_0 ((([]:List Int),()),(b3,((((List.getD b1_0 (Int.toNat x3) ((0:Int),(0:Int),(0:Int),())).1:Int),(((List.getD b1_0 (Int.toNat x3) ((0:Int),(0:Int),(0:Int),())).2.1:Int),(((List.getD b1_0 (Int.toNat x3) ((0:Int),(0:Int),(0:Int),())).2.2.1:Int),()))),())));let r2:=b155_0 (((List.length r1.1.1:Nat),((0:Int),((wrap64 ((↑(List.length r1.1.1):Int) - (1:Int)):Int),()))),(r1.1.1,())); some (.ret ((r2.2.1,(true,())),((b0_0,(b0_1,(b0_2,(b0_3,(b0_4,()))))),((b1_0,()),((),((r1.2.1:List ((Int×Int×Int×PUnit)×Int×Int×Int×PUnit)),()))))),[(Nat.beq (List.length r1.1.1) (List.length r2.2.1),true),(true,true),(qc2 (l155_0 (((List.length r1.1.1:Nat),((0:Int),((wrap64 ((↑(List.length r1.1.1):Int) - (1:Int)):Int),()))),(r1.1.1,()))),true),(Nat.ble (1:Nat) (List.length r1.1.1),true),(true,true),(qc2 (l161_0 ((([]:List Int),()),(b3,((((List.getD b1_0 (Int.toNat x3) ((0:Int),(0:Int),(0:Int),())).1:Int),(((List.getD b1_0 (Int.toNat x3) ((0:Int),(0:Int),(0:Int),())).2.1:Int),(((List.getD b1_0 (Int.toNat x3) ((0:Int),(0:Int),(0:Int),())).2.2.1:Int),()))),())))),true),(r0.1,true),(Option.isSome (f122 ((((List.getD b1_0 (Int.toNat x3) ((0:Int),(0:Int),(0:Int),())).1:Int),(((List.getD b1_0 (Int.toNat x3) ((0:Int),(0:Int),(0:Int),())).2.1:Int),(((List.getD b1_0 (Int.toNat x3) ((0:Int),(0:Int),(0:Int),())).2.2.1:Int),()))),())),true),(decide ((0:Int) ≤ x3) && decide (x3 < (↑(List.length b1_0):Int)),true),(!leF (↑(List.length b1_0):Int) x3,true)])):=by kernel_rfl
theorem e119_0_1 (x3:Int) (b0_0:Int) (b0_1:Int) (b0_2:Int) (b0_3:Int) (b0_4:Int) (b1_0:(List (Int×(Int×(Int×Unit))))) (b3:(List ((Int×(Int×(Int×Unit)))×(Int×(Int×(Int×Unit)))))):qap (kl162_0 Proofs.Tryz.prog).orc Proofs.Tryz.prog 400 119 0 sh119_0 shb119_0 shr119_0 ((x3,()),(b0_0,b0_1,b0_2,b0_3,b0_4,()),(b1_0,()),(),b3,()) [tt,tt,tt,tt,tt,tt,tt,tt,tt,ff,tt] =
    (let r0:=g122 ((((List.getD b1_0 (Int.toNat x3) ((0:Int),(0:Int),(0:Int),())).1:Int),(((List.getD b1_0 (Int.toNat x3) ((0:Int),(0:Int),(0:Int),())).2.1:Int),(((List.getD b1_0 (Int.toNat x3) ((0:Int),(0:Int),(0:Int),())).2.2.1:Int),()))),());let r1:=b161_0 ((([]:List Int),()),(b3,((((List.getD b1_0 (Int.toNat x3) ((0:Int),(0:Int),(0:Int),())).1:Int),(((List.getD b1_0 (Int.toNat x3) ((0:Int),(0:Int),(0:Int),())).2.1:Int),(((List.getD b1_0 (Int.toNat x3) ((0:Int),(0:Int),(0:Int),())).2.2.1:Int),()))),())));let r2:=b155_0 (((List.length r1.1.1:Nat),((0:Int),((wrap64 ((↑(List.length r1.1.1):Int) - (1:Int)):Int),()))),(r1.1.1,())); some (.ret (((List.take (List.length r1.1.1) r2.2.1:List Int),(true,())),((b0_0,(b0_1,(b0_2,(b0_3,(b0_4,()))))),((b1_0,()),((),((r1.2.1:List ((Int×Int×Int×PUnit)×Int×Int×Int×PUnit)),()))))),[(Nat.ble (List.length r1.1.1) (List.length r2.2.1),true),(Nat.beq (List.length r1.1.1) (List.length r2.2.1),false),(true,true),(qc2 (l155_0 (((List.length r1.1.1:Nat),((0:Int),((wrap64 ((↑(List.length r1.1.1):Int) - (1:Int)):Int),()))),(r1.1.1,()))),true),(Nat.ble (1:Nat) (List.length r1.1.1),true),(true,true),(qc2 (l161_0 ((([]:List Int),()),(b3,((((List.getD b1_0 (Int.toNat x3) ((0:Int),(0:Int),(0:Int),())).1:Int),(((List.getD b1_0 (Int.toNat x3) ((0:Int),(0:Int),(0:Int),())).2.1:Int),(((List.getD b1_0 (Int.toNat x3) ((0:Int),(0:Int),(0:Int),())).2.2.1:Int),()))),())))),true),(r0.1,true),(Option.isSome (f122 ((((List.getD b1_0 (Int.toNat x3) ((0:Int),(0:Int),(0:Int),())).1:Int),(((List.getD b1_0 (Int.toNat x3) ((0:Int),(0:Int),(0:Int),())).2.1:Int),(((List.getD b1_0 (Int.toNat x3) ((0:Int),(0:Int),(0:Int),())).2.2.1:Int),()))),())),true),(decide ((0:Int) ≤ x3) && decide (x3 < (↑(List.length b1_0):Int)),true),(!leF (↑(List.length b1_0):Int) x3,true)])):=by kernel_rfl
theorem e119_0_3 (x3:Int) (b0_0:Int) (b0_1:Int) (b0_2:Int) (b0_3:Int) (b0_4:Int) (b1_0:(List (Int×(Int×(Int×Unit))))) (b3:(List ((Int×(Int×(Int×Unit)))×(Int×(Int×(Int×Unit)))))):qap (kl162_0 Proofs.Tryz.prog).orc Proofs.Tryz.prog 400 119 0 sh119_0 shb119_0 shr119_0 ((x3,()),(b0_0,b0_1,b0_2,b0_3,b0_4,()),(b1_0,()),(),b3,()) [tt,tt,tt,tt,tt,tt,ff,tt,tt] =
    (let r0:=g122 ((((List.getD b1_0 (Int.toNat x3) ((0:Int),(0:Int),(0:Int),())).1:Int),(((List.getD b1_0 (Int.toNat x3) ((0:Int),(0:Int),(0:Int),())).2.1:Int),(((List.getD b1_0 (Int.toNat x3) ((0:Int),(0:Int),(0:Int),())).2.2.1:Int),()))),());let r1:=b161_0 ((([]:List Int),()),(b3,((((List.getD b1_0 (Int.toNat x3) ((0:Int),(0:Int),(0:Int),())).1:Int),(((List.getD b1_0 (Int.toNat x3) ((0:Int),(0:Int),(0:Int),())).2.1:Int),(((List.getD b1_0 (Int.toNat x3) ((0:Int),(0:Int),(0:Int),())).2.2.1:Int),()))),()))); some (.ret ((r1.1.1,(true,())),((b0_0,(b0_1,(b0_2,(b0_3,(b0_4,()))))),((b1_0,()),((),((r1.2.1:List ((Int×Int×Int×PUnit)×Int×Int×Int×PUnit)),()))))),[(true,true),(qc2 (l155_0_1 ((r1.1.1,((0:Int),((wrap64 ((↑(List.length r1.1.1):Int) - (1:Int)):Int),()))),())),true),(Nat.ble (1:Nat) (List.length r1.1.1),false),(true,true),(qc2 (l161_0 ((([]:List Int),()),(b3,((((List.getD b1_0 (Int.toNat x3) ((0:Int),(0:Int),(0:Int),())).1:Int),(((List.getD b1_0 (Int.toNat x3) ((0:Int),(0:Int),(0:Int),())).2.1:Int),(((List.getD b1_0 (Int.toNat x3) ((0:Int),(0:Int),(0:Int),())).2.2.1:Int),()))),())))),true),(r0.1,true),(Option.isSome (f122 ((((List.getD b1_0 (Int.toNat x3) ((0:Int),(0:Int),(0:Int),())).1:Int),(((List.getD b1_0 (Int.toNat x3) ((0:Int),(0:Int),(0:Int),())).2.1:Int),(((List.getD b1_0 (Int.toNat x3) ((0:Int),(0:Int),(0:Int),())).2.2.1:Int),()))),())),true),(decide ((0:Int) ≤ x3) && decide (x3 < (↑(List.length b1_0):Int)),true),(!leF (↑(List.length b1_0):Int) x3,true)])):=by kernel_rfl
theorem e119_0_4 (x3:Int) (b0_0:Int) (b0_1:Int) (b0_2:Int) (b0_3:Int) (b0_4:Int) (b1_0:(List (Int×(Int×(Int×Unit))))) (b3:(List ((Int×(Int×(Int×Unit)))×(Int×(Int×(Int×Unit)))))):qap (kl162_0 Proofs.Tryz.prog).orc Proofs.Tryz.prog 400 119 0 sh119_0 shb119_0 shr119_0 ((x3,()),(b0_0,b0_1,b0_2,b0_3,b0_4,()),(b1_0,()),(),b3,()) [tt,tt,tt,ff,tt,tt,tt,tt] =
    (let r0:=g122 ((((List.getD b1_0 (Int.toNat x3) ((0:Int),(0:Int),(0:Int),())).1:Int),(((List.getD b1_0 (Int.toNat x3) ((0:Int),(0:Int),(0:Int),())).2.1:Int),(((List.getD b1_0 (Int.toNat x3) ((0:Int),(0:Int),(0:Int),())).2.2.1:Int),()))),());let r3:=b162_0 (((Go.IntKind.wrap Go.IntKind.i64 ((0:Int) - b0_3):Int),()),((),((b0_0,(b0_1,(b0_2,(b0_3,(b0_4,()))))),((((List.getD b1_0 (Int.toNat x3) ((0:Int),(0:Int),(0:Int),())).1:Int),(((List.getD b1_0 (Int.toNat x3) ((0:Int),(0:Int),(0:Int),())).2.1:Int),(((List.getD b1_0 (Int.toNat x3) ((0:Int),(0:Int),(0:Int),())).2.2.1:Int),()))),((b1_0,()),((),((((List.getD b1_0 (Int.toNat x3) ((0:Int),(0:Int),(0:Int),())).1:Int),(((List.getD b1_0 (Int.toNat x3) ((0:Int),(0:Int),(0:Int),())).2.1:Int),(((List.getD b1_0 (Int.toNat x3) ((0:Int),(0:Int),(0:Int),())).2.2.1:Int),()))),(b3,())))))))); some (.again (((wrap64 (x3 + (1:Int)):Int),()),((b0_0,(b0_1,(b0_2,(b0_3,(b0_4,()))))),((r3.2.2.2.2.1.1,()),((),((r3.2.2.2.2.2.2.2.1:List ((Int×Int×Int×PUnit)×Int×Int×Int×PUnit)),()))))),[(true,true),(qc2 (l162_0 (((Go.IntKind.wrap Go.IntKind.i64 ((0:Int) - b0_3):Int),()),((),((b0_0,(b0_1,(b0_2,(b0_3,(b0_4,()))))),((((List.getD b1_0 (Int.toNat x3) ((0:Int),(0:Int),(0:Int),())).1:Int),(((List.getD b1_0 (Int.toNat x3) ((0:Int),(0:Int),(0:Int),())).2.1:Int),(((List.getD b1_0 (Int.toNat x3) ((0:Int),(0:Int),(0:Int),())).2.2.1:Int),()))),((b1_0,()),((),((((List.getD b1_0 (Int.toNat x3) ((0:Int),(0:Int),(0:Int),())).1:Int),(((List.getD b1_0 (Int.toNat x3) ((0:Int),(0:Int),(0:Int),())).2.1:Int),(((List.getD b1_0 (Int.toNat x3) ((0:Int),(0:Int),(0:Int),())).2.2.1:Int),()))),(b3,()))))))))),true),(qcM Proofs.Tryz.prog (nat_lit 119) (nat_lit 0),true),(true,true),(r0.1,false),(Option.isSome (f122 ((((List.getD b1_0 (Int.toNat x3) ((0:Int),(0:Int),(0:Int),())).1:Int),(((List.getD b1_0 (Int.toNat x3) ((0:Int),(0:Int),(0:Int),())).2.1:Int),(((List.getD b1_0 (Int.toNat x3) ((0:Int),(0:Int),(0:Int),())).2.2.1:Int),()))),())),true),(decide ((0:Int) ≤ x3) && decide (x3 < (↑(List.length b1_0):Int)),true),(!leF (↑(List.length b1_0):Int) x3,true)])):=by kernel_rfl
theorem e119_0_6 (x3:Int) (b0_0:Int) (b0_1:Int) (b0_2:Int) (b0_3:Int) (b0_4:Int) (b1_0:(List (Int×(Int×(Int×Unit))))) (b3:(List ((Int×(Int×(Int×Unit)))×(Int×(Int×(Int×Unit)))))):qap (kl162_0 Proofs.Tryz.prog).orc Proofs.Tryz.prog 400 119 0 sh119_0 shb119_0 shr119_0 ((x3,()),(b0_0,b0_1,b0_2,b0_3,b0_4,()),(b1_0,()),(),b3,()) [ff] =
    (some (.brk ((),((b0_0,(b0_1,(b0_2,(b0_3,(b0_4,()))))),((b1_0,()),((),(b3,()))))),[(!leF (↑(List.length b1_0):Int) x3,false)])):=by kernel_rfl
theorem ok119_0_t (x3:Int) (b0_0:Int) (b0_1:Int) (b0_2:Int) (b0_3:Int) (b0_4:Int) (b1_0:(List (Int×(Int×(Int×Unit))))) (b3:(List ((Int×(Int×(Int×Unit)))×(Int×(Int×(Int×Unit)))))):TrOk (BodyRuns Proofs.Tryz.prog (kl162_0 Proofs.Tryz.prog).orc 119 0 sh119_0 shb119_0 shr119_0 ((x3,()),(b0_0,b0_1,b0_2,b0_3,b0_4,()),(b1_0,()),(),b3,())) (t119_0 x3 b0_0 b0_1 b0_2 b0_3 b0_4 b1_0 b3) :=
  TrOk.ofTest (fun h0=>TrOk.ofTest (fun h1=>TrOk.ofTest (fun h2=>TrOk.ofTest (fun h3=>TrOk.ofTest (fun h4=>TrOk.ofTest (fun h6=>TrOk.ofTest (fun h7=>TrOk.ofTest (fun h9=>TrOk.ofFin (BodyRuns.of (e119_0_0 x3 b0_0 b0_1 b0_2 b0_3 b0_4 b1_0 b3) (ac h9 (ac rfl (ac h7 (ac h6 (ac rfl (ac h4 (ac h3 (ac h2 (ac h1 (ac h0 All.nil)))))))))))) (fun h9=>TrOk.ofTest (fun h10=>TrOk.ofFin (BodyRuns.of (e119_0_1 x3 b0_0 b0_1 b0_2 b0_3 b0_4 b1_0 b3) (ac h10 (ac h9 (ac rfl (ac h7 (ac h6 (ac rfl (ac h4 (ac h3 (ac h2 (ac h1 (ac h0 All.nil))))))))))))) (fun h10=>TrOk.ofStop))) (fun h7=>TrOk.ofStop)) (fun h6=>TrOk.ofTest (fun h7=>TrOk.ofFin (BodyRuns.of (e119_0_3 x3 b0_0 b0_1 b0_2 b0_3 b0_4 b1_0 b3) (ac rfl (ac h7 (ac h6 (ac rfl (ac h4 (ac h3 (ac h2 (ac h1 (ac h0 All.nil))))))))))) (fun h7=>TrOk.ofStop))) (fun h4=>TrOk.ofStop)) (fun h3=>TrOk.ofTest (fun h6=>TrOk.ofFin (BodyRuns.of (e119_0_4 x3 b0_0 b0_1 b0_2 b0_3 b0_4 b1_0 b3) (ac rfl (ac h6 (ac (sc119_0) (ac rfl (ac h3 (ac h2 (ac h1 (ac h0 All.nil)))))))))) (fun h6=>TrOk.ofStop))) (fun h2=>TrOk.ofStop)) (fun h1=>TrOk.ofStop)) (fun h0=>TrOk.ofFin (BodyRuns.of (e119_0_6 x3 b0_0 b0_1 b0_2 b0_3 b0_4 b1_0 b3) (ac h0 All.nil)))
theorem ok119_0:qba Proofs.Tryz.prog 119 0 lc119_0:=qca (sh:=sh119_0) (shB:=shb119_0) (shR:=shr119_0) kl162_0_ok.base (T:=fun (d:sh119_0.data)=>t119_0 d.1.1 d.2.1.1 d.2.1.2.1 d.2.1.2.2.1 d.2.1.2.2.2.1 d.2.1.2.2.2.2.1 d.2.2.1.1 d.2.2.2.2.1) (by kernel_rfl) rfl (fun (d:sh119_0.data)=>ok119_0_t d.1.1 d.2.1.1 d.2.1.2.1 d.2.1.2.2.1 d.2.1.2.2.2.1 d.2.1.2.2.2.2.1 d.2.2.1.1 d.2.2.2.2.1) (fun _=>rfl)
def kl119_0 (P:Go.Program):Known:=(kl162_0 P).loop 119 0 lc119_0
theorem kl119_0_ok:KnownOk Proofs.Tryz.prog (kl119_0 Proofs.Tryz.prog):=kl162_0_ok.loop ok119_0
abbrev as119:List Ty:=[(.pair (.pair (.pair (.int .i64) (.pair (.int .i64) .unit)) (.pair (.int .i64) (.pair (.int .i64) (.pair (.int .i64) .unit)))) .unit),(.pair (.int .i64) (.pair (.int .i64) (.pair (.int .i64) .unit)))]
abbrev rs119:List Ty:=[(.slice (.int .i64)),.bool]
def t119 (x0__:Int) (x0__':Int) (x0_':Int) (x0_'':Int) (x0_''':Int) (x1:Int) (x1':Int) (x1'':Int):Tr (Tys.data rs119) :=
  Tr.test (Option.isSome (l119_0 (((0:Int),()),((x0__,(x0__',(x0_',(x0_'',(x0_''',()))))),((([(x1,x1',x1'',())]:List (Int×Int×Int×PUnit)),()),((),((mput (k:=MT) (v:=MT) [] (x1,x1',x1'',()) (x1,x1',x1'',()):List (Ty.data (Ty.pair (Ty.int Go.IntKind.i64) (Ty.pair (Ty.int Go.IntKind.i64) (Ty.pair (Ty.int Go.IntKind.i64) Ty.unit)))×Ty.data (Ty.pair (Ty.int Go.IntKind.i64) (Ty.pair (Ty.int Go.IntKind.i64) (Ty.pair (Ty.int Go.IntKind.i64) Ty.unit))))),())))))))
    (Tr.test (qbT (l119_0 (((0:Int),()),((x0__,(x0__',(x0_',(x0_'',(x0_''',()))))),((([(x1,x1',x1'',())]:List (Int×Int×Int×PUnit)),()),((),((mput (k:=MT) (v:=MT) [] (x1,x1',x1'',()) (x1,x1',x1'',()):List (Ty.data (Ty.pair (Ty.int Go.IntKind.i64) (Ty.pair (Ty.int Go.IntKind.i64) (Ty.pair (Ty.int Go.IntKind.i64) Ty.unit)))×Ty.data (Ty.pair (Ty.int Go.IntKind.i64) (Ty.pair (Ty.int Go.IntKind.i64) (Ty.pair (Ty.int Go.IntKind.i64) Ty.unit))))),())))))))
      (let r0:=r119_0 (((0:Int),()),((x0__,(x0__',(x0_',(x0_'',(x0_''',()))))),((([(x1,x1',x1'',())]:List (Int×Int×Int×PUnit)),()),((),((mput (k:=MT) (v:=MT) [] (x1,x1',x1'',()) (x1,x1',x1'',()):List (Ty.data (Ty.pair (Ty.int Go.IntKind.i64) (Ty.pair (Ty.int Go.IntKind.i64) (Ty.pair (Ty.int Go.IntKind.i64) Ty.unit)))×Ty.data (Ty.pair (Ty.int Go.IntKind.i64) (Ty.pair (Ty.int Go.IntKind.i64) (Ty.pair (Ty.int Go.IntKind.i64) Ty.unit))))),())))));
      Tr.fin ((r0.1.1,(r0.1.2.1,()))))
      (Tr.fin ((([]:List Int),((false:Bool),())))))
    (Tr.stop)
def f119 (d:Tys.data as119):Option (Tys.data rs119):=(t119 d.1.1.1.1 d.1.1.1.2.1 d.1.1.2.1 d.1.1.2.2.1 d.1.1.2.2.2.1 d.2.1.1 d.2.1.2.1 d.2.1.2.2.1).val
def g119 (d:Tys.data as119):Tys.data rs119:=(f119 d).getD (Tys.dflt rs119)
def p119:PureC:=pcOf as119 rs119 f119 g119
theorem wk119 (x0__:Int) (x0__':Int) (x0_':Int) (x0_'':Int) (x0_''':Int) (x1:Int) (x1':Int) (x1'':Int):Walks (runPure (kl119_0 Proofs.Tryz.prog).orc Proofs.Tryz.prog 400 119 as119 rs119 ((((x0__,x0__',()),x0_',x0_'',x0_''',()),()),(x1,x1',x1'',()),())) (t119 x0__ x0__' x0_' x0_'' x0_''' x1 x1' x1'') [(bl 2 3,[2,4]),(bl 2 1,[2,4])] :=
  ⟨by kernel_rfl,by kernel_rfl,trivial⟩
theorem ok119_t (x0__:Int) (x0__':Int) (x0_':Int) (x0_'':Int) (x0_''':Int) (x1:Int) (x1':Int) (x1'':Int):TrOk (PureRuns Proofs.Tryz.prog (kl119_0 Proofs.Tryz.prog).orc 119 as119 rs119 ((((x0__,x0__',()),x0_',x0_'',x0_''',()),()),(x1,x1',x1'',()),())) (t119 x0__ x0__' x0_' x0_'' x0_''' x1 x1' x1'') :=
  Walks.ok (fun _ _ _=>PureRuns.of) (wk119 x0__ x0__' x0_' x0_'' x0_''' x1 x1' x1'') (by kernel_rfl)
theorem ok119:PureOk Proofs.Tryz.prog 119 p119:=qag kl119_0_ok.base (T:=fun (d:Tys.data as119)=>t119 d.1.1.1.1 d.1.1.1.2.1 d.1.1.2.1 d.1.1.2.2.1 d.1.1.2.2.2.1 d.2.1.1 d.2.1.2.1 d.2.1.2.2.1) (by kernel_rfl) (fun (d:Tys.data as119)=>ok119_t d.1.1.1.1 d.1.1.1.2.1 d.1.1.2.1 d.1.1.2.2.1 d.1.1.2.2.2.1 d.2.1.1 d.2.1.2.1 d.2.1.2.2.1)
def kf119 (P:Go.Program):Known:=(kl119_0 P).func 119 p119
theorem kf119_ok:KnownOk Proofs.Tryz.prog (kf119 Proofs.Tryz.prog):=kl119_0_ok.func ok119
abbrev as40:List Ty:=[(.pair (.pair (.int .i64) (.pair (.int .i64) .unit)) (.pair (.int .i64) (.pair (.int .i64) (.pair (.int .i64) .unit)))),(.pair (.int .i64) (.pair (.int .i64) (.pair (.int .i64) .unit)))]
abbrev rs40:List Ty:=[(.slice (.int .i64)),(.int .i64)]
def t40 (x0_:Int) (x0_':Int) (x0':Int) (x0'':Int) (x0''':Int) (x1:Int) (x1':Int) (x1'':Int):Tr (Tys.data rs40) :=
  Tr.test (Option.isSome (f118 (((x0_,(x0_',())),(x0',(x0'',(x0''',())))),((x1,(x1',(x1'',()))),()))))
    (let r0:=g118 (((x0_,(x0_',())),(x0',(x0'',(x0''',())))),((x1,(x1',(x1'',()))),()));
    Tr.test ((!eqF r0.2.1 0:Bool))
      (Tr.fin ((([]:List Int),(r0.2.1,()))))
      (Tr.test (Option.isSome (f119 ((((r0.1.1.1.1,(r0.1.1.1.2.1,())),(r0.1.1.2.1,(r0.1.1.2.2.1,(r0.1.1.2.2.2.1,())))),()),((x1,(x1',(x1'',()))),()))))
        (let r1:=g119 ((((r0.1.1.1.1,(r0.1.1.1.2.1,())),(r0.1.1.2.1,(r0.1.1.2.2.1,(r0.1.1.2.2.2.1,())))),()),((x1,(x1',(x1'',()))),()));
        Tr.test (Option.isSome (f80 ((!r1.2.1:Bool),((12:Int),()))))
          (let r2:=g80 ((!r1.2.1:Bool),((12:Int),()));
          Tr.fin ((r1.1,(r2.1,()))))
          (Tr.stop))
        (Tr.stop)))
    (Tr.stop)
def f40 (d:Tys.data as40):Option (Tys.data rs40):=(t40 d.1.1.1 d.1.1.2.1 d.1.2.1 d.1.2.2.1 d.1.2.2.2.1 d.2.1.1 d.2.1.2.1 d.2.1.2.2.1).val
def g40 (d:Tys.data as40):Tys.data rs40:=(f40 d).getD (Tys.dflt rs40)
def p40:PureC:=pcOf as40 rs40 f40 g40
theorem wk40 (x0_:Int) (x0_':Int) (x0':Int) (x0'':Int) (x0''':Int) (x1:Int) (x1':Int) (x1'':Int):Walks (runPure (kf119 Proofs.Tryz.prog).orc Proofs.Tryz.prog 400 40 as40 rs40 (((x0_,x0_',()),x0',x0'',x0''',()),(x1,x1',x1'',()),())) (t40 x0_ x0_' x0' x0'' x0''' x1 x1' x1'') [(bl 2 3,[2,4]),(bl 4 13,[2,4,6,8])] :=
  ⟨by kernel_rfl,by kernel_rfl,trivial⟩
theorem ok40_t (x0_:Int) (x0_':Int) (x0':Int) (x0'':Int) (x0''':Int) (x1:Int) (x1':Int) (x1'':Int):TrOk (PureRuns Proofs.Tryz.prog (kf119 Proofs.Tryz.prog).orc 40 as40 rs40 (((x0_,x0_',()),x0',x0'',x0''',()),(x1,x1',x1'',()),())) (t40 x0_ x0_' x0' x0'' x0''' x1 x1' x1'') :=
  Walks.ok (fun _ _ _=>PureRuns.of) (wk40 x0_ x0_' x0' x0'' x0''' x1 x1' x1'') (by kernel_rfl)
theorem ok40:PureOk Proofs.Tryz.prog 40 p40:=qag kf119_ok.base (T:=fun (d:Tys.data as40)=>t40 d.1.1.1 d.1.1.2.1 d.1.2.1 d.1.2.2.1 d.1.2.2.2.1 d.2.1.1 d.2.1.2.1 d.2.1.2.2.1) (by kernel_rfl) (fun (d:Tys.data as40)=>ok40_t d.1.1.1 d.1.1.2.1 d.1.2.1 d.1.2.2.1 d.1.2.2.2.1 d.2.1.1 d.2.1.2.1 d.2.1.2.2.1)
def kf40 (P:Go.Program):Known:=(kf119 P).func 40 p40
theorem kf40_ok:KnownOk Proofs.Tryz.prog (kf40 Proofs.Tryz.prog):=kf119_ok.func ok40
abbrev as41:List Ty:=[(.pair (.pair (.int .i64) (.pair (.int .i64) .unit)) (.pair (.int .i64) (.pair (.int .i64) (.pair (.int .i64) .unit)))),(.pair (.int .i64) (.pair (.int .i64) (.pair (.int .i64) .unit)))]
abbrev rs41:List Ty:=[.bool,(.int .i64)]
def t41 (x0_:Int) (x0_':Int) (x0':Int) (x0'':Int) (x0''':Int) (x1:Int) (x1':Int) (x1'':Int):Tr (Tys.data rs41) :=
  Tr.test (Option.isSome (f118 (((x0_,(x0_',())),(x0',(x0'',(x0''',())))),((x1,(x1',(x1'',()))),()))))
    (let r0:=g118 (((x0_,(x0_',())),(x0',(x0'',(x0''',())))),((x1,(x1',(x1'',()))),()));
    Tr.test ((!eqF r0.2.1 0:Bool))
      (Tr.fin (((false:Bool),(r0.2.1,()))))
      (Tr.test (Option.isSome (f119 ((((r0.1.1.1.1,(r0.1.1.1.2.1,())),(r0.1.1.2.1,(r0.1.1.2.2.1,(r0.1.1.2.2.2.1,())))),()),((x1,(x1',(x1'',()))),()))))
        (let r1:=g119 ((((r0.1.1.1.1,(r0.1.1.1.2.1,())),(r0.1.1.2.1,(r0.1.1.2.2.1,(r0.1.1.2.2.2.1,())))),()),((x1,(x1',(x1'',()))),()));
        Tr.fin ((r1.2.1,((0:Int),()))))
        (Tr.stop)))
    (Tr.stop)
def f41 (d:Tys.data as41):Option (Tys.data rs41):=(t41 d.1.1.1 d.1.1.2.1 d.1.2.1 d.1.2.2.1 d.1.2.2.2.1 d.2.1.1 d.2.1.2.1 d.2.1.2.2.1).val
def g41 (d:Tys.data as41):Tys.data rs41:=(f41 d).getD (Tys.dflt rs41)
def p41:PureC:=pcOf as41 rs41 f41 g41
theorem wk41 (x0_:Int) (x0_':Int) (x0':Int) (x0'':Int) (x0''':Int) (x1:Int) (x1':Int) (x1'':Int):Walks (runPure (kf40 Proofs.Tryz.prog).orc Proofs.Tryz.prog 400 41 as41 rs41 (((x0_,x0_',()),x0',x0'',x0''',()),(x1,x1',x1'',()),())) (t41 x0_ x0_' x0' x0'' x0''' x1 x1' x1'') [(bl 2 3,[2,4]),(bl 3 5,[2,4,6])] :=
  ⟨by kernel_rfl,by kernel_rfl,trivial⟩
theorem ok41_t (x0_:Int) (x0_':Int) (x0':Int) (x0'':Int) (x0''':Int) (x1:Int) (x1':Int) (x1'':Int):TrOk (PureRuns Proofs.Tryz.prog (kf40 Proofs.Tryz.prog).orc 41 as41 rs41 (((x0_,x0_',()),x0',x0'',x0''',()),(x1,x1',x1'',()),())) (t41 x0_ x0_' x0' x0'' x0''' x1 x1' x1'') :=
  Walks.ok (fun _ _ _=>PureRuns.of) (wk41 x0_ x0_' x0' x0'' x0''' x1 x1' x1'') (by kernel_rfl)
theorem ok41:PureOk Proofs.Tryz.prog 41 p41:=qag kf40_ok.base (T:=fun (d:Tys.data as41)=>t41 d.1.1.1 d.1.1.2.1 d.1.2.1 d.1.2.2.1 d.1.2.2.2.1 d.2.1.1 d.2.1.2.1 d.2.1.2.2.1) (by kernel_rfl) (fun (d:Tys.data as41)=>ok41_t d.1.1.1 d.1.1.2.1 d.1.2.1 d.1.2.2.1 d.1.2.2.2.1 d.2.1.1 d.2.1.2.1 d.2.1.2.2.1)
def kf41 (P:Go.Program):Known:=(kf40 P).func 41 p41
theorem kf41_ok:KnownOk Proofs.Tryz.prog (kf41 Proofs.Tryz.prog):=kf40_ok.func ok41
abbrev as35:List Ty:=[(.slice (.int .i64))]
abbrev rs35:List Ty:=[(.slice (.int .i64))]
def t35 (x0:(List Int)):Tr (Tys.data rs35) :=
  Tr.test ((Nat.ble (((2:Nat) * ((0:Nat) + List.length x0) + (192:Nat)) * (8:Nat)) (281474976710656:Nat) && Nat.ble ((0:Nat) + List.length x0) (281474976710656:Nat):Bool))
    (Tr.fin ((([]++x0:List Int),())))
    (Tr.test (Nat.ble ((0:Nat) + List.length x0) (0:Nat))
      (Tr.stop)
      (Tr.stop))
def f35 (d:Tys.data as35):Option (Tys.data rs35):=(t35 d.1).val
def g35 (d:Tys.data as35):Tys.data rs35:=(f35 d).getD (Tys.dflt rs35)
def p35:PureC:=pcOf as35 rs35 f35 g35
theorem wk35 (x0:(List Int)):Walks (runPure (kf41 Proofs.Tryz.prog).orc Proofs.Tryz.prog 400 35 as35 rs35 (x0,())) (t35 x0) [(bl 1 1,[2])] :=
  ⟨by kernel_rfl,trivial⟩
theorem ok35_t (x0:(List Int)):TrOk (PureRuns Proofs.Tryz.prog (kf41 Proofs.Tryz.prog).orc 35 as35 rs35 (x0,())) (t35 x0) :=
  Walks.ok (fun _ _ _=>PureRuns.of) (wk35 x0) (by kernel_rfl)
theorem ok35:PureOk Proofs.Tryz.prog 35 p35:=qag kf41_ok.base (T:=fun (d:Tys.data as35)=>t35 d.1) (by kernel_rfl) (fun (d:Tys.data as35)=>ok35_t d.1)
def kf35 (P:Go.Program):Known:=(kf41 P).func 35 p35
theorem kf35_ok:KnownOk Proofs.Tryz.prog (kf35 Proofs.Tryz.prog):=kf41_ok.func ok35
end Go.Vm.Mo
