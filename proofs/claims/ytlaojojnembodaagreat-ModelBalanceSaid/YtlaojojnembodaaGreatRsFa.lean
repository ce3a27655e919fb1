import Derived.Test.YtlaojojnembodaaGreatA5
import Derived.KernelRfl
import Derived.Test.YtlaojojnembodaaGreatProg
set_option linter.unusedVariables false
set_option linter.unusedSimpArgs false

namespace Go.Vm.Mo
open Go
set_option linter.unusedVariables false
def kn0 (_:Go.Program):Known:=⟨[],[]⟩
abbrev tt:Bool:=true
abbrev ff:Bool:=false
theorem nn {b v:Bool} (h:(!b) = v):(!b) = !(!v):=qpP (qqv h)
theorem ac {b d:Bool} {r:List (Bool×Bool)} (h:b = d) (t:All r):All ((b, d) :: r):=All.cons h t
theorem plainP:Plain Proofs.Tryz.prog:=by
  have h : (Proofs.Tryz.prog.funcs.toList.all fun fn => !(fn.body.isSome && fn.name == "runtime.NumGoroutine")) = true := by kernel_rfl
  intro f fn hf hb
  have hm:fn ∈ Proofs.Tryz.prog.funcs.toList:=by
    have:=Array.getElem?_eq_some_iff.1 hf
    obtain ⟨hlt,rfl⟩:=this
    simp
  have:=List.all_eq_true.1 h fn hm
  rw [hb] at this
  simpa using this
theorem kn0_ok:KnownOk Proofs.Tryz.prog (kn0 Proofs.Tryz.prog):=⟨plainP,by kernel_rfl,(fun _ h=>by cases h),(fun _ h=>by cases h)⟩
abbrev as5:List Ty:=[]
abbrev rs5:List Ty:=[.bool]
def f5 (_:Tys.data as5):Option (Tys.data rs5):=some (true,())
def g5 (_:Tys.data as5):Tys.data rs5:=(true,())
def p5:PureC:=pcOf as5 rs5 f5 g5
theorem e5:qiq (kn0 Proofs.Tryz.prog).orc Proofs.Tryz.prog 400 5 as5 rs5 () none = some ((true,()),[]):=by kernel_rfl
theorem ok5:PureOk Proofs.Tryz.prog 5 p5:=qh6 kn0_ok.base (by kernel_rfl) e5 All.nil
def kf5 (P:Go.Program):Known:=(kn0 P).func 5 p5
theorem kf5_ok:KnownOk Proofs.Tryz.prog (kf5 Proofs.Tryz.prog):=kn0_ok.func ok5
abbrev sh6_0:Sh:={ n:=23,slots:=[1,3],pats:=[.ptr 0 1 0,.ty (.int .i64)],boxes:=[.row [.ty (.slice (.pair (.int .i64) (.pair (.int .i64) (.pair (.slice (.pair (.int .i64) (.pair (.int .i64) (.pair .bool .unit)))) .unit))))]] }
abbrev shb6_0:Sh:={ n:=23,slots:=[],pats:=[],boxes:=[.row [.ty (.slice (.pair (.int .i64) (.pair (.int .i64) (.pair (.slice (.pair (.int .i64) (.pair (.int .i64) (.pair .bool .unit)))) .unit))))]] }
abbrev shr6_0:Sh:={ n:=23,slots:=[2],pats:=[.ty .bool],boxes:=[.row [.ty (.slice (.pair (.int .i64) (.pair (.int .i64) (.pair (.slice (.pair (.int .i64) (.pair (.int .i64) (.pair .bool .unit)))) .unit))))]] }
def t6_0 (x1:Int) (b0_0:(List (Int×(Int×((List (Int×(Int×(Bool×Unit))))×Unit))))):Tr (Out sh6_0.data shb6_0.data shr6_0.data) :=
  Tr.test ((!leF (↑(List.length b0_0):Int) x1:Bool))
    (Tr.test (decide ((0:Int) ≤ x1) && decide (x1 < (↑(List.length b0_0):Int)))
      (Tr.test ((!leF (↑(List.length (List.getD b0_0 (Int.toNat x1) ((0:Int),(0:Int),[],())).2.2.1):Int) (6:Int):Bool))
        (Tr.fin (.ret (((false:Bool),()),((b0_0,()),()))))
        (Tr.fin (.again (((wrap64 (x1 + (1:Int)):Int),()),((b0_0,()),())))))
      (Tr.stop))
    (Tr.fin (.brk ((),((b0_0,()),()))))
def s6_0 (d:sh6_0.data):Option (Out sh6_0.data shb6_0.data shr6_0.data):=(t6_0 d.1.1 d.2.1.1).val
def l6_0 (d:sh6_0.data):Option (shb6_0.data ⊕ shr6_0.data):=itr s6_0 rounds d
def b6_0 (d:sh6_0.data):shb6_0.data:=outB shb6_0.dflt (l6_0 d)
def r6_0 (d:sh6_0.data):shr6_0.data:=outR shr6_0.dflt (l6_0 d)
def lc6_0:LoopC:=lcOf sh6_0 shb6_0 shr6_0 l6_0 b6_0 r6_0
theorem wk6_0 (x1:Int) (b0_0:(List (Int×(Int×((List (Int×(Int×(Bool×Unit))))×Unit))))):Walks (qak (kf5 Proofs.Tryz.prog).orc Proofs.Tryz.prog 400 6 0 sh6_0 shb6_0 shr6_0 ((x1,()),(b0_0,()),())) (t6_0 x1 b0_0) [(bl 3 7,[2,4,6]),(bl 3 3,[2,4,6]),(bl 1 0,[2])] :=
  ⟨by kernel_rfl,by kernel_rfl,by kernel_rfl,trivial⟩
theorem ok6_0_t (x1:Int) (b0_0:(List (Int×(Int×((List (Int×(Int×(Bool×Unit))))×Unit))))):TrOk (BodyRuns Proofs.Tryz.prog (kf5 Proofs.Tryz.prog).orc 6 0 sh6_0 shb6_0 shr6_0 ((x1,()),(b0_0,()),())) (t6_0 x1 b0_0) :=
  Walks.ok (fun _ _ _=>BodyRuns.of) (wk6_0 x1 b0_0) (by kernel_rfl)
theorem ok6_0:qaw Proofs.Tryz.prog 6 0 lc6_0:=qas (sh:=sh6_0) (shB:=shb6_0) (shR:=shr6_0) kf5_ok.base (T:=fun (d:sh6_0.data)=>t6_0 d.1.1 d.2.1.1) (by kernel_rfl) rfl (fun (d:sh6_0.data)=>ok6_0_t d.1.1 d.2.1.1) (fun _=>rfl)
def kl6_0 (P:Go.Program):Known:=(kf5 P).loop 6 0 lc6_0
theorem kl6_0_ok:KnownOk Proofs.Tryz.prog (kl6_0 Proofs.Tryz.prog):=kf5_ok.loop ok6_0
abbrev as6:List Ty:=[(.pair (.slice (.pair (.int .i64) (.pair (.int .i64) (.pair (.slice (.pair (.int .i64) (.pair (.int .i64) (.pair .bool .unit)))) .unit)))) .unit)]
abbrev rs6:List Ty:=[.bool]
def t6 (x0:(List (Int×(Int×((List (Int×(Int×(Bool×Unit))))×Unit))))):Tr (Tys.data rs6) :=
  Tr.test ((!leF (↑(List.length x0):Int) (7:Int):Bool))
    (Tr.fin ((false,())))
    (Tr.test (Option.isSome (l6_0 (((0:Int),()),((x0,()),()))))
      (Tr.test (qaA (l6_0 (((0:Int),()),((x0,()),()))))
        (let r0:=r6_0 (((0:Int),()),((x0,()),()));
        Tr.fin ((r0.1.1,())))
        (Tr.fin (((true:Bool),()))))
      (Tr.stop))
def f6 (d:Tys.data as6):Option (Tys.data rs6):=(t6 d.1.1).val
def g6 (d:Tys.data as6):Tys.data rs6:=(f6 d).getD (Tys.dflt rs6)
def p6:PureC:=pcOf as6 rs6 f6 g6
theorem wk6 (x0:(List (Int×(Int×((List (Int×(Int×(Bool×Unit))))×Unit))))):Walks (runPure (kl6_0 Proofs.Tryz.prog).orc Proofs.Tryz.prog 400 6 as6 rs6 ((x0,()),())) (t6 x0) [(bl 1 1,[2]),(bl 3 6,[2,4,6]),(bl 3 2,[2,4,6])] :=
  ⟨by kernel_rfl,by kernel_rfl,by kernel_rfl,trivial⟩
theorem ok6_t (x0:(List (Int×(Int×((List (Int×(Int×(Bool×Unit))))×Unit))))):TrOk (PureRuns Proofs.Tryz.prog (kl6_0 Proofs.Tryz.prog).orc 6 as6 rs6 ((x0,()),())) (t6 x0) :=
  Walks.ok (fun _ _ _=>PureRuns.of) (wk6 x0) (by kernel_rfl)
theorem ok6:PureOk Proofs.Tryz.prog 6 p6:=qab kl6_0_ok.base (T:=fun (d:Tys.data as6)=>t6 d.1.1) (by kernel_rfl) (fun (d:Tys.data as6)=>ok6_t d.1.1)
def kf6 (P:Go.Program):Known:=(kl6_0 P).func 6 p6
theorem kf6_ok:KnownOk Proofs.Tryz.prog (kf6 Proofs.Tryz.prog):=kl6_0_ok.func ok6
abbrev as54:List Ty:=[(.int .i64),(.int .i64),(.int .i64)]
abbrev rs54:List Ty:=[.bool]
def t54 (x0:Int) (x1:Int) (x2:Int):Tr (Tys.data rs54) :=
  Tr.test ((leF x1 x0:Bool))
    (Tr.fin ((leF x0 x2,())))
    (Tr.fin ((false,())))
def f54 (d:Tys.data as54):Option (Tys.data rs54):=(t54 d.1 d.2.1 d.2.2.1).val
def g54 (d:Tys.data as54):Tys.data rs54:=(f54 d).getD (Tys.dflt rs54)
def p54:PureC:=pcOf as54 rs54 f54 g54
theorem wk54 (x0:Int) (x1:Int) (x2:Int):Walks (runPure (kf6 Proofs.Tryz.prog).orc Proofs.Tryz.prog 400 54 as54 rs54 (x0,x1,x2,())) (t54 x0 x1 x2) [(bl 1 1,[2,2,2,2]),(bl 1 0,[2,2,2,2])] :=
  ⟨by kernel_rfl,by kernel_rfl,trivial⟩
theorem ok54_t (x0:Int) (x1:Int) (x2:Int):TrOk (PureRuns Proofs.Tryz.prog (kf6 Proofs.Tryz.prog).orc 54 as54 rs54 (x0,x1,x2,())) (t54 x0 x1 x2) :=
  Walks.ok (fun _ _ _=>PureRuns.of) (wk54 x0 x1 x2) (by kernel_rfl)
theorem ok54:PureOk Proofs.Tryz.prog 54 p54:=qab kf6_ok.base (T:=fun (d:Tys.data as54)=>t54 d.1 d.2.1 d.2.2.1) (by kernel_rfl) (fun (d:Tys.data as54)=>ok54_t d.1 d.2.1 d.2.2.1)
def kf54 (P:Go.Program):Known:=(kf6 P).func 54 p54
theorem kf54_ok:KnownOk Proofs.Tryz.prog (kf54 Proofs.Tryz.prog):=kf6_ok.func ok54
abbrev sh97_0:Sh:={ n:=34,slots:=[0,4],pats:=[.ty (.slice (.pair (.int .i64) (.pair (.int .i64) (.pair .bool .unit)))),.ty (.int .i64)],boxes:=[] }
abbrev shb97_0:Sh:={ n:=34,slots:=[],pats:=[],boxes:=[] }
abbrev shr97_0:Sh:={ n:=34,slots:=[2,3],pats:=[.ty (.int .i64),.ty (.int .i64)],boxes:=[] }
def t97_0 (x0:(List (Int×(Int×(Bool×Unit))))) (x1:Int):Tr (Out sh97_0.data shb97_0.data shr97_0.data) :=
  Tr.test ((!leF (↑(List.length x0):Int) x1:Bool))
    (Tr.test (decide ((0:Int) ≤ x1) && decide (x1 < (↑(List.length x0):Int)))
      (Tr.test (Option.isSome (f54 (((List.getD x0 (Int.toNat x1) ((0:Int),(0:Int),false,())).1:Int),((1:Int),((1000:Int),())))))
        (let r0:=g54 (((List.getD x0 (Int.toNat x1) ((0:Int),(0:Int),false,())).1:Int),((1:Int),((1000:Int),())));
        Tr.test ((!r0.1:Bool))
          (Tr.fin (.ret ((x1,((2:Int),())),())))
          (Tr.test (Option.isSome (f54 (((List.getD x0 (Int.toNat x1) ((0:Int),(0:Int),false,())).2.1:Int),((1:Int),((1000:Int),())))))
            (let r1:=g54 (((List.getD x0 (Int.toNat x1) ((0:Int),(0:Int),false,())).2.1:Int),((1:Int),((1000:Int),())));
            Tr.test ((!r1.1:Bool))
              (Tr.fin (.ret ((x1,((2:Int),())),())))
              (Tr.fin (.again ((x0,((wrap64 (x1 + (1:Int)):Int),())),()))))
            (Tr.stop)))
        (Tr.stop))
      (Tr.stop))
    (Tr.fin (.brk ((),())))
def s97_0 (d:sh97_0.data):Option (Out sh97_0.data shb97_0.data shr97_0.data):=(t97_0 d.1.1 d.1.2.1).val
def l97_0 (d:sh97_0.data):Option (shb97_0.data ⊕ shr97_0.data):=itr s97_0 rounds d
def b97_0 (d:sh97_0.data):shb97_0.data:=outB shb97_0.dflt (l97_0 d)
def r97_0 (d:sh97_0.data):shr97_0.data:=outR shr97_0.dflt (l97_0 d)
def lc97_0:LoopC:=lcOf sh97_0 shb97_0 shr97_0 l97_0 b97_0 r97_0
theorem wk97_0 (x0:(List (Int×(Int×(Bool×Unit))))) (x1:Int):Walks (qak (kf54 Proofs.Tryz.prog).orc Proofs.Tryz.prog 400 97 0 sh97_0 shb97_0 shr97_0 ((x0,x1,()),())) (t97_0 x0 x1) [(bl 4 15,[1,2,2,2,2,2,2,2,2,4,6,8]),(bl 6 55,[2,6,6,4,6,6,6,10,6,6,6,8,10,12]),(bl 6 23,[2,6,6,4,6,6,6,10,6,6,6,8,10,12]),(bl 1 0,[2])] :=
  ⟨by kernel_rfl,by kernel_rfl,by kernel_rfl,by kernel_rfl,trivial⟩
theorem ok97_0_t (x0:(List (Int×(Int×(Bool×Unit))))) (x1:Int):TrOk (BodyRuns Proofs.Tryz.prog (kf54 Proofs.Tryz.prog).orc 97 0 sh97_0 shb97_0 shr97_0 ((x0,x1,()),())) (t97_0 x0 x1) :=
  Walks.ok (fun _ _ _=>BodyRuns.of) (wk97_0 x0 x1) (by kernel_rfl)
theorem ok97_0:qaw Proofs.Tryz.prog 97 0 lc97_0:=qas (sh:=sh97_0) (shB:=shb97_0) (shR:=shr97_0) kf54_ok.base (T:=fun (d:sh97_0.data)=>t97_0 d.1.1 d.1.2.1) (by kernel_rfl) rfl (fun (d:sh97_0.data)=>ok97_0_t d.1.1 d.1.2.1) (fun _=>rfl)
def kl97_0 (P:Go.Program):Known:=(kf54 P).loop 97 0 lc97_0
theorem kl97_0_ok:KnownOk Proofs.Tryz.prog (kl97_0 Proofs.Tryz.prog):=kf54_ok.loop ok97_0
abbrev as97:List Ty:=[(.slice (.pair (.int .i64) (.pair (.int .i64) (.pair .bool .unit))))]
abbrev rs97:List Ty:=[(.int .i64),(.int .i64)]
def t97 (x0:(List (Int×(Int×(Bool×Unit))))):Tr (Tys.data rs97) :=
  Tr.test ((eqF (↑(List.length x0):Int) (0:Int):Bool))
    (Tr.fin (((0:Int),((10:Int),()))))
    (Tr.test (!leF (↑(List.length x0):Int) (4:Int))
      (Tr.fin (((0:Int),((8:Int),()))))
      (Tr.test (Option.isSome (l97_0 ((x0,((0:Int),())),())))
        (Tr.test (qaA (l97_0 ((x0,((0:Int),())),())))
          (let r0:=r97_0 ((x0,((0:Int),())),());
          Tr.fin ((r0.1.1,(r0.1.2.1,()))))
          (Tr.fin (((0:Int),((0:Int),())))))
        (Tr.stop)))
def f97 (d:Tys.data as97):Option (Tys.data rs97):=(t97 d.1).val
def g97 (d:Tys.data as97):Tys.data rs97:=(f97 d).getD (Tys.dflt rs97)
def p97:PureC:=pcOf as97 rs97 f97 g97
theorem wk97 (x0:(List (Int×(Int×(Bool×Unit))))):Walks (runPure (kl97_0 Proofs.Tryz.prog).orc Proofs.Tryz.prog 400 97 as97 rs97 (x0,())) (t97 x0) [(bl 1 1,[2]),(bl 2 2,[2,4]),(bl 4 12,[2,4,6,8]),(bl 4 4,[2,4,6,8])] :=
  ⟨by kernel_rfl,by kernel_rfl,by kernel_rfl,by kernel_rfl,trivial⟩
theorem ok97_t (x0:(List (Int×(Int×(Bool×Unit))))):TrOk (PureRuns Proofs.Tryz.prog (kl97_0 Proofs.Tryz.prog).orc 97 as97 rs97 (x0,())) (t97 x0) :=
  Walks.ok (fun _ _ _=>PureRuns.of) (wk97 x0) (by kernel_rfl)
theorem ok97:PureOk Proofs.Tryz.prog 97 p97:=qab kl97_0_ok.base (T:=fun (d:Tys.data as97)=>t97 d.1) (by kernel_rfl) (fun (d:Tys.data as97)=>ok97_t d.1)
def kf97 (P:Go.Program):Known:=(kl97_0 P).func 97 p97
theorem kf97_ok:KnownOk Proofs.Tryz.prog (kf97 Proofs.Tryz.prog):=kl97_0_ok.func ok97
abbrev as55:List Ty:=[(.slice (.pair (.int .i64) (.pair (.int .i64) (.pair .bool .unit))))]
abbrev rs55:List Ty:=[(.int .i64)]
def t55 (x0:(List (Int×(Int×(Bool×Unit))))):Tr (Tys.data rs55) :=
  Tr.test (Option.isSome (f97 (x0,())))
    (let r0:=g97 (x0,());
    Tr.fin ((r0.2.1,())))
    (Tr.stop)
def f55 (d:Tys.data as55):Option (Tys.data rs55):=(t55 d.1).val
def g55 (d:Tys.data as55):Tys.data rs55:=(f55 d).getD (Tys.dflt rs55)
def p55:PureC:=pcOf as55 rs55 f55 g55
theorem wk55 (x0:(List (Int×(Int×(Bool×Unit))))):Walks (runPure (kf97 Proofs.Tryz.prog).orc Proofs.Tryz.prog 400 55 as55 rs55 (x0,())) (t55 x0) [(bl 1 1,[2])] :=
  ⟨by kernel_rfl,trivial⟩
theorem ok55_t (x0:(List (Int×(Int×(Bool×Unit))))):TrOk (PureRuns Proofs.Tryz.prog (kf97 Proofs.Tryz.prog).orc 55 as55 rs55 (x0,())) (t55 x0) :=
  Walks.ok (fun _ _ _=>PureRuns.of) (wk55 x0) (by kernel_rfl)
theorem ok55:PureOk Proofs.Tryz.prog 55 p55:=qab kf97_ok.base (T:=fun (d:Tys.data as55)=>t55 d.1) (by kernel_rfl) (fun (d:Tys.data as55)=>ok55_t d.1)
def kf55 (P:Go.Program):Known:=(kf97 P).func 55 p55
theorem kf55_ok:KnownOk Proofs.Tryz.prog (kf55 Proofs.Tryz.prog):=kf97_ok.func ok55
abbrev sh12_0:Sh:={ n:=45,slots:=[1,4],pats:=[.ptr 0 1 0,.ty (.int .i64)],boxes:=[.row [.ty (.slice (.pair (.int .i64) (.pair (.int .i64) (.pair (.slice (.pair (.int .i64) (.pair (.int .i64) (.pair .bool .unit)))) .unit))))]] }
abbrev shb12_0:Sh:={ n:=45,slots:=[],pats:=[],boxes:=[.row [.ty (.slice (.pair (.int .i64) (.pair (.int .i64) (.pair (.slice (.pair (.int .i64) (.pair (.int .i64) (.pair .bool .unit)))) .unit))))]] }
abbrev shr12_0:Sh:={ n:=45,slots:=[2,3],pats:=[.ty (.int .i64),.ty (.int .i64)],boxes:=[.row [.ty (.slice (.pair (.int .i64) (.pair (.int .i64) (.pair (.slice (.pair (.int .i64) (.pair (.int .i64) (.pair .bool .unit)))) .unit))))]] }
def t12_0 (x1:Int) (b0_0:(List (Int×(Int×((List (Int×(Int×(Bool×Unit))))×Unit))))):Tr (Out sh12_0.data shb12_0.data shr12_0.data) :=
  Tr.test ((!leF (↑(List.length b0_0):Int) x1:Bool))
    (Tr.test (decide ((0:Int) ≤ x1) && decide (x1 < (↑(List.length b0_0):Int)))
      (Tr.test (Option.isSome (f54 (((List.getD b0_0 (Int.toNat x1) ((0:Int),(0:Int),[],())).1:Int),((1:Int),((10000:Int),())))))
        (let r0:=g54 (((List.getD b0_0 (Int.toNat x1) ((0:Int),(0:Int),[],())).1:Int),((1:Int),((10000:Int),())));
        Tr.test ((!r0.1:Bool))
          (Tr.fin (.ret ((x1,((2:Int),())),((b0_0,()),()))))
          (Tr.test (Option.isSome (f54 (((List.getD b0_0 (Int.toNat x1) ((0:Int),(0:Int),[],())).2.1:Int),((1:Int),((1000:Int),())))))
            (let r1:=g54 (((List.getD b0_0 (Int.toNat x1) ((0:Int),(0:Int),[],())).2.1:Int),((1:Int),((1000:Int),())));
            Tr.test ((!r1.1:Bool))
              (Tr.fin (.ret ((x1,((2:Int),())),((b0_0,()),()))))
              (Tr.test (Option.isSome (f55 (((List.getD b0_0 (Int.toNat x1) ((0:Int),(0:Int),[],())).2.2.1:List (Int×Int×Bool×PUnit)),())))
                (let r2:=g55 (((List.getD b0_0 (Int.toNat x1) ((0:Int),(0:Int),[],())).2.2.1:List (Int×Int×Bool×PUnit)),());
                Tr.test ((!eqF r2.1 0:Bool))
                  (Tr.fin (.ret ((x1,(r2.1,())),((b0_0,()),()))))
                  (Tr.fin (.again (((wrap64 (x1 + (1:Int)):Int),()),((b0_0,()),())))))
                (Tr.stop)))
            (Tr.stop)))
        (Tr.stop))
      (Tr.stop))
    (Tr.fin (.brk ((),((b0_0,()),()))))
def s12_0 (d:sh12_0.data):Option (Out sh12_0.data shb12_0.data shr12_0.data):=(t12_0 d.1.1 d.2.1.1).val
def l12_0 (d:sh12_0.data):Option (shb12_0.data ⊕ shr12_0.data):=itr s12_0 rounds d
def b12_0 (d:sh12_0.data):shb12_0.data:=outB shb12_0.dflt (l12_0 d)
def r12_0 (d:sh12_0.data):shr12_0.data:=outR shr12_0.dflt (l12_0 d)
def lc12_0:LoopC:=lcOf sh12_0 shb12_0 shr12_0 l12_0 b12_0 r12_0
theorem wk12_0 (x1:Int) (b0_0:(List (Int×(Int×((List (Int×(Int×(Bool×Unit))))×Unit))))):Walks (qak (kf55 Proofs.Tryz.prog).orc Proofs.Tryz.prog 400 12 0 sh12_0 shb12_0 shr12_0 ((x1,()),(b0_0,()),())) (t12_0 x1 b0_0) [(bl 4 15,[1,2,2,2,2,2,4,6,8]),(bl 6 55,[2,6,6,4,6,6,6,8,10,12]),(bl 8 215,[2,4,6,10,10,8,10,10,10,12,14,16]),(bl 8 87,[2,4,6,10,10,8,10,10,10,12,14,16]),(bl 1 0,[2])] :=
  ⟨by kernel_rfl,by kernel_rfl,by kernel_rfl,by kernel_rfl,by kernel_rfl,trivial⟩
theorem ok12_0_t (x1:Int) (b0_0:(List (Int×(Int×((List (Int×(Int×(Bool×Unit))))×Unit))))):TrOk (BodyRuns Proofs.Tryz.prog (kf55 Proofs.Tryz.prog).orc 12 0 sh12_0 shb12_0 shr12_0 ((x1,()),(b0_0,()),())) (t12_0 x1 b0_0) :=
  Walks.ok (fun _ _ _=>BodyRuns.of) (wk12_0 x1 b0_0) (by kernel_rfl)
theorem ok12_0:qaw Proofs.Tryz.prog 12 0 lc12_0:=qas (sh:=sh12_0) (shB:=shb12_0) (shR:=shr12_0) kf55_ok.base (T:=fun (d:sh12_0.data)=>t12_0 d.1.1 d.2.1.1) (by kernel_rfl) rfl (fun (d:sh12_0.data)=>ok12_0_t d.1.1 d.2.1.1) (fun _=>rfl)
def kl12_0 (P:Go.Program):Known:=(kf55 P).loop 12 0 lc12_0
theorem kl12_0_ok:KnownOk Proofs.Tryz.prog (kl12_0 Proofs.Tryz.prog):=kf55_ok.loop ok12_0
abbrev as12:List Ty:=[(.pair (.slice (.pair (.int .i64) (.pair (.int .i64) (.pair (.slice (.pair (.int .i64) (.pair (.int .i64) (.pair .bool .unit)))) .unit)))) .unit)]
abbrev rs12:List Ty:=[(.int .i64),(.int .i64)]
def t12 (x0:(List (Int×(Int×((List (Int×(Int×(Bool×Unit))))×Unit))))):Tr (Tys.data rs12) :=
  Tr.test ((eqF (↑(List.length x0):Int) (0:Int):Bool))
    (Tr.fin (((0:Int),((10:Int),()))))
    (Tr.test (!leF (↑(List.length x0):Int) (5:Int))
      (Tr.fin (((0:Int),((8:Int),()))))
      (Tr.test (Option.isSome (l12_0 (((0:Int),()),((x0,()),()))))
        (Tr.test (qaA (l12_0 (((0:Int),()),((x0,()),()))))
          (let r0:=r12_0 (((0:Int),()),((x0,()),()));
          Tr.fin ((r0.1.1,(r0.1.2.1,()))))
          (Tr.fin (((0:Int),((0:Int),())))))
        (Tr.stop)))
def f12 (d:Tys.data as12):Option (Tys.data rs12):=(t12 d.1.1).val
def g12 (d:Tys.data as12):Tys.data rs12:=(f12 d).getD (Tys.dflt rs12)
def p12:PureC:=pcOf as12 rs12 f12 g12
theorem wk12 (x0:(List (Int×(Int×((List (Int×(Int×(Bool×Unit))))×Unit))))):Walks (runPure (kl12_0 Proofs.Tryz.prog).orc Proofs.Tryz.prog 400 12 as12 rs12 ((x0,()),())) (t12 x0) [(bl 1 1,[2]),(bl 2 2,[2,4]),(bl 4 12,[2,4,6,8]),(bl 4 4,[2,4,6,8])] :=
  ⟨by kernel_rfl,by kernel_rfl,by kernel_rfl,by kernel_rfl,trivial⟩
theorem ok12_t (x0:(List (Int×(Int×((List (Int×(Int×(Bool×Unit))))×Unit))))):TrOk (PureRuns Proofs.Tryz.prog (kl12_0 Proofs.Tryz.prog).orc 12 as12 rs12 ((x0,()),())) (t12 x0) :=
  Walks.ok (fun _ _ _=>PureRuns.of) (wk12 x0) (by kernel_rfl)
theorem ok12:PureOk Proofs.Tryz.prog 12 p12:=qab kl12_0_ok.base (T:=fun (d:Tys.data as12)=>t12 d.1.1) (by kernel_rfl) (fun (d:Tys.data as12)=>ok12_t d.1.1)
def kf12 (P:Go.Program):Known:=(kl12_0 P).func 12 p12
theorem kf12_ok:KnownOk Proofs.Tryz.prog (kf12 Proofs.Tryz.prog):=kl12_0_ok.func ok12
abbrev as18:List Ty:=[(.pair (.slice (.pair (.int .i64) (.pair (.int .i64) (.pair (.slice (.pair (.int .i64) (.pair (.int .i64) (.pair .bool .unit)))) .unit)))) .unit)]
abbrev rs18:List Ty:=[(.int .i64)]
def t18 (x0:(List (Int×(Int×((List (Int×(Int×(Bool×Unit))))×Unit))))):Tr (Tys.data rs18) :=
  Tr.test (Option.isSome (f12 ((x0,()),())))
    (let r0:=g12 ((x0,()),());
    Tr.fin ((r0.2.1,())))
    (Tr.stop)
def f18 (d:Tys.data as18):Option (Tys.data rs18):=(t18 d.1.1).val
def g18 (d:Tys.data as18):Tys.data rs18:=(f18 d).getD (Tys.dflt rs18)
def p18:PureC:=pcOf as18 rs18 f18 g18
theorem wk18 (x0:(List (Int×(Int×((List (Int×(Int×(Bool×Unit))))×Unit))))):Walks (runPure (kf12 Proofs.Tryz.prog).orc Proofs.Tryz.prog 400 18 as18 rs18 ((x0,()),())) (t18 x0) [(bl 1 1,[2])] :=
  ⟨by kernel_rfl,trivial⟩
theorem ok18_t (x0:(List (Int×(Int×((List (Int×(Int×(Bool×Unit))))×Unit))))):TrOk (PureRuns Proofs.Tryz.prog (kf12 Proofs.Tryz.prog).orc 18 as18 rs18 ((x0,()),())) (t18 x0) :=
  Walks.ok (fun _ _ _=>PureRuns.of) (wk18 x0) (by kernel_rfl)
theorem ok18:PureOk Proofs.Tryz.prog 18 p18:=qab kf12_ok.base (T:=fun (d:Tys.data as18)=>t18 d.1.1) (by kernel_rfl) (fun (d:Tys.data as18)=>ok18_t d.1.1)
def kf18 (P:Go.Program):Known:=(kf12 P).func 18 p18
theorem kf18_ok:KnownOk Proofs.Tryz.prog (kf18 Proofs.Tryz.prog):=kf12_ok.func ok18
abbrev as14:List Ty:=[(.int .i64)]
abbrev rs14:List Ty:=[(.int .i64)]
def t14 (x0:Int):Tr (Tys.data rs14) :=
  Tr.test (Option.isSome (f54 (x0,((-100:Int),((100:Int),())))))
    (let r0:=g54 (x0,((-100:Int),((100:Int),())));
    Tr.test ((!r0.1:Bool))
      (Tr.fin (((2:Int),())))
      (Tr.fin (((0:Int),()))))
    (Tr.stop)
def f14 (d:Tys.data as14):Option (Tys.data rs14):=(t14 d.1).val
def g14 (d:Tys.data as14):Tys.data rs14:=(f14 d).getD (Tys.dflt rs14)
def p14:PureC:=pcOf as14 rs14 f14 g14
theorem wk14 (x0:Int):Walks (runPure (kf18 Proofs.Tryz.prog).orc Proofs.Tryz.prog 400 14 as14 rs14 (x0,())) (t14 x0) [(bl 2 3,[2,4]),(bl 2 1,[2,4])] :=
  ⟨by kernel_rfl,by kernel_rfl,trivial⟩
theorem ok14_t (x0:Int):TrOk (PureRuns Proofs.Tryz.prog (kf18 Proofs.Tryz.prog).orc 14 as14 rs14 (x0,())) (t14 x0) :=
  Walks.ok (fun _ _ _=>PureRuns.of) (wk14 x0) (by kernel_rfl)
theorem ok14:PureOk Proofs.Tryz.prog 14 p14:=qab kf18_ok.base (T:=fun (d:Tys.data as14)=>t14 d.1) (by kernel_rfl) (fun (d:Tys.data as14)=>ok14_t d.1)
def kf14 (P:Go.Program):Known:=(kf18 P).func 14 p14
theorem kf14_ok:KnownOk Proofs.Tryz.prog (kf14 Proofs.Tryz.prog):=kf18_ok.func ok14
abbrev sh19_0:Sh:={ n:=22,slots:=[0,3],pats:=[.ty (.slice (.int .i64)),.ty (.int .i64)],boxes:=[] }
abbrev shb19_0:Sh:={ n:=22,slots:=[],pats:=[],boxes:=[] }
abbrev shr19_0:Sh:={ n:=22,slots:=[2],pats:=[.ty (.int .i64)],boxes:=[] }
def t19_0 (x0:(List Int)) (x1:Int):Tr (Out sh19_0.data shb19_0.data shr19_0.data) :=
  Tr.test ((!leF (↑(List.length x0):Int) x1:Bool))
    (Tr.test (decide ((0:Int) ≤ x1) && decide (x1 < (↑(List.length x0):Int)))
      (Tr.test (Option.isSome (f14 ((List.getD x0 (Int.toNat x1) (0:Int):Int),())))
        (let r0:=g14 ((List.getD x0 (Int.toNat x1) (0:Int):Int),());
        Tr.test ((!eqF r0.1 0:Bool))
          (Tr.fin (.ret ((r0.1,()),())))
          (Tr.fin (.again ((x0,((wrap64 (x1 + (1:Int)):Int),())),()))))
        (Tr.stop))
      (Tr.stop))
    (Tr.fin (.brk ((),())))
def s19_0 (d:sh19_0.data):Option (Out sh19_0.data shb19_0.data shr19_0.data):=(t19_0 d.1.1 d.1.2.1).val
def l19_0 (d:sh19_0.data):Option (shb19_0.data ⊕ shr19_0.data):=itr s19_0 rounds d
def b19_0 (d:sh19_0.data):shb19_0.data:=outB shb19_0.dflt (l19_0 d)
def r19_0 (d:sh19_0.data):shr19_0.data:=outR shr19_0.dflt (l19_0 d)
def lc19_0:LoopC:=lcOf sh19_0 shb19_0 shr19_0 l19_0 b19_0 r19_0
theorem wk19_0 (x0:(List Int)) (x1:Int):Walks (qak (kf14 Proofs.Tryz.prog).orc Proofs.Tryz.prog 400 19 0 sh19_0 shb19_0 shr19_0 ((x0,x1,()),())) (t19_0 x0 x1) [(bl 4 15,[2,4,6,8]),(bl 4 7,[2,4,6,8]),(bl 1 0,[2])] :=
  ⟨by kernel_rfl,by kernel_rfl,by kernel_rfl,trivial⟩
theorem ok19_0_t (x0:(List Int)) (x1:Int):TrOk (BodyRuns Proofs.Tryz.prog (kf14 Proofs.Tryz.prog).orc 19 0 sh19_0 shb19_0 shr19_0 ((x0,x1,()),())) (t19_0 x0 x1) :=
  Walks.ok (fun _ _ _=>BodyRuns.of) (wk19_0 x0 x1) (by kernel_rfl)
theorem ok19_0:qaw Proofs.Tryz.prog 19 0 lc19_0:=qas (sh:=sh19_0) (shB:=shb19_0) (shR:=shr19_0) kf14_ok.base (T:=fun (d:sh19_0.data)=>t19_0 d.1.1 d.1.2.1) (by kernel_rfl) rfl (fun (d:sh19_0.data)=>ok19_0_t d.1.1 d.1.2.1) (fun _=>rfl)
def kl19_0 (P:Go.Program):Known:=(kf14 P).loop 19 0 lc19_0
theorem kl19_0_ok:KnownOk Proofs.Tryz.prog (kl19_0 Proofs.Tryz.prog):=kf14_ok.loop ok19_0
abbrev as19:List Ty:=[(.slice (.int .i64))]
abbrev rs19:List Ty:=[(.int .i64)]
def t19 (x0:(List Int)):Tr (Tys.data rs19) :=
  Tr.test ((!leF (↑(List.length x0):Int) (60:Int):Bool))
    (Tr.fin (((8:Int),())))
    (Tr.test (Option.isSome (l19_0 ((x0,((0:Int),())),())))
      (Tr.test (qaA (l19_0 ((x0,((0:Int),())),())))
        (let r0:=r19_0 ((x0,((0:Int),())),());
        Tr.fin ((r0.1.1,())))
        (Tr.fin (((0:Int),()))))
      (Tr.stop))
def f19 (d:Tys.data as19):Option (Tys.data rs19):=(t19 d.1).val
def g19 (d:Tys.data as19):Tys.data rs19:=(f19 d).getD (Tys.dflt rs19)
def p19:PureC:=pcOf as19 rs19 f19 g19
theorem wk19 (x0:(List Int)):Walks (runPure (kl19_0 Proofs.Tryz.prog).orc Proofs.Tryz.prog 400 19 as19 rs19 (x0,())) (t19 x0) [(bl 1 1,[2]),(bl 3 6,[2,4,6]),(bl 3 2,[2,4,6])] :=
  ⟨by kernel_rfl,by kernel_rfl,by kernel_rfl,trivial⟩
theorem ok19_t (x0:(List Int)):TrOk (PureRuns Proofs.Tryz.prog (kl19_0 Proofs.Tryz.prog).orc 19 as19 rs19 (x0,())) (t19 x0) :=
  Walks.ok (fun _ _ _=>PureRuns.of) (wk19 x0) (by kernel_rfl)
theorem ok19:PureOk Proofs.Tryz.prog 19 p19:=qab kl19_0_ok.base (T:=fun (d:Tys.data as19)=>t19 d.1) (by kernel_rfl) (fun (d:Tys.data as19)=>ok19_t d.1)
def kf19 (P:Go.Program):Known:=(kl19_0 P).func 19 p19
theorem kf19_ok:KnownOk Proofs.Tryz.prog (kf19 Proofs.Tryz.prog):=kl19_0_ok.func ok19
abbrev as25:List Ty:=[(.slice (.pair (.int .i64) (.pair (.int .i64) (.pair .bool .unit))))]
abbrev rs25:List Ty:=[(.slice (.pair (.int .i64) (.pair (.int .i64) (.pair .bool .unit))))]
def t25 (x0:(List (Int×(Int×(Bool×Unit))))):Tr (Tys.data rs25) :=
  Tr.test ((Nat.ble (((2:Nat) * ((0:Nat) + List.length x0) + (192:Nat)) * (24:Nat)) (281474976710656:Nat) && Nat.ble ((0:Nat) + List.length x0) (281474976710656:Nat):Bool))
    (Tr.fin ((([]++x0:List (Int×Int×Bool×PUnit)),())))
    (Tr.test (Nat.ble ((0:Nat) + List.length x0) (0:Nat))
      (Tr.stop)
      (Tr.stop))
def f25 (d:Tys.data as25):Option (Tys.data rs25):=(t25 d.1).val
def g25 (d:Tys.data as25):Tys.data rs25:=(f25 d).getD (Tys.dflt rs25)
def p25:PureC:=pcOf as25 rs25 f25 g25
theorem wk25 (x0:(List (Int×(Int×(Bool×Unit))))):Walks (runPure (kf19 Proofs.Tryz.prog).orc Proofs.Tryz.prog 400 25 as25 rs25 (x0,())) (t25 x0) [(bl 1 1,[2])] :=
  ⟨by kernel_rfl,trivial⟩
theorem ok25_t (x0:(List (Int×(Int×(Bool×Unit))))):TrOk (PureRuns Proofs.Tryz.prog (kf19 Proofs.Tryz.prog).orc 25 as25 rs25 (x0,())) (t25 x0) :=
  Walks.ok (fun _ _ _=>PureRuns.of) (wk25 x0) (by kernel_rfl)
theorem ok25:PureOk Proofs.Tryz.prog 25 p25:=qab kf19_ok.base (T:=fun (d:Tys.data as25)=>t25 d.1) (by kernel_rfl) (fun (d:Tys.data as25)=>ok25_t d.1)
def kf25 (P:Go.Program):Known:=(kf19 P).func 25 p25
theorem kf25_ok:KnownOk Proofs.Tryz.prog (kf25 Proofs.Tryz.prog):=kf19_ok.func ok25
abbrev sh8_0:Sh:={ n:=29,slots:=[1,2,3,4],pats:=[.ptr 0 1 0,.ptr 1 1 0,.ptr 2 1 0,.ty (.int .i64)],boxes:=[.row [.ty (.slice (.pair (.int .i64) (.pair (.int .i64) (.pair (.slice (.pair (.int .i64) (.pair (.int .i64) (.pair .bool .unit)))) .unit))))],.row [.nil],.row [.acc (.pair (.int .i64) (.pair (.int .i64) (.pair (.slice (.pair (.int .i64) (.pair (.int .i64) (.pair .bool .unit)))) .unit)))]] }
abbrev shb8_0:Sh:={ n:=29,slots:=[2,3],pats:=[.ptr 1 1 0,.ptr 2 1 0],boxes:=[.row [.ty (.slice (.pair (.int .i64) (.pair (.int .i64) (.pair (.slice (.pair (.int .i64) (.pair (.int .i64) (.pair .bool .unit)))) .unit))))],.row [.nil],.row [.acc (.pair (.int .i64) (.pair (.int .i64) (.pair (.slice (.pair (.int .i64) (.pair (.int .i64) (.pair .bool .unit)))) .unit)))]] }
abbrev shr8_0:Sh:={ n:=29,slots:=[],pats:=[],boxes:=[.row [.ty (.slice (.pair (.int .i64) (.pair (.int .i64) (.pair (.slice (.pair (.int .i64) (.pair (.int .i64) (.pair .bool .unit)))) .unit))))],.row [.nil],.row [.acc (.pair (.int .i64) (.pair (.int .i64) (.pair (.slice (.pair (.int .i64) (.pair (.int .i64) (.pair .bool .unit)))) .unit)))]] }
def t8_0 (x3:Int) (b0_0:(List (Int×(Int×((List (Int×(Int×(Bool×Unit))))×Unit))))) (b2_0:(List (Int×(Int×((List (Int×(Int×(Bool×Unit))))×Unit))))):Tr (Out sh8_0.data shb8_0.data shr8_0.data) :=
  Tr.test ((!leF (↑(List.length b0_0):Int) x3:Bool))
    (Tr.test (decide ((0:Int) ≤ x3) && decide (x3 < (↑(List.length b0_0):Int)))
      (Tr.test (Option.isSome (f25 (((List.getD b0_0 (Int.toNat x3) ((0:Int),(0:Int),[],())).2.2.1:List (Int×Int×Bool×PUnit)),())))
        (Tr.test ((Nat.ble (((2:Nat) * (List.length b2_0 + (1:Nat)) + (192:Nat)) * (40:Nat)) (281474976710656:Nat) && Nat.ble (List.length b2_0 + (1:Nat)) (281474976710656:Nat):Bool))
          (let r0:=g25 (((List.getD b0_0 (Int.toNat x3) ((0:Int),(0:Int),[],())).2.2.1:List (Int×Int×Bool×PUnit)),());
          Tr.fin (.again (((wrap64 (x3 + (1:Int)):Int),()),((b0_0,()),((),(((b2_0++[((List.getD b0_0 (Int.toNat x3) ((0:Int),(0:Int),[],())).1,(List.getD b0_0 (Int.toNat x3) ((0:Int),(0:Int),[],())).2.1,r0.1,())]:List (Int×Int×List (Int×Int×Bool×PUnit)×PUnit)),()),()))))))
          (Tr.stop))
        (Tr.stop))
      (Tr.stop))
    (Tr.fin (.brk ((),((b0_0,()),((),((b2_0,()),()))))))
def s8_0 (d:sh8_0.data):Option (Out sh8_0.data shb8_0.data shr8_0.data):=(t8_0 d.1.1 d.2.1.1 d.2.2.2.1.1).val
def l8_0 (d:sh8_0.data):Option (shb8_0.data ⊕ shr8_0.data):=itr s8_0 rounds d
def b8_0 (d:sh8_0.data):shb8_0.data:=outB shb8_0.dflt (l8_0 d)
def lc8_0:LoopC:=lcB sh8_0 shb8_0 shr8_0 l8_0 b8_0
theorem wk8_0 (x3:Int) (b0_0:(List (Int×(Int×((List (Int×(Int×(Bool×Unit))))×Unit))))) (b2_0:(List (Int×(Int×((List (Int×(Int×(Bool×Unit))))×Unit))))):Walks (qak (kf25 Proofs.Tryz.prog).orc Proofs.Tryz.prog 400 8 0 sh8_0 shb8_0 shr8_0 ((x3,()),(b0_0,()),(),(b2_0,()),())) (t8_0 x3 b0_0 b2_0) [(bl 4 15,[2,4,6,8]),(bl 1 0,[2])] :=
  ⟨by kernel_rfl,by kernel_rfl,trivial⟩
theorem ok8_0_t (x3:Int) (b0_0:(List (Int×(Int×((List (Int×(Int×(Bool×Unit))))×Unit))))) (b2_0:(List (Int×(Int×((List (Int×(Int×(Bool×Unit))))×Unit))))):TrOk (BodyRuns Proofs.Tryz.prog (kf25 Proofs.Tryz.prog).orc 8 0 sh8_0 shb8_0 shr8_0 ((x3,()),(b0_0,()),(),(b2_0,()),())) (t8_0 x3 b0_0 b2_0) :=
  Walks.ok (fun _ _ _=>BodyRuns.of) (wk8_0 x3 b0_0 b2_0) (by kernel_rfl)
theorem ok8_0:qaw Proofs.Tryz.prog 8 0 lc8_0:=qaZ (sh:=sh8_0) (shB:=shb8_0) (shR:=shr8_0) kf25_ok.base (T:=fun (d:sh8_0.data)=>t8_0 d.1.1 d.2.1.1 d.2.2.2.1.1) (by kernel_rfl) rfl (fun (d:sh8_0.data)=>ok8_0_t d.1.1 d.2.1.1 d.2.2.2.1.1) (fun _=>rfl)
def kl8_0 (P:Go.Program):Known:=(kf25 P).loop 8 0 lc8_0
theorem kl8_0_ok:KnownOk Proofs.Tryz.prog (kl8_0 Proofs.Tryz.prog):=kf25_ok.loop ok8_0
abbrev as8:List Ty:=[(.pair (.slice (.pair (.int .i64) (.pair (.int .i64) (.pair (.slice (.pair (.int .i64) (.pair (.int .i64) (.pair .bool .unit)))) .unit)))) .unit)]
abbrev rs8:List Ty:=[(.pair (.slice (.pair (.int .i64) (.pair (.int .i64) (.pair (.slice (.pair (.int .i64) (.pair (.int .i64) (.pair .bool .unit)))) .unit)))) .unit)]
def t8 (x0:(List (Int×(Int×((List (Int×(Int×(Bool×Unit))))×Unit))))):Tr (Tys.data rs8) :=
  Tr.test (qbI (l8_0 (((0:Int),()),((x0,()),((),((([]:List (Int×Int×List (Int×Int×Bool×PUnit)×PUnit)),()),()))))))
    (let r0:=b8_0 (((0:Int),()),((x0,()),((),((([]:List (Int×Int×List (Int×Int×Bool×PUnit)×PUnit)),()),()))));
    Tr.fin ((((r0.2.2.2.1.1:List (Int×Int×List (Int×Int×Bool×PUnit)×PUnit)),()),())))
    (Tr.stop)
def f8 (d:Tys.data as8):Option (Tys.data rs8):=(t8 d.1.1).val
def g8 (d:Tys.data as8):Tys.data rs8:=(f8 d).getD (Tys.dflt rs8)
def p8:PureC:=pcOf as8 rs8 f8 g8
theorem wk8 (x0:(List (Int×(Int×((List (Int×(Int×(Bool×Unit))))×Unit))))):Walks (runPure (kl8_0 Proofs.Tryz.prog).orc Proofs.Tryz.prog 400 8 as8 rs8 ((x0,()),())) (t8 x0) [(bl 1 1,[1,2])] :=
  ⟨by kernel_rfl,trivial⟩
theorem ok8_t (x0:(List (Int×(Int×((List (Int×(Int×(Bool×Unit))))×Unit))))):TrOk (PureRuns Proofs.Tryz.prog (kl8_0 Proofs.Tryz.prog).orc 8 as8 rs8 ((x0,()),())) (t8 x0) :=
  Walks.ok (fun _ _ _=>PureRuns.of) (wk8 x0) (by kernel_rfl)
theorem ok8:PureOk Proofs.Tryz.prog 8 p8:=qab kl8_0_ok.base (T:=fun (d:Tys.data as8)=>t8 d.1.1) (by kernel_rfl) (fun (d:Tys.data as8)=>ok8_t d.1.1)
def kf8 (P:Go.Program):Known:=(kl8_0 P).func 8 p8
theorem kf8_ok:KnownOk Proofs.Tryz.prog (kf8 Proofs.Tryz.prog):=kl8_0_ok.func ok8
abbrev as43:List Ty:=[.bool,(.int .i64)]
abbrev rs43:List Ty:=[(.int .i64)]
def t43 (x0:Bool) (x1:Int):Tr (Tys.data rs43) :=
  Tr.test (x0)
    (Tr.fin ((x1,())))
    (Tr.fin (((0:Int),())))
def f43 (d:Tys.data as43):Option (Tys.data rs43):=(t43 d.1 d.2.1).val
def g43 (d:Tys.data as43):Tys.data rs43:=(f43 d).getD (Tys.dflt rs43)
def p43:PureC:=pcOf as43 rs43 f43 g43
theorem wk43 (x0:Bool) (x1:Int):Walks (runPure (kf8 Proofs.Tryz.prog).orc Proofs.Tryz.prog 400 43 as43 rs43 (x0,x1,())) (t43 x0 x1) [(bl 1 1,[2]),(bl 1 0,[2])] :=
  ⟨by kernel_rfl,by kernel_rfl,trivial⟩
theorem ok43_t (x0:Bool) (x1:Int):TrOk (PureRuns Proofs.Tryz.prog (kf8 Proofs.Tryz.prog).orc 43 as43 rs43 (x0,x1,())) (t43 x0 x1) :=
  Walks.ok (fun _ _ _=>PureRuns.of) (wk43 x0 x1) (by kernel_rfl)
theorem ok43:PureOk Proofs.Tryz.prog 43 p43:=qab kf8_ok.base (T:=fun (d:Tys.data as43)=>t43 d.1 d.2.1) (by kernel_rfl) (fun (d:Tys.data as43)=>ok43_t d.1 d.2.1)
def kf43 (P:Go.Program):Known:=(kf8 P).func 43 p43
theorem kf43_ok:KnownOk Proofs.Tryz.prog (kf43 Proofs.Tryz.prog):=kf8_ok.func ok43
abbrev sh85_0:Sh:={ n:=24,slots:=[0,1,9,10,11],pats:=[.ty (.int .i64),.ty (.int .i64),.ty (.slice (.int .i64)),.ty (.int .i64),.ty (.int .i64)],boxes:=[] }
abbrev shb85_0:Sh:={ n:=24,slots:=[],pats:=[],boxes:=[] }
abbrev shr85_0:Sh:={ n:=24,slots:=[6],pats:=[.ty .bool],boxes:=[] }
def t85_0 (x0:Int) (x1:Int) (x2:(List Int)) (x3:Int) (x4:Int):Tr (Out sh85_0.data shb85_0.data shr85_0.data) :=
  Tr.test ((!leF x3 x4:Bool))
    (Tr.test (decide ((0:Int) ≤ x4) && decide (x4 < (↑(List.length x2):Int)))
      (Tr.test ((!leF x0 (List.getD x2 (Int.toNat x4) (0:Int)):Bool))
        (Tr.fin (.ret (((false:Bool),()),())))
        (Tr.test ((!leF (List.getD x2 (Int.toNat x4) (0:Int)) x1:Bool))
          (Tr.fin (.ret (((false:Bool),()),())))
          (Tr.fin (.again ((x0,(x1,(x2,(x3,((wrap64 (x4 + (1:Int)):Int),()))))),())))))
      (Tr.stop))
    (Tr.fin (.brk ((),())))
def s85_0 (d:sh85_0.data):Option (Out sh85_0.data shb85_0.data shr85_0.data):=(t85_0 d.1.1 d.1.2.1 d.1.2.2.1 d.1.2.2.2.1 d.1.2.2.2.2.1).val
def l85_0 (d:sh85_0.data):Option (shb85_0.data ⊕ shr85_0.data):=itr s85_0 rounds d
def b85_0 (d:sh85_0.data):shb85_0.data:=outB shb85_0.dflt (l85_0 d)
def r85_0 (d:sh85_0.data):shr85_0.data:=outR shr85_0.dflt (l85_0 d)
def lc85_0:LoopC:=lcOf sh85_0 shb85_0 shr85_0 l85_0 b85_0 r85_0
theorem wk85_0 (x0:Int) (x1:Int) (x2:(List Int)) (x3:Int) (x4:Int):Walks (qak (kf43 Proofs.Tryz.prog).orc Proofs.Tryz.prog 400 85 0 sh85_0 shb85_0 shr85_0 ((x0,x1,x2,x3,x4,()),())) (t85_0 x0 x1 x2 x3 x4) [(bl 3 7,[1,2,2,2,2,4,6]),(bl 4 11,[2,4,4,4,4,6,8]),(bl 4 3,[2,4,4,4,4,6,8]),(bl 1 0,[2])] :=
  ⟨by kernel_rfl,by kernel_rfl,by kernel_rfl,by kernel_rfl,trivial⟩
theorem ok85_0_t (x0:Int) (x1:Int) (x2:(List Int)) (x3:Int) (x4:Int):TrOk (BodyRuns Proofs.Tryz.prog (kf43 Proofs.Tryz.prog).orc 85 0 sh85_0 shb85_0 shr85_0 ((x0,x1,x2,x3,x4,()),())) (t85_0 x0 x1 x2 x3 x4) :=
  Walks.ok (fun _ _ _=>BodyRuns.of) (wk85_0 x0 x1 x2 x3 x4) (by kernel_rfl)
theorem ok85_0:qaw Proofs.Tryz.prog 85 0 lc85_0:=qas (sh:=sh85_0) (shB:=shb85_0) (shR:=shr85_0) kf43_ok.base (T:=fun (d:sh85_0.data)=>t85_0 d.1.1 d.1.2.1 d.1.2.2.1 d.1.2.2.2.1 d.1.2.2.2.2.1) (by kernel_rfl) rfl (fun (d:sh85_0.data)=>ok85_0_t d.1.1 d.1.2.1 d.1.2.2.1 d.1.2.2.2.1 d.1.2.2.2.2.1) (fun _=>rfl)
def kl85_0 (P:Go.Program):Known:=(kf43 P).loop 85 0 lc85_0
theorem kl85_0_ok:KnownOk Proofs.Tryz.prog (kl85_0 Proofs.Tryz.prog):=kf43_ok.loop ok85_0
abbrev as85:List Ty:=[(.int .i64),(.int .i64),(.slice (.int .i64))]
abbrev rs85:List Ty:=[.bool]
def t85 (x0:Int) (x1:Int) (x2:(List Int)):Tr (Tys.data rs85) :=
  Tr.test (Option.isSome (l85_0 ((x0,(x1,(x2,((↑(List.length x2):Int),((0:Int),()))))),())))
    (Tr.test (qaA (l85_0 ((x0,(x1,(x2,((↑(List.length x2):Int),((0:Int),()))))),())))
      (let r0:=r85_0 ((x0,(x1,(x2,((↑(List.length x2):Int),((0:Int),()))))),());
      Tr.fin ((r0.1.1,())))
      (Tr.fin (((true:Bool),()))))
    (Tr.stop)
def f85 (d:Tys.data as85):Option (Tys.data rs85):=(t85 d.1 d.2.1 d.2.2.1).val
def g85 (d:Tys.data as85):Tys.data rs85:=(f85 d).getD (Tys.dflt rs85)
def p85:PureC:=pcOf as85 rs85 f85 g85
theorem wk85 (x0:Int) (x1:Int) (x2:(List Int)):Walks (runPure (kl85_0 Proofs.Tryz.prog).orc Proofs.Tryz.prog 400 85 as85 rs85 (x0,x1,x2,())) (t85 x0 x1 x2) [(bl 2 3,[2,4]),(bl 2 1,[2,4])] :=
  ⟨by kernel_rfl,by kernel_rfl,trivial⟩
theorem ok85_t (x0:Int) (x1:Int) (x2:(List Int)):TrOk (PureRuns Proofs.Tryz.prog (kl85_0 Proofs.Tryz.prog).orc 85 as85 rs85 (x0,x1,x2,())) (t85 x0 x1 x2) :=
  Walks.ok (fun _ _ _=>PureRuns.of) (wk85 x0 x1 x2) (by kernel_rfl)
theorem ok85:PureOk Proofs.Tryz.prog 85 p85:=qab kl85_0_ok.base (T:=fun (d:Tys.data as85)=>t85 d.1 d.2.1 d.2.2.1) (by kernel_rfl) (fun (d:Tys.data as85)=>ok85_t d.1 d.2.1 d.2.2.1)
def kf85 (P:Go.Program):Known:=(kl85_0 P).func 85 p85
theorem kf85_ok:KnownOk Proofs.Tryz.prog (kf85 Proofs.Tryz.prog):=kl85_0_ok.func ok85
abbrev as44:List Ty:=[(.int .i64),(.slice (.int .i64))]
abbrev rs44:List Ty:=[.bool]
def t44 (x0:Int) (x1:(List Int)):Tr (Tys.data rs44) :=
  Tr.test (Option.isSome (f85 ((Go.IntKind.wrap Go.IntKind.i64 ((0:Int) - x0):Int),(x0,(x1,())))))
    (let r0:=g85 ((Go.IntKind.wrap Go.IntKind.i64 ((0:Int) - x0):Int),(x0,(x1,())));
    Tr.fin (((!r0.1:Bool),())))
    (Tr.stop)
def f44 (d:Tys.data as44):Option (Tys.data rs44):=(t44 d.1 d.2.1).val
def g44 (d:Tys.data as44):Tys.data rs44:=(f44 d).getD (Tys.dflt rs44)
def p44:PureC:=pcOf as44 rs44 f44 g44
theorem wk44 (x0:Int) (x1:(List Int)):Walks (runPure (kf85 Proofs.Tryz.prog).orc Proofs.Tryz.prog 400 44 as44 rs44 (x0,x1,())) (t44 x0 x1) [(bl 1 1,[2])] :=
  ⟨by kernel_rfl,trivial⟩
theorem ok44_t (x0:Int) (x1:(List Int)):TrOk (PureRuns Proofs.Tryz.prog (kf85 Proofs.Tryz.prog).orc 44 as44 rs44 (x0,x1,())) (t44 x0 x1) :=
  Walks.ok (fun _ _ _=>PureRuns.of) (wk44 x0 x1) (by kernel_rfl)
theorem ok44:PureOk Proofs.Tryz.prog 44 p44:=qab kf85_ok.base (T:=fun (d:Tys.data as44)=>t44 d.1 d.2.1) (by kernel_rfl) (fun (d:Tys.data as44)=>ok44_t d.1 d.2.1)
def kf44 (P:Go.Program):Known:=(kf85 P).func 44 p44
theorem kf44_ok:KnownOk Proofs.Tryz.prog (kf44 Proofs.Tryz.prog):=kf85_ok.func ok44
abbrev as42:List Ty:=[(.int .i64),(.slice (.int .i64))]
abbrev rs42:List Ty:=[(.int .i64)]
def t42 (x0:Int) (x1:(List Int)):Tr (Tys.data rs42) :=
  Tr.test (Option.isSome (f44 (x0,(x1,()))))
    (let r0:=g44 (x0,(x1,()));
    Tr.test (Option.isSome (f43 (r0.1,((2:Int),()))))
      (let r1:=g43 (r0.1,((2:Int),()));
      Tr.fin ((r1.1,())))
      (Tr.stop))
    (Tr.stop)
def f42 (d:Tys.data as42):Option (Tys.data rs42):=(t42 d.1 d.2.1).val
def g42 (d:Tys.data as42):Tys.data rs42:=(f42 d).getD (Tys.dflt rs42)
def p42:PureC:=pcOf as42 rs42 f42 g42
theorem wk42 (x0:Int) (x1:(List Int)):Walks (runPure (kf44 Proofs.Tryz.prog).orc Proofs.Tryz.prog 400 42 as42 rs42 (x0,x1,())) (t42 x0 x1) [(bl 2 3,[2,4])] :=
  ⟨by kernel_rfl,trivial⟩
theorem ok42_t (x0:Int) (x1:(List Int)):TrOk (PureRuns Proofs.Tryz.prog (kf44 Proofs.Tryz.prog).orc 42 as42 rs42 (x0,x1,())) (t42 x0 x1) :=
  Walks.ok (fun _ _ _=>PureRuns.of) (wk42 x0 x1) (by kernel_rfl)
theorem ok42:PureOk Proofs.Tryz.prog 42 p42:=qab kf44_ok.base (T:=fun (d:Tys.data as42)=>t42 d.1 d.2.1) (by kernel_rfl) (fun (d:Tys.data as42)=>ok42_t d.1 d.2.1)
def kf42 (P:Go.Program):Known:=(kf44 P).func 42 p42
theorem kf42_ok:KnownOk Proofs.Tryz.prog (kf42 Proofs.Tryz.prog):=kf44_ok.func ok42
abbrev sh41_0:Sh:={ n:=15,slots:=[5,6,7],pats:=[.ty (.slice (.int .i64)),.ty (.int .i64),.ty (.int .i64)],boxes:=[] }
abbrev shb41_0:Sh:={ n:=15,slots:=[],pats:=[],boxes:=[] }
abbrev shr41_0:Sh:={ n:=15,slots:=[2],pats:=[.ty (.int .i64)],boxes:=[] }
def t41_0 (x0:(List Int)) (x1:Int) (x2:Int):Tr (Out sh41_0.data shb41_0.data shr41_0.data) :=
  Tr.test ((!leF x1 x2:Bool))
    (Tr.test (decide ((0:Int) ≤ x2) && decide (x2 < (↑(List.length x0):Int)))
      (Tr.test ((!eqF (List.getD x0 (Int.toNat x2) (0:Int)) (0:Int):Bool))
        (Tr.fin (.ret (((List.getD x0 (Int.toNat x2) (0:Int):Int),()),())))
        (Tr.fin (.again ((x0,(x1,((wrap64 (x2 + (1:Int)):Int),()))),()))))
      (Tr.stop))
    (Tr.fin (.brk ((),())))
def s41_0 (d:sh41_0.data):Option (Out sh41_0.data shb41_0.data shr41_0.data):=(t41_0 d.1.1 d.1.2.1 d.1.2.2.1).val
def l41_0 (d:sh41_0.data):Option (shb41_0.data ⊕ shr41_0.data):=itr s41_0 rounds d
def b41_0 (d:sh41_0.data):shb41_0.data:=outB shb41_0.dflt (l41_0 d)
def r41_0 (d:sh41_0.data):shr41_0.data:=outR shr41_0.dflt (l41_0 d)
def lc41_0:LoopC:=lcOf sh41_0 shb41_0 shr41_0 l41_0 b41_0 r41_0
theorem wk41_0 (x0:(List Int)) (x1:Int) (x2:Int):Walks (qak (kf42 Proofs.Tryz.prog).orc Proofs.Tryz.prog 400 41 0 sh41_0 shb41_0 shr41_0 ((x0,x1,x2,()),())) (t41_0 x0 x1 x2) [(bl 3 7,[2,4,6]),(bl 3 3,[2,4,6]),(bl 1 0,[2])] :=
  ⟨by kernel_rfl,by kernel_rfl,by kernel_rfl,trivial⟩
theorem ok41_0_t (x0:(List Int)) (x1:Int) (x2:Int):TrOk (BodyRuns Proofs.Tryz.prog (kf42 Proofs.Tryz.prog).orc 41 0 sh41_0 shb41_0 shr41_0 ((x0,x1,x2,()),())) (t41_0 x0 x1 x2) :=
  Walks.ok (fun _ _ _=>BodyRuns.of) (wk41_0 x0 x1 x2) (by kernel_rfl)
theorem ok41_0:qaw Proofs.Tryz.prog 41 0 lc41_0:=qas (sh:=sh41_0) (shB:=shb41_0) (shR:=shr41_0) kf42_ok.base (T:=fun (d:sh41_0.data)=>t41_0 d.1.1 d.1.2.1 d.1.2.2.1) (by kernel_rfl) rfl (fun (d:sh41_0.data)=>ok41_0_t d.1.1 d.1.2.1 d.1.2.2.1) (fun _=>rfl)
def kl41_0 (P:Go.Program):Known:=(kf42 P).loop 41 0 lc41_0
theorem kl41_0_ok:KnownOk Proofs.Tryz.prog (kl41_0 Proofs.Tryz.prog):=kf42_ok.loop ok41_0
abbrev as41:List Ty:=[(.slice (.int .i64))]
abbrev rs41:List Ty:=[(.int .i64)]
def t41 (x0:(List Int)):Tr (Tys.data rs41) :=
  Tr.test (Option.isSome (l41_0 ((x0,((↑(List.length x0):Int),((0:Int),()))),())))
    (Tr.test (qaA (l41_0 ((x0,((↑(List.length x0):Int),((0:Int),()))),())))
      (let r0:=r41_0 ((x0,((↑(List.length x0):Int),((0:Int),()))),());
      Tr.fin ((r0.1.1,())))
      (Tr.fin (((0:Int),()))))
    (Tr.stop)
def f41 (d:Tys.data as41):Option (Tys.data rs41):=(t41 d.1).val
def g41 (d:Tys.data as41):Tys.data rs41:=(f41 d).getD (Tys.dflt rs41)
def p41:PureC:=pcOf as41 rs41 f41 g41
theorem wk41 (x0:(List Int)):Walks (runPure (kl41_0 Proofs.Tryz.prog).orc Proofs.Tryz.prog 400 41 as41 rs41 (x0,())) (t41 x0) [(bl 2 3,[2,4]),(bl 2 1,[2,4])] :=
  ⟨by kernel_rfl,by kernel_rfl,trivial⟩
theorem ok41_t (x0:(List Int)):TrOk (PureRuns Proofs.Tryz.prog (kl41_0 Proofs.Tryz.prog).orc 41 as41 rs41 (x0,())) (t41 x0) :=
  Walks.ok (fun _ _ _=>PureRuns.of) (wk41 x0) (by kernel_rfl)
theorem ok41:PureOk Proofs.Tryz.prog 41 p41:=qab kl41_0_ok.base (T:=fun (d:Tys.data as41)=>t41 d.1) (by kernel_rfl) (fun (d:Tys.data as41)=>ok41_t d.1)
def kf41 (P:Go.Program):Known:=(kl41_0 P).func 41 p41
theorem kf41_ok:KnownOk Proofs.Tryz.prog (kf41 Proofs.Tryz.prog):=kl41_0_ok.func ok41
abbrev as65:List Ty:=[(.slice (.int .i64))]
abbrev rs65:List Ty:=[(.int .i64)]
def t65 (x0:(List Int)):Tr (Tys.data rs65) :=
  Tr.test (Option.isSome (f43 ((!leF (↑(List.length x0):Int) (60:Int):Bool),((8:Int),()))))
    (Tr.test (Option.isSome (f42 ((100:Int),(x0,()))))
      (let r0:=g43 ((!leF (↑(List.length x0):Int) (60:Int):Bool),((8:Int),()));
      let r1:=g42 ((100:Int),(x0,()));
      Tr.test (Option.isSome (f41 (([r0.1,r1.1]:List Int),())))
        (let r2:=g41 (([r0.1,r1.1]:List Int),());
        Tr.fin ((r2.1,())))
        (Tr.stop))
      (Tr.stop))
    (Tr.stop)
def f65 (d:Tys.data as65):Option (Tys.data rs65):=(t65 d.1).val
def g65 (d:Tys.data as65):Tys.data rs65:=(f65 d).getD (Tys.dflt rs65)
def p65:PureC:=pcOf as65 rs65 f65 g65
theorem wk65 (x0:(List Int)):Walks (runPure (kf41 Proofs.Tryz.prog).orc Proofs.Tryz.prog 400 65 as65 rs65 (x0,())) (t65 x0) [(bl 3 7,[2,4,6])] :=
  ⟨by kernel_rfl,trivial⟩
theorem ok65_t (x0:(List Int)):TrOk (PureRuns Proofs.Tryz.prog (kf41 Proofs.Tryz.prog).orc 65 as65 rs65 (x0,())) (t65 x0) :=
  Walks.ok (fun _ _ _=>PureRuns.of) (wk65 x0) (by kernel_rfl)
theorem ok65:PureOk Proofs.Tryz.prog 65 p65:=qab kf41_ok.base (T:=fun (d:Tys.data as65)=>t65 d.1) (by kernel_rfl) (fun (d:Tys.data as65)=>ok65_t d.1)
def kf65 (P:Go.Program):Known:=(kf41 P).func 65 p65
theorem kf65_ok:KnownOk Proofs.Tryz.prog (kf65 Proofs.Tryz.prog):=kf41_ok.func ok65
abbrev as82:List Ty:=[(.int .i64),(.int .i64)]
abbrev rs82:List Ty:=[(.int .i64)]
def t82 (x0:Int) (x1:Int):Tr (Tys.data rs82) :=
  Tr.test (Option.isSome (f43 ((eqF x0 0:Bool),((10:Int),()))))
    (Tr.test (Option.isSome (f43 (!leF x0 x1,((8:Int),()))))
      (let r0:=g43 ((eqF x0 0:Bool),((10:Int),()));
      let r1:=g43 ((!leF x0 x1:Bool),((8:Int),()));
      Tr.test (Option.isSome (f41 (([r0.1,r1.1]:List Int),())))
        (let r2:=g41 (([r0.1,r1.1]:List Int),());
        Tr.fin ((r2.1,())))
        (Tr.stop))
      (Tr.stop))
    (Tr.stop)
def f82 (d:Tys.data as82):Option (Tys.data rs82):=(t82 d.1 d.2.1).val
def g82 (d:Tys.data as82):Tys.data rs82:=(f82 d).getD (Tys.dflt rs82)
def p82:PureC:=pcOf as82 rs82 f82 g82
theorem wk82 (x0:Int) (x1:Int):Walks (runPure (kf65 Proofs.Tryz.prog).orc Proofs.Tryz.prog 400 82 as82 rs82 (x0,x1,())) (t82 x0 x1) [(bl 3 7,[2,4,6])] :=
  ⟨by kernel_rfl,trivial⟩
theorem ok82_t (x0:Int) (x1:Int):TrOk (PureRuns Proofs.Tryz.prog (kf65 Proofs.Tryz.prog).orc 82 as82 rs82 (x0,x1,())) (t82 x0 x1) :=
  Walks.ok (fun _ _ _=>PureRuns.of) (wk82 x0 x1) (by kernel_rfl)
theorem ok82:PureOk Proofs.Tryz.prog 82 p82:=qab kf65_ok.base (T:=fun (d:Tys.data as82)=>t82 d.1 d.2.1) (by kernel_rfl) (fun (d:Tys.data as82)=>ok82_t d.1 d.2.1)
def kf82 (P:Go.Program):Known:=(kf65 P).func 82 p82
theorem kf82_ok:KnownOk Proofs.Tryz.prog (kf82 Proofs.Tryz.prog):=kf65_ok.func ok82
abbrev sh111_0:Sh:={ n:=25,slots:=[1,9,10,11],pats:=[.fn 112 [],.ty (.slice (.pair (.int .i64) (.pair (.int .i64) (.pair .bool .unit)))),.ty (.int .i64),.ty (.int .i64)],boxes:=[] }
abbrev shb111_0:Sh:={ n:=25,slots:=[],pats:=[],boxes:=[] }
abbrev shr111_0:Sh:={ n:=25,slots:=[4,5],pats:=[.ty (.int .i64),.ty (.int .i64)],boxes:=[] }
def t111_0 (x1:(List (Int×(Int×(Bool×Unit))))) (x2:Int) (x3:Int):Tr (Out sh111_0.data shb111_0.data shr111_0.data) :=
  Tr.test ((!leF x2 x3:Bool))
    (Tr.test (decide ((0:Int) ≤ x3) && decide (x3 < (↑(List.length x1):Int)))
      (Tr.test (Option.isSome (f85 ((1:Int),((1000:Int),(([(List.getD x1 (Int.toNat x3) ((0:Int),(0:Int),false,())).1,(List.getD x1 (Int.toNat x3) ((0:Int),(0:Int),false,())).2.1]:List Int),())))))
        (let r0:=g85 ((1:Int),((1000:Int),(([(List.getD x1 (Int.toNat x3) ((0:Int),(0:Int),false,())).1,(List.getD x1 (Int.toNat x3) ((0:Int),(0:Int),false,())).2.1]:List Int),())));
        Tr.test (Option.isSome (f43 ((!r0.1:Bool),((2:Int),()))))
          (let r1:=g43 ((!r0.1:Bool),((2:Int),()));
          Tr.test ((!eqF r1.1 0:Bool))
            (Tr.fin (.ret ((x3,(r1.1,())),())))
            (Tr.fin (.again ((x1,(x2,((wrap64 (x3 + (1:Int)):Int),()))),()))))
          (Tr.stop))
        (Tr.stop))
      (Tr.stop))
    (Tr.fin (.brk ((),())))
def s111_0 (d:sh111_0.data):Option (Out sh111_0.data shb111_0.data shr111_0.data):=(t111_0 d.1.1 d.1.2.1 d.1.2.2.1).val
def l111_0 (d:sh111_0.data):Option (shb111_0.data ⊕ shr111_0.data):=itr s111_0 rounds d
def b111_0 (d:sh111_0.data):shb111_0.data:=outB shb111_0.dflt (l111_0 d)
def r111_0 (d:sh111_0.data):shr111_0.data:=outR shr111_0.dflt (l111_0 d)
def lc111_0:LoopC:=lcOf sh111_0 shb111_0 shr111_0 l111_0 b111_0 r111_0
theorem wk111_0 (x1:(List (Int×(Int×(Bool×Unit))))) (x2:Int) (x3:Int):Walks (qak (kf82 Proofs.Tryz.prog).orc Proofs.Tryz.prog 400 111 0 sh111_0 shb111_0 shr111_0 ((x1,x2,x3,()),())) (t111_0 x1 x2 x3) [(bl 5 31,[2,4,6,8,10]),(bl 5 15,[2,4,6,8,10]),(bl 1 0,[2])] :=
  ⟨by kernel_rfl,by kernel_rfl,by kernel_rfl,trivial⟩
theorem ok111_0_t (x1:(List (Int×(Int×(Bool×Unit))))) (x2:Int) (x3:Int):TrOk (BodyRuns Proofs.Tryz.prog (kf82 Proofs.Tryz.prog).orc 111 0 sh111_0 shb111_0 shr111_0 ((x1,x2,x3,()),())) (t111_0 x1 x2 x3) :=
  Walks.ok (fun _ _ _=>BodyRuns.of) (wk111_0 x1 x2 x3) (by kernel_rfl)
theorem ok111_0:qaw Proofs.Tryz.prog 111 0 lc111_0:=qas (sh:=sh111_0) (shB:=shb111_0) (shR:=shr111_0) kf82_ok.base (T:=fun (d:sh111_0.data)=>t111_0 d.1.1 d.1.2.1 d.1.2.2.1) (by kernel_rfl) rfl (fun (d:sh111_0.data)=>ok111_0_t d.1.1 d.1.2.1 d.1.2.2.1) (fun _=>rfl)
def kl111_0 (P:Go.Program):Known:=(kf82 P).loop 111 0 lc111_0
theorem kl111_0_ok:KnownOk Proofs.Tryz.prog (kl111_0 Proofs.Tryz.prog):=kf82_ok.loop ok111_0
abbrev as86:List Ty:=[(.slice (.pair (.int .i64) (.pair (.int .i64) (.pair .bool .unit))))]
abbrev rs86:List Ty:=[(.int .i64),(.int .i64)]
def t86 (x0:(List (Int×(Int×(Bool×Unit))))):Tr (Tys.data rs86) :=
  Tr.test (Option.isSome (f82 ((↑(List.length x0):Int),((4:Int),()))))
    (let r0:=g82 ((↑(List.length x0):Int),((4:Int),()));
    Tr.test ((!eqF r0.1 0:Bool))
      (Tr.fin (((0:Int),(r0.1,()))))
      (Tr.test (Option.isSome (l111_0 ((x0,((↑(List.length x0):Int),((0:Int),()))),())))
        (Tr.test (qaA (l111_0 ((x0,((↑(List.length x0):Int),((0:Int),()))),())))
          (let r1:=r111_0 ((x0,((↑(List.length x0):Int),((0:Int),()))),());
          Tr.fin ((r1.1.1,(r1.1.2.1,()))))
          (Tr.fin (((0:Int),((0:Int),())))))
        (Tr.stop)))
    (Tr.stop)
def f86 (d:Tys.data as86):Option (Tys.data rs86):=(t86 d.1).val
def g86 (d:Tys.data as86):Tys.data rs86:=(f86 d).getD (Tys.dflt rs86)
def p86:PureC:=pcOf as86 rs86 f86 g86
theorem wk86 (x0:(List (Int×(Int×(Bool×Unit))))):Walks (runPure (kl111_0 Proofs.Tryz.prog).orc Proofs.Tryz.prog 400 86 as86 rs86 (x0,())) (t86 x0) [(bl 2 3,[2,4]),(bl 4 13,[2,4,6,8]),(bl 4 5,[2,4,6,8])] :=
  ⟨by kernel_rfl,by kernel_rfl,by kernel_rfl,trivial⟩
theorem ok86_t (x0:(List (Int×(Int×(Bool×Unit))))):TrOk (PureRuns Proofs.Tryz.prog (kl111_0 Proofs.Tryz.prog).orc 86 as86 rs86 (x0,())) (t86 x0) :=
  Walks.ok (fun _ _ _=>PureRuns.of) (wk86 x0) (by kernel_rfl)
theorem ok86:PureOk Proofs.Tryz.prog 86 p86:=qab kl111_0_ok.base (T:=fun (d:Tys.data as86)=>t86 d.1) (by kernel_rfl) (fun (d:Tys.data as86)=>ok86_t d.1)
def kf86 (P:Go.Program):Known:=(kl111_0 P).func 86 p86
theorem kf86_ok:KnownOk Proofs.Tryz.prog (kf86 Proofs.Tryz.prog):=kl111_0_ok.func ok86
abbrev sh83_0:Sh:={ n:=25,slots:=[1,9,10,11],pats:=[.fn 84 [],.ty (.slice (.pair (.int .i64) (.pair (.int .i64) (.pair (.slice (.pair (.int .i64) (.pair (.int .i64) (.pair .bool .unit)))) .unit)))),.ty (.int .i64),.ty (.int .i64)],boxes:=[] }
abbrev shb83_0:Sh:={ n:=25,slots:=[],pats:=[],boxes:=[] }
abbrev shr83_0:Sh:={ n:=25,slots:=[4,5],pats:=[.ty (.int .i64),.ty (.int .i64)],boxes:=[] }
def t83_0 (x1:(List (Int×(Int×((List (Int×(Int×(Bool×Unit))))×Unit))))) (x2:Int) (x3:Int):Tr (Out sh83_0.data shb83_0.data shr83_0.data) :=
  Tr.test ((!leF x2 x3:Bool))
    (Tr.test (decide ((0:Int) ≤ x3) && decide (x3 < (↑(List.length x1):Int)))
      (Tr.test (Option.isSome (f85 ((1:Int),((10000:Int),(([(List.getD x1 (Int.toNat x3) ((0:Int),(0:Int),[],())).1]:List Int),())))))
        (let r0:=g85 ((1:Int),((10000:Int),(([(List.getD x1 (Int.toNat x3) ((0:Int),(0:Int),[],())).1]:List Int),())));
        Tr.test ((!r0.1:Bool))
          (Tr.test (Option.isSome (f86 (((List.getD x1 (Int.toNat x3) ((0:Int),(0:Int),[],())).2.2.1:List (Int×Int×Bool×PUnit)),())))
            (Tr.test (Option.isSome (f43 ((true:Bool),((2:Int),()))))
              (let r1:=g43 ((true:Bool),((2:Int),()));
              let r2:=g86 (((List.getD x1 (Int.toNat x3) ((0:Int),(0:Int),[],())).2.2.1:List (Int×Int×Bool×PUnit)),());
              Tr.test (Option.isSome (f41 (([r1.1,r2.2.1]:List Int),())))
                (let r5:=g41 (([r1.1,r2.2.1]:List Int),());
                Tr.test ((!eqF r5.1 0:Bool))
                  (Tr.fin (.ret ((x3,(r5.1,())),())))
                  (Tr.fin (.again ((x1,(x2,((wrap64 (x3 + (1:Int)):Int),()))),()))))
                (Tr.stop))
              (Tr.stop))
            (Tr.stop))
          (Tr.test (Option.isSome (f85 ((1:Int),((1000:Int),(([(List.getD x1 (Int.toNat x3) ((0:Int),(0:Int),[],())).2.1]:List Int),())))))
            (Tr.test (Option.isSome (f86 (((List.getD x1 (Int.toNat x3) ((0:Int),(0:Int),[],())).2.2.1:List (Int×Int×Bool×PUnit)),())))
              (let r3:=g85 ((1:Int),((1000:Int),(([(List.getD x1 (Int.toNat x3) ((0:Int),(0:Int),[],())).2.1]:List Int),())));
              Tr.test (Option.isSome (f43 ((!r3.1:Bool),((2:Int),()))))
                (let r2:=g86 (((List.getD x1 (Int.toNat x3) ((0:Int),(0:Int),[],())).2.2.1:List (Int×Int×Bool×PUnit)),());
                let r4:=g43 ((!r3.1:Bool),((2:Int),()));
                Tr.test (Option.isSome (f41 (([r4.1,r2.2.1]:List Int),())))
                  (let r6:=g41 (([r4.1,r2.2.1]:List Int),());
                  Tr.test ((!eqF r6.1 0:Bool))
                    (Tr.fin (.ret ((x3,(r6.1,())),())))
                    (Tr.fin (.again ((x1,(x2,((wrap64 (x3 + (1:Int)):Int),()))),()))))
                  (Tr.stop))
                (Tr.stop))
              (Tr.stop))
            (Tr.stop)))
        (Tr.stop))
      (Tr.stop))
    (Tr.fin (.brk ((),())))
def s83_0 (d:sh83_0.data):Option (Out sh83_0.data shb83_0.data shr83_0.data):=(t83_0 d.1.1 d.1.2.1 d.1.2.2.1).val
def l83_0 (d:sh83_0.data):Option (shb83_0.data ⊕ shr83_0.data):=itr s83_0 rounds d
def b83_0 (d:sh83_0.data):shb83_0.data:=outB shb83_0.dflt (l83_0 d)
def r83_0 (d:sh83_0.data):shr83_0.data:=outR shr83_0.dflt (l83_0 d)
def lc83_0:LoopC:=lcOf sh83_0 shb83_0 shr83_0 l83_0 b83_0 r83_0
theorem wk83_0 (x1:(List (Int×(Int×((List (Int×(Int×(Bool×Unit))))×Unit))))) (x2:Int) (x3:Int):Walks (qak (kf86 Proofs.Tryz.prog).orc Proofs.Tryz.prog 400 83 0 sh83_0 shb83_0 shr83_0 ((x1,x2,x3,()),())) (t83_0 x1 x2 x3) [(bl 8 255,[2,4,6,8,10,10,10,10,10,10,12,14,16]),(bl 8 127,[2,4,6,8,10,10,10,10,10,10,12,14,16]),(bl 9 503,[2,4,6,8,12,12,10,12,12,12,12,14,16,18]),(bl 9 247,[2,4,6,8,12,12,10,12,12,12,12,14,16,18]),(bl 1 0,[2])] :=
  ⟨by kernel_rfl,by kernel_rfl,by kernel_rfl,by kernel_rfl,by kernel_rfl,trivial⟩
theorem ok83_0_t (x1:(List (Int×(Int×((List (Int×(Int×(Bool×Unit))))×Unit))))) (x2:Int) (x3:Int):TrOk (BodyRuns Proofs.Tryz.prog (kf86 Proofs.Tryz.prog).orc 83 0 sh83_0 shb83_0 shr83_0 ((x1,x2,x3,()),())) (t83_0 x1 x2 x3) :=
  Walks.ok (fun _ _ _=>BodyRuns.of) (wk83_0 x1 x2 x3) (by kernel_rfl)
theorem ok83_0:qaw Proofs.Tryz.prog 83 0 lc83_0:=qas (sh:=sh83_0) (shB:=shb83_0) (shR:=shr83_0) kf86_ok.base (T:=fun (d:sh83_0.data)=>t83_0 d.1.1 d.1.2.1 d.1.2.2.1) (by kernel_rfl) rfl (fun (d:sh83_0.data)=>ok83_0_t d.1.1 d.1.2.1 d.1.2.2.1) (fun _=>rfl)
def kl83_0 (P:Go.Program):Known:=(kf86 P).loop 83 0 lc83_0
theorem kl83_0_ok:KnownOk Proofs.Tryz.prog (kl83_0 Proofs.Tryz.prog):=kf86_ok.loop ok83_0
abbrev as38:List Ty:=[(.pair (.slice (.pair (.int .i64) (.pair (.int .i64) (.pair (.slice (.pair (.int .i64) (.pair (.int .i64) (.pair .bool .unit)))) .unit)))) .unit)]
abbrev rs38:List Ty:=[(.int .i64),(.int .i64)]
def t38 (x0:(List (Int×(Int×((List (Int×(Int×(Bool×Unit))))×Unit))))):Tr (Tys.data rs38) :=
  Tr.test (Option.isSome (f82 ((↑(List.length x0):Int),((5:Int),()))))
    (let r0:=g82 ((↑(List.length x0):Int),((5:Int),()));
    Tr.test ((!eqF r0.1 0:Bool))
      (Tr.fin (((0:Int),(r0.1,()))))
      (Tr.test (Option.isSome (l83_0 ((x0,((↑(List.length x0):Int),((0:Int),()))),())))
        (Tr.test (qaA (l83_0 ((x0,((↑(List.length x0):Int),((0:Int),()))),())))
          (let r1:=r83_0 ((x0,((↑(List.length x0):Int),((0:Int),()))),());
          Tr.fin ((r1.1.1,(r1.1.2.1,()))))
          (Tr.fin (((0:Int),((0:Int),())))))
        (Tr.stop)))
    (Tr.stop)
def f38 (d:Tys.data as38):Option (Tys.data rs38):=(t38 d.1.1).val
def g38 (d:Tys.data as38):Tys.data rs38:=(f38 d).getD (Tys.dflt rs38)
def p38:PureC:=pcOf as38 rs38 f38 g38
theorem wk38 (x0:(List (Int×(Int×((List (Int×(Int×(Bool×Unit))))×Unit))))):Walks (runPure (kl83_0 Proofs.Tryz.prog).orc Proofs.Tryz.prog 400 38 as38 rs38 ((x0,()),())) (t38 x0) [(bl 2 3,[2,4]),(bl 4 13,[2,4,6,8]),(bl 4 5,[2,4,6,8])] :=
  ⟨by kernel_rfl,by kernel_rfl,by kernel_rfl,trivial⟩
theorem ok38_t (x0:(List (Int×(Int×((List (Int×(Int×(Bool×Unit))))×Unit))))):TrOk (PureRuns Proofs.Tryz.prog (kl83_0 Proofs.Tryz.prog).orc 38 as38 rs38 ((x0,()),())) (t38 x0) :=
  Walks.ok (fun _ _ _=>PureRuns.of) (wk38 x0) (by kernel_rfl)
theorem ok38:PureOk Proofs.Tryz.prog 38 p38:=qab kl83_0_ok.base (T:=fun (d:Tys.data as38)=>t38 d.1.1) (by kernel_rfl) (fun (d:Tys.data as38)=>ok38_t d.1.1)
def kf38 (P:Go.Program):Known:=(kl83_0 P).func 38 p38
theorem kf38_ok:KnownOk Proofs.Tryz.prog (kf38 Proofs.Tryz.prog):=kl83_0_ok.func ok38
abbrev as64:List Ty:=[(.pair (.slice (.pair (.int .i64) (.pair (.int .i64) (.pair (.slice (.pair (.int .i64) (.pair (.int .i64) (.pair .bool .unit)))) .unit)))) .unit),(.slice (.int .i64))]
abbrev rs64:List Ty:=[(.pair (.pair (.slice (.pair (.int .i64) (.pair (.int .i64) (.pair (.slice (.pair (.int .i64) (.pair (.int .i64) (.pair .bool .unit)))) .unit)))) .unit) .unit),(.int .i64)]
def t64 (x0:(List (Int×(Int×((List (Int×(Int×(Bool×Unit))))×Unit))))) (x1:(List Int)):Tr (Tys.data rs64) :=
  Tr.test (Option.isSome (f38 ((x0,()),())))
    (Tr.test (Option.isSome (f41 (x1,())))
      (let r0:=g38 ((x0,()),());
      let r1:=g41 (x1,());
      Tr.test (Option.isSome (f41 (([r0.2.1,r1.1]:List Int),())))
        (let r2:=g41 (([r0.2.1,r1.1]:List Int),());
        Tr.test ((!eqF r2.1 0:Bool))
          (Tr.fin ((((([]:List (Int×Int×List (Int×Int×Bool×PUnit)×PUnit)),()),()),(r2.1,()))))
          (Tr.fin ((((x0,()),()),((0:Int),())))))
        (Tr.stop))
      (Tr.stop))
    (Tr.stop)
def f64 (d:Tys.data as64):Option (Tys.data rs64):=(t64 d.1.1 d.2.1).val
def g64 (d:Tys.data as64):Tys.data rs64:=(f64 d).getD (Tys.dflt rs64)
def p64:PureC:=pcOf as64 rs64 f64 g64
theorem wk64 (x0:(List (Int×(Int×((List (Int×(Int×(Bool×Unit))))×Unit))))) (x1:(List Int)):Walks (runPure (kf38 Proofs.Tryz.prog).orc Proofs.Tryz.prog 400 64 as64 rs64 ((x0,()),x1,())) (t64 x0 x1) [(bl 4 15,[2,4,6,8]),(bl 4 7,[2,4,6,8])] :=
  ⟨by kernel_rfl,by kernel_rfl,trivial⟩
theorem ok64_t (x0:(List (Int×(Int×((List (Int×(Int×(Bool×Unit))))×Unit))))) (x1:(List Int)):TrOk (PureRuns Proofs.Tryz.prog (kf38 Proofs.Tryz.prog).orc 64 as64 rs64 ((x0,()),x1,())) (t64 x0 x1) :=
  Walks.ok (fun _ _ _=>PureRuns.of) (wk64 x0 x1) (by kernel_rfl)
theorem ok64:PureOk Proofs.Tryz.prog 64 p64:=qab kf38_ok.base (T:=fun (d:Tys.data as64)=>t64 d.1.1 d.2.1) (by kernel_rfl) (fun (d:Tys.data as64)=>ok64_t d.1.1 d.2.1)
def kf64 (P:Go.Program):Known:=(kf38 P).func 64 p64
theorem kf64_ok:KnownOk Proofs.Tryz.prog (kf64 Proofs.Tryz.prog):=kf38_ok.func ok64
abbrev as101:List Ty:=[(.slice (.pair (.int .i64) (.pair (.int .i64) (.pair .bool .unit))))]
abbrev rs101:List Ty:=[(.pair (.slice (.pair (.int .i64) (.pair (.int .i64) (.pair .bool .unit)))) (.pair (.pair (.int .i64) (.pair (.slice (.pair (.int .i64) (.pair .bool .unit))) .unit)) .unit))]
def t101 (x0:(List (Int×(Int×(Bool×Unit))))):Tr (Tys.data rs101) :=
  Tr.test ((decide ((0:Int) ≤ (↑(List.length x0):Int)) && decide ((↑(List.length x0):Int) ≤ (↑(List.length x0):Int)) && decide ((16:Int) * (↑(List.length x0):Int) ≤ (281474976710656:Int)) && decide ((↑(List.length x0):Int) ≤ (281474976710656:Int)):Bool))
    (Tr.test (Nat.beq (Int.toNat (↑(List.length x0):Int)) (List.length (List.replicate (Int.toNat (↑(List.length x0):Int)) ((0:Int),false,()))))
      (Tr.fin (((x0,(((0:Int),((List.replicate (Int.toNat (↑(List.length x0):Int)) ((0:Int),false,()):List (Int×Bool×PUnit)),())),())),())))
      (Tr.stop))
    (Tr.stop)
def f101 (d:Tys.data as101):Option (Tys.data rs101):=(t101 d.1).val
def g101 (d:Tys.data as101):Tys.data rs101:=(f101 d).getD (Tys.dflt rs101)
def p101:PureC:=pcOf as101 rs101 f101 g101
theorem wk101 (x0:(List (Int×(Int×(Bool×Unit))))):Walks (runPure (kf64 Proofs.Tryz.prog).orc Proofs.Tryz.prog 400 101 as101 rs101 (x0,())) (t101 x0) [(bl 2 3,[2,4])] :=
  ⟨by kernel_rfl,trivial⟩
theorem ok101_t (x0:(List (Int×(Int×(Bool×Unit))))):TrOk (PureRuns Proofs.Tryz.prog (kf64 Proofs.Tryz.prog).orc 101 as101 rs101 (x0,())) (t101 x0) :=
  Walks.ok (fun _ _ _=>PureRuns.of) (wk101 x0) (by kernel_rfl)
theorem ok101:PureOk Proofs.Tryz.prog 101 p101:=qab kf64_ok.base (T:=fun (d:Tys.data as101)=>t101 d.1) (by kernel_rfl) (fun (d:Tys.data as101)=>ok101_t d.1)
def kf101 (P:Go.Program):Known:=(kf64 P).func 101 p101
theorem kf101_ok:KnownOk Proofs.Tryz.prog (kf101 Proofs.Tryz.prog):=kf64_ok.func ok101
abbrev sh66_0:Sh:={ n:=37,slots:=[1,2,4,18,19,20],pats:=[.ptr 0 1 0,.ptr 1 4 0,.ptr 2 3 0,.ty (.slice (.pair (.int .i64) (.pair (.int .i64) (.pair (.slice (.pair (.int .i64) (.pair (.int .i64) (.pair .bool .unit)))) .unit)))),.ty (.int .i64),.ty (.int .i64)],boxes:=[.row [.ty (.slice (.pair (.int .i64) (.pair (.int .i64) (.pair (.slice (.pair (.int .i64) (.pair (.int .i64) (.pair .bool .unit)))) .unit))))],.row [.nil,.nil,.nil,.nil],.row [.sli 3 1,.sli 4 1,.acc (.pair (.int .i64) (.pair (.slice (.pair (.int .i64) (.pair .bool .unit))) .unit))],.arr (.int .i64),.arr (.int .i64)] }
abbrev shb66_0:Sh:={ n:=37,slots:=[1,2,4],pats:=[.ptr 0 1 0,.ptr 1 4 0,.ptr 2 3 0],boxes:=[.row [.ty (.slice (.pair (.int .i64) (.pair (.int .i64) (.pair (.slice (.pair (.int .i64) (.pair (.int .i64) (.pair .bool .unit)))) .unit))))],.row [.nil,.nil,.nil,.nil],.row [.sli 3 1,.sli 4 1,.acc (.pair (.int .i64) (.pair (.slice (.pair (.int .i64) (.pair .bool .unit))) .unit))],.arr (.int .i64),.arr (.int .i64)] }
abbrev shr66_0:Sh:={ n:=37,slots:=[],pats:=[],boxes:=[.row [.ty (.slice (.pair (.int .i64) (.pair (.int .i64) (.pair (.slice (.pair (.int .i64) (.pair (.int .i64) (.pair .bool .unit)))) .unit))))],.row [.nil,.nil,.nil,.nil],.row [.sli 3 1,.sli 4 1,.acc (.pair (.int .i64) (.pair (.slice (.pair (.int .i64) (.pair .bool .unit))) .unit))],.arr (.int .i64),.arr (.int .i64)] }
def t66_0 (x3:(List (Int×(Int×((List (Int×(Int×(Bool×Unit))))×Unit))))) (x4:Int) (x5:Int) (b0_0:(List (Int×(Int×((List (Int×(Int×(Bool×Unit))))×Unit))))) (b2_0n:Nat) (b2_0c:Nat) (b2_1n:Nat) (b2_1c:Nat) (b2_2:(List (Int×((List (Int×(Bool×Unit)))×Unit)))) (b3:(List Int)) (b4:(List Int)):Tr (Out sh66_0.data shb66_0.data shr66_0.data) :=
  Tr.test ((!leF x4 x5:Bool))
    (Tr.test (decide ((0:Int) ≤ x5) && decide (x5 < (↑(List.length x3):Int)))
      (Tr.test (Option.isSome (f101 (((List.getD x3 (Int.toNat x5) ((0:Int),(0:Int),[],())).2.2.1:List (Int×Int×Bool×PUnit)),())))
        (Tr.test ((Nat.ble (((2:Nat) * (List.length b2_2 + (1:Nat)) + (192:Nat)) * (32:Nat)) (281474976710656:Nat) && Nat.ble (List.length b2_2 + (1:Nat)) (281474976710656:Nat):Bool))
          (let r0:=g101 (((List.getD x3 (Int.toNat x5) ((0:Int),(0:Int),[],())).2.2.1:List (Int×Int×Bool×PUnit)),());
          Tr.fin (.again ((x3,(x4,((wrap64 (x5 + (1:Int)):Int),()))),((b0_0,()),((),(((b2_0n,b2_0c),((b2_1n,b2_1c),((b2_2++[(r0.1.2.1.1,r0.1.2.1.2.1,())]:List (Int×List (Int×Bool×PUnit)×PUnit)),()))),(b3,(b4,()))))))))
          (Tr.stop))
        (Tr.stop))
      (Tr.stop))
    (Tr.fin (.brk ((),((b0_0,()),((),(((b2_0n,b2_0c),((b2_1n,b2_1c),(b2_2,()))),(b3,(b4,()))))))))
def s66_0 (d:sh66_0.data):Option (Out sh66_0.data shb66_0.data shr66_0.data):=(t66_0 d.1.1 d.1.2.1 d.1.2.2.1 d.2.1.1 d.2.2.2.1.1.1 d.2.2.2.1.1.2 d.2.2.2.1.2.1.1 d.2.2.2.1.2.1.2 d.2.2.2.1.2.2.1 d.2.2.2.2.1 d.2.2.2.2.2.1).val
def l66_0 (d:sh66_0.data):Option (shb66_0.data ⊕ shr66_0.data):=itr s66_0 rounds d
def b66_0 (d:sh66_0.data):shb66_0.data:=outB shb66_0.dflt (l66_0 d)
def lc66_0:LoopC:=lcB sh66_0 shb66_0 shr66_0 l66_0 b66_0
theorem wk66_0 (x3:(List (Int×(Int×((List (Int×(Int×(Bool×Unit))))×Unit))))) (x4:Int) (x5:Int) (b0_0:(List (Int×(Int×((List (Int×(Int×(Bool×Unit))))×Unit))))) (b2_0n:Nat) (b2_0c:Nat) (b2_1n:Nat) (b2_1c:Nat) (b2_2:(List (Int×((List (Int×(Bool×Unit)))×Unit)))) (b3:(List Int)) (b4:(List Int)):Walks (qak (kf101 Proofs.Tryz.prog).orc Proofs.Tryz.prog 400 66 0 sh66_0 shb66_0 shr66_0 ((x3,x4,x5,()),(b0_0,()),(),((b2_0n,b2_0c),(b2_1n,b2_1c),b2_2,()),b3,b4,())) (t66_0 x3 x4 x5 b0_0 b2_0n b2_0c b2_1n b2_1c b2_2 b3 b4) [(bl 4 15,[2,4,6,8]),(bl 1 0,[2])] :=
  ⟨by kernel_rfl,by kernel_rfl,trivial⟩
theorem ok66_0_t (x3:(List (Int×(Int×((List (Int×(Int×(Bool×Unit))))×Unit))))) (x4:Int) (x5:Int) (b0_0:(List (Int×(Int×((List (Int×(Int×(Bool×Unit))))×Unit))))) (b2_0n:Nat) (b2_0c:Nat) (b2_1n:Nat) (b2_1c:Nat) (b2_2:(List (Int×((List (Int×(Bool×Unit)))×Unit)))) (b3:(List Int)) (b4:(List Int)):TrOk (BodyRuns Proofs.Tryz.prog (kf101 Proofs.Tryz.prog).orc 66 0 sh66_0 shb66_0 shr66_0 ((x3,x4,x5,()),(b0_0,()),(),((b2_0n,b2_0c),(b2_1n,b2_1c),b2_2,()),b3,b4,())) (t66_0 x3 x4 x5 b0_0 b2_0n b2_0c b2_1n b2_1c b2_2 b3 b4) :=
  Walks.ok (fun _ _ _=>BodyRuns.of) (wk66_0 x3 x4 x5 b0_0 b2_0n b2_0c b2_1n b2_1c b2_2 b3 b4) (by kernel_rfl)
theorem ok66_0:qaw Proofs.Tryz.prog 66 0 lc66_0:=qaZ (sh:=sh66_0) (shB:=shb66_0) (shR:=shr66_0) kf101_ok.base (T:=fun (d:sh66_0.data)=>t66_0 d.1.1 d.1.2.1 d.1.2.2.1 d.2.1.1 d.2.2.2.1.1.1 d.2.2.2.1.1.2 d.2.2.2.1.2.1.1 d.2.2.2.1.2.1.2 d.2.2.2.1.2.2.1 d.2.2.2.2.1 d.2.2.2.2.2.1) (by kernel_rfl) rfl (fun (d:sh66_0.data)=>ok66_0_t d.1.1 d.1.2.1 d.1.2.2.1 d.2.1.1 d.2.2.2.1.1.1 d.2.2.2.1.1.2 d.2.2.2.1.2.1.1 d.2.2.2.1.2.1.2 d.2.2.2.1.2.2.1 d.2.2.2.2.1 d.2.2.2.2.2.1) (fun _=>rfl)
def kl66_0 (P:Go.Program):Known:=(kf101 P).loop 66 0 lc66_0
theorem kl66_0_ok:KnownOk Proofs.Tryz.prog (kl66_0 Proofs.Tryz.prog):=kf101_ok.loop ok66_0
abbrev as66:List Ty:=[(.pair (.pair (.slice (.pair (.int .i64) (.pair (.int .i64) (.pair (.slice (.pair (.int .i64) (.pair (.int .i64) (.pair .bool .unit)))) .unit)))) .unit) .unit)]
abbrev rs66:List Ty:=[(.pair (.pair (.pair (.slice (.pair (.int .i64) (.pair (.int .i64) (.pair (.slice (.pair (.int .i64) (.pair (.int .i64) (.pair .bool .unit)))) .unit)))) .unit) .unit) (.pair (.pair (.slice (.int .i64)) (.pair (.slice (.int .i64)) (.pair (.slice (.pair (.int .i64) (.pair (.slice (.pair (.int .i64) (.pair .bool .unit))) .unit))) .unit))) .unit))]
def t66 (x0_:(List (Int×(Int×((List (Int×(Int×(Bool×Unit))))×Unit))))):Tr (Tys.data rs66) :=
  Tr.test ((decide ((0:Int) ≤ (↑(List.length x0_):Int)) && decide ((↑(List.length x0_):Int) ≤ (↑(List.length x0_):Int)) && decide ((8:Int) * (↑(List.length x0_):Int) ≤ (281474976710656:Int)) && decide ((↑(List.length x0_):Int) ≤ (281474976710656:Int)):Bool))
    (Tr.test (qbI (l66_0 ((x0_,((↑(List.length x0_):Int),((0:Int),()))),((x0_,()),((),((((Int.toNat (↑(List.length x0_):Int):Nat),(Int.toNat (↑(List.length x0_):Int):Nat)),(((Int.toNat (↑(List.length x0_):Int):Nat),(Int.toNat (↑(List.length x0_):Int):Nat)),(([]:List (Int×List (Int×Bool×PUnit)×PUnit)),()))),((List.replicate (Int.toNat (↑(List.length x0_):Int)) (0:Int):List Int),((List.replicate (Int.toNat (↑(List.length x0_):Int)) (0:Int):List Int),()))))))))
      (let r0:=b66_0 ((x0_,((↑(List.length x0_):Int),((0:Int),()))),((x0_,()),((),((((Int.toNat (↑(List.length x0_):Int):Nat),(Int.toNat (↑(List.length x0_):Int):Nat)),(((Int.toNat (↑(List.length x0_):Int):Nat),(Int.toNat (↑(List.length x0_):Int):Nat)),(([]:List (Int×List (Int×Bool×PUnit)×PUnit)),()))),((List.replicate (Int.toNat (↑(List.length x0_):Int)) (0:Int):List Int),((List.replicate (Int.toNat (↑(List.length x0_):Int)) (0:Int):List Int),()))))));
      Tr.test ((Nat.beq r0.2.2.2.1.1.1 (List.length r0.2.2.2.2.1):Bool))
        (Tr.test ((Nat.beq r0.2.2.2.1.2.1.1 (List.length r0.2.2.2.2.2.1):Bool))
          (Tr.fin ((((((r0.2.1.1:List (Int×Int×List (Int×Int×Bool×PUnit)×PUnit)),()),()),((r0.2.2.2.2.1,(r0.2.2.2.2.2.1,((r0.2.2.2.1.2.2.1:List (Int×List (Int×Bool×PUnit)×PUnit)),()))),())),())))
          (Tr.test ((Nat.ble r0.2.2.2.1.2.1.1 (List.length r0.2.2.2.2.2.1):Bool))
            (Tr.fin ((((((r0.2.1.1:List (Int×Int×List (Int×Int×Bool×PUnit)×PUnit)),()),()),((r0.2.2.2.2.1,((List.take r0.2.2.2.1.2.1.1 r0.2.2.2.2.2.1:List Int),((r0.2.2.2.1.2.2.1:List (Int×List (Int×Bool×PUnit)×PUnit)),()))),())),())))
            (Tr.stop)))
        (Tr.test ((Nat.ble r0.2.2.2.1.1.1 (List.length r0.2.2.2.2.1):Bool))
          (Tr.test ((Nat.beq r0.2.2.2.1.2.1.1 (List.length r0.2.2.2.2.2.1):Bool))
            (Tr.fin ((((((r0.2.1.1:List (Int×Int×List (Int×Int×Bool×PUnit)×PUnit)),()),()),(((List.take r0.2.2.2.1.1.1 r0.2.2.2.2.1:List Int),(r0.2.2.2.2.2.1,((r0.2.2.2.1.2.2.1:List (Int×List (Int×Bool×PUnit)×PUnit)),()))),())),())))
            (Tr.test ((Nat.ble r0.2.2.2.1.2.1.1 (List.length r0.2.2.2.2.2.1):Bool))
              (Tr.fin ((((((r0.2.1.1:List (Int×Int×List (Int×Int×Bool×PUnit)×PUnit)),()),()),(((List.take r0.2.2.2.1.1.1 r0.2.2.2.2.1:List Int),((List.take r0.2.2.2.1.2.1.1 r0.2.2.2.2.2.1:List Int),((r0.2.2.2.1.2.2.1:List (Int×List (Int×Bool×PUnit)×PUnit)),()))),())),())))
              (Tr.stop)))
          (Tr.stop)))
      (Tr.stop))
    (Tr.stop)
def f66 (d:Tys.data as66):Option (Tys.data rs66):=(t66 d.1.1.1).val
def g66 (d:Tys.data as66):Tys.data rs66:=(f66 d).getD (Tys.dflt rs66)
def p66:PureC:=pcOf as66 rs66 f66 g66
theorem wk66 (x0_:(List (Int×(Int×((List (Int×(Int×(Bool×Unit))))×Unit))))):Walks (runPure (kl66_0 Proofs.Tryz.prog).orc Proofs.Tryz.prog 400 66 as66 rs66 (((x0_,()),()),())) (t66 x0_) [(bl 4 15,[2,4,1,6,8,8]),(bl 5 23,[2,4,6,1,8,10,10]),(bl 5 27,[2,4,6,1,8,10,10]),(bl 6 43,[2,4,6,8,1,10,12,12])] :=
  ⟨by kernel_rfl,by kernel_rfl,by kernel_rfl,by kernel_rfl,trivial⟩
theorem ok66_t (x0_:(List (Int×(Int×((List (Int×(Int×(Bool×Unit))))×Unit))))):TrOk (PureRuns Proofs.Tryz.prog (kl66_0 Proofs.Tryz.prog).orc 66 as66 rs66 (((x0_,()),()),())) (t66 x0_) :=
  Walks.ok (fun _ _ _=>PureRuns.of) (wk66 x0_) (by kernel_rfl)
theorem ok66:PureOk Proofs.Tryz.prog 66 p66:=qab kl66_0_ok.base (T:=fun (d:Tys.data as66)=>t66 d.1.1.1) (by kernel_rfl) (fun (d:Tys.data as66)=>ok66_t d.1.1.1)
def kf66 (P:Go.Program):Known:=(kl66_0 P).func 66 p66
theorem kf66_ok:KnownOk Proofs.Tryz.prog (kf66 Proofs.Tryz.prog):=kl66_0_ok.func ok66
abbrev as91:List Ty:=[(.slice (.int .i64))]
abbrev rs91:List Ty:=[(.slice (.int .i64))]
def t91 (x0:(List Int)):Tr (Tys.data rs91) :=
  Tr.test ((Nat.beq (List.length x0) (0:Nat):Bool))
    (Tr.stop)
    (Tr.test (Nat.ble (((2:Nat) * ((0:Nat) + List.length x0) + (192:Nat)) * (8:Nat)) (281474976710656:Nat) && Nat.ble ((0:Nat) + List.length x0) (281474976710656:Nat))
      (Tr.fin ((([]++x0:List Int),())))
      (Tr.test ((Nat.ble ((0:Nat) + List.length x0) (0:Nat):Bool))
        (Tr.stop)
        (Tr.stop)))
def f91 (d:Tys.data as91):Option (Tys.data rs91):=(t91 d.1).val
def g91 (d:Tys.data as91):Tys.data rs91:=(f91 d).getD (Tys.dflt rs91)
def p91:PureC:=pcOf as91 rs91 f91 g91
theorem wk91 (x0:(List Int)):Walks (runPure (kf66 Proofs.Tryz.prog).orc Proofs.Tryz.prog 400 91 as91 rs91 (x0,())) (t91 x0) [(bl 2 2,[2,0,4])] :=
  ⟨by kernel_rfl,trivial⟩
theorem ok91_t (x0:(List Int)):TrOk (PureRuns Proofs.Tryz.prog (kf66 Proofs.Tryz.prog).orc 91 as91 rs91 (x0,())) (t91 x0) :=
  Walks.ok (fun _ _ _=>PureRuns.of) (wk91 x0) (by kernel_rfl)
theorem ok91:PureOk Proofs.Tryz.prog 91 p91:=qab kf66_ok.base (T:=fun (d:Tys.data as91)=>t91 d.1) (by kernel_rfl) (fun (d:Tys.data as91)=>ok91_t d.1)
def kf91 (P:Go.Program):Known:=(kf66 P).func 91 p91
theorem kf91_ok:KnownOk Proofs.Tryz.prog (kf91 Proofs.Tryz.prog):=kf66_ok.func ok91
abbrev as92:List Ty:=[(.pair (.pair (.pair (.slice (.pair (.int .i64) (.pair (.int .i64) (.pair (.slice (.pair (.int .i64) (.pair (.int .i64) (.pair .bool .unit)))) .unit)))) .unit) .unit) (.pair (.pair (.slice (.int .i64)) (.pair (.slice (.int .i64)) (.pair (.slice (.pair (.int .i64) (.pair (.slice (.pair (.int .i64) (.pair .bool .unit))) .unit))) .unit))) .unit)),(.int .i64)]
abbrev rs92:List Ty:=[(.pair (.slice (.pair (.int .i64) (.pair (.int .i64) (.pair .bool .unit)))) (.pair (.pair (.int .i64) (.pair (.slice (.pair (.int .i64) (.pair .bool .unit))) .unit)) .unit))]
def t92 (x0__:(List (Int×(Int×((List (Int×(Int×(Bool×Unit))))×Unit))))) (x0'_:(List Int)) (x0'_':(List Int)) (x0'_'':(List (Int×((List (Int×(Bool×Unit)))×Unit)))) (x1:Int):Tr (Tys.data rs92) :=
  Tr.test ((decide ((0:Int) ≤ x1) && decide (x1 < (↑(List.length x0__):Int)):Bool))
    (Tr.test (decide ((0:Int) ≤ x1) && decide (x1 < (↑(List.length x0'_''):Int)))
      (Tr.fin (((((List.getD x0__ (Int.toNat x1) ((0:Int),(0:Int),[],())).2.2.1:List (Int×Int×Bool×PUnit)),((((List.getD x0'_'' (Int.toNat x1) ((0:Int),[],())).1:Int),(((List.getD x0'_'' (Int.toNat x1) ((0:Int),[],())).2.1:List (Int×Bool×PUnit)),())),())),())))
      (Tr.stop))
    (Tr.stop)
def f92 (d:Tys.data as92):Option (Tys.data rs92):=(t92 d.1.1.1.1 d.1.2.1.1 d.1.2.1.2.1 d.1.2.1.2.2.1 d.2.1).val
def g92 (d:Tys.data as92):Tys.data rs92:=(f92 d).getD (Tys.dflt rs92)
def p92:PureC:=pcOf as92 rs92 f92 g92
theorem wk92 (x0__:(List (Int×(Int×((List (Int×(Int×(Bool×Unit))))×Unit))))) (x0'_:(List Int)) (x0'_':(List Int)) (x0'_'':(List (Int×((List (Int×(Bool×Unit)))×Unit)))) (x1:Int):Walks (runPure (kf91 Proofs.Tryz.prog).orc Proofs.Tryz.prog 400 92 as92 rs92 ((((x0__,()),()),(x0'_,x0'_',x0'_'',()),()),x1,())) (t92 x0__ x0'_ x0'_' x0'_'' x1) [(bl 2 3,[2,4])] :=
  ⟨by kernel_rfl,trivial⟩
theorem ok92_t (x0__:(List (Int×(Int×((List (Int×(Int×(Bool×Unit))))×Unit))))) (x0'_:(List Int)) (x0'_':(List Int)) (x0'_'':(List (Int×((List (Int×(Bool×Unit)))×Unit)))) (x1:Int):TrOk (PureRuns Proofs.Tryz.prog (kf91 Proofs.Tryz.prog).orc 92 as92 rs92 ((((x0__,()),()),(x0'_,x0'_',x0'_'',()),()),x1,())) (t92 x0__ x0'_ x0'_' x0'_'' x1) :=
  Walks.ok (fun _ _ _=>PureRuns.of) (wk92 x0__ x0'_ x0'_' x0'_'' x1) (by kernel_rfl)
theorem ok92:PureOk Proofs.Tryz.prog 92 p92:=qab kf91_ok.base (T:=fun (d:Tys.data as92)=>t92 d.1.1.1.1 d.1.2.1.1 d.1.2.1.2.1 d.1.2.1.2.2.1 d.2.1) (by kernel_rfl) (fun (d:Tys.data as92)=>ok92_t d.1.1.1.1 d.1.2.1.1 d.1.2.1.2.1 d.1.2.1.2.2.1 d.2.1)
def kf92 (P:Go.Program):Known:=(kf91 P).func 92 p92
theorem kf92_ok:KnownOk Proofs.Tryz.prog (kf92 Proofs.Tryz.prog):=kf91_ok.func ok92
abbrev as113:List Ty:=[(.pair (.pair (.int .i64) (.pair (.int .i64) (.pair .bool .unit))) (.pair (.pair (.int .i64) (.pair .bool .unit)) (.pair (.int .i64) .unit)))]
abbrev rs113:List Ty:=[(.int .i64)]
def t113 (x0_:Int) (x0_':Int) (x0_'':Bool) (x0'_:Int) (x0'_':Bool) (x0'':Int):Tr (Tys.data rs113) :=
  Tr.fin (((wrap64 (x0'' - x0'_):Int),()))
def f113 (d:Tys.data as113):Option (Tys.data rs113):=(t113 d.1.1.1 d.1.1.2.1 d.1.1.2.2.1 d.1.2.1.1 d.1.2.1.2.1 d.1.2.2.1).val
def g113 (d:Tys.data as113):Tys.data rs113:=(f113 d).getD (Tys.dflt rs113)
def p113:PureC:=pcOf as113 rs113 f113 g113
theorem wk113 (x0_:Int) (x0_':Int) (x0_'':Bool) (x0'_:Int) (x0'_':Bool) (x0'':Int):Walks (runPure (kf92 Proofs.Tryz.prog).orc Proofs.Tryz.prog 400 113 as113 rs113 (((x0_,x0_',x0_'',()),(x0'_,x0'_',()),x0'',()),())) (t113 x0_ x0_' x0_'' x0'_ x0'_' x0'') [(bl 0 0,[])] :=
  ⟨by kernel_rfl,trivial⟩
theorem ok113_t (x0_:Int) (x0_':Int) (x0_'':Bool) (x0'_:Int) (x0'_':Bool) (x0'':Int):TrOk (PureRuns Proofs.Tryz.prog (kf92 Proofs.Tryz.prog).orc 113 as113 rs113 (((x0_,x0_',x0_'',()),(x0'_,x0'_',()),x0'',()),())) (t113 x0_ x0_' x0_'' x0'_ x0'_' x0'') :=
  Walks.ok (fun _ _ _=>PureRuns.of) (wk113 x0_ x0_' x0_'' x0'_ x0'_' x0'') (by kernel_rfl)
theorem ok113:PureOk Proofs.Tryz.prog 113 p113:=qab kf92_ok.base (T:=fun (d:Tys.data as113)=>t113 d.1.1.1 d.1.1.2.1 d.1.1.2.2.1 d.1.2.1.1 d.1.2.1.2.1 d.1.2.2.1) (by kernel_rfl) (fun (d:Tys.data as113)=>ok113_t d.1.1.1 d.1.1.2.1 d.1.1.2.2.1 d.1.2.1.1 d.1.2.1.2.1 d.1.2.2.1)
def kf113 (P:Go.Program):Known:=(kf92 P).func 113 p113
theorem kf113_ok:KnownOk Proofs.Tryz.prog (kf113 Proofs.Tryz.prog):=kf92_ok.func ok113
abbrev as102:List Ty:=[(.pair (.pair (.int .i64) (.pair (.int .i64) (.pair .bool .unit))) (.pair (.pair (.int .i64) (.pair .bool .unit)) (.pair (.int .i64) .unit)))]
abbrev rs102:List Ty:=[(.int .i64)]
def t102 (x0_:Int) (x0_':Int) (x0_'':Bool) (x0'_:Int) (x0'_':Bool) (x0'':Int):Tr (Tys.data rs102) :=
  Tr.test (x0'_')
    (Tr.fin (((0:Int),())))
    (Tr.test (Option.isSome (f113 (((x0_,(x0_',(x0_'',()))),((x0'_,(x0'_',())),(x0'',()))),())))
      (let r0:=g113 (((x0_,(x0_',(x0_'',()))),((x0'_,(x0'_',())),(x0'',()))),());
      Tr.fin (((wrap64 (x0_ * r0.1):Int),())))
      (Tr.stop))
def f102 (d:Tys.data as102):Option (Tys.data rs102):=(t102 d.1.1.1 d.1.1.2.1 d.1.1.2.2.1 d.1.2.1.1 d.1.2.1.2.1 d.1.2.2.1).val
def g102 (d:Tys.data as102):Tys.data rs102:=(f102 d).getD (Tys.dflt rs102)
def p102:PureC:=pcOf as102 rs102 f102 g102
theorem wk102 (x0_:Int) (x0_':Int) (x0_'':Bool) (x0'_:Int) (x0'_':Bool) (x0'':Int):Walks (runPure (kf113 Proofs.Tryz.prog).orc Proofs.Tryz.prog 400 102 as102 rs102 (((x0_,x0_',x0_'',()),(x0'_,x0'_',()),x0'',()),())) (t102 x0_ x0_' x0_'' x0'_ x0'_' x0'') [(bl 1 1,[2]),(bl 2 2,[2,4])] :=
  ⟨by kernel_rfl,by kernel_rfl,trivial⟩
theorem ok102_t (x0_:Int) (x0_':Int) (x0_'':Bool) (x0'_:Int) (x0'_':Bool) (x0'':Int):TrOk (PureRuns Proofs.Tryz.prog (kf113 Proofs.Tryz.prog).orc 102 as102 rs102 (((x0_,x0_',x0_'',()),(x0'_,x0'_',()),x0'',()),())) (t102 x0_ x0_' x0_'' x0'_ x0'_' x0'') :=
  Walks.ok (fun _ _ _=>PureRuns.of) (wk102 x0_ x0_' x0_'' x0'_ x0'_' x0'') (by kernel_rfl)
theorem ok102:PureOk Proofs.Tryz.prog 102 p102:=qab kf113_ok.base (T:=fun (d:Tys.data as102)=>t102 d.1.1.1 d.1.1.2.1 d.1.1.2.2.1 d.1.2.1.1 d.1.2.1.2.1 d.1.2.2.1) (by kernel_rfl) (fun (d:Tys.data as102)=>ok102_t d.1.1.1 d.1.1.2.1 d.1.1.2.2.1 d.1.2.1.1 d.1.2.1.2.1 d.1.2.2.1)
def kf102 (P:Go.Program):Known:=(kf113 P).func 102 p102
theorem kf102_ok:KnownOk Proofs.Tryz.prog (kf102 Proofs.Tryz.prog):=kf113_ok.func ok102
theorem sc75_0:qav Proofs.Tryz.prog 75 0 = true:=qc4 (by kernel_rfl)
abbrev sh109_0 (P:Go.Program):Sh:={ n:=28,slots:=[0,1,7,8,9],pats:=[.yld 0,.ptr 1 3 0,.ty (.slice (.pair (.int .i64) (.pair .bool .unit))),.ty (.int .i64),.ty (.int .i64)],boxes:=[.lp (lpOf P 75 0 .ready none 15 [3,5] 2) [.ptr 3 1 0,.ptr 4 1 0],.row [.ty (.slice (.pair (.int .i64) (.pair (.int .i64) (.pair .bool .unit)))),.ty (.int .i64),.ty (.slice (.pair (.int .i64) (.pair .bool .unit)))],.dfr,.row [.fn 102 []],.row [.ty (.int .i64)]] }
abbrev shb109_0 (P:Go.Program):Sh:={ n:=28,slots:=[],pats:=[],boxes:=[.lp (lpOf P 75 0 .ready none 15 [3,5] 2) [.ptr 3 1 0,.ptr 4 1 0],.row [.ty (.slice (.pair (.int .i64) (.pair (.int .i64) (.pair .bool .unit)))),.ty (.int .i64),.ty (.slice (.pair (.int .i64) (.pair .bool .unit)))],.dfr,.row [.fn 102 []],.row [.ty (.int .i64)]] }
abbrev shr109_0 (P:Go.Program):Sh:={ n:=28,slots:=[],pats:=[],boxes:=[.lp (lpOf P 75 0 .ready none 15 [3,5] 2) [.ptr 3 1 0,.ptr 4 1 0],.row [.ty (.slice (.pair (.int .i64) (.pair (.int .i64) (.pair .bool .unit)))),.ty (.int .i64),.ty (.slice (.pair (.int .i64) (.pair .bool .unit)))],.dfr,.row [.fn 102 []],.row [.ty (.int .i64)]] }
abbrev dt109_0:Type:=(List (Int×Bool×PUnit)×Int×Int×PUnit)×PUnit×(List (Int×Int×Bool×PUnit)×Int×List (Int×Bool×PUnit)×PUnit)×PUnit×(Int×PUnit)×PUnit
abbrev db109_0:Type:=PUnit×PUnit×(List (Int×Int×Bool×PUnit)×Int×List (Int×Bool×PUnit)×PUnit)×PUnit×(Int×PUnit)×PUnit
abbrev dr109_0:Type:=PUnit×PUnit×(List (Int×Int×Bool×PUnit)×Int×List (Int×Bool×PUnit)×PUnit)×PUnit×(Int×PUnit)×PUnit
def t109_0 (x2:(List (Int×(Bool×Unit)))) (x3:Int) (x4:Int) (b1_0:(List (Int×(Int×(Bool×Unit))))) (b1_1:Int) (b1_2:(List (Int×(Bool×Unit)))) (b4_0:Int):Tr (Out dt109_0 db109_0 dr109_0) :=
  Tr.test ((!leF x3 x4:Bool))
    (Tr.test (decide ((0:Int) ≤ x4) && decide (x4 < (↑(List.length x2):Int)))
      (Tr.test ((decide ((0:Int) ≤ x4) && decide (x4 < (↑(List.length b1_0):Int)):Bool))
        (Tr.test (Option.isSome (f102 (((((List.getD b1_0 (Int.toNat x4) ((0:Int),(0:Int),false,())).1:Int),(((List.getD b1_0 (Int.toNat x4) ((0:Int),(0:Int),false,())).2.1:Int),(((List.getD b1_0 (Int.toNat x4) ((0:Int),(0:Int),false,())).2.2.1:Bool),()))),((((List.getD x2 (Int.toNat x4) ((0:Int),false,())).1:Int),(((List.getD x2 (Int.toNat x4) ((0:Int),false,())).2.1:Bool),())),(b1_1,()))),())))
          (let r0:=g102 (((((List.getD b1_0 (Int.toNat x4) ((0:Int),(0:Int),false,())).1:Int),(((List.getD b1_0 (Int.toNat x4) ((0:Int),(0:Int),false,())).2.1:Int),(((List.getD b1_0 (Int.toNat x4) ((0:Int),(0:Int),false,())).2.2.1:Bool),()))),((((List.getD x2 (Int.toNat x4) ((0:Int),false,())).1:Int),(((List.getD x2 (Int.toNat x4) ((0:Int),false,())).2.1:Bool),())),(b1_1,()))),());
          Tr.fin (.again ((x2,(x3,((wrap64 (x4 + (1:Int)):Int),()))),((),((b1_0,(b1_1,(b1_2,()))),((),(((wrap64 (b4_0 + r0.1):Int),()),())))))))
          (Tr.stop))
        (Tr.stop))
      (Tr.stop))
    (Tr.fin (.brk ((),((),((b1_0,(b1_1,(b1_2,()))),((),((b4_0,()),())))))))
def s109_0 (d:dt109_0):Option (Out dt109_0 db109_0 dr109_0):=(t109_0 d.1.1 d.1.2.1 d.1.2.2.1 d.2.2.1.1 d.2.2.1.2.1 d.2.2.1.2.2.1 d.2.2.2.2.1.1).val
def l109_0 (d:dt109_0):Option (db109_0 ⊕ dr109_0):=itr s109_0 rounds d
def b109_0 (d:dt109_0):db109_0:=outB (((),((),((([]:List (Int×Int×Bool×PUnit)),((0:Int),(([]:List (Int×Bool×PUnit)),()))),((),(((0:Int),()),())))))) (l109_0 d)
def lc109_0 (P:Go.Program):LoopC:=lcB (sh109_0 P) (shb109_0 P) (shr109_0 P) l109_0 b109_0
theorem e109_0_0 (x2:(List (Int×(Bool×Unit)))) (x3:Int) (x4:Int) (b1_0:(List (Int×(Int×(Bool×Unit))))) (b1_1:Int) (b1_2:(List (Int×(Bool×Unit)))) (b4_0:Int):qak (kf102 Proofs.Tryz.prog).orc Proofs.Tryz.prog 400 109 0 (sh109_0 Proofs.Tryz.prog) (shb109_0 Proofs.Tryz.prog) (shr109_0 Proofs.Tryz.prog) ((x2,x3,x4,()),(),(b1_0,b1_1,b1_2,()),(),(b4_0,()),()) [tt,tt,tt,tt,ff] =
    (let r0:=g102 (((((List.getD b1_0 (Int.toNat x4) ((0:Int),(0:Int),false,())).1:Int),(((List.getD b1_0 (Int.toNat x4) ((0:Int),(0:Int),false,())).2.1:Int),((List.getD b1_0 (Int.toNat x4) ((0:Int),(0:Int),false,())).2.2.1,()))),((((List.getD x2 (Int.toNat x4) ((0:Int),false,())).1:Int),((List.getD x2 (Int.toNat x4) ((0:Int),false,())).2.1,())),(b1_1,()))),()); some (.again ((x2,(x3,((wrap64 (x4 + (1:Int)):Int),()))),((),((b1_0,(b1_1,(b1_2,()))),((),(((wrap64 (b4_0 + r0.1):Int),()),()))))),[(qav Proofs.Tryz.prog (nat_lit 75) (nat_lit 0),true),(false,false),(Option.isSome (f102 (((((List.getD b1_0 (Int.toNat x4) ((0:Int),(0:Int),false,())).1:Int),(((List.getD b1_0 (Int.toNat x4) ((0:Int),(0:Int),false,())).2.1:Int),((List.getD b1_0 (Int.toNat x4) ((0:Int),(0:Int),false,())).2.2.1,()))),((((List.getD x2 (Int.toNat x4) ((0:Int),false,())).1:Int),((List.getD x2 (Int.toNat x4) ((0:Int),false,())).2.1,())),(b1_1,()))),())),true),(decide ((0:Int) ≤ x4) && decide (x4 < (↑(List.length b1_0):Int)),true),(decide ((0:Int) ≤ x4) && decide (x4 < (↑(List.length x2):Int)),true),(!leF x3 x4,true)])):=by kernel_rfl
theorem e109_0_3 (x2:(List (Int×(Bool×Unit)))) (x3:Int) (x4:Int) (b1_0:(List (Int×(Int×(Bool×Unit))))) (b1_1:Int) (b1_2:(List (Int×(Bool×Unit)))) (b4_0:Int):qak (kf102 Proofs.Tryz.prog).orc Proofs.Tryz.prog 400 109 0 (sh109_0 Proofs.Tryz.prog) (shb109_0 Proofs.Tryz.prog) (shr109_0 Proofs.Tryz.prog) ((x2,x3,x4,()),(),(b1_0,b1_1,b1_2,()),(),(b4_0,()),()) [ff] =
    (some (.brk ((),((),((b1_0,(b1_1,(b1_2,()))),((),((b4_0,()),()))))),[(qav Proofs.Tryz.prog (nat_lit 75) (nat_lit 0),true),(!leF x3 x4,false)])):=by kernel_rfl
theorem ok109_0_t (x2:(List (Int×(Bool×Unit)))) (x3:Int) (x4:Int) (b1_0:(List (Int×(Int×(Bool×Unit))))) (b1_1:Int) (b1_2:(List (Int×(Bool×Unit)))) (b4_0:Int):TrOk (BodyRuns Proofs.Tryz.prog (kf102 Proofs.Tryz.prog).orc 109 0 (sh109_0 Proofs.Tryz.prog) (shb109_0 Proofs.Tryz.prog) (shr109_0 Proofs.Tryz.prog) ((x2,x3,x4,()),(),(b1_0,b1_1,b1_2,()),(),(b4_0,()),())) (t109_0 x2 x3 x4 b1_0 b1_1 b1_2 b4_0) :=
  TrOk.ofTest (fun h0=>TrOk.ofTest (fun h1=>TrOk.ofTest (fun h2=>TrOk.ofTest (fun h3=>TrOk.ofFin (BodyRuns.of (e109_0_0 x2 x3 x4 b1_0 b1_1 b1_2 b4_0) (ac (sc75_0) (ac rfl (ac h3 (ac h2 (ac h1 (ac h0 All.nil)))))))) (fun h3=>TrOk.ofStop)) (fun h2=>TrOk.ofStop)) (fun h1=>TrOk.ofStop)) (fun h0=>TrOk.ofFin (BodyRuns.of (e109_0_3 x2 x3 x4 b1_0 b1_1 b1_2 b4_0) (ac (sc75_0) (ac h0 All.nil))))
theorem ok109_0:qaw Proofs.Tryz.prog 109 0 (lc109_0 Proofs.Tryz.prog):=qaZ (sh:=(sh109_0 Proofs.Tryz.prog)) (shB:=(shb109_0 Proofs.Tryz.prog)) (shR:=(shr109_0 Proofs.Tryz.prog)) kf102_ok.base (T:=fun (d:dt109_0)=>t109_0 d.1.1 d.1.2.1 d.1.2.2.1 d.2.2.1.1 d.2.2.1.2.1 d.2.2.1.2.2.1 d.2.2.2.2.1.1) (by kernel_rfl) rfl (fun (d:dt109_0)=>ok109_0_t d.1.1 d.1.2.1 d.1.2.2.1 d.2.2.1.1 d.2.2.1.2.1 d.2.2.1.2.2.1 d.2.2.2.2.1.1) (fun _=>rfl)
def kl109_0 (P:Go.Program):Known:=(kf102 P).loop 109 0 (lc109_0 P)
theorem kl109_0_ok:KnownOk Proofs.Tryz.prog (kl109_0 Proofs.Tryz.prog):=kf102_ok.loop ok109_0
abbrev as68:List Ty:=[(.pair (.slice (.pair (.int .i64) (.pair (.int .i64) (.pair .bool .unit)))) (.pair (.pair (.int .i64) (.pair (.slice (.pair (.int .i64) (.pair .bool .unit))) .unit)) .unit))]
abbrev rs68:List Ty:=[(.int .i64)]
def t68 (x0:(List (Int×(Int×(Bool×Unit))))) (x0'_:Int) (x0'_':(List (Int×(Bool×Unit)))):Tr (Tys.data rs68) :=
  Tr.test (qbI (l109_0 ((x0'_',((↑(List.length x0'_'):Int),((0:Int),()))),((),((x0,(x0'_,(x0'_',()))),((),(((0:Int),()),())))))))
    (let r0:=b109_0 ((x0'_',((↑(List.length x0'_'):Int),((0:Int),()))),((),((x0,(x0'_,(x0'_',()))),((),(((0:Int),()),())))));
    Tr.fin ((r0.2.2.2.2.1.1,())))
    (Tr.stop)
def f68 (d:Tys.data as68):Option (Tys.data rs68):=(t68 d.1.1 d.1.2.1.1 d.1.2.1.2.1).val
def g68 (d:Tys.data as68):Tys.data rs68:=(f68 d).getD (Tys.dflt rs68)
def p68:PureC:=pcOf as68 rs68 f68 g68
theorem e68_0 (x0:(List (Int×(Int×(Bool×Unit))))) (x0'_:Int) (x0'_':(List (Int×(Bool×Unit)))):runPure (kl109_0 Proofs.Tryz.prog).orc Proofs.Tryz.prog 400 68 as68 rs68 ((x0,(x0'_,x0'_',()),()),()) [tt,tt,tt] =
    (let r0:=b109_0 ((x0'_',((↑(List.length x0'_'):Int),((0:Int),()))),((),((x0,(x0'_,(x0'_',()))),((),(((0:Int),()),()))))); some ((r0.2.2.2.2.1.1,()),[(true,true),(qbI (l109_0 ((x0'_',((↑(List.length x0'_'):Int),((0:Int),()))),((),((x0,(x0'_,(x0'_',()))),((),(((0:Int),()),())))))),true),(qav Proofs.Tryz.prog (nat_lit 75) (nat_lit 0),true)])):=by kernel_rfl
theorem ok68_t (x0:(List (Int×(Int×(Bool×Unit))))) (x0'_:Int) (x0'_':(List (Int×(Bool×Unit)))):TrOk (PureRuns Proofs.Tryz.prog (kl109_0 Proofs.Tryz.prog).orc 68 as68 rs68 ((x0,(x0'_,x0'_',()),()),())) (t68 x0 x0'_ x0'_') :=
  TrOk.ofTest (fun h1=>TrOk.ofFin (PureRuns.of (e68_0 x0 x0'_ x0'_') (ac rfl (ac h1 (ac (sc75_0) All.nil))))) (fun h1=>TrOk.ofStop)
theorem ok68:PureOk Proofs.Tryz.prog 68 p68:=qab kl109_0_ok.base (T:=fun (d:Tys.data as68)=>t68 d.1.1 d.1.2.1.1 d.1.2.1.2.1) (by kernel_rfl) (fun (d:Tys.data as68)=>ok68_t d.1.1 d.1.2.1.1 d.1.2.1.2.1)
def kf68 (P:Go.Program):Known:=(kl109_0 P).func 68 p68
theorem kf68_ok:KnownOk Proofs.Tryz.prog (kf68 Proofs.Tryz.prog):=kl109_0_ok.func ok68
abbrev as94:List Ty:=[(.pair (.pair (.pair (.slice (.pair (.int .i64) (.pair (.int .i64) (.pair (.slice (.pair (.int .i64) (.pair (.int .i64) (.pair .bool .unit)))) .unit)))) .unit) .unit) (.pair (.pair (.slice (.int .i64)) (.pair (.slice (.int .i64)) (.pair (.slice (.pair (.int .i64) (.pair (.slice (.pair (.int .i64) (.pair .bool .unit))) .unit))) .unit))) .unit)),(.int .i64)]
abbrev rs94:List Ty:=[(.int .i64)]
def t94 (x0__:(List (Int×(Int×((List (Int×(Int×(Bool×Unit))))×Unit))))) (x0'_:(List Int)) (x0'_':(List Int)) (x0'_'':(List (Int×((List (Int×(Bool×Unit)))×Unit)))) (x1:Int):Tr (Tys.data rs94) :=
  Tr.test ((eqF x1 (↑(List.length x0__):Int):Bool))
    (Tr.fin (((0:Int),())))
    (Tr.test (Option.isSome (f92 ((((x0__,()),()),((x0'_,(x0'_',(x0'_'',()))),())),(x1,()))))
      (let r0:=g92 ((((x0__,()),()),((x0'_,(x0'_',(x0'_'',()))),())),(x1,()));
      Tr.test (Option.isSome (f68 ((r0.1.1,((r0.1.2.1.1,(r0.1.2.1.2.1,())),())),())))
        (let r1:=g68 ((r0.1.1,((r0.1.2.1.1,(r0.1.2.1.2.1,())),())),());
        Tr.fin ((r1.1,())))
        (Tr.stop))
      (Tr.stop))
def f94 (d:Tys.data as94):Option (Tys.data rs94):=(t94 d.1.1.1.1 d.1.2.1.1 d.1.2.1.2.1 d.1.2.1.2.2.1 d.2.1).val
def g94 (d:Tys.data as94):Tys.data rs94:=(f94 d).getD (Tys.dflt rs94)
def p94:PureC:=pcOf as94 rs94 f94 g94
theorem wk94 (x0__:(List (Int×(Int×((List (Int×(Int×(Bool×Unit))))×Unit))))) (x0'_:(List Int)) (x0'_':(List Int)) (x0'_'':(List (Int×((List (Int×(Bool×Unit)))×Unit)))) (x1:Int):Walks (runPure (kf68 Proofs.Tryz.prog).orc Proofs.Tryz.prog 400 94 as94 rs94 ((((x0__,()),()),(x0'_,x0'_',x0'_'',()),()),x1,())) (t94 x0__ x0'_ x0'_' x0'_'' x1) [(bl 1 1,[2]),(bl 3 6,[2,4,6])] :=
  ⟨by kernel_rfl,by kernel_rfl,trivial⟩
theorem ok94_t (x0__:(List (Int×(Int×((List (Int×(Int×(Bool×Unit))))×Unit))))) (x0'_:(List Int)) (x0'_':(List Int)) (x0'_'':(List (Int×((List (Int×(Bool×Unit)))×Unit)))) (x1:Int):TrOk (PureRuns Proofs.Tryz.prog (kf68 Proofs.Tryz.prog).orc 94 as94 rs94 ((((x0__,()),()),(x0'_,x0'_',x0'_'',()),()),x1,())) (t94 x0__ x0'_ x0'_' x0'_'' x1) :=
  Walks.ok (fun _ _ _=>PureRuns.of) (wk94 x0__ x0'_ x0'_' x0'_'' x1) (by kernel_rfl)
theorem ok94:PureOk Proofs.Tryz.prog 94 p94:=qab kf68_ok.base (T:=fun (d:Tys.data as94)=>t94 d.1.1.1.1 d.1.2.1.1 d.1.2.1.2.1 d.1.2.1.2.2.1 d.2.1) (by kernel_rfl) (fun (d:Tys.data as94)=>ok94_t d.1.1.1.1 d.1.2.1.1 d.1.2.1.2.1 d.1.2.1.2.2.1 d.2.1)
def kf94 (P:Go.Program):Known:=(kf68 P).func 94 p94
theorem kf94_ok:KnownOk Proofs.Tryz.prog (kf94 Proofs.Tryz.prog):=kf68_ok.func ok94
abbrev as95:List Ty:=[(.int .i64),(.int .i64)]
abbrev rs95:List Ty:=[(.int .i64),(.int .i64)]
def t95 (x0:Int) (x1:Int):Tr (Tys.data rs95) :=
  Tr.test ((x1 == (0:Int):Bool))
    (Tr.stop)
    (Tr.test (!leF (0:Int) (Int.tmod x0 x1))
      (Tr.fin (((Go.IntKind.wrap Go.IntKind.i64 (Int.tdiv (wrap64 (x0 - wrap64 (Int.tmod x0 x1 + x1))) x1):Int),((wrap64 (Int.tmod x0 x1 + x1):Int),()))))
      (Tr.fin (((Go.IntKind.wrap Go.IntKind.i64 (Int.tdiv (wrap64 (x0 - Int.tmod x0 x1)) x1):Int),((Int.tmod x0 x1:Int),())))))
def f95 (d:Tys.data as95):Option (Tys.data rs95):=(t95 d.1 d.2.1).val
def g95 (d:Tys.data as95):Tys.data rs95:=(f95 d).getD (Tys.dflt rs95)
def p95:PureC:=pcOf as95 rs95 f95 g95
theorem wk95 (x0:Int) (x1:Int):Walks (runPure (kf94 Proofs.Tryz.prog).orc Proofs.Tryz.prog 400 95 as95 rs95 (x0,x1,())) (t95 x0 x1) [(bl 2 2,[4,2,4]),(bl 2 0,[4,2,4])] :=
  ⟨by kernel_rfl,by kernel_rfl,trivial⟩
theorem ok95_t (x0:Int) (x1:Int):TrOk (PureRuns Proofs.Tryz.prog (kf94 Proofs.Tryz.prog).orc 95 as95 rs95 (x0,x1,())) (t95 x0 x1) :=
  Walks.ok (fun _ _ _=>PureRuns.of) (wk95 x0 x1) (by kernel_rfl)
theorem ok95:PureOk Proofs.Tryz.prog 95 p95:=qab kf94_ok.base (T:=fun (d:Tys.data as95)=>t95 d.1 d.2.1) (by kernel_rfl) (fun (d:Tys.data as95)=>ok95_t d.1 d.2.1)
def kf95 (P:Go.Program):Known:=(kf94 P).func 95 p95
theorem kf95_ok:KnownOk Proofs.Tryz.prog (kf95 Proofs.Tryz.prog):=kf94_ok.func ok95
end Go.Vm.Mo
