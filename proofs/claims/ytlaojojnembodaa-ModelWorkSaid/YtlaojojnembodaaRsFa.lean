import Derived.Test.YtlaojojnembodaaA5
import Derived.KernelRfl
import Derived.Test.YtlaojojnembodaaProg
set_option linter.unusedVariables false
set_option linter.unusedSimpArgs false

namespace Go.Vm.Mo
open Go
set_option linter.unusedVariables false
def kn0 (_:Go.Program):Known:=⟨[],[]⟩
abbrev tt:Bool:=true
abbrev ff:Bool:=false
theorem nn {b v:Bool} (h:(!b) = v):(!b) = !(!v):=not_of (of_not h)
theorem ac {b d:Bool} {r:List (Bool×Bool)} (h:b = d) (t:All r):All ((b, d) :: r):=All.cons h t
theorem plainP:Plain Go.Proofs.Try.prog:=by
  have h : (Go.Proofs.Try.prog.funcs.toList.all fun fn => !(fn.body.isSome && fn.name == "runtime.NumGoroutine")) = true := by kernel_rfl
  intro f fn hf hb
  have hm:fn ∈ Go.Proofs.Try.prog.funcs.toList:=by
    have:=Array.getElem?_eq_some_iff.1 hf
    obtain ⟨hlt,rfl⟩:=this
    simp
  have:=List.all_eq_true.1 h fn hm
  rw [hb] at this
  simpa using this
theorem kn0_ok:KnownOk Go.Proofs.Try.prog (kn0 Go.Proofs.Try.prog):=⟨plainP,by kernel_rfl,(fun _ h=>by cases h),(fun _ h=>by cases h)⟩
abbrev as9:List Ty:=[]
abbrev rs9:List Ty:=[.bool]
def f9 (_:Tys.data as9):Option (Tys.data rs9):=some (true,())
def g9 (_:Tys.data as9):Tys.data rs9:=(true,())
def p9:PureC:=pcOf as9 rs9 f9 g9
theorem e9:runAsk (kn0 Go.Proofs.Try.prog).orc Go.Proofs.Try.prog 400 9 as9 rs9 () none = some ((true,()),[]):=by kernel_rfl
theorem ok9:PureOk Go.Proofs.Try.prog 9 p9:=pureOk_closed kn0_ok.base (by kernel_rfl) e9 All.nil
def kf9 (P:Go.Program):Known:=(kn0 P).func 9 p9
theorem kf9_ok:KnownOk Go.Proofs.Try.prog (kf9 Go.Proofs.Try.prog):=kn0_ok.func ok9
abbrev as40:List Ty:=[(.int .i64),(.int .i64),(.int .i64)]
abbrev rs40:List Ty:=[.bool]
def t40 (x0:Int) (x1:Int) (x2:Int):Tr (Tys.data rs40) :=
  Tr.test ((leF x1 x0:Bool))
    (Tr.fin ((leF x0 x2,())))
    (Tr.fin ((false,())))
def f40 (d:Tys.data as40):Option (Tys.data rs40):=(t40 d.1 d.2.1 d.2.2.1).val
def g40 (d:Tys.data as40):Tys.data rs40:=(f40 d).getD (Tys.dflt rs40)
def p40:PureC:=pcOf as40 rs40 f40 g40
theorem wk40 (x0:Int) (x1:Int) (x2:Int):Walks (runPure (kf9 Go.Proofs.Try.prog).orc Go.Proofs.Try.prog 400 40 as40 rs40 (x0,x1,x2,())) (t40 x0 x1 x2) [(bl 1 1,[2,2,2,2]),(bl 1 0,[2,2,2,2])] :=
  ⟨by kernel_rfl,by kernel_rfl,trivial⟩
theorem ok40_t (x0:Int) (x1:Int) (x2:Int):TrOk (PureRuns Go.Proofs.Try.prog (kf9 Go.Proofs.Try.prog).orc 40 as40 rs40 (x0,x1,x2,())) (t40 x0 x1 x2) :=
  Walks.ok (fun _ _ _=>PureRuns.of) (wk40 x0 x1 x2) (by kernel_rfl)
theorem ok40:PureOk Go.Proofs.Try.prog 40 p40:=pureOk_of kf9_ok.base (T:=fun (d:Tys.data as40)=>t40 d.1 d.2.1 d.2.2.1) (by kernel_rfl) (fun (d:Tys.data as40)=>ok40_t d.1 d.2.1 d.2.2.1)
def kf40 (P:Go.Program):Known:=(kf9 P).func 40 p40
theorem kf40_ok:KnownOk Go.Proofs.Try.prog (kf40 Go.Proofs.Try.prog):=kf9_ok.func ok40
abbrev sh30_0:Sh:={ n:=34,slots:=[0,4],pats:=[.ty (.slice (.pair (.int .i64) (.pair (.int .i64) (.pair .bool .unit)))),.ty (.int .i64)],boxes:=[] }
abbrev shb30_0:Sh:={ n:=34,slots:=[],pats:=[],boxes:=[] }
abbrev shr30_0:Sh:={ n:=34,slots:=[2,3],pats:=[.ty (.int .i64),.ty (.int .i64)],boxes:=[] }
def t30_0 (x0:(List (Int×(Int×(Bool×Unit))))) (x1:Int):Tr (Out sh30_0.data shb30_0.data shr30_0.data) :=
  Tr.test ((!leF (↑(List.length x0):Int) x1:Bool))
    (Tr.test (decide ((0:Int) ≤ x1) && decide (x1 < (↑(List.length x0):Int)))
      (Tr.test (Option.isSome (f40 (((List.getD x0 (Int.toNat x1) ((0:Int),(0:Int),false,())).1:Int),((1:Int),((1000:Int),())))))
        (let r0:=g40 (((List.getD x0 (Int.toNat x1) ((0:Int),(0:Int),false,())).1:Int),((1:Int),((1000:Int),())));
        Tr.test ((!r0.1:Bool))
          (Tr.fin (.ret ((x1,((2:Int),())),())))
          (Tr.test (Option.isSome (f40 (((List.getD x0 (Int.toNat x1) ((0:Int),(0:Int),false,())).2.1:Int),((1:Int),((1000:Int),())))))
            (let r1:=g40 (((List.getD x0 (Int.toNat x1) ((0:Int),(0:Int),false,())).2.1:Int),((1:Int),((1000:Int),())));
            Tr.test ((!r1.1:Bool))
              (Tr.fin (.ret ((x1,((2:Int),())),())))
              (Tr.fin (.again ((x0,((wrap64 (x1 + (1:Int)):Int),())),()))))
            (Tr.stop)))
        (Tr.stop))
      (Tr.stop))
    (Tr.fin (.brk ((),())))
def s30_0 (d:sh30_0.data):Option (Out sh30_0.data shb30_0.data shr30_0.data):=(t30_0 d.1.1 d.1.2.1).val
def l30_0 (d:sh30_0.data):Option (shb30_0.data ⊕ shr30_0.data):=itr s30_0 rounds d
def b30_0 (d:sh30_0.data):shb30_0.data:=outB shb30_0.dflt (l30_0 d)
def r30_0 (d:sh30_0.data):shr30_0.data:=outR shr30_0.dflt (l30_0 d)
def lc30_0:LoopC:=lcOf sh30_0 shb30_0 shr30_0 l30_0 b30_0 r30_0
theorem wk30_0 (x0:(List (Int×(Int×(Bool×Unit))))) (x1:Int):Walks (runBody (kf40 Go.Proofs.Try.prog).orc Go.Proofs.Try.prog 400 30 0 sh30_0 shb30_0 shr30_0 ((x0,x1,()),())) (t30_0 x0 x1) [(bl 4 15,[1,2,2,2,2,2,2,2,2,4,6,8]),(bl 6 55,[2,6,6,4,6,6,6,10,6,6,6,8,10,12]),(bl 6 23,[2,6,6,4,6,6,6,10,6,6,6,8,10,12]),(bl 1 0,[2])] :=
  ⟨by kernel_rfl,by kernel_rfl,by kernel_rfl,by kernel_rfl,trivial⟩
theorem ok30_0_t (x0:(List (Int×(Int×(Bool×Unit))))) (x1:Int):TrOk (BodyRuns Go.Proofs.Try.prog (kf40 Go.Proofs.Try.prog).orc 30 0 sh30_0 shb30_0 shr30_0 ((x0,x1,()),())) (t30_0 x0 x1) :=
  Walks.ok (fun _ _ _=>BodyRuns.of) (wk30_0 x0 x1) (by kernel_rfl)
theorem ok30_0:LoopOk Go.Proofs.Try.prog 30 0 lc30_0:=loopOk_of (sh:=sh30_0) (shB:=shb30_0) (shR:=shr30_0) kf40_ok.base (T:=fun (d:sh30_0.data)=>t30_0 d.1.1 d.1.2.1) (by kernel_rfl) rfl (fun (d:sh30_0.data)=>ok30_0_t d.1.1 d.1.2.1) (fun _=>rfl)
def kl30_0 (P:Go.Program):Known:=(kf40 P).loop 30 0 lc30_0
theorem kl30_0_ok:KnownOk Go.Proofs.Try.prog (kl30_0 Go.Proofs.Try.prog):=kf40_ok.loop ok30_0
abbrev as30:List Ty:=[(.slice (.pair (.int .i64) (.pair (.int .i64) (.pair .bool .unit))))]
abbrev rs30:List Ty:=[(.int .i64),(.int .i64)]
def t30 (x0:(List (Int×(Int×(Bool×Unit))))):Tr (Tys.data rs30) :=
  Tr.test ((eqF (↑(List.length x0):Int) (0:Int):Bool))
    (Tr.fin (((0:Int),((10:Int),()))))
    (Tr.test (!leF (↑(List.length x0):Int) (4:Int))
      (Tr.fin (((0:Int),((8:Int),()))))
      (Tr.test (Option.isSome (l30_0 ((x0,((0:Int),())),())))
        (Tr.test (isRet (l30_0 ((x0,((0:Int),())),())))
          (let r0:=r30_0 ((x0,((0:Int),())),());
          Tr.fin ((r0.1.1,(r0.1.2.1,()))))
          (Tr.fin (((0:Int),((0:Int),())))))
        (Tr.stop)))
def f30 (d:Tys.data as30):Option (Tys.data rs30):=(t30 d.1).val
def g30 (d:Tys.data as30):Tys.data rs30:=(f30 d).getD (Tys.dflt rs30)
def p30:PureC:=pcOf as30 rs30 f30 g30
theorem wk30 (x0:(List (Int×(Int×(Bool×Unit))))):Walks (runPure (kl30_0 Go.Proofs.Try.prog).orc Go.Proofs.Try.prog 400 30 as30 rs30 (x0,())) (t30 x0) [(bl 1 1,[2]),(bl 2 2,[2,4]),(bl 4 12,[2,4,6,8]),(bl 4 4,[2,4,6,8])] :=
  ⟨by kernel_rfl,by kernel_rfl,by kernel_rfl,by kernel_rfl,trivial⟩
theorem ok30_t (x0:(List (Int×(Int×(Bool×Unit))))):TrOk (PureRuns Go.Proofs.Try.prog (kl30_0 Go.Proofs.Try.prog).orc 30 as30 rs30 (x0,())) (t30 x0) :=
  Walks.ok (fun _ _ _=>PureRuns.of) (wk30 x0) (by kernel_rfl)
theorem ok30:PureOk Go.Proofs.Try.prog 30 p30:=pureOk_of kl30_0_ok.base (T:=fun (d:Tys.data as30)=>t30 d.1) (by kernel_rfl) (fun (d:Tys.data as30)=>ok30_t d.1)
def kf30 (P:Go.Program):Known:=(kl30_0 P).func 30 p30
theorem kf30_ok:KnownOk Go.Proofs.Try.prog (kf30 Go.Proofs.Try.prog):=kl30_0_ok.func ok30
abbrev as39:List Ty:=[(.slice (.pair (.int .i64) (.pair (.int .i64) (.pair .bool .unit))))]
abbrev rs39:List Ty:=[(.int .i64)]
def t39 (x0:(List (Int×(Int×(Bool×Unit))))):Tr (Tys.data rs39) :=
  Tr.test (Option.isSome (f30 (x0,())))
    (let r0:=g30 (x0,());
    Tr.fin ((r0.2.1,())))
    (Tr.stop)
def f39 (d:Tys.data as39):Option (Tys.data rs39):=(t39 d.1).val
def g39 (d:Tys.data as39):Tys.data rs39:=(f39 d).getD (Tys.dflt rs39)
def p39:PureC:=pcOf as39 rs39 f39 g39
theorem wk39 (x0:(List (Int×(Int×(Bool×Unit))))):Walks (runPure (kf30 Go.Proofs.Try.prog).orc Go.Proofs.Try.prog 400 39 as39 rs39 (x0,())) (t39 x0) [(bl 1 1,[2])] :=
  ⟨by kernel_rfl,trivial⟩
theorem ok39_t (x0:(List (Int×(Int×(Bool×Unit))))):TrOk (PureRuns Go.Proofs.Try.prog (kf30 Go.Proofs.Try.prog).orc 39 as39 rs39 (x0,())) (t39 x0) :=
  Walks.ok (fun _ _ _=>PureRuns.of) (wk39 x0) (by kernel_rfl)
theorem ok39:PureOk Go.Proofs.Try.prog 39 p39:=pureOk_of kf30_ok.base (T:=fun (d:Tys.data as39)=>t39 d.1) (by kernel_rfl) (fun (d:Tys.data as39)=>ok39_t d.1)
def kf39 (P:Go.Program):Known:=(kf30 P).func 39 p39
theorem kf39_ok:KnownOk Go.Proofs.Try.prog (kf39 Go.Proofs.Try.prog):=kf30_ok.func ok39
abbrev as35:List Ty:=[(.slice (.pair (.int .i64) (.pair (.int .i64) (.pair .bool .unit))))]
abbrev rs35:List Ty:=[(.pair (.int .i64) (.pair (.slice (.pair (.int .i64) (.pair .bool .unit))) .unit))]
def t35 (x0:(List (Int×(Int×(Bool×Unit))))):Tr (Tys.data rs35) :=
  Tr.test ((decide ((0:Int) ≤ (↑(List.length x0):Int)) && decide ((↑(List.length x0):Int) ≤ (↑(List.length x0):Int)) && decide ((16:Int) * (↑(List.length x0):Int) ≤ (281474976710656:Int)) && decide ((↑(List.length x0):Int) ≤ (281474976710656:Int)):Bool))
    (Tr.test (Nat.beq (Int.toNat (↑(List.length x0):Int)) (List.length (List.replicate (Int.toNat (↑(List.length x0):Int)) ((0:Int),false,()))))
      (Tr.fin ((((0:Int),((List.replicate (Int.toNat (↑(List.length x0):Int)) ((0:Int),false,()):List (Int×Bool×PUnit)),())),())))
      (Tr.stop))
    (Tr.stop)
def f35 (d:Tys.data as35):Option (Tys.data rs35):=(t35 d.1).val
def g35 (d:Tys.data as35):Tys.data rs35:=(f35 d).getD (Tys.dflt rs35)
def p35:PureC:=pcOf as35 rs35 f35 g35
theorem wk35 (x0:(List (Int×(Int×(Bool×Unit))))):Walks (runPure (kf39 Go.Proofs.Try.prog).orc Go.Proofs.Try.prog 400 35 as35 rs35 (x0,())) (t35 x0) [(bl 2 3,[2,4])] :=
  ⟨by kernel_rfl,trivial⟩
theorem ok35_t (x0:(List (Int×(Int×(Bool×Unit))))):TrOk (PureRuns Go.Proofs.Try.prog (kf39 Go.Proofs.Try.prog).orc 35 as35 rs35 (x0,())) (t35 x0) :=
  Walks.ok (fun _ _ _=>PureRuns.of) (wk35 x0) (by kernel_rfl)
theorem ok35:PureOk Go.Proofs.Try.prog 35 p35:=pureOk_of kf39_ok.base (T:=fun (d:Tys.data as35)=>t35 d.1) (by kernel_rfl) (fun (d:Tys.data as35)=>ok35_t d.1)
def kf35 (P:Go.Program):Known:=(kf39 P).func 35 p35
theorem kf35_ok:KnownOk Go.Proofs.Try.prog (kf35 Go.Proofs.Try.prog):=kf39_ok.func ok35
abbrev as32:List Ty:=[(.int .i64)]
abbrev rs32:List Ty:=[(.int .i64)]
def t32 (x0:Int):Tr (Tys.data rs32) :=
  Tr.test (Option.isSome (f40 (x0,((-10000:Int),((10000:Int),())))))
    (let r0:=g40 (x0,((-10000:Int),((10000:Int),())));
    Tr.test ((!r0.1:Bool))
      (Tr.fin (((2:Int),())))
      (Tr.fin (((0:Int),()))))
    (Tr.stop)
def f32 (d:Tys.data as32):Option (Tys.data rs32):=(t32 d.1).val
def g32 (d:Tys.data as32):Tys.data rs32:=(f32 d).getD (Tys.dflt rs32)
def p32:PureC:=pcOf as32 rs32 f32 g32
theorem wk32 (x0:Int):Walks (runPure (kf35 Go.Proofs.Try.prog).orc Go.Proofs.Try.prog 400 32 as32 rs32 (x0,())) (t32 x0) [(bl 2 3,[2,4]),(bl 2 1,[2,4])] :=
  ⟨by kernel_rfl,by kernel_rfl,trivial⟩
theorem ok32_t (x0:Int):TrOk (PureRuns Go.Proofs.Try.prog (kf35 Go.Proofs.Try.prog).orc 32 as32 rs32 (x0,())) (t32 x0) :=
  Walks.ok (fun _ _ _=>PureRuns.of) (wk32 x0) (by kernel_rfl)
theorem ok32:PureOk Go.Proofs.Try.prog 32 p32:=pureOk_of kf35_ok.base (T:=fun (d:Tys.data as32)=>t32 d.1) (by kernel_rfl) (fun (d:Tys.data as32)=>ok32_t d.1)
def kf32 (P:Go.Program):Known:=(kf35 P).func 32 p32
theorem kf32_ok:KnownOk Go.Proofs.Try.prog (kf32 Go.Proofs.Try.prog):=kf35_ok.func ok32
abbrev as22:List Ty:=[(.slice (.pair (.int .i64) (.pair (.int .i64) (.pair .bool .unit))))]
abbrev rs22:List Ty:=[(.slice (.pair (.int .i64) (.pair (.int .i64) (.pair .bool .unit))))]
def t22 (x0:(List (Int×(Int×(Bool×Unit))))):Tr (Tys.data rs22) :=
  Tr.test ((Nat.ble (((2:Nat) * ((0:Nat) + List.length x0) + (192:Nat)) * (24:Nat)) (281474976710656:Nat) && Nat.ble ((0:Nat) + List.length x0) (281474976710656:Nat):Bool))
    (Tr.fin ((([]++x0:List (Int×Int×Bool×PUnit)),())))
    (Tr.test (Nat.ble ((0:Nat) + List.length x0) (0:Nat))
      (Tr.stop)
      (Tr.stop))
def f22 (d:Tys.data as22):Option (Tys.data rs22):=(t22 d.1).val
def g22 (d:Tys.data as22):Tys.data rs22:=(f22 d).getD (Tys.dflt rs22)
def p22:PureC:=pcOf as22 rs22 f22 g22
theorem wk22 (x0:(List (Int×(Int×(Bool×Unit))))):Walks (runPure (kf32 Go.Proofs.Try.prog).orc Go.Proofs.Try.prog 400 22 as22 rs22 (x0,())) (t22 x0) [(bl 1 1,[2])] :=
  ⟨by kernel_rfl,trivial⟩
theorem ok22_t (x0:(List (Int×(Int×(Bool×Unit))))):TrOk (PureRuns Go.Proofs.Try.prog (kf32 Go.Proofs.Try.prog).orc 22 as22 rs22 (x0,())) (t22 x0) :=
  Walks.ok (fun _ _ _=>PureRuns.of) (wk22 x0) (by kernel_rfl)
theorem ok22:PureOk Go.Proofs.Try.prog 22 p22:=pureOk_of kf32_ok.base (T:=fun (d:Tys.data as22)=>t22 d.1) (by kernel_rfl) (fun (d:Tys.data as22)=>ok22_t d.1)
def kf22 (P:Go.Program):Known:=(kf32 P).func 22 p22
theorem kf22_ok:KnownOk Go.Proofs.Try.prog (kf22 Go.Proofs.Try.prog):=kf32_ok.func ok22
abbrev as24:List Ty:=[(.pair (.int .i64) (.pair (.slice (.pair (.int .i64) (.pair .bool .unit))) .unit))]
abbrev rs24:List Ty:=[(.pair (.int .i64) (.pair (.slice (.pair (.int .i64) (.pair .bool .unit))) .unit))]
def t24 (x0:Int) (x0':(List (Int×(Bool×Unit)))):Tr (Tys.data rs24) :=
  Tr.test ((Nat.ble (((2:Nat) * ((0:Nat) + List.length x0') + (192:Nat)) * (16:Nat)) (281474976710656:Nat) && Nat.ble ((0:Nat) + List.length x0') (281474976710656:Nat):Bool))
    (Tr.fin (((x0,(([]++x0':List (Int×Bool×PUnit)),())),())))
    (Tr.test (Nat.ble ((0:Nat) + List.length x0') (0:Nat))
      (Tr.stop)
      (Tr.stop))
def f24 (d:Tys.data as24):Option (Tys.data rs24):=(t24 d.1.1 d.1.2.1).val
def g24 (d:Tys.data as24):Tys.data rs24:=(f24 d).getD (Tys.dflt rs24)
def p24:PureC:=pcOf as24 rs24 f24 g24
theorem wk24 (x0:Int) (x0':(List (Int×(Bool×Unit)))):Walks (runPure (kf22 Go.Proofs.Try.prog).orc Go.Proofs.Try.prog 400 24 as24 rs24 ((x0,x0',()),())) (t24 x0 x0') [(bl 1 1,[2])] :=
  ⟨by kernel_rfl,trivial⟩
theorem ok24_t (x0:Int) (x0':(List (Int×(Bool×Unit)))):TrOk (PureRuns Go.Proofs.Try.prog (kf22 Go.Proofs.Try.prog).orc 24 as24 rs24 ((x0,x0',()),())) (t24 x0 x0') :=
  Walks.ok (fun _ _ _=>PureRuns.of) (wk24 x0 x0') (by kernel_rfl)
theorem ok24:PureOk Go.Proofs.Try.prog 24 p24:=pureOk_of kf22_ok.base (T:=fun (d:Tys.data as24)=>t24 d.1.1 d.1.2.1) (by kernel_rfl) (fun (d:Tys.data as24)=>ok24_t d.1.1 d.1.2.1)
def kf24 (P:Go.Program):Known:=(kf22 P).func 24 p24
theorem kf24_ok:KnownOk Go.Proofs.Try.prog (kf24 Go.Proofs.Try.prog):=kf22_ok.func ok24
abbrev as74:List Ty:=[.bool,(.int .i64)]
abbrev rs74:List Ty:=[(.int .i64)]
def t74 (x0:Bool) (x1:Int):Tr (Tys.data rs74) :=
  Tr.test (x0)
    (Tr.fin ((x1,())))
    (Tr.fin (((0:Int),())))
def f74 (d:Tys.data as74):Option (Tys.data rs74):=(t74 d.1 d.2.1).val
def g74 (d:Tys.data as74):Tys.data rs74:=(f74 d).getD (Tys.dflt rs74)
def p74:PureC:=pcOf as74 rs74 f74 g74
theorem wk74 (x0:Bool) (x1:Int):Walks (runPure (kf24 Go.Proofs.Try.prog).orc Go.Proofs.Try.prog 400 74 as74 rs74 (x0,x1,())) (t74 x0 x1) [(bl 1 1,[2]),(bl 1 0,[2])] :=
  ⟨by kernel_rfl,by kernel_rfl,trivial⟩
theorem ok74_t (x0:Bool) (x1:Int):TrOk (PureRuns Go.Proofs.Try.prog (kf24 Go.Proofs.Try.prog).orc 74 as74 rs74 (x0,x1,())) (t74 x0 x1) :=
  Walks.ok (fun _ _ _=>PureRuns.of) (wk74 x0 x1) (by kernel_rfl)
theorem ok74:PureOk Go.Proofs.Try.prog 74 p74:=pureOk_of kf24_ok.base (T:=fun (d:Tys.data as74)=>t74 d.1 d.2.1) (by kernel_rfl) (fun (d:Tys.data as74)=>ok74_t d.1 d.2.1)
def kf74 (P:Go.Program):Known:=(kf24 P).func 74 p74
theorem kf74_ok:KnownOk Go.Proofs.Try.prog (kf74 Go.Proofs.Try.prog):=kf24_ok.func ok74
abbrev sh73_0:Sh:={ n:=15,slots:=[5,6,7],pats:=[.ty (.slice (.int .i64)),.ty (.int .i64),.ty (.int .i64)],boxes:=[] }
abbrev shb73_0:Sh:={ n:=15,slots:=[],pats:=[],boxes:=[] }
abbrev shr73_0:Sh:={ n:=15,slots:=[2],pats:=[.ty (.int .i64)],boxes:=[] }
def t73_0 (x0:(List Int)) (x1:Int) (x2:Int):Tr (Out sh73_0.data shb73_0.data shr73_0.data) :=
  Tr.test ((!leF x1 x2:Bool))
    (Tr.test (decide ((0:Int) ≤ x2) && decide (x2 < (↑(List.length x0):Int)))
      (Tr.test ((!eqF (List.getD x0 (Int.toNat x2) (0:Int)) (0:Int):Bool))
        (Tr.fin (.ret (((List.getD x0 (Int.toNat x2) (0:Int):Int),()),())))
        (Tr.fin (.again ((x0,(x1,((wrap64 (x2 + (1:Int)):Int),()))),()))))
      (Tr.stop))
    (Tr.fin (.brk ((),())))
def s73_0 (d:sh73_0.data):Option (Out sh73_0.data shb73_0.data shr73_0.data):=(t73_0 d.1.1 d.1.2.1 d.1.2.2.1).val
def l73_0 (d:sh73_0.data):Option (shb73_0.data ⊕ shr73_0.data):=itr s73_0 rounds d
def b73_0 (d:sh73_0.data):shb73_0.data:=outB shb73_0.dflt (l73_0 d)
def r73_0 (d:sh73_0.data):shr73_0.data:=outR shr73_0.dflt (l73_0 d)
def lc73_0:LoopC:=lcOf sh73_0 shb73_0 shr73_0 l73_0 b73_0 r73_0
theorem wk73_0 (x0:(List Int)) (x1:Int) (x2:Int):Walks (runBody (kf74 Go.Proofs.Try.prog).orc Go.Proofs.Try.prog 400 73 0 sh73_0 shb73_0 shr73_0 ((x0,x1,x2,()),())) (t73_0 x0 x1 x2) [(bl 3 7,[2,4,6]),(bl 3 3,[2,4,6]),(bl 1 0,[2])] :=
  ⟨by kernel_rfl,by kernel_rfl,by kernel_rfl,trivial⟩
theorem ok73_0_t (x0:(List Int)) (x1:Int) (x2:Int):TrOk (BodyRuns Go.Proofs.Try.prog (kf74 Go.Proofs.Try.prog).orc 73 0 sh73_0 shb73_0 shr73_0 ((x0,x1,x2,()),())) (t73_0 x0 x1 x2) :=
  Walks.ok (fun _ _ _=>BodyRuns.of) (wk73_0 x0 x1 x2) (by kernel_rfl)
theorem ok73_0:LoopOk Go.Proofs.Try.prog 73 0 lc73_0:=loopOk_of (sh:=sh73_0) (shB:=shb73_0) (shR:=shr73_0) kf74_ok.base (T:=fun (d:sh73_0.data)=>t73_0 d.1.1 d.1.2.1 d.1.2.2.1) (by kernel_rfl) rfl (fun (d:sh73_0.data)=>ok73_0_t d.1.1 d.1.2.1 d.1.2.2.1) (fun _=>rfl)
def kl73_0 (P:Go.Program):Known:=(kf74 P).loop 73 0 lc73_0
theorem kl73_0_ok:KnownOk Go.Proofs.Try.prog (kl73_0 Go.Proofs.Try.prog):=kf74_ok.loop ok73_0
abbrev as73:List Ty:=[(.slice (.int .i64))]
abbrev rs73:List Ty:=[(.int .i64)]
def t73 (x0:(List Int)):Tr (Tys.data rs73) :=
  Tr.test (Option.isSome (l73_0 ((x0,((↑(List.length x0):Int),((0:Int),()))),())))
    (Tr.test (isRet (l73_0 ((x0,((↑(List.length x0):Int),((0:Int),()))),())))
      (let r0:=r73_0 ((x0,((↑(List.length x0):Int),((0:Int),()))),());
      Tr.fin ((r0.1.1,())))
      (Tr.fin (((0:Int),()))))
    (Tr.stop)
def f73 (d:Tys.data as73):Option (Tys.data rs73):=(t73 d.1).val
def g73 (d:Tys.data as73):Tys.data rs73:=(f73 d).getD (Tys.dflt rs73)
def p73:PureC:=pcOf as73 rs73 f73 g73
theorem wk73 (x0:(List Int)):Walks (runPure (kl73_0 Go.Proofs.Try.prog).orc Go.Proofs.Try.prog 400 73 as73 rs73 (x0,())) (t73 x0) [(bl 2 3,[2,4]),(bl 2 1,[2,4])] :=
  ⟨by kernel_rfl,by kernel_rfl,trivial⟩
theorem ok73_t (x0:(List Int)):TrOk (PureRuns Go.Proofs.Try.prog (kl73_0 Go.Proofs.Try.prog).orc 73 as73 rs73 (x0,())) (t73 x0) :=
  Walks.ok (fun _ _ _=>PureRuns.of) (wk73 x0) (by kernel_rfl)
theorem ok73:PureOk Go.Proofs.Try.prog 73 p73:=pureOk_of kl73_0_ok.base (T:=fun (d:Tys.data as73)=>t73 d.1) (by kernel_rfl) (fun (d:Tys.data as73)=>ok73_t d.1)
def kf73 (P:Go.Program):Known:=(kl73_0 P).func 73 p73
theorem kf73_ok:KnownOk Go.Proofs.Try.prog (kf73 Go.Proofs.Try.prog):=kl73_0_ok.func ok73
abbrev as88:List Ty:=[(.int .i64),(.int .i64)]
abbrev rs88:List Ty:=[(.int .i64)]
def t88 (x0:Int) (x1:Int):Tr (Tys.data rs88) :=
  Tr.test (Option.isSome (f74 ((eqF x0 0:Bool),((10:Int),()))))
    (Tr.test (Option.isSome (f74 (!leF x0 x1,((8:Int),()))))
      (let r0:=g74 ((eqF x0 0:Bool),((10:Int),()));
      let r1:=g74 ((!leF x0 x1:Bool),((8:Int),()));
      Tr.test (Option.isSome (f73 (([r0.1,r1.1]:List Int),())))
        (let r2:=g73 (([r0.1,r1.1]:List Int),());
        Tr.fin ((r2.1,())))
        (Tr.stop))
      (Tr.stop))
    (Tr.stop)
def f88 (d:Tys.data as88):Option (Tys.data rs88):=(t88 d.1 d.2.1).val
def g88 (d:Tys.data as88):Tys.data rs88:=(f88 d).getD (Tys.dflt rs88)
def p88:PureC:=pcOf as88 rs88 f88 g88
theorem wk88 (x0:Int) (x1:Int):Walks (runPure (kf73 Go.Proofs.Try.prog).orc Go.Proofs.Try.prog 400 88 as88 rs88 (x0,x1,())) (t88 x0 x1) [(bl 3 7,[2,4,6])] :=
  ⟨by kernel_rfl,trivial⟩
theorem ok88_t (x0:Int) (x1:Int):TrOk (PureRuns Go.Proofs.Try.prog (kf73 Go.Proofs.Try.prog).orc 88 as88 rs88 (x0,x1,())) (t88 x0 x1) :=
  Walks.ok (fun _ _ _=>PureRuns.of) (wk88 x0 x1) (by kernel_rfl)
theorem ok88:PureOk Go.Proofs.Try.prog 88 p88:=pureOk_of kf73_ok.base (T:=fun (d:Tys.data as88)=>t88 d.1 d.2.1) (by kernel_rfl) (fun (d:Tys.data as88)=>ok88_t d.1 d.2.1)
def kf88 (P:Go.Program):Known:=(kf73 P).func 88 p88
theorem kf88_ok:KnownOk Go.Proofs.Try.prog (kf88 Go.Proofs.Try.prog):=kf73_ok.func ok88
abbrev sh72_0:Sh:={ n:=24,slots:=[0,1,9,10,11],pats:=[.ty (.int .i64),.ty (.int .i64),.ty (.slice (.int .i64)),.ty (.int .i64),.ty (.int .i64)],boxes:=[] }
abbrev shb72_0:Sh:={ n:=24,slots:=[],pats:=[],boxes:=[] }
abbrev shr72_0:Sh:={ n:=24,slots:=[6],pats:=[.ty .bool],boxes:=[] }
def t72_0 (x0:Int) (x1:Int) (x2:(List Int)) (x3:Int) (x4:Int):Tr (Out sh72_0.data shb72_0.data shr72_0.data) :=
  Tr.test ((!leF x3 x4:Bool))
    (Tr.test (decide ((0:Int) ≤ x4) && decide (x4 < (↑(List.length x2):Int)))
      (Tr.test ((!leF x0 (List.getD x2 (Int.toNat x4) (0:Int)):Bool))
        (Tr.fin (.ret (((false:Bool),()),())))
        (Tr.test ((!leF (List.getD x2 (Int.toNat x4) (0:Int)) x1:Bool))
          (Tr.fin (.ret (((false:Bool),()),())))
          (Tr.fin (.again ((x0,(x1,(x2,(x3,((wrap64 (x4 + (1:Int)):Int),()))))),())))))
      (Tr.stop))
    (Tr.fin (.brk ((),())))
def s72_0 (d:sh72_0.data):Option (Out sh72_0.data shb72_0.data shr72_0.data):=(t72_0 d.1.1 d.1.2.1 d.1.2.2.1 d.1.2.2.2.1 d.1.2.2.2.2.1).val
def l72_0 (d:sh72_0.data):Option (shb72_0.data ⊕ shr72_0.data):=itr s72_0 rounds d
def b72_0 (d:sh72_0.data):shb72_0.data:=outB shb72_0.dflt (l72_0 d)
def r72_0 (d:sh72_0.data):shr72_0.data:=outR shr72_0.dflt (l72_0 d)
def lc72_0:LoopC:=lcOf sh72_0 shb72_0 shr72_0 l72_0 b72_0 r72_0
theorem wk72_0 (x0:Int) (x1:Int) (x2:(List Int)) (x3:Int) (x4:Int):Walks (runBody (kf88 Go.Proofs.Try.prog).orc Go.Proofs.Try.prog 400 72 0 sh72_0 shb72_0 shr72_0 ((x0,x1,x2,x3,x4,()),())) (t72_0 x0 x1 x2 x3 x4) [(bl 3 7,[1,2,2,2,2,4,6]),(bl 4 11,[2,4,4,4,4,6,8]),(bl 4 3,[2,4,4,4,4,6,8]),(bl 1 0,[2])] :=
  ⟨by kernel_rfl,by kernel_rfl,by kernel_rfl,by kernel_rfl,trivial⟩
theorem ok72_0_t (x0:Int) (x1:Int) (x2:(List Int)) (x3:Int) (x4:Int):TrOk (BodyRuns Go.Proofs.Try.prog (kf88 Go.Proofs.Try.prog).orc 72 0 sh72_0 shb72_0 shr72_0 ((x0,x1,x2,x3,x4,()),())) (t72_0 x0 x1 x2 x3 x4) :=
  Walks.ok (fun _ _ _=>BodyRuns.of) (wk72_0 x0 x1 x2 x3 x4) (by kernel_rfl)
theorem ok72_0:LoopOk Go.Proofs.Try.prog 72 0 lc72_0:=loopOk_of (sh:=sh72_0) (shB:=shb72_0) (shR:=shr72_0) kf88_ok.base (T:=fun (d:sh72_0.data)=>t72_0 d.1.1 d.1.2.1 d.1.2.2.1 d.1.2.2.2.1 d.1.2.2.2.2.1) (by kernel_rfl) rfl (fun (d:sh72_0.data)=>ok72_0_t d.1.1 d.1.2.1 d.1.2.2.1 d.1.2.2.2.1 d.1.2.2.2.2.1) (fun _=>rfl)
def kl72_0 (P:Go.Program):Known:=(kf88 P).loop 72 0 lc72_0
theorem kl72_0_ok:KnownOk Go.Proofs.Try.prog (kl72_0 Go.Proofs.Try.prog):=kf88_ok.loop ok72_0
abbrev as72:List Ty:=[(.int .i64),(.int .i64),(.slice (.int .i64))]
abbrev rs72:List Ty:=[.bool]
def t72 (x0:Int) (x1:Int) (x2:(List Int)):Tr (Tys.data rs72) :=
  Tr.test (Option.isSome (l72_0 ((x0,(x1,(x2,((↑(List.length x2):Int),((0:Int),()))))),())))
    (Tr.test (isRet (l72_0 ((x0,(x1,(x2,((↑(List.length x2):Int),((0:Int),()))))),())))
      (let r0:=r72_0 ((x0,(x1,(x2,((↑(List.length x2):Int),((0:Int),()))))),());
      Tr.fin ((r0.1.1,())))
      (Tr.fin (((true:Bool),()))))
    (Tr.stop)
def f72 (d:Tys.data as72):Option (Tys.data rs72):=(t72 d.1 d.2.1 d.2.2.1).val
def g72 (d:Tys.data as72):Tys.data rs72:=(f72 d).getD (Tys.dflt rs72)
def p72:PureC:=pcOf as72 rs72 f72 g72
theorem wk72 (x0:Int) (x1:Int) (x2:(List Int)):Walks (runPure (kl72_0 Go.Proofs.Try.prog).orc Go.Proofs.Try.prog 400 72 as72 rs72 (x0,x1,x2,())) (t72 x0 x1 x2) [(bl 2 3,[2,4]),(bl 2 1,[2,4])] :=
  ⟨by kernel_rfl,by kernel_rfl,trivial⟩
theorem ok72_t (x0:Int) (x1:Int) (x2:(List Int)):TrOk (PureRuns Go.Proofs.Try.prog (kl72_0 Go.Proofs.Try.prog).orc 72 as72 rs72 (x0,x1,x2,())) (t72 x0 x1 x2) :=
  Walks.ok (fun _ _ _=>PureRuns.of) (wk72 x0 x1 x2) (by kernel_rfl)
theorem ok72:PureOk Go.Proofs.Try.prog 72 p72:=pureOk_of kl72_0_ok.base (T:=fun (d:Tys.data as72)=>t72 d.1 d.2.1 d.2.2.1) (by kernel_rfl) (fun (d:Tys.data as72)=>ok72_t d.1 d.2.1 d.2.2.1)
def kf72 (P:Go.Program):Known:=(kl72_0 P).func 72 p72
theorem kf72_ok:KnownOk Go.Proofs.Try.prog (kf72 Go.Proofs.Try.prog):=kl72_0_ok.func ok72
abbrev sh89_0:Sh:={ n:=25,slots:=[1,9,10,11],pats:=[.fn 90 [],.ty (.slice (.pair (.int .i64) (.pair (.int .i64) (.pair .bool .unit)))),.ty (.int .i64),.ty (.int .i64)],boxes:=[] }
abbrev shb89_0:Sh:={ n:=25,slots:=[],pats:=[],boxes:=[] }
abbrev shr89_0:Sh:={ n:=25,slots:=[4,5],pats:=[.ty (.int .i64),.ty (.int .i64)],boxes:=[] }
def t89_0 (x1:(List (Int×(Int×(Bool×Unit))))) (x2:Int) (x3:Int):Tr (Out sh89_0.data shb89_0.data shr89_0.data) :=
  Tr.test ((!leF x2 x3:Bool))
    (Tr.test (decide ((0:Int) ≤ x3) && decide (x3 < (↑(List.length x1):Int)))
      (Tr.test (Option.isSome (f72 ((1:Int),((1000:Int),(([(List.getD x1 (Int.toNat x3) ((0:Int),(0:Int),false,())).1,(List.getD x1 (Int.toNat x3) ((0:Int),(0:Int),false,())).2.1]:List Int),())))))
        (let r0:=g72 ((1:Int),((1000:Int),(([(List.getD x1 (Int.toNat x3) ((0:Int),(0:Int),false,())).1,(List.getD x1 (Int.toNat x3) ((0:Int),(0:Int),false,())).2.1]:List Int),())));
        Tr.test (Option.isSome (f74 ((!r0.1:Bool),((2:Int),()))))
          (let r1:=g74 ((!r0.1:Bool),((2:Int),()));
          Tr.test ((!eqF r1.1 0:Bool))
            (Tr.fin (.ret ((x3,(r1.1,())),())))
            (Tr.fin (.again ((x1,(x2,((wrap64 (x3 + (1:Int)):Int),()))),()))))
          (Tr.stop))
        (Tr.stop))
      (Tr.stop))
    (Tr.fin (.brk ((),())))
def s89_0 (d:sh89_0.data):Option (Out sh89_0.data shb89_0.data shr89_0.data):=(t89_0 d.1.1 d.1.2.1 d.1.2.2.1).val
def l89_0 (d:sh89_0.data):Option (shb89_0.data ⊕ shr89_0.data):=itr s89_0 rounds d
def b89_0 (d:sh89_0.data):shb89_0.data:=outB shb89_0.dflt (l89_0 d)
def r89_0 (d:sh89_0.data):shr89_0.data:=outR shr89_0.dflt (l89_0 d)
def lc89_0:LoopC:=lcOf sh89_0 shb89_0 shr89_0 l89_0 b89_0 r89_0
theorem wk89_0 (x1:(List (Int×(Int×(Bool×Unit))))) (x2:Int) (x3:Int):Walks (runBody (kf72 Go.Proofs.Try.prog).orc Go.Proofs.Try.prog 400 89 0 sh89_0 shb89_0 shr89_0 ((x1,x2,x3,()),())) (t89_0 x1 x2 x3) [(bl 5 31,[2,4,6,8,10]),(bl 5 15,[2,4,6,8,10]),(bl 1 0,[2])] :=
  ⟨by kernel_rfl,by kernel_rfl,by kernel_rfl,trivial⟩
theorem ok89_0_t (x1:(List (Int×(Int×(Bool×Unit))))) (x2:Int) (x3:Int):TrOk (BodyRuns Go.Proofs.Try.prog (kf72 Go.Proofs.Try.prog).orc 89 0 sh89_0 shb89_0 shr89_0 ((x1,x2,x3,()),())) (t89_0 x1 x2 x3) :=
  Walks.ok (fun _ _ _=>BodyRuns.of) (wk89_0 x1 x2 x3) (by kernel_rfl)
theorem ok89_0:LoopOk Go.Proofs.Try.prog 89 0 lc89_0:=loopOk_of (sh:=sh89_0) (shB:=shb89_0) (shR:=shr89_0) kf72_ok.base (T:=fun (d:sh89_0.data)=>t89_0 d.1.1 d.1.2.1 d.1.2.2.1) (by kernel_rfl) rfl (fun (d:sh89_0.data)=>ok89_0_t d.1.1 d.1.2.1 d.1.2.2.1) (fun _=>rfl)
def kl89_0 (P:Go.Program):Known:=(kf72 P).loop 89 0 lc89_0
theorem kl89_0_ok:KnownOk Go.Proofs.Try.prog (kl89_0 Go.Proofs.Try.prog):=kf72_ok.loop ok89_0
abbrev as21:List Ty:=[(.slice (.pair (.int .i64) (.pair (.int .i64) (.pair .bool .unit))))]
abbrev rs21:List Ty:=[(.int .i64),(.int .i64)]
def t21 (x0:(List (Int×(Int×(Bool×Unit))))):Tr (Tys.data rs21) :=
  Tr.test (Option.isSome (f88 ((↑(List.length x0):Int),((4:Int),()))))
    (let r0:=g88 ((↑(List.length x0):Int),((4:Int),()));
    Tr.test ((!eqF r0.1 0:Bool))
      (Tr.fin (((0:Int),(r0.1,()))))
      (Tr.test (Option.isSome (l89_0 ((x0,((↑(List.length x0):Int),((0:Int),()))),())))
        (Tr.test (isRet (l89_0 ((x0,((↑(List.length x0):Int),((0:Int),()))),())))
          (let r1:=r89_0 ((x0,((↑(List.length x0):Int),((0:Int),()))),());
          Tr.fin ((r1.1.1,(r1.1.2.1,()))))
          (Tr.fin (((0:Int),((0:Int),())))))
        (Tr.stop)))
    (Tr.stop)
def f21 (d:Tys.data as21):Option (Tys.data rs21):=(t21 d.1).val
def g21 (d:Tys.data as21):Tys.data rs21:=(f21 d).getD (Tys.dflt rs21)
def p21:PureC:=pcOf as21 rs21 f21 g21
theorem wk21 (x0:(List (Int×(Int×(Bool×Unit))))):Walks (runPure (kl89_0 Go.Proofs.Try.prog).orc Go.Proofs.Try.prog 400 21 as21 rs21 (x0,())) (t21 x0) [(bl 2 3,[2,4]),(bl 4 13,[2,4,6,8]),(bl 4 5,[2,4,6,8])] :=
  ⟨by kernel_rfl,by kernel_rfl,by kernel_rfl,trivial⟩
theorem ok21_t (x0:(List (Int×(Int×(Bool×Unit))))):TrOk (PureRuns Go.Proofs.Try.prog (kl89_0 Go.Proofs.Try.prog).orc 21 as21 rs21 (x0,())) (t21 x0) :=
  Walks.ok (fun _ _ _=>PureRuns.of) (wk21 x0) (by kernel_rfl)
theorem ok21:PureOk Go.Proofs.Try.prog 21 p21:=pureOk_of kl89_0_ok.base (T:=fun (d:Tys.data as21)=>t21 d.1) (by kernel_rfl) (fun (d:Tys.data as21)=>ok21_t d.1)
def kf21 (P:Go.Program):Known:=(kl89_0 P).func 21 p21
theorem kf21_ok:KnownOk Go.Proofs.Try.prog (kf21 Go.Proofs.Try.prog):=kl89_0_ok.func ok21
abbrev as126:List Ty:=[(.int .i64),(.slice (.int .i64))]
abbrev rs126:List Ty:=[.bool]
def t126 (x0:Int) (x1:(List Int)):Tr (Tys.data rs126) :=
  Tr.test (Option.isSome (f72 ((Go.IntKind.wrap Go.IntKind.i64 ((0:Int) - x0):Int),(x0,(x1,())))))
    (let r0:=g72 ((Go.IntKind.wrap Go.IntKind.i64 ((0:Int) - x0):Int),(x0,(x1,())));
    Tr.fin (((!r0.1:Bool),())))
    (Tr.stop)
def f126 (d:Tys.data as126):Option (Tys.data rs126):=(t126 d.1 d.2.1).val
def g126 (d:Tys.data as126):Tys.data rs126:=(f126 d).getD (Tys.dflt rs126)
def p126:PureC:=pcOf as126 rs126 f126 g126
theorem wk126 (x0:Int) (x1:(List Int)):Walks (runPure (kf21 Go.Proofs.Try.prog).orc Go.Proofs.Try.prog 400 126 as126 rs126 (x0,x1,())) (t126 x0 x1) [(bl 1 1,[2])] :=
  ⟨by kernel_rfl,trivial⟩
theorem ok126_t (x0:Int) (x1:(List Int)):TrOk (PureRuns Go.Proofs.Try.prog (kf21 Go.Proofs.Try.prog).orc 126 as126 rs126 (x0,x1,())) (t126 x0 x1) :=
  Walks.ok (fun _ _ _=>PureRuns.of) (wk126 x0 x1) (by kernel_rfl)
theorem ok126:PureOk Go.Proofs.Try.prog 126 p126:=pureOk_of kf21_ok.base (T:=fun (d:Tys.data as126)=>t126 d.1 d.2.1) (by kernel_rfl) (fun (d:Tys.data as126)=>ok126_t d.1 d.2.1)
def kf126 (P:Go.Program):Known:=(kf21 P).func 126 p126
theorem kf126_ok:KnownOk Go.Proofs.Try.prog (kf126 Go.Proofs.Try.prog):=kf21_ok.func ok126
abbrev as110:List Ty:=[(.int .i64),(.slice (.int .i64))]
abbrev rs110:List Ty:=[(.int .i64)]
def t110 (x0:Int) (x1:(List Int)):Tr (Tys.data rs110) :=
  Tr.test (Option.isSome (f126 (x0,(x1,()))))
    (let r0:=g126 (x0,(x1,()));
    Tr.test (Option.isSome (f74 (r0.1,((2:Int),()))))
      (let r1:=g74 (r0.1,((2:Int),()));
      Tr.fin ((r1.1,())))
      (Tr.stop))
    (Tr.stop)
def f110 (d:Tys.data as110):Option (Tys.data rs110):=(t110 d.1 d.2.1).val
def g110 (d:Tys.data as110):Tys.data rs110:=(f110 d).getD (Tys.dflt rs110)
def p110:PureC:=pcOf as110 rs110 f110 g110
theorem wk110 (x0:Int) (x1:(List Int)):Walks (runPure (kf126 Go.Proofs.Try.prog).orc Go.Proofs.Try.prog 400 110 as110 rs110 (x0,x1,())) (t110 x0 x1) [(bl 2 3,[2,4])] :=
  ⟨by kernel_rfl,trivial⟩
theorem ok110_t (x0:Int) (x1:(List Int)):TrOk (PureRuns Go.Proofs.Try.prog (kf126 Go.Proofs.Try.prog).orc 110 as110 rs110 (x0,x1,())) (t110 x0 x1) :=
  Walks.ok (fun _ _ _=>PureRuns.of) (wk110 x0 x1) (by kernel_rfl)
theorem ok110:PureOk Go.Proofs.Try.prog 110 p110:=pureOk_of kf126_ok.base (T:=fun (d:Tys.data as110)=>t110 d.1 d.2.1) (by kernel_rfl) (fun (d:Tys.data as110)=>ok110_t d.1 d.2.1)
def kf110 (P:Go.Program):Known:=(kf126 P).func 110 p110
theorem kf110_ok:KnownOk Go.Proofs.Try.prog (kf110 Go.Proofs.Try.prog):=kf126_ok.func ok110
abbrev as91:List Ty:=[(.int .i64)]
abbrev rs91:List Ty:=[(.int .i64)]
def t91 (x0:Int):Tr (Tys.data rs91) :=
  Tr.test (Option.isSome (f110 ((10000:Int),(([x0]:List Int),()))))
    (let r0:=g110 ((10000:Int),(([x0]:List Int),()));
    Tr.fin ((r0.1,())))
    (Tr.stop)
def f91 (d:Tys.data as91):Option (Tys.data rs91):=(t91 d.1).val
def g91 (d:Tys.data as91):Tys.data rs91:=(f91 d).getD (Tys.dflt rs91)
def p91:PureC:=pcOf as91 rs91 f91 g91
theorem wk91 (x0:Int):Walks (runPure (kf110 Go.Proofs.Try.prog).orc Go.Proofs.Try.prog 400 91 as91 rs91 (x0,())) (t91 x0) [(bl 1 1,[2])] :=
  ⟨by kernel_rfl,trivial⟩
theorem ok91_t (x0:Int):TrOk (PureRuns Go.Proofs.Try.prog (kf110 Go.Proofs.Try.prog).orc 91 as91 rs91 (x0,())) (t91 x0) :=
  Walks.ok (fun _ _ _=>PureRuns.of) (wk91 x0) (by kernel_rfl)
theorem ok91:PureOk Go.Proofs.Try.prog 91 p91:=pureOk_of kf110_ok.base (T:=fun (d:Tys.data as91)=>t91 d.1) (by kernel_rfl) (fun (d:Tys.data as91)=>ok91_t d.1)
def kf91 (P:Go.Program):Known:=(kf110 P).func 91 p91
theorem kf91_ok:KnownOk Go.Proofs.Try.prog (kf91 Go.Proofs.Try.prog):=kf110_ok.func ok91
abbrev as127:List Ty:=[(.pair (.pair (.int .i64) (.pair (.int .i64) (.pair .bool .unit))) (.pair (.pair (.int .i64) (.pair .bool .unit)) (.pair (.int .i64) .unit)))]
abbrev rs127:List Ty:=[(.int .i64)]
def t127 (x0_:Int) (x0_':Int) (x0_'':Bool) (x0'_:Int) (x0'_':Bool) (x0'':Int):Tr (Tys.data rs127) :=
  Tr.fin (((wrap64 (x0'' - x0'_):Int),()))
def f127 (d:Tys.data as127):Option (Tys.data rs127):=(t127 d.1.1.1 d.1.1.2.1 d.1.1.2.2.1 d.1.2.1.1 d.1.2.1.2.1 d.1.2.2.1).val
def g127 (d:Tys.data as127):Tys.data rs127:=(f127 d).getD (Tys.dflt rs127)
def p127:PureC:=pcOf as127 rs127 f127 g127
theorem wk127 (x0_:Int) (x0_':Int) (x0_'':Bool) (x0'_:Int) (x0'_':Bool) (x0'':Int):Walks (runPure (kf91 Go.Proofs.Try.prog).orc Go.Proofs.Try.prog 400 127 as127 rs127 (((x0_,x0_',x0_'',()),(x0'_,x0'_',()),x0'',()),())) (t127 x0_ x0_' x0_'' x0'_ x0'_' x0'') [(bl 0 0,[])] :=
  ⟨by kernel_rfl,trivial⟩
theorem ok127_t (x0_:Int) (x0_':Int) (x0_'':Bool) (x0'_:Int) (x0'_':Bool) (x0'':Int):TrOk (PureRuns Go.Proofs.Try.prog (kf91 Go.Proofs.Try.prog).orc 127 as127 rs127 (((x0_,x0_',x0_'',()),(x0'_,x0'_',()),x0'',()),())) (t127 x0_ x0_' x0_'' x0'_ x0'_' x0'') :=
  Walks.ok (fun _ _ _=>PureRuns.of) (wk127 x0_ x0_' x0_'' x0'_ x0'_' x0'') (by kernel_rfl)
theorem ok127:PureOk Go.Proofs.Try.prog 127 p127:=pureOk_of kf91_ok.base (T:=fun (d:Tys.data as127)=>t127 d.1.1.1 d.1.1.2.1 d.1.1.2.2.1 d.1.2.1.1 d.1.2.1.2.1 d.1.2.2.1) (by kernel_rfl) (fun (d:Tys.data as127)=>ok127_t d.1.1.1 d.1.1.2.1 d.1.1.2.2.1 d.1.2.1.1 d.1.2.1.2.1 d.1.2.2.1)
def kf127 (P:Go.Program):Known:=(kf91 P).func 127 p127
theorem kf127_ok:KnownOk Go.Proofs.Try.prog (kf127 Go.Proofs.Try.prog):=kf91_ok.func ok127
abbrev as94:List Ty:=[(.pair (.pair (.int .i64) (.pair (.int .i64) (.pair .bool .unit))) (.pair (.pair (.int .i64) (.pair .bool .unit)) (.pair (.int .i64) .unit)))]
abbrev rs94:List Ty:=[(.int .i64)]
def t94 (x0_:Int) (x0_':Int) (x0_'':Bool) (x0'_:Int) (x0'_':Bool) (x0'':Int):Tr (Tys.data rs94) :=
  Tr.test (x0'_')
    (Tr.test (!x0_'')
      (Tr.test (Option.isSome (f91 (x0'_,())))
        (Tr.test (Option.isSome (f74 ((true:Bool),((3:Int),()))))
          (Tr.test (Option.isSome (f74 ((false:Bool),((22:Int),()))))
            (let r0:=g91 (x0'_,());
            let r1:=g74 ((true:Bool),((3:Int),()));
            let r2:=g74 ((false:Bool),((22:Int),()));
            Tr.test (Option.isSome (f73 (([r0.1,r1.1,r2.1]:List Int),())))
              (let r3:=g73 (([r0.1,r1.1,r2.1]:List Int),());
              Tr.fin ((r3.1,())))
              (Tr.stop))
            (Tr.stop))
          (Tr.stop))
        (Tr.stop))
      (Tr.test (Option.isSome (f91 (x0'_,())))
        (Tr.test (Option.isSome (f74 ((!eqF x0'_ 0:Bool),((3:Int),()))))
          (Tr.test (Option.isSome (f74 ((false:Bool),((22:Int),()))))
            (let r0:=g91 (x0'_,());
            let r2:=g74 ((false:Bool),((22:Int),()));
            let r4:=g74 ((!eqF x0'_ 0:Bool),((3:Int),()));
            Tr.test (Option.isSome (f73 (([r0.1,r4.1,r2.1]:List Int),())))
              (let r5:=g73 (([r0.1,r4.1,r2.1]:List Int),());
              Tr.fin ((r5.1,())))
              (Tr.stop))
            (Tr.stop))
          (Tr.stop))
        (Tr.stop)))
    (Tr.test (x0_'')
      (Tr.test (Option.isSome (f127 (((x0_,(x0_',(x0_'',()))),((x0'_,(x0'_',())),(x0'',()))),())))
        (let r6:=g127 (((x0_,(x0_',(x0_'',()))),((x0'_,(x0'_',())),(x0'',()))),());
        Tr.test (Option.isSome (f126 (x0_',(([r6.1]:List Int),()))))
          (Tr.test (Option.isSome (f91 (x0'_,())))
            (Tr.test (Option.isSome (f74 ((!eqF x0'_ 0:Bool),((3:Int),()))))
              (let r7:=g126 (x0_',(([r6.1]:List Int),()));
              Tr.test (Option.isSome (f74 (r7.1,((22:Int),()))))
                (let r0:=g91 (x0'_,());
                let r4:=g74 ((!eqF x0'_ 0:Bool),((3:Int),()));
                let r8:=g74 (r7.1,((22:Int),()));
                Tr.test (Option.isSome (f73 (([r0.1,r4.1,r8.1]:List Int),())))
                  (let r9:=g73 (([r0.1,r4.1,r8.1]:List Int),());
                  Tr.fin ((r9.1,())))
                  (Tr.stop))
                (Tr.stop))
              (Tr.stop))
            (Tr.stop))
          (Tr.stop))
        (Tr.stop))
      (Tr.test (Option.isSome (f127 (((x0_,(x0_',(x0_'',()))),((x0'_,(x0'_',())),(x0'',()))),())))
        (let r6:=g127 (((x0_,(x0_',(x0_'',()))),((x0'_,(x0'_',())),(x0'',()))),());
        Tr.test (Option.isSome (f126 (x0_',(([r6.1]:List Int),()))))
          (Tr.test (Option.isSome (f91 (x0'_,())))
            (Tr.test (Option.isSome (f74 ((false:Bool),((3:Int),()))))
              (let r7:=g126 (x0_',(([r6.1]:List Int),()));
              Tr.test (Option.isSome (f74 (r7.1,((22:Int),()))))
                (let r0:=g91 (x0'_,());
                let r8:=g74 (r7.1,((22:Int),()));
                let r10:=g74 ((false:Bool),((3:Int),()));
                Tr.test (Option.isSome (f73 (([r0.1,r10.1,r8.1]:List Int),())))
                  (let r11:=g73 (([r0.1,r10.1,r8.1]:List Int),());
                  Tr.fin ((r11.1,())))
                  (Tr.stop))
                (Tr.stop))
              (Tr.stop))
            (Tr.stop))
          (Tr.stop))
        (Tr.stop)))
def f94 (d:Tys.data as94):Option (Tys.data rs94):=(t94 d.1.1.1 d.1.1.2.1 d.1.1.2.2.1 d.1.2.1.1 d.1.2.1.2.1 d.1.2.2.1).val
def g94 (d:Tys.data as94):Tys.data rs94:=(f94 d).getD (Tys.dflt rs94)
def p94:PureC:=pcOf as94 rs94 f94 g94
theorem e94_0 (x0_:Int) (x0_':Int) (x0_'':Bool) (x0'_:Int) (x0'_':Bool) (x0'':Int):runPure (kf127 Go.Proofs.Try.prog).orc Go.Proofs.Try.prog 400 94 as94 rs94 (((x0_,x0_',x0_'',()),(x0'_,x0'_',()),x0'',()),()) [tt,tt,tt,tt,tt,tt,tt,tt,tt,tt,tt,ff,ff,ff,ff,ff,ff,ff,ff,tt,tt,tt,tt] =
    (let r0:=g91 (x0'_,());let r1:=g74 (true,((3:Int),()));let r2:=g74 (false,((22:Int),()));let r3:=g73 (([r0.1,r1.1,r2.1]:List Int),()); some ((r3.1,()),[(Option.isSome (f73 (([r0.1,r1.1,r2.1]:List Int),())),true),(Option.isSome (f74 (false,((22:Int),()))),true),(Option.isSome (f74 (true,((3:Int),()))),true),(Option.isSome (f91 (x0'_,())),true),(!x0'_',false),(!x0'_',false),(!x0'_',false),(!x0'_',false),(!x0'_',false),(!x0'_',false),(!x0'_',false),(!x0'_',false),(!x0_'',true),(!x0_'',true),(!x0_'',true),(!x0_'',true),(!x0_'',true),(!x0_'',true),(x0'_',true),(x0'_',true),(x0'_',true),(x0'_',true),(x0'_',true)])):=by kernel_rfl
theorem e94_1 (x0_:Int) (x0_':Int) (x0_'':Bool) (x0'_:Int) (x0'_':Bool) (x0'':Int):runPure (kf127 Go.Proofs.Try.prog).orc Go.Proofs.Try.prog 400 94 as94 rs94 (((x0_,x0_',x0_'',()),(x0'_,x0'_',()),x0'',()),()) [tt,tt,tt,tt,tt,ff,ff,ff,ff,tt,tt,tt,tt,ff,tt,ff,ff,ff,ff,ff,ff,ff,ff,ff,tt,tt,tt,tt] =
    (let r0:=g91 (x0'_,());let r2:=g74 (false,((22:Int),()));let r4:=g74 (!eqF x0'_ 0,((3:Int),()));let r5:=g73 (([r0.1,r4.1,r2.1]:List Int),()); some ((r5.1,()),[(Option.isSome (f73 (([r0.1,r4.1,r2.1]:List Int),())),true),(Option.isSome (f74 (false,((22:Int),()))),true),(Option.isSome (f74 (!eqF x0'_ 0,((3:Int),()))),true),(Option.isSome (f91 (x0'_,())),true),(!x0'_',false),(!x0'_',false),(!x0'_',false),(!x0'_',false),(!x0'_',false),(!x0'_',false),(!x0'_',false),(!x0'_',false),(!x0_'',false),(x0_'',true),(!x0_'',false),(x0_'',true),(x0_'',true),(x0_'',true),(x0_'',true),(!x0_'',false),(!x0_'',false),(!x0_'',false),(!x0_'',false),(x0'_',true),(x0'_',true),(x0'_',true),(x0'_',true),(x0'_',true)])):=by kernel_rfl
theorem e94_2 (x0_:Int) (x0_':Int) (x0_'':Bool) (x0'_:Int) (x0'_':Bool) (x0'':Int):runPure (kf127 Go.Proofs.Try.prog).orc Go.Proofs.Try.prog 400 94 as94 rs94 (((x0_,x0_',x0_'',()),(x0'_,x0'_',()),x0'',()),()) [ff,ff,ff,ff,ff,ff,ff,ff,ff,tt,tt,tt,tt,ff,tt,ff,tt,tt,tt,tt,tt,tt,tt,tt,tt,tt,tt,tt,tt,tt] =
    (let r6:=g127 (((x0_,(x0_',(x0_'',()))),((x0'_,(x0'_',())),(x0'',()))),());let r7:=g126 (x0_',(([r6.1]:List Int),()));let r0:=g91 (x0'_,());let r4:=g74 (!eqF x0'_ 0,((3:Int),()));let r8:=g74 (r7.1,((22:Int),()));let r9:=g73 (([r0.1,r4.1,r8.1]:List Int),()); some ((r9.1,()),[(Option.isSome (f73 (([r0.1,r4.1,r8.1]:List Int),())),true),(Option.isSome (f74 (r7.1,((22:Int),()))),true),(Option.isSome (f74 (!eqF x0'_ 0,((3:Int),()))),true),(Option.isSome (f91 (x0'_,())),true),(!x0'_',true),(Option.isSome (f126 (x0_',(([r6.1]:List Int),()))),true),(!x0'_',true),(!x0'_',true),(Option.isSome (f127 (((x0_,(x0_',(x0_'',()))),((x0'_,(x0'_',())),(x0'',()))),())),true),(!x0'_',true),(!x0'_',true),(!x0'_',true),(!x0'_',true),(!x0'_',true),(false,false),(x0_'',true),(false,false),(x0_'',true),(x0_'',true),(x0_'',true),(x0_'',true),(false,false),(false,false),(false,false),(false,false),(x0'_',false),(x0'_',false),(x0'_',false),(x0'_',false),(x0'_',false)])):=by kernel_rfl
theorem e94_3 (x0_:Int) (x0_':Int) (x0_'':Bool) (x0'_:Int) (x0'_':Bool) (x0'':Int):runPure (kf127 Go.Proofs.Try.prog).orc Go.Proofs.Try.prog 400 94 as94 rs94 (((x0_,x0_',x0_'',()),(x0'_,x0'_',()),x0'',()),()) [ff,ff,ff,ff,ff,ff,ff,ff,ff,ff,ff,ff,ff,ff,ff,ff,tt,tt,tt,tt,tt,tt,tt,tt,tt,tt,tt,tt,tt,tt] =
    (let r6:=g127 (((x0_,(x0_',(x0_'',()))),((x0'_,(x0'_',())),(x0'',()))),());let r7:=g126 (x0_',(([r6.1]:List Int),()));let r0:=g91 (x0'_,());let r8:=g74 (r7.1,((22:Int),()));let r10:=g74 (false,((3:Int),()));let r11:=g73 (([r0.1,r10.1,r8.1]:List Int),()); some ((r11.1,()),[(Option.isSome (f73 (([r0.1,r10.1,r8.1]:List Int),())),true),(Option.isSome (f74 (r7.1,((22:Int),()))),true),(Option.isSome (f74 (false,((3:Int),()))),true),(Option.isSome (f91 (x0'_,())),true),(!x0'_',true),(Option.isSome (f126 (x0_',(([r6.1]:List Int),()))),true),(!x0'_',true),(!x0'_',true),(Option.isSome (f127 (((x0_,(x0_',(x0_'',()))),((x0'_,(x0'_',())),(x0'',()))),())),true),(!x0'_',true),(!x0'_',true),(!x0'_',true),(!x0'_',true),(!x0'_',true),(false,false),(x0_'',false),(false,false),(x0_'',false),(x0_'',false),(x0_'',false),(x0_'',false),(false,false),(false,false),(false,false),(false,false),(x0'_',false),(x0'_',false),(x0'_',false),(x0'_',false),(x0'_',false)])):=by kernel_rfl
set_option maxRecDepth 100000 in
theorem ok94_t (x0_:Int) (x0_':Int) (x0_'':Bool) (x0'_:Int) (x0'_':Bool) (x0'':Int):TrOk (PureRuns Go.Proofs.Try.prog (kf127 Go.Proofs.Try.prog).orc 94 as94 rs94 (((x0_,x0_',x0_'',()),(x0'_,x0'_',()),x0'',()),())) (t94 x0_ x0_' x0_'' x0'_ x0'_' x0'') :=
  TrOk.ofTest (fun h0=>TrOk.ofTest (fun h5=>TrOk.ofTest (fun h19=>TrOk.ofTest (fun h20=>TrOk.ofTest (fun h21=>TrOk.ofTest (fun h22=>TrOk.ofFin (PureRuns.of (e94_0 x0_ x0_' x0_'' x0'_ x0'_' x0'') (ac h22 (ac h21 (ac h20 (ac h19 (ac (not_of h0) (ac (not_of h0) (ac (not_of h0) (ac (not_of h0) (ac (not_of h0) (ac (not_of h0) (ac (not_of h0) (ac (not_of h0) (ac (nn h5) (ac (nn h5) (ac (nn h5) (ac (nn h5) (ac (nn h5) (ac h5 (ac h0 (ac h0 (ac h0 (ac h0 (ac h0 All.nil))))))))))))))))))))))))) (fun h22=>TrOk.ofStop)) (fun h21=>TrOk.ofStop)) (fun h20=>TrOk.ofStop)) (fun h19=>TrOk.ofStop)) (fun h5=>TrOk.ofTest (fun h24=>TrOk.ofTest (fun h25=>TrOk.ofTest (fun h26=>TrOk.ofTest (fun h27=>TrOk.ofFin (PureRuns.of (e94_1 x0_ x0_' x0_'' x0'_ x0'_' x0'') (ac h27 (ac h26 (ac h25 (ac h24 (ac (not_of h0) (ac (not_of h0) (ac (not_of h0) (ac (not_of h0) (ac (not_of h0) (ac (not_of h0) (ac (not_of h0) (ac (not_of h0) (ac (nn h5) (ac (of_not h5) (ac (nn h5) (ac (of_not h5) (ac (of_not h5) (ac (of_not h5) (ac (of_not h5) (ac (nn h5) (ac (nn h5) (ac (nn h5) (ac h5 (ac h0 (ac h0 (ac h0 (ac h0 (ac h0 All.nil)))))))))))))))))))))))))))))) (fun h27=>TrOk.ofStop)) (fun h26=>TrOk.ofStop)) (fun h25=>TrOk.ofStop)) (fun h24=>TrOk.ofStop))) (fun h0=>TrOk.ofTest (fun h9=>TrOk.ofTest (fun h21=>TrOk.ofTest (fun h24=>TrOk.ofTest (fun h26=>TrOk.ofTest (fun h27=>TrOk.ofTest (fun h28=>TrOk.ofTest (fun h29=>TrOk.ofFin (PureRuns.of (e94_2 x0_ x0_' x0_'' x0'_ x0'_' x0'') (ac h29 (ac h28 (ac h27 (ac h26 (ac (not_of h0) (ac h24 (ac (not_of h0) (ac (not_of h0) (ac h21 (ac (not_of h0) (ac (not_of h0) (ac (not_of h0) (ac (not_of h0) (ac (not_of h0) (ac rfl (ac h9 (ac rfl (ac h9 (ac h9 (ac h9 (ac h9 (ac rfl (ac rfl (ac rfl (ac rfl (ac h0 (ac h0 (ac h0 (ac h0 (ac h0 All.nil)))))))))))))))))))))))))))))))) (fun h29=>TrOk.ofStop)) (fun h28=>TrOk.ofStop)) (fun h27=>TrOk.ofStop)) (fun h26=>TrOk.ofStop)) (fun h24=>TrOk.ofStop)) (fun h21=>TrOk.ofStop)) (fun h9=>TrOk.ofTest (fun h21=>TrOk.ofTest (fun h24=>TrOk.ofTest (fun h26=>TrOk.ofTest (fun h27=>TrOk.ofTest (fun h28=>TrOk.ofTest (fun h29=>TrOk.ofFin (PureRuns.of (e94_3 x0_ x0_' x0_'' x0'_ x0'_' x0'') (ac h29 (ac h28 (ac h27 (ac h26 (ac (not_of h0) (ac h24 (ac (not_of h0) (ac (not_of h0) (ac h21 (ac (not_of h0) (ac (not_of h0) (ac (not_of h0) (ac (not_of h0) (ac (not_of h0) (ac rfl (ac h9 (ac rfl (ac h9 (ac h9 (ac h9 (ac h9 (ac rfl (ac rfl (ac rfl (ac rfl (ac h0 (ac h0 (ac h0 (ac h0 (ac h0 All.nil)))))))))))))))))))))))))))))))) (fun h29=>TrOk.ofStop)) (fun h28=>TrOk.ofStop)) (fun h27=>TrOk.ofStop)) (fun h26=>TrOk.ofStop)) (fun h24=>TrOk.ofStop)) (fun h21=>TrOk.ofStop)))
theorem ok94:PureOk Go.Proofs.Try.prog 94 p94:=pureOk_of kf127_ok.base (T:=fun (d:Tys.data as94)=>t94 d.1.1.1 d.1.1.2.1 d.1.1.2.2.1 d.1.2.1.1 d.1.2.1.2.1 d.1.2.2.1) (by kernel_rfl) (fun (d:Tys.data as94)=>ok94_t d.1.1.1 d.1.1.2.1 d.1.1.2.2.1 d.1.2.1.1 d.1.2.1.2.1 d.1.2.2.1)
def kf94 (P:Go.Program):Known:=(kf127 P).func 94 p94
theorem kf94_ok:KnownOk Go.Proofs.Try.prog (kf94 Go.Proofs.Try.prog):=kf127_ok.func ok94
abbrev sh92_0:Sh:={ n:=25,slots:=[1,9,10,11],pats:=[.fn 93 [(0,1),(1,2)],.ty (.slice (.pair (.int .i64) (.pair .bool .unit))),.ty (.int .i64),.ty (.int .i64)],boxes:=[.row [.ty (.slice (.pair (.int .i64) (.pair (.int .i64) (.pair .bool .unit))))],.row [.ty (.int .i64),.ty (.slice (.pair (.int .i64) (.pair .bool .unit)))]] }
abbrev shb92_0:Sh:={ n:=25,slots:=[],pats:=[],boxes:=[.row [.ty (.slice (.pair (.int .i64) (.pair (.int .i64) (.pair .bool .unit))))],.row [.ty (.int .i64),.ty (.slice (.pair (.int .i64) (.pair .bool .unit)))]] }
abbrev shr92_0:Sh:={ n:=25,slots:=[4,5],pats:=[.ty (.int .i64),.ty (.int .i64)],boxes:=[.row [.ty (.slice (.pair (.int .i64) (.pair (.int .i64) (.pair .bool .unit))))],.row [.ty (.int .i64),.ty (.slice (.pair (.int .i64) (.pair .bool .unit)))]] }
def t92_0 (x1:(List (Int×(Bool×Unit)))) (x2:Int) (x3:Int) (b0_0:(List (Int×(Int×(Bool×Unit))))) (b1_0:Int) (b1_1:(List (Int×(Bool×Unit)))):Tr (Out sh92_0.data shb92_0.data shr92_0.data) :=
  Tr.test ((!leF x2 x3:Bool))
    (Tr.test (decide ((0:Int) ≤ x3) && decide (x3 < (↑(List.length x1):Int)))
      (Tr.test ((decide ((0:Int) ≤ x3) && decide (x3 < (↑(List.length b0_0):Int)):Bool))
        (Tr.test (Option.isSome (f94 (((((List.getD b0_0 (Int.toNat x3) ((0:Int),(0:Int),false,())).1:Int),(((List.getD b0_0 (Int.toNat x3) ((0:Int),(0:Int),false,())).2.1:Int),(((List.getD b0_0 (Int.toNat x3) ((0:Int),(0:Int),false,())).2.2.1:Bool),()))),((((List.getD x1 (Int.toNat x3) ((0:Int),false,())).1:Int),(((List.getD x1 (Int.toNat x3) ((0:Int),false,())).2.1:Bool),())),(b1_0,()))),())))
          (let r0:=g94 (((((List.getD b0_0 (Int.toNat x3) ((0:Int),(0:Int),false,())).1:Int),(((List.getD b0_0 (Int.toNat x3) ((0:Int),(0:Int),false,())).2.1:Int),(((List.getD b0_0 (Int.toNat x3) ((0:Int),(0:Int),false,())).2.2.1:Bool),()))),((((List.getD x1 (Int.toNat x3) ((0:Int),false,())).1:Int),(((List.getD x1 (Int.toNat x3) ((0:Int),false,())).2.1:Bool),())),(b1_0,()))),());
          Tr.test ((!eqF r0.1 0:Bool))
            (Tr.fin (.ret ((x3,(r0.1,())),((b0_0,()),((b1_0,(b1_1,())),())))))
            (Tr.fin (.again ((x1,(x2,((wrap64 (x3 + (1:Int)):Int),()))),((b0_0,()),((b1_0,(b1_1,())),()))))))
          (Tr.stop))
        (Tr.stop))
      (Tr.stop))
    (Tr.fin (.brk ((),((b0_0,()),((b1_0,(b1_1,())),())))))
def s92_0 (d:sh92_0.data):Option (Out sh92_0.data shb92_0.data shr92_0.data):=(t92_0 d.1.1 d.1.2.1 d.1.2.2.1 d.2.1.1 d.2.2.1.1 d.2.2.1.2.1).val
def l92_0 (d:sh92_0.data):Option (shb92_0.data ⊕ shr92_0.data):=itr s92_0 rounds d
def b92_0 (d:sh92_0.data):shb92_0.data:=outB shb92_0.dflt (l92_0 d)
def r92_0 (d:sh92_0.data):shr92_0.data:=outR shr92_0.dflt (l92_0 d)
def lc92_0:LoopC:=lcOf sh92_0 shb92_0 shr92_0 l92_0 b92_0 r92_0
theorem wk92_0 (x1:(List (Int×(Bool×Unit)))) (x2:Int) (x3:Int) (b0_0:(List (Int×(Int×(Bool×Unit))))) (b1_0:Int) (b1_1:(List (Int×(Bool×Unit)))):Walks (runBody (kf94 Go.Proofs.Try.prog).orc Go.Proofs.Try.prog 400 92 0 sh92_0 shb92_0 shr92_0 ((x1,x2,x3,()),(b0_0,()),(b1_0,b1_1,()),())) (t92_0 x1 x2 x3 b0_0 b1_0 b1_1) [(bl 5 31,[2,4,6,8,10]),(bl 5 15,[2,4,6,8,10]),(bl 1 0,[2])] :=
  ⟨by kernel_rfl,by kernel_rfl,by kernel_rfl,trivial⟩
theorem ok92_0_t (x1:(List (Int×(Bool×Unit)))) (x2:Int) (x3:Int) (b0_0:(List (Int×(Int×(Bool×Unit))))) (b1_0:Int) (b1_1:(List (Int×(Bool×Unit)))):TrOk (BodyRuns Go.Proofs.Try.prog (kf94 Go.Proofs.Try.prog).orc 92 0 sh92_0 shb92_0 shr92_0 ((x1,x2,x3,()),(b0_0,()),(b1_0,b1_1,()),())) (t92_0 x1 x2 x3 b0_0 b1_0 b1_1) :=
  Walks.ok (fun _ _ _=>BodyRuns.of) (wk92_0 x1 x2 x3 b0_0 b1_0 b1_1) (by kernel_rfl)
theorem ok92_0:LoopOk Go.Proofs.Try.prog 92 0 lc92_0:=loopOk_of (sh:=sh92_0) (shB:=shb92_0) (shR:=shr92_0) kf94_ok.base (T:=fun (d:sh92_0.data)=>t92_0 d.1.1 d.1.2.1 d.1.2.2.1 d.2.1.1 d.2.2.1.1 d.2.2.1.2.1) (by kernel_rfl) rfl (fun (d:sh92_0.data)=>ok92_0_t d.1.1 d.1.2.1 d.1.2.2.1 d.2.1.1 d.2.2.1.1 d.2.2.1.2.1) (fun _=>rfl)
def kl92_0 (P:Go.Program):Known:=(kf94 P).loop 92 0 lc92_0
theorem kl92_0_ok:KnownOk Go.Proofs.Try.prog (kl92_0 Go.Proofs.Try.prog):=kf94_ok.loop ok92_0
abbrev as23:List Ty:=[(.slice (.pair (.int .i64) (.pair (.int .i64) (.pair .bool .unit)))),(.pair (.int .i64) (.pair (.slice (.pair (.int .i64) (.pair .bool .unit))) .unit))]
abbrev rs23:List Ty:=[(.int .i64),(.int .i64)]
def t23 (x0:(List (Int×(Int×(Bool×Unit))))) (x1:Int) (x1':(List (Int×(Bool×Unit)))):Tr (Tys.data rs23) :=
  Tr.test (Option.isSome (f21 (x0,())))
    (let r0:=g21 (x0,());
    Tr.test ((!eqF r0.2.1 0:Bool))
      (Tr.fin ((r0.1,(r0.2.1,()))))
      (Tr.test (Option.isSome (f91 (x1,())))
        (Tr.test (Option.isSome (f74 ((!eqF (↑(List.length x1'):Int) (↑(List.length x0):Int):Bool),((10:Int),()))))
          (let r1:=g91 (x1,());
          let r2:=g74 ((!eqF (↑(List.length x1'):Int) (↑(List.length x0):Int):Bool),((10:Int),()));
          Tr.test (Option.isSome (f73 (([r1.1,r2.1]:List Int),())))
            (let r3:=g73 (([r1.1,r2.1]:List Int),());
            Tr.test ((!eqF r3.1 0:Bool))
              (Tr.fin (((0:Int),(r3.1,()))))
              (Tr.test (Option.isSome (l92_0 ((x1',((↑(List.length x1'):Int),((0:Int),()))),((x0,()),((x1,(x1',())),())))))
                (Tr.test (isRet (l92_0 ((x1',((↑(List.length x1'):Int),((0:Int),()))),((x0,()),((x1,(x1',())),())))))
                  (let r4:=r92_0 ((x1',((↑(List.length x1'):Int),((0:Int),()))),((x0,()),((x1,(x1',())),())));
                  Tr.fin ((r4.1.1,(r4.1.2.1,()))))
                  (Tr.fin (((0:Int),((0:Int),())))))
                (Tr.stop)))
            (Tr.stop))
          (Tr.stop))
        (Tr.stop)))
    (Tr.stop)
def f23 (d:Tys.data as23):Option (Tys.data rs23):=(t23 d.1 d.2.1.1 d.2.1.2.1).val
def g23 (d:Tys.data as23):Tys.data rs23:=(f23 d).getD (Tys.dflt rs23)
def p23:PureC:=pcOf as23 rs23 f23 g23
theorem wk23 (x0:(List (Int×(Int×(Bool×Unit))))) (x1:Int) (x1':(List (Int×(Bool×Unit)))):Walks (runPure (kl92_0 Go.Proofs.Try.prog).orc Go.Proofs.Try.prog 400 23 as23 rs23 (x0,(x1,x1',()),())) (t23 x0 x1 x1') [(bl 2 3,[2,4]),(bl 6 61,[2,4,6,8,10,12]),(bl 8 221,[2,4,6,8,10,12,14,16]),(bl 8 93,[2,4,6,8,10,12,14,16])] :=
  ⟨by kernel_rfl,by kernel_rfl,by kernel_rfl,by kernel_rfl,trivial⟩
theorem ok23_t (x0:(List (Int×(Int×(Bool×Unit))))) (x1:Int) (x1':(List (Int×(Bool×Unit)))):TrOk (PureRuns Go.Proofs.Try.prog (kl92_0 Go.Proofs.Try.prog).orc 23 as23 rs23 (x0,(x1,x1',()),())) (t23 x0 x1 x1') :=
  Walks.ok (fun _ _ _=>PureRuns.of) (wk23 x0 x1 x1') (by kernel_rfl)
theorem ok23:PureOk Go.Proofs.Try.prog 23 p23:=pureOk_of kl92_0_ok.base (T:=fun (d:Tys.data as23)=>t23 d.1 d.2.1.1 d.2.1.2.1) (by kernel_rfl) (fun (d:Tys.data as23)=>ok23_t d.1 d.2.1.1 d.2.1.2.1)
def kf23 (P:Go.Program):Known:=(kl92_0 P).func 23 p23
theorem kf23_ok:KnownOk Go.Proofs.Try.prog (kf23 Go.Proofs.Try.prog):=kl92_0_ok.func ok23
abbrev as95:List Ty:=[(.slice (.pair (.int .i64) (.pair (.int .i64) (.pair .bool .unit)))),(.pair (.int .i64) (.pair (.slice (.pair (.int .i64) (.pair .bool .unit))) .unit)),(.slice (.int .i64))]
abbrev rs95:List Ty:=[(.pair (.slice (.pair (.int .i64) (.pair (.int .i64) (.pair .bool .unit)))) (.pair (.pair (.int .i64) (.pair (.slice (.pair (.int .i64) (.pair .bool .unit))) .unit)) .unit)),(.int .i64)]
def t95 (x0:(List (Int×(Int×(Bool×Unit))))) (x1:Int) (x1':(List (Int×(Bool×Unit)))) (x2:(List Int)):Tr (Tys.data rs95) :=
  Tr.test (Option.isSome (f23 (x0,((x1,(x1',())),()))))
    (Tr.test (Option.isSome (f73 (x2,())))
      (let r0:=g23 (x0,((x1,(x1',())),()));
      let r1:=g73 (x2,());
      Tr.test (Option.isSome (f73 (([r0.2.1,r1.1]:List Int),())))
        (let r2:=g73 (([r0.2.1,r1.1]:List Int),());
        Tr.test ((!eqF r2.1 0:Bool))
          (Tr.fin (((([]:List (Int×Int×Bool×PUnit)),(((0:Int),(([]:List (Int×Bool×PUnit)),())),())),(r2.1,()))))
          (Tr.fin (((x0,((x1,(x1',())),())),((0:Int),())))))
        (Tr.stop))
      (Tr.stop))
    (Tr.stop)
def f95 (d:Tys.data as95):Option (Tys.data rs95):=(t95 d.1 d.2.1.1 d.2.1.2.1 d.2.2.1).val
def g95 (d:Tys.data as95):Tys.data rs95:=(f95 d).getD (Tys.dflt rs95)
def p95:PureC:=pcOf as95 rs95 f95 g95
theorem wk95 (x0:(List (Int×(Int×(Bool×Unit))))) (x1:Int) (x1':(List (Int×(Bool×Unit)))) (x2:(List Int)):Walks (runPure (kf23 Go.Proofs.Try.prog).orc Go.Proofs.Try.prog 400 95 as95 rs95 (x0,(x1,x1',()),x2,())) (t95 x0 x1 x1' x2) [(bl 4 15,[2,4,6,8]),(bl 4 7,[2,4,6,8])] :=
  ⟨by kernel_rfl,by kernel_rfl,trivial⟩
theorem ok95_t (x0:(List (Int×(Int×(Bool×Unit))))) (x1:Int) (x1':(List (Int×(Bool×Unit)))) (x2:(List Int)):TrOk (PureRuns Go.Proofs.Try.prog (kf23 Go.Proofs.Try.prog).orc 95 as95 rs95 (x0,(x1,x1',()),x2,())) (t95 x0 x1 x1' x2) :=
  Walks.ok (fun _ _ _=>PureRuns.of) (wk95 x0 x1 x1' x2) (by kernel_rfl)
theorem ok95:PureOk Go.Proofs.Try.prog 95 p95:=pureOk_of kf23_ok.base (T:=fun (d:Tys.data as95)=>t95 d.1 d.2.1.1 d.2.1.2.1 d.2.2.1) (by kernel_rfl) (fun (d:Tys.data as95)=>ok95_t d.1 d.2.1.1 d.2.1.2.1 d.2.2.1)
def kf95 (P:Go.Program):Known:=(kf23 P).func 95 p95
theorem kf95_ok:KnownOk Go.Proofs.Try.prog (kf95 Go.Proofs.Try.prog):=kf23_ok.func ok95
abbrev as128:List Ty:=[(.pair (.pair (.int .i64) (.pair (.int .i64) (.pair .bool .unit))) (.pair (.pair (.int .i64) (.pair .bool .unit)) (.pair (.int .i64) .unit)))]
abbrev rs128:List Ty:=[(.int .i64)]
def t128 (x0_:Int) (x0_':Int) (x0_'':Bool) (x0'_:Int) (x0'_':Bool) (x0'':Int):Tr (Tys.data rs128) :=
  Tr.test (x0'_')
    (Tr.fin (((0:Int),())))
    (Tr.test (Option.isSome (f127 (((x0_,(x0_',(x0_'',()))),((x0'_,(x0'_',())),(x0'',()))),())))
      (let r0:=g127 (((x0_,(x0_',(x0_'',()))),((x0'_,(x0'_',())),(x0'',()))),());
      Tr.fin (((wrap64 (x0_ * r0.1):Int),())))
      (Tr.stop))
def f128 (d:Tys.data as128):Option (Tys.data rs128):=(t128 d.1.1.1 d.1.1.2.1 d.1.1.2.2.1 d.1.2.1.1 d.1.2.1.2.1 d.1.2.2.1).val
def g128 (d:Tys.data as128):Tys.data rs128:=(f128 d).getD (Tys.dflt rs128)
def p128:PureC:=pcOf as128 rs128 f128 g128
theorem wk128 (x0_:Int) (x0_':Int) (x0_'':Bool) (x0'_:Int) (x0'_':Bool) (x0'':Int):Walks (runPure (kf95 Go.Proofs.Try.prog).orc Go.Proofs.Try.prog 400 128 as128 rs128 (((x0_,x0_',x0_'',()),(x0'_,x0'_',()),x0'',()),())) (t128 x0_ x0_' x0_'' x0'_ x0'_' x0'') [(bl 1 1,[2]),(bl 2 2,[2,4])] :=
  ⟨by kernel_rfl,by kernel_rfl,trivial⟩
theorem ok128_t (x0_:Int) (x0_':Int) (x0_'':Bool) (x0'_:Int) (x0'_':Bool) (x0'':Int):TrOk (PureRuns Go.Proofs.Try.prog (kf95 Go.Proofs.Try.prog).orc 128 as128 rs128 (((x0_,x0_',x0_'',()),(x0'_,x0'_',()),x0'',()),())) (t128 x0_ x0_' x0_'' x0'_ x0'_' x0'') :=
  Walks.ok (fun _ _ _=>PureRuns.of) (wk128 x0_ x0_' x0_'' x0'_ x0'_' x0'') (by kernel_rfl)
theorem ok128:PureOk Go.Proofs.Try.prog 128 p128:=pureOk_of kf95_ok.base (T:=fun (d:Tys.data as128)=>t128 d.1.1.1 d.1.1.2.1 d.1.1.2.2.1 d.1.2.1.1 d.1.2.1.2.1 d.1.2.2.1) (by kernel_rfl) (fun (d:Tys.data as128)=>ok128_t d.1.1.1 d.1.1.2.1 d.1.1.2.2.1 d.1.2.1.1 d.1.2.1.2.1 d.1.2.2.1)
def kf128 (P:Go.Program):Known:=(kf95 P).func 128 p128
theorem kf128_ok:KnownOk Go.Proofs.Try.prog (kf128 Go.Proofs.Try.prog):=kf95_ok.func ok128
abbrev as99:List Ty:=[(.pair (.pair (.int .i64) (.pair (.int .i64) (.pair .bool .unit))) (.pair (.pair (.int .i64) (.pair .bool .unit)) (.pair (.int .i64) .unit)))]
abbrev rs99:List Ty:=[(.int .i64)]
def t99 (x0_:Int) (x0_':Int) (x0_'':Bool) (x0'_:Int) (x0'_':Bool) (x0'':Int):Tr (Tys.data rs99) :=
  Tr.test (Option.isSome (f128 (((x0_,(x0_',(x0_'',()))),((x0'_,(x0'_',())),(x0'',()))),())))
    (Tr.test (Option.isSome (f127 (((x0_,(x0_',(x0_'',()))),((x0'_,(x0'_',())),(x0'',()))),())))
      (let r0:=g128 (((x0_,(x0_',(x0_'',()))),((x0'_,(x0'_',())),(x0'',()))),());
      let r1:=g127 (((x0_,(x0_',(x0_'',()))),((x0'_,(x0'_',())),(x0'',()))),());
      Tr.fin (((wrap64 (r0.1 * r1.1):Int),())))
      (Tr.stop))
    (Tr.stop)
def f99 (d:Tys.data as99):Option (Tys.data rs99):=(t99 d.1.1.1 d.1.1.2.1 d.1.1.2.2.1 d.1.2.1.1 d.1.2.1.2.1 d.1.2.2.1).val
def g99 (d:Tys.data as99):Tys.data rs99:=(f99 d).getD (Tys.dflt rs99)
def p99:PureC:=pcOf as99 rs99 f99 g99
theorem wk99 (x0_:Int) (x0_':Int) (x0_'':Bool) (x0'_:Int) (x0'_':Bool) (x0'':Int):Walks (runPure (kf128 Go.Proofs.Try.prog).orc Go.Proofs.Try.prog 400 99 as99 rs99 (((x0_,x0_',x0_'',()),(x0'_,x0'_',()),x0'',()),())) (t99 x0_ x0_' x0_'' x0'_ x0'_' x0'') [(bl 2 3,[2,4])] :=
  ⟨by kernel_rfl,trivial⟩
theorem ok99_t (x0_:Int) (x0_':Int) (x0_'':Bool) (x0'_:Int) (x0'_':Bool) (x0'':Int):TrOk (PureRuns Go.Proofs.Try.prog (kf128 Go.Proofs.Try.prog).orc 99 as99 rs99 (((x0_,x0_',x0_'',()),(x0'_,x0'_',()),x0'',()),())) (t99 x0_ x0_' x0_'' x0'_ x0'_' x0'') :=
  Walks.ok (fun _ _ _=>PureRuns.of) (wk99 x0_ x0_' x0_'' x0'_ x0'_' x0'') (by kernel_rfl)
theorem ok99:PureOk Go.Proofs.Try.prog 99 p99:=pureOk_of kf128_ok.base (T:=fun (d:Tys.data as99)=>t99 d.1.1.1 d.1.1.2.1 d.1.1.2.2.1 d.1.2.1.1 d.1.2.1.2.1 d.1.2.2.1) (by kernel_rfl) (fun (d:Tys.data as99)=>ok99_t d.1.1.1 d.1.1.2.1 d.1.1.2.2.1 d.1.2.1.1 d.1.2.1.2.1 d.1.2.2.1)
def kf99 (P:Go.Program):Known:=(kf128 P).func 99 p99
theorem kf99_ok:KnownOk Go.Proofs.Try.prog (kf99 Go.Proofs.Try.prog):=kf128_ok.func ok99
theorem sc97_0:sameRf Go.Proofs.Try.prog 97 0 = true:=sameRf_ok (by kernel_rfl)
abbrev sh129_0 (P:Go.Program):Sh:={ n:=28,slots:=[0,1,7,8,9],pats:=[.yld 0,.ptr 1 3 0,.ty (.slice (.pair (.int .i64) (.pair .bool .unit))),.ty (.int .i64),.ty (.int .i64)],boxes:=[.lp (lpOf P 97 0 .ready none 15 [3,5] 2) [.ptr 3 1 0,.ptr 4 1 0],.row [.ty (.slice (.pair (.int .i64) (.pair (.int .i64) (.pair .bool .unit)))),.ty (.int .i64),.ty (.slice (.pair (.int .i64) (.pair .bool .unit)))],.dfr,.row [.fn 99 []],.row [.ty (.int .i64)]] }
abbrev shb129_0 (P:Go.Program):Sh:={ n:=28,slots:=[],pats:=[],boxes:=[.lp (lpOf P 97 0 .ready none 15 [3,5] 2) [.ptr 3 1 0,.ptr 4 1 0],.row [.ty (.slice (.pair (.int .i64) (.pair (.int .i64) (.pair .bool .unit)))),.ty (.int .i64),.ty (.slice (.pair (.int .i64) (.pair .bool .unit)))],.dfr,.row [.fn 99 []],.row [.ty (.int .i64)]] }
abbrev shr129_0 (P:Go.Program):Sh:={ n:=28,slots:=[],pats:=[],boxes:=[.lp (lpOf P 97 0 .ready none 15 [3,5] 2) [.ptr 3 1 0,.ptr 4 1 0],.row [.ty (.slice (.pair (.int .i64) (.pair (.int .i64) (.pair .bool .unit)))),.ty (.int .i64),.ty (.slice (.pair (.int .i64) (.pair .bool .unit)))],.dfr,.row [.fn 99 []],.row [.ty (.int .i64)]] }
abbrev dt129_0:Type:=(List (Int×Bool×PUnit)×Int×Int×PUnit)×PUnit×(List (Int×Int×Bool×PUnit)×Int×List (Int×Bool×PUnit)×PUnit)×PUnit×(Int×PUnit)×PUnit
abbrev db129_0:Type:=PUnit×PUnit×(List (Int×Int×Bool×PUnit)×Int×List (Int×Bool×PUnit)×PUnit)×PUnit×(Int×PUnit)×PUnit
abbrev dr129_0:Type:=PUnit×PUnit×(List (Int×Int×Bool×PUnit)×Int×List (Int×Bool×PUnit)×PUnit)×PUnit×(Int×PUnit)×PUnit
def t129_0 (x2:(List (Int×(Bool×Unit)))) (x3:Int) (x4:Int) (b1_0:(List (Int×(Int×(Bool×Unit))))) (b1_1:Int) (b1_2:(List (Int×(Bool×Unit)))) (b4_0:Int):Tr (Out dt129_0 db129_0 dr129_0) :=
  Tr.test ((!leF x3 x4:Bool))
    (Tr.test (decide ((0:Int) ≤ x4) && decide (x4 < (↑(List.length x2):Int)))
      (Tr.test ((decide ((0:Int) ≤ x4) && decide (x4 < (↑(List.length b1_0):Int)):Bool))
        (Tr.test (Option.isSome (f99 (((((List.getD b1_0 (Int.toNat x4) ((0:Int),(0:Int),false,())).1:Int),(((List.getD b1_0 (Int.toNat x4) ((0:Int),(0:Int),false,())).2.1:Int),(((List.getD b1_0 (Int.toNat x4) ((0:Int),(0:Int),false,())).2.2.1:Bool),()))),((((List.getD x2 (Int.toNat x4) ((0:Int),false,())).1:Int),(((List.getD x2 (Int.toNat x4) ((0:Int),false,())).2.1:Bool),())),(b1_1,()))),())))
          (let r0:=g99 (((((List.getD b1_0 (Int.toNat x4) ((0:Int),(0:Int),false,())).1:Int),(((List.getD b1_0 (Int.toNat x4) ((0:Int),(0:Int),false,())).2.1:Int),(((List.getD b1_0 (Int.toNat x4) ((0:Int),(0:Int),false,())).2.2.1:Bool),()))),((((List.getD x2 (Int.toNat x4) ((0:Int),false,())).1:Int),(((List.getD x2 (Int.toNat x4) ((0:Int),false,())).2.1:Bool),())),(b1_1,()))),());
          Tr.fin (.again ((x2,(x3,((wrap64 (x4 + (1:Int)):Int),()))),((),((b1_0,(b1_1,(b1_2,()))),((),(((wrap64 (b4_0 + r0.1):Int),()),())))))))
          (Tr.stop))
        (Tr.stop))
      (Tr.stop))
    (Tr.fin (.brk ((),((),((b1_0,(b1_1,(b1_2,()))),((),((b4_0,()),())))))))
def s129_0 (d:dt129_0):Option (Out dt129_0 db129_0 dr129_0):=(t129_0 d.1.1 d.1.2.1 d.1.2.2.1 d.2.2.1.1 d.2.2.1.2.1 d.2.2.1.2.2.1 d.2.2.2.2.1.1).val
def l129_0 (d:dt129_0):Option (db129_0 ⊕ dr129_0):=itr s129_0 rounds d
def b129_0 (d:dt129_0):db129_0:=outB (((),((),((([]:List (Int×Int×Bool×PUnit)),((0:Int),(([]:List (Int×Bool×PUnit)),()))),((),(((0:Int),()),())))))) (l129_0 d)
def lc129_0 (P:Go.Program):LoopC:=lcB (sh129_0 P) (shb129_0 P) (shr129_0 P) l129_0 b129_0
theorem e129_0_0 (x2:(List (Int×(Bool×Unit)))) (x3:Int) (x4:Int) (b1_0:(List (Int×(Int×(Bool×Unit))))) (b1_1:Int) (b1_2:(List (Int×(Bool×Unit)))) (b4_0:Int):runBody (kf99 Go.Proofs.Try.prog).orc Go.Proofs.Try.prog 400 129 0 (sh129_0 Go.Proofs.Try.prog) (shb129_0 Go.Proofs.Try.prog) (shr129_0 Go.Proofs.Try.prog) ((x2,x3,x4,()),(),(b1_0,b1_1,b1_2,()),(),(b4_0,()),()) [tt,tt,tt,tt,ff] =
    (let r0:=g99 (((((List.getD b1_0 (Int.toNat x4) ((0:Int),(0:Int),false,())).1:Int),(((List.getD b1_0 (Int.toNat x4) ((0:Int),(0:Int),false,())).2.1:Int),((List.getD b1_0 (Int.toNat x4) ((0:Int),(0:Int),false,())).2.2.1,()))),((((List.getD x2 (Int.toNat x4) ((0:Int),false,())).1:Int),((List.getD x2 (Int.toNat x4) ((0:Int),false,())).2.1,())),(b1_1,()))),()); some (.again ((x2,(x3,((wrap64 (x4 + (1:Int)):Int),()))),((),((b1_0,(b1_1,(b1_2,()))),((),(((wrap64 (b4_0 + r0.1):Int),()),()))))),[(sameRf Go.Proofs.Try.prog (nat_lit 97) (nat_lit 0),true),(false,false),(Option.isSome (f99 (((((List.getD b1_0 (Int.toNat x4) ((0:Int),(0:Int),false,())).1:Int),(((List.getD b1_0 (Int.toNat x4) ((0:Int),(0:Int),false,())).2.1:Int),((List.getD b1_0 (Int.toNat x4) ((0:Int),(0:Int),false,())).2.2.1,()))),((((List.getD x2 (Int.toNat x4) ((0:Int),false,())).1:Int),((List.getD x2 (Int.toNat x4) ((0:Int),false,())).2.1,())),(b1_1,()))),())),true),(decide ((0:Int) ≤ x4) && decide (x4 < (↑(List.length b1_0):Int)),true),(decide ((0:Int) ≤ x4) && decide (x4 < (↑(List.length x2):Int)),true),(!leF x3 x4,true)])):=by kernel_rfl
theorem e129_0_3 (x2:(List (Int×(Bool×Unit)))) (x3:Int) (x4:Int) (b1_0:(List (Int×(Int×(Bool×Unit))))) (b1_1:Int) (b1_2:(List (Int×(Bool×Unit)))) (b4_0:Int):runBody (kf99 Go.Proofs.Try.prog).orc Go.Proofs.Try.prog 400 129 0 (sh129_0 Go.Proofs.Try.prog) (shb129_0 Go.Proofs.Try.prog) (shr129_0 Go.Proofs.Try.prog) ((x2,x3,x4,()),(),(b1_0,b1_1,b1_2,()),(),(b4_0,()),()) [ff] =
    (some (.brk ((),((),((b1_0,(b1_1,(b1_2,()))),((),((b4_0,()),()))))),[(sameRf Go.Proofs.Try.prog (nat_lit 97) (nat_lit 0),true),(!leF x3 x4,false)])):=by kernel_rfl
theorem ok129_0_t (x2:(List (Int×(Bool×Unit)))) (x3:Int) (x4:Int) (b1_0:(List (Int×(Int×(Bool×Unit))))) (b1_1:Int) (b1_2:(List (Int×(Bool×Unit)))) (b4_0:Int):TrOk (BodyRuns Go.Proofs.Try.prog (kf99 Go.Proofs.Try.prog).orc 129 0 (sh129_0 Go.Proofs.Try.prog) (shb129_0 Go.Proofs.Try.prog) (shr129_0 Go.Proofs.Try.prog) ((x2,x3,x4,()),(),(b1_0,b1_1,b1_2,()),(),(b4_0,()),())) (t129_0 x2 x3 x4 b1_0 b1_1 b1_2 b4_0) :=
  TrOk.ofTest (fun h0=>TrOk.ofTest (fun h1=>TrOk.ofTest (fun h2=>TrOk.ofTest (fun h3=>TrOk.ofFin (BodyRuns.of (e129_0_0 x2 x3 x4 b1_0 b1_1 b1_2 b4_0) (ac (sc97_0) (ac rfl (ac h3 (ac h2 (ac h1 (ac h0 All.nil)))))))) (fun h3=>TrOk.ofStop)) (fun h2=>TrOk.ofStop)) (fun h1=>TrOk.ofStop)) (fun h0=>TrOk.ofFin (BodyRuns.of (e129_0_3 x2 x3 x4 b1_0 b1_1 b1_2 b4_0) (ac (sc97_0) (ac h0 All.nil))))
theorem ok129_0:LoopOk Go.Proofs.Try.prog 129 0 (lc129_0 Go.Proofs.Try.prog):=loopOk_ofB (sh:=(sh129_0 Go.Proofs.Try.prog)) (shB:=(shb129_0 Go.Proofs.Try.prog)) (shR:=(shr129_0 Go.Proofs.Try.prog)) kf99_ok.base (T:=fun (d:dt129_0)=>t129_0 d.1.1 d.1.2.1 d.1.2.2.1 d.2.2.1.1 d.2.2.1.2.1 d.2.2.1.2.2.1 d.2.2.2.2.1.1) (by kernel_rfl) rfl (fun (d:dt129_0)=>ok129_0_t d.1.1 d.1.2.1 d.1.2.2.1 d.2.2.1.1 d.2.2.1.2.1 d.2.2.1.2.2.1 d.2.2.2.2.1.1) (fun _=>rfl)
def kl129_0 (P:Go.Program):Known:=(kf99 P).loop 129 0 (lc129_0 P)
theorem kl129_0_ok:KnownOk Go.Proofs.Try.prog (kl129_0 Go.Proofs.Try.prog):=kf99_ok.loop ok129_0
abbrev as26:List Ty:=[(.slice (.pair (.int .i64) (.pair (.int .i64) (.pair .bool .unit)))),(.pair (.int .i64) (.pair (.slice (.pair (.int .i64) (.pair .bool .unit))) .unit))]
abbrev rs26:List Ty:=[(.int .i64),(.int .i64)]
def t26 (x0:(List (Int×(Int×(Bool×Unit))))) (x1:Int) (x1':(List (Int×(Bool×Unit)))):Tr (Tys.data rs26) :=
  Tr.test (Option.isSome (f95 (x0,((x1,(x1',())),(([]:List Int),())))))
    (let r0:=g95 (x0,((x1,(x1',())),(([]:List Int),())));
    Tr.test (isBrk (l129_0 ((r0.1.2.1.2.1,((↑(List.length r0.1.2.1.2.1):Int),((0:Int),()))),((),((r0.1.1,(r0.1.2.1.1,(r0.1.2.1.2.1,()))),((),(((0:Int),()),())))))))
      (let r1:=b129_0 ((r0.1.2.1.2.1,((↑(List.length r0.1.2.1.2.1):Int),((0:Int),()))),((),((r0.1.1,(r0.1.2.1.1,(r0.1.2.1.2.1,()))),((),(((0:Int),()),())))));
      Tr.fin ((r1.2.2.2.2.1.1,(r0.2.1,()))))
      (Tr.stop))
    (Tr.stop)
def f26 (d:Tys.data as26):Option (Tys.data rs26):=(t26 d.1 d.2.1.1 d.2.1.2.1).val
def g26 (d:Tys.data as26):Tys.data rs26:=(f26 d).getD (Tys.dflt rs26)
def p26:PureC:=pcOf as26 rs26 f26 g26
theorem e26_0 (x0:(List (Int×(Int×(Bool×Unit))))) (x1:Int) (x1':(List (Int×(Bool×Unit)))):runPure (kl129_0 Go.Proofs.Try.prog).orc Go.Proofs.Try.prog 400 26 as26 rs26 (x0,(x1,x1',()),()) [tt,tt,tt,tt] =
    (let r0:=g95 (x0,((x1,(x1',())),(([]:List Int),())));let r1:=b129_0 ((r0.1.2.1.2.1,((↑(List.length r0.1.2.1.2.1):Int),((0:Int),()))),((),((r0.1.1,(r0.1.2.1.1,(r0.1.2.1.2.1,()))),((),(((0:Int),()),()))))); some ((r1.2.2.2.2.1.1,(r0.2.1,())),[(true,true),(isBrk (l129_0 ((r0.1.2.1.2.1,((↑(List.length r0.1.2.1.2.1):Int),((0:Int),()))),((),((r0.1.1,(r0.1.2.1.1,(r0.1.2.1.2.1,()))),((),(((0:Int),()),())))))),true),(sameRf Go.Proofs.Try.prog (nat_lit 97) (nat_lit 0),true),(Option.isSome (f95 (x0,((x1,(x1',())),(([]:List Int),())))),true)])):=by kernel_rfl
theorem ok26_t (x0:(List (Int×(Int×(Bool×Unit))))) (x1:Int) (x1':(List (Int×(Bool×Unit)))):TrOk (PureRuns Go.Proofs.Try.prog (kl129_0 Go.Proofs.Try.prog).orc 26 as26 rs26 (x0,(x1,x1',()),())) (t26 x0 x1 x1') :=
  TrOk.ofTest (fun h0=>TrOk.ofTest (fun h2=>TrOk.ofFin (PureRuns.of (e26_0 x0 x1 x1') (ac rfl (ac h2 (ac (sc97_0) (ac h0 All.nil)))))) (fun h2=>TrOk.ofStop)) (fun h0=>TrOk.ofStop)
theorem ok26:PureOk Go.Proofs.Try.prog 26 p26:=pureOk_of kl129_0_ok.base (T:=fun (d:Tys.data as26)=>t26 d.1 d.2.1.1 d.2.1.2.1) (by kernel_rfl) (fun (d:Tys.data as26)=>ok26_t d.1 d.2.1.1 d.2.1.2.1)
def kf26 (P:Go.Program):Known:=(kl129_0 P).func 26 p26
theorem kf26_ok:KnownOk Go.Proofs.Try.prog (kf26 Go.Proofs.Try.prog):=kl129_0_ok.func ok26
abbrev as130:List Ty:=[(.pair (.pair (.int .i64) (.pair (.int .i64) (.pair .bool .unit))) (.pair (.pair (.int .i64) (.pair .bool .unit)) (.pair (.int .i64) .unit))),(.int .i64)]
abbrev rs130:List Ty:=[(.pair (.pair (.int .i64) (.pair (.int .i64) (.pair .bool .unit))) (.pair (.pair (.int .i64) (.pair .bool .unit)) (.pair (.int .i64) .unit)))]
def t130 (x0_:Int) (x0_':Int) (x0_'':Bool) (x0'_:Int) (x0'_':Bool) (x0'':Int) (x1:Int):Tr (Tys.data rs130) :=
  Tr.test (Option.isSome (f127 (((x0_,(x0_',(x0_'',()))),((x0'_,(x0'_',())),(x1,()))),())))
    (Tr.test (x0'_')
      (Tr.fin ((((x0_,(x0_',(x0_'',()))),((x0'_,(x0'_',())),(x1,()))),())))
      (let r0:=g127 (((x0_,(x0_',(x0_'',()))),((x0'_,(x0'_',())),(x1,()))),());
      Tr.test (Option.isSome (f126 (x0_',(([r0.1]:List Int),()))))
        (let r1:=g126 (x0_',(([r0.1]:List Int),()));
        Tr.test ((!r1.1:Bool))
          (Tr.fin ((((x0_,(x0_',(x0_'',()))),((x0'_,(x0'_',())),(x1,()))),())))
          (Tr.test (x0_'')
            (Tr.fin ((((x0_,(x0_',(x0_'',()))),(((0:Int),((true:Bool),())),(x1,()))),())))
            (Tr.test ((!leF r0.1 0:Bool))
              (Tr.fin ((((x0_,(x0_',(x0_'',()))),(((wrap64 (x1 - x0_'):Int),(x0'_',())),(x1,()))),())))
              (Tr.fin ((((x0_,(x0_',(x0_'',()))),(((wrap64 (x1 + x0_'):Int),(x0'_',())),(x1,()))),()))))))
        (Tr.stop)))
    (Tr.stop)
def f130 (d:Tys.data as130):Option (Tys.data rs130):=(t130 d.1.1.1 d.1.1.2.1 d.1.1.2.2.1 d.1.2.1.1 d.1.2.1.2.1 d.1.2.2.1 d.2.1).val
def g130 (d:Tys.data as130):Tys.data rs130:=(f130 d).getD (Tys.dflt rs130)
def p130:PureC:=pcOf as130 rs130 f130 g130
theorem wk130 (x0_:Int) (x0_':Int) (x0_'':Bool) (x0'_:Int) (x0'_':Bool) (x0'':Int) (x1:Int):Walks (runPure (kf26 Go.Proofs.Try.prog).orc Go.Proofs.Try.prog 400 130 as130 rs130 (((x0_,x0_',x0_'',()),(x0'_,x0'_',()),x0'',()),x1,())) (t130 x0_ x0_' x0_'' x0'_ x0'_' x0'' x1) [(bl 2 3,[1,2,2,2,2,2,2,2,2,4]),(bl 4 13,[2,6,6,4,6,6,6,6,6,6,8]),(bl 5 21,[2,4,8,8,6,8,8,8,8,8,8,10]),(bl 6 37,[2,4,6,10,10,8,10,10,10,10,10,10,12]),(bl 6 5,[2,4,6,10,10,8,10,10,10,10,10,10,12])] :=
  ⟨by kernel_rfl,by kernel_rfl,by kernel_rfl,by kernel_rfl,by kernel_rfl,trivial⟩
theorem ok130_t (x0_:Int) (x0_':Int) (x0_'':Bool) (x0'_:Int) (x0'_':Bool) (x0'':Int) (x1:Int):TrOk (PureRuns Go.Proofs.Try.prog (kf26 Go.Proofs.Try.prog).orc 130 as130 rs130 (((x0_,x0_',x0_'',()),(x0'_,x0'_',()),x0'',()),x1,())) (t130 x0_ x0_' x0_'' x0'_ x0'_' x0'' x1) :=
  Walks.ok (fun _ _ _=>PureRuns.of) (wk130 x0_ x0_' x0_'' x0'_ x0'_' x0'' x1) (by kernel_rfl)
theorem ok130:PureOk Go.Proofs.Try.prog 130 p130:=pureOk_of kf26_ok.base (T:=fun (d:Tys.data as130)=>t130 d.1.1.1 d.1.1.2.1 d.1.1.2.2.1 d.1.2.1.1 d.1.2.1.2.1 d.1.2.2.1 d.2.1) (by kernel_rfl) (fun (d:Tys.data as130)=>ok130_t d.1.1.1 d.1.1.2.1 d.1.1.2.2.1 d.1.2.1.1 d.1.2.1.2.1 d.1.2.2.1 d.2.1)
def kf130 (P:Go.Program):Known:=(kf26 P).func 130 p130
theorem kf130_ok:KnownOk Go.Proofs.Try.prog (kf130 Go.Proofs.Try.prog):=kf26_ok.func ok130
theorem sc100_0:sameRf Go.Proofs.Try.prog 100 0 = true:=sameRf_ok (by kernel_rfl)
abbrev sh129_0_1 (P:Go.Program):Sh:={ n:=28,slots:=[0,1,7,8,9],pats:=[.yld 0,.ptr 1 3 0,.ty (.slice (.pair (.int .i64) (.pair .bool .unit))),.ty (.int .i64),.ty (.int .i64)],boxes:=[.lp (lpOf P 100 0 .ready none 27 [3,5] 2) [.ptr 3 1 0,.ptr 4 3 0],.row [.ty (.slice (.pair (.int .i64) (.pair (.int .i64) (.pair .bool .unit)))),.ty (.int .i64),.ty (.slice (.pair (.int .i64) (.pair .bool .unit)))],.dfr,.row [.ty (.int .i64)],.row [.ty (.slice (.pair (.int .i64) (.pair (.int .i64) (.pair .bool .unit)))),.ty (.int .i64),.acc (.pair (.int .i64) (.pair .bool .unit))]] }
abbrev shb129_0_1 (P:Go.Program):Sh:={ n:=28,slots:=[],pats:=[],boxes:=[.lp (lpOf P 100 0 .ready none 27 [3,5] 2) [.ptr 3 1 0,.ptr 4 3 0],.row [.ty (.slice (.pair (.int .i64) (.pair (.int .i64) (.pair .bool .unit)))),.ty (.int .i64),.ty (.slice (.pair (.int .i64) (.pair .bool .unit)))],.dfr,.row [.ty (.int .i64)],.row [.ty (.slice (.pair (.int .i64) (.pair (.int .i64) (.pair .bool .unit)))),.ty (.int .i64),.acc (.pair (.int .i64) (.pair .bool .unit))]] }
abbrev shr129_0_1 (P:Go.Program):Sh:={ n:=28,slots:=[],pats:=[],boxes:=[.lp (lpOf P 100 0 .ready none 27 [3,5] 2) [.ptr 3 1 0,.ptr 4 3 0],.row [.ty (.slice (.pair (.int .i64) (.pair (.int .i64) (.pair .bool .unit)))),.ty (.int .i64),.ty (.slice (.pair (.int .i64) (.pair .bool .unit)))],.dfr,.row [.ty (.int .i64)],.row [.ty (.slice (.pair (.int .i64) (.pair (.int .i64) (.pair .bool .unit)))),.ty (.int .i64),.acc (.pair (.int .i64) (.pair .bool .unit))]] }
abbrev dt129_0_1:Type:=(List (Int×Bool×PUnit)×Int×Int×PUnit)×PUnit×(List (Int×Int×Bool×PUnit)×Int×List (Int×Bool×PUnit)×PUnit)×(Int×PUnit)×(List (Int×Int×Bool×PUnit)×Int×List (Int×Bool×PUnit)×PUnit)×PUnit
abbrev db129_0_1:Type:=PUnit×PUnit×(List (Int×Int×Bool×PUnit)×Int×List (Int×Bool×PUnit)×PUnit)×(Int×PUnit)×(List (Int×Int×Bool×PUnit)×Int×List (Int×Bool×PUnit)×PUnit)×PUnit
abbrev dr129_0_1:Type:=PUnit×PUnit×(List (Int×Int×Bool×PUnit)×Int×List (Int×Bool×PUnit)×PUnit)×(Int×PUnit)×(List (Int×Int×Bool×PUnit)×Int×List (Int×Bool×PUnit)×PUnit)×PUnit
def t129_0_1 (x2:(List (Int×(Bool×Unit)))) (x3:Int) (x4:Int) (b1_0:(List (Int×(Int×(Bool×Unit))))) (b1_1:Int) (b1_2:(List (Int×(Bool×Unit)))) (b3_0:Int) (b4_0:(List (Int×(Int×(Bool×Unit))))) (b4_1:Int) (b4_2:(List (Int×(Bool×Unit)))):Tr (Out dt129_0_1 db129_0_1 dr129_0_1) :=
  Tr.test ((!leF x3 x4:Bool))
    (Tr.test (decide ((0:Int) ≤ x4) && decide (x4 < (↑(List.length x2):Int)))
      (Tr.test ((decide ((0:Int) ≤ x4) && decide (x4 < (↑(List.length b1_0):Int)):Bool))
        (Tr.test (Option.isSome (f130 (((((List.getD b1_0 (Int.toNat x4) ((0:Int),(0:Int),false,())).1:Int),(((List.getD b1_0 (Int.toNat x4) ((0:Int),(0:Int),false,())).2.1:Int),(((List.getD b1_0 (Int.toNat x4) ((0:Int),(0:Int),false,())).2.2.1:Bool),()))),((((List.getD x2 (Int.toNat x4) ((0:Int),false,())).1:Int),(((List.getD x2 (Int.toNat x4) ((0:Int),false,())).2.1:Bool),())),(b1_1,()))),(b3_0,()))))
          (Tr.test ((Nat.ble (((2:Nat) * (List.length b4_2 + (1:Nat)) + (192:Nat)) * (16:Nat)) (281474976710656:Nat) && Nat.ble (List.length b4_2 + (1:Nat)) (281474976710656:Nat):Bool))
            (let r0:=g130 (((((List.getD b1_0 (Int.toNat x4) ((0:Int),(0:Int),false,())).1:Int),(((List.getD b1_0 (Int.toNat x4) ((0:Int),(0:Int),false,())).2.1:Int),(((List.getD b1_0 (Int.toNat x4) ((0:Int),(0:Int),false,())).2.2.1:Bool),()))),((((List.getD x2 (Int.toNat x4) ((0:Int),false,())).1:Int),(((List.getD x2 (Int.toNat x4) ((0:Int),false,())).2.1:Bool),())),(b1_1,()))),(b3_0,()));
            Tr.fin (.again ((x2,(x3,((wrap64 (x4 + (1:Int)):Int),()))),((),((b1_0,(b1_1,(b1_2,()))),((b3_0,()),((b4_0,(b4_1,((b4_2++[(r0.1.2.1.1,r0.1.2.1.2.1,())]:List (Int×Bool×PUnit)),()))),())))))))
            (Tr.stop))
          (Tr.stop))
        (Tr.stop))
      (Tr.stop))
    (Tr.fin (.brk ((),((),((b1_0,(b1_1,(b1_2,()))),((b3_0,()),((b4_0,(b4_1,(b4_2,()))),())))))))
def s129_0_1 (d:dt129_0_1):Option (Out dt129_0_1 db129_0_1 dr129_0_1):=(t129_0_1 d.1.1 d.1.2.1 d.1.2.2.1 d.2.2.1.1 d.2.2.1.2.1 d.2.2.1.2.2.1 d.2.2.2.1.1 d.2.2.2.2.1.1 d.2.2.2.2.1.2.1 d.2.2.2.2.1.2.2.1).val
def l129_0_1 (d:dt129_0_1):Option (db129_0_1 ⊕ dr129_0_1):=itr s129_0_1 rounds d
def b129_0_1 (d:dt129_0_1):db129_0_1:=outB (((),((),((([]:List (Int×Int×Bool×PUnit)),((0:Int),(([]:List (Int×Bool×PUnit)),()))),(((0:Int),()),((([]:List (Int×Int×Bool×PUnit)),((0:Int),(([]:List (Int×Bool×PUnit)),()))),())))))) (l129_0_1 d)
def lc129_0_1 (P:Go.Program):LoopC:=lcB (sh129_0_1 P) (shb129_0_1 P) (shr129_0_1 P) l129_0_1 b129_0_1
theorem e129_0_1_0 (x2:(List (Int×(Bool×Unit)))) (x3:Int) (x4:Int) (b1_0:(List (Int×(Int×(Bool×Unit))))) (b1_1:Int) (b1_2:(List (Int×(Bool×Unit)))) (b3_0:Int) (b4_0:(List (Int×(Int×(Bool×Unit))))) (b4_1:Int) (b4_2:(List (Int×(Bool×Unit)))):runBody (kf130 Go.Proofs.Try.prog).orc Go.Proofs.Try.prog 400 129 0 (sh129_0_1 Go.Proofs.Try.prog) (shb129_0_1 Go.Proofs.Try.prog) (shr129_0_1 Go.Proofs.Try.prog) ((x2,x3,x4,()),(),(b1_0,b1_1,b1_2,()),(b3_0,()),(b4_0,b4_1,b4_2,()),()) [tt,tt,tt,tt,tt,ff] =
    (let r0:=g130 (((((List.getD b1_0 (Int.toNat x4) ((0:Int),(0:Int),false,())).1:Int),(((List.getD b1_0 (Int.toNat x4) ((0:Int),(0:Int),false,())).2.1:Int),((List.getD b1_0 (Int.toNat x4) ((0:Int),(0:Int),false,())).2.2.1,()))),((((List.getD x2 (Int.toNat x4) ((0:Int),false,())).1:Int),((List.getD x2 (Int.toNat x4) ((0:Int),false,())).2.1,())),(b1_1,()))),(b3_0,())); some (.again ((x2,(x3,((wrap64 (x4 + (1:Int)):Int),()))),((),((b1_0,(b1_1,(b1_2,()))),((b3_0,()),((b4_0,(b4_1,((b4_2++[(r0.1.2.1.1,r0.1.2.1.2.1,())]:List (Int×Bool×PUnit)),()))),()))))),[(sameRf Go.Proofs.Try.prog (nat_lit 100) (nat_lit 0),true),(false,false),(Nat.ble (((2:Nat) * (List.length b4_2 + (1:Nat)) + (192:Nat)) * (16:Nat)) (281474976710656:Nat) && Nat.ble (List.length b4_2 + (1:Nat)) (281474976710656:Nat),true),(Option.isSome (f130 (((((List.getD b1_0 (Int.toNat x4) ((0:Int),(0:Int),false,())).1:Int),(((List.getD b1_0 (Int.toNat x4) ((0:Int),(0:Int),false,())).2.1:Int),((List.getD b1_0 (Int.toNat x4) ((0:Int),(0:Int),false,())).2.2.1,()))),((((List.getD x2 (Int.toNat x4) ((0:Int),false,())).1:Int),((List.getD x2 (Int.toNat x4) ((0:Int),false,())).2.1,())),(b1_1,()))),(b3_0,()))),true),(decide ((0:Int) ≤ x4) && decide (x4 < (↑(List.length b1_0):Int)),true),(decide ((0:Int) ≤ x4) && decide (x4 < (↑(List.length x2):Int)),true),(!leF x3 x4,true)])):=by kernel_rfl
theorem e129_0_1_4 (x2:(List (Int×(Bool×Unit)))) (x3:Int) (x4:Int) (b1_0:(List (Int×(Int×(Bool×Unit))))) (b1_1:Int) (b1_2:(List (Int×(Bool×Unit)))) (b3_0:Int) (b4_0:(List (Int×(Int×(Bool×Unit))))) (b4_1:Int) (b4_2:(List (Int×(Bool×Unit)))):runBody (kf130 Go.Proofs.Try.prog).orc Go.Proofs.Try.prog 400 129 0 (sh129_0_1 Go.Proofs.Try.prog) (shb129_0_1 Go.Proofs.Try.prog) (shr129_0_1 Go.Proofs.Try.prog) ((x2,x3,x4,()),(),(b1_0,b1_1,b1_2,()),(b3_0,()),(b4_0,b4_1,b4_2,()),()) [ff] =
    (some (.brk ((),((),((b1_0,(b1_1,(b1_2,()))),((b3_0,()),((b4_0,(b4_1,(b4_2,()))),()))))),[(sameRf Go.Proofs.Try.prog (nat_lit 100) (nat_lit 0),true),(!leF x3 x4,false)])):=by kernel_rfl
theorem ok129_0_1_t (x2:(List (Int×(Bool×Unit)))) (x3:Int) (x4:Int) (b1_0:(List (Int×(Int×(Bool×Unit))))) (b1_1:Int) (b1_2:(List (Int×(Bool×Unit)))) (b3_0:Int) (b4_0:(List (Int×(Int×(Bool×Unit))))) (b4_1:Int) (b4_2:(List (Int×(Bool×Unit)))):TrOk (BodyRuns Go.Proofs.Try.prog (kf130 Go.Proofs.Try.prog).orc 129 0 (sh129_0_1 Go.Proofs.Try.prog) (shb129_0_1 Go.Proofs.Try.prog) (shr129_0_1 Go.Proofs.Try.prog) ((x2,x3,x4,()),(),(b1_0,b1_1,b1_2,()),(b3_0,()),(b4_0,b4_1,b4_2,()),())) (t129_0_1 x2 x3 x4 b1_0 b1_1 b1_2 b3_0 b4_0 b4_1 b4_2) :=
  TrOk.ofTest (fun h0=>TrOk.ofTest (fun h1=>TrOk.ofTest (fun h2=>TrOk.ofTest (fun h3=>TrOk.ofTest (fun h4=>TrOk.ofFin (BodyRuns.of (e129_0_1_0 x2 x3 x4 b1_0 b1_1 b1_2 b3_0 b4_0 b4_1 b4_2) (ac (sc100_0) (ac rfl (ac h4 (ac h3 (ac h2 (ac h1 (ac h0 All.nil))))))))) (fun h4=>TrOk.ofStop)) (fun h3=>TrOk.ofStop)) (fun h2=>TrOk.ofStop)) (fun h1=>TrOk.ofStop)) (fun h0=>TrOk.ofFin (BodyRuns.of (e129_0_1_4 x2 x3 x4 b1_0 b1_1 b1_2 b3_0 b4_0 b4_1 b4_2) (ac (sc100_0) (ac h0 All.nil))))
theorem ok129_0_1:LoopOk Go.Proofs.Try.prog 129 0 (lc129_0_1 Go.Proofs.Try.prog):=loopOk_ofB (sh:=(sh129_0_1 Go.Proofs.Try.prog)) (shB:=(shb129_0_1 Go.Proofs.Try.prog)) (shR:=(shr129_0_1 Go.Proofs.Try.prog)) kf130_ok.base (T:=fun (d:dt129_0_1)=>t129_0_1 d.1.1 d.1.2.1 d.1.2.2.1 d.2.2.1.1 d.2.2.1.2.1 d.2.2.1.2.2.1 d.2.2.2.1.1 d.2.2.2.2.1.1 d.2.2.2.2.1.2.1 d.2.2.2.2.1.2.2.1) (by kernel_rfl) rfl (fun (d:dt129_0_1)=>ok129_0_1_t d.1.1 d.1.2.1 d.1.2.2.1 d.2.2.1.1 d.2.2.1.2.1 d.2.2.1.2.2.1 d.2.2.2.1.1 d.2.2.2.2.1.1 d.2.2.2.2.1.2.1 d.2.2.2.2.1.2.2.1) (fun _=>rfl)
def kl129_0_1 (P:Go.Program):Known:=(kf130 P).loop 129 0 (lc129_0_1 P)
theorem kl129_0_1_ok:KnownOk Go.Proofs.Try.prog (kl129_0_1 Go.Proofs.Try.prog):=kf130_ok.loop ok129_0_1
abbrev as100:List Ty:=[(.pair (.slice (.pair (.int .i64) (.pair (.int .i64) (.pair .bool .unit)))) (.pair (.pair (.int .i64) (.pair (.slice (.pair (.int .i64) (.pair .bool .unit))) .unit)) .unit)),(.int .i64)]
abbrev rs100:List Ty:=[(.pair (.slice (.pair (.int .i64) (.pair (.int .i64) (.pair .bool .unit)))) (.pair (.pair (.int .i64) (.pair (.slice (.pair (.int .i64) (.pair .bool .unit))) .unit)) .unit))]
def t100 (x0:(List (Int×(Int×(Bool×Unit))))) (x0'_:Int) (x0'_':(List (Int×(Bool×Unit)))) (x1:Int):Tr (Tys.data rs100) :=
  Tr.test (isBrk (l129_0_1 ((x0'_',((↑(List.length x0'_'):Int),((0:Int),()))),((),((x0,(x0'_,(x0'_',()))),((x1,()),((x0,(x1,(([]:List (Int×Bool×PUnit)),()))),())))))))
    (let r0:=b129_0_1 ((x0'_',((↑(List.length x0'_'):Int),((0:Int),()))),((),((x0,(x0'_,(x0'_',()))),((x1,()),((x0,(x1,(([]:List (Int×Bool×PUnit)),()))),())))));
    Tr.fin (((r0.2.2.2.2.1.1,((r0.2.2.2.2.1.2.1,(r0.2.2.2.2.1.2.2.1,())),())),())))
    (Tr.stop)
def f100 (d:Tys.data as100):Option (Tys.data rs100):=(t100 d.1.1 d.1.2.1.1 d.1.2.1.2.1 d.2.1).val
def g100 (d:Tys.data as100):Tys.data rs100:=(f100 d).getD (Tys.dflt rs100)
def p100:PureC:=pcOf as100 rs100 f100 g100
theorem e100_0 (x0:(List (Int×(Int×(Bool×Unit))))) (x0'_:Int) (x0'_':(List (Int×(Bool×Unit)))) (x1:Int):runPure (kl129_0_1 Go.Proofs.Try.prog).orc Go.Proofs.Try.prog 400 100 as100 rs100 ((x0,(x0'_,x0'_',()),()),x1,()) [tt,tt,tt] =
    (let r0:=b129_0_1 ((x0'_',((↑(List.length x0'_'):Int),((0:Int),()))),((),((x0,(x0'_,(x0'_',()))),((x1,()),((x0,(x1,(([]:List (Int×Bool×PUnit)),()))),()))))); some (((r0.2.2.2.2.1.1,((r0.2.2.2.2.1.2.1,(r0.2.2.2.2.1.2.2.1,())),())),()),[(true,true),(isBrk (l129_0_1 ((x0'_',((↑(List.length x0'_'):Int),((0:Int),()))),((),((x0,(x0'_,(x0'_',()))),((x1,()),((x0,(x1,(([]:List (Int×Bool×PUnit)),()))),())))))),true),(sameRf Go.Proofs.Try.prog (nat_lit 100) (nat_lit 0),true)])):=by kernel_rfl
theorem ok100_t (x0:(List (Int×(Int×(Bool×Unit))))) (x0'_:Int) (x0'_':(List (Int×(Bool×Unit)))) (x1:Int):TrOk (PureRuns Go.Proofs.Try.prog (kl129_0_1 Go.Proofs.Try.prog).orc 100 as100 rs100 ((x0,(x0'_,x0'_',()),()),x1,())) (t100 x0 x0'_ x0'_' x1) :=
  TrOk.ofTest (fun h1=>TrOk.ofFin (PureRuns.of (e100_0 x0 x0'_ x0'_' x1) (ac rfl (ac h1 (ac (sc100_0) All.nil))))) (fun h1=>TrOk.ofStop)
theorem ok100:PureOk Go.Proofs.Try.prog 100 p100:=pureOk_of kl129_0_1_ok.base (T:=fun (d:Tys.data as100)=>t100 d.1.1 d.1.2.1.1 d.1.2.1.2.1 d.2.1) (by kernel_rfl) (fun (d:Tys.data as100)=>ok100_t d.1.1 d.1.2.1.1 d.1.2.1.2.1 d.2.1)
def kf100 (P:Go.Program):Known:=(kl129_0_1 P).func 100 p100
theorem kf100_ok:KnownOk Go.Proofs.Try.prog (kf100 Go.Proofs.Try.prog):=kl129_0_1_ok.func ok100
abbrev as27:List Ty:=[(.slice (.pair (.int .i64) (.pair (.int .i64) (.pair .bool .unit)))),(.pair (.int .i64) (.pair (.slice (.pair (.int .i64) (.pair .bool .unit))) .unit)),(.int .i64)]
abbrev rs27:List Ty:=[(.pair (.int .i64) (.pair (.slice (.pair (.int .i64) (.pair .bool .unit))) .unit)),(.int .i64)]
def t27 (x0:(List (Int×(Int×(Bool×Unit))))) (x1:Int) (x1':(List (Int×(Bool×Unit)))) (x2:Int):Tr (Tys.data rs27) :=
  Tr.test (Option.isSome (f91 (x2,())))
    (let r0:=g91 (x2,());
    Tr.test (Option.isSome (f95 (x0,((x1,(x1',())),(([r0.1]:List Int),())))))
      (let r1:=g95 (x0,((x1,(x1',())),(([r0.1]:List Int),())));
      Tr.test ((!eqF r1.2.1 0:Bool))
        (Tr.fin ((((0:Int),(([]:List (Int×Bool×PUnit)),())),(r1.2.1,()))))
        (Tr.test (Option.isSome (f100 ((r1.1.1,((r1.1.2.1.1,(r1.1.2.1.2.1,())),())),(x2,()))))
          (let r2:=g100 ((r1.1.1,((r1.1.2.1.1,(r1.1.2.1.2.1,())),())),(x2,()));
          Tr.fin (((r2.1.2.1.1,(r2.1.2.1.2.1,())),((0:Int),()))))
          (Tr.stop)))
      (Tr.stop))
    (Tr.stop)
def f27 (d:Tys.data as27):Option (Tys.data rs27):=(t27 d.1 d.2.1.1 d.2.1.2.1 d.2.2.1).val
def g27 (d:Tys.data as27):Tys.data rs27:=(f27 d).getD (Tys.dflt rs27)
def p27:PureC:=pcOf as27 rs27 f27 g27
theorem wk27 (x0:(List (Int×(Int×(Bool×Unit))))) (x1:Int) (x1':(List (Int×(Bool×Unit)))) (x2:Int):Walks (runPure (kf100 Go.Proofs.Try.prog).orc Go.Proofs.Try.prog 400 27 as27 rs27 (x0,(x1,x1',()),x2,())) (t27 x0 x1 x1' x2) [(bl 3 7,[2,4,6]),(bl 4 11,[2,4,6,8])] :=
  ⟨by kernel_rfl,by kernel_rfl,trivial⟩
theorem ok27_t (x0:(List (Int×(Int×(Bool×Unit))))) (x1:Int) (x1':(List (Int×(Bool×Unit)))) (x2:Int):TrOk (PureRuns Go.Proofs.Try.prog (kf100 Go.Proofs.Try.prog).orc 27 as27 rs27 (x0,(x1,x1',()),x2,())) (t27 x0 x1 x1' x2) :=
  Walks.ok (fun _ _ _=>PureRuns.of) (wk27 x0 x1 x1' x2) (by kernel_rfl)
theorem ok27:PureOk Go.Proofs.Try.prog 27 p27:=pureOk_of kf100_ok.base (T:=fun (d:Tys.data as27)=>t27 d.1 d.2.1.1 d.2.1.2.1 d.2.2.1) (by kernel_rfl) (fun (d:Tys.data as27)=>ok27_t d.1 d.2.1.1 d.2.1.2.1 d.2.2.1)
def kf27 (P:Go.Program):Known:=(kf100 P).func 27 p27
theorem kf27_ok:KnownOk Go.Proofs.Try.prog (kf27 Go.Proofs.Try.prog):=kf100_ok.func ok27
abbrev as119:List Ty:=[(.int .i64)]
abbrev rs119:List Ty:=[(.int .i64)]
def t119 (x0:Int):Tr (Tys.data rs119) :=
  Tr.fin (((if x0 < Go.IntKind.wrap Go.IntKind.i64 ((0:Int) - x0) then Go.IntKind.wrap Go.IntKind.i64 ((0:Int) - x0) else x0:Int),()))
def f119 (d:Tys.data as119):Option (Tys.data rs119):=(t119 d.1).val
def g119 (d:Tys.data as119):Tys.data rs119:=(f119 d).getD (Tys.dflt rs119)
def p119:PureC:=pcOf as119 rs119 f119 g119
theorem wk119 (x0:Int):Walks (runPure (kf27 Go.Proofs.Try.prog).orc Go.Proofs.Try.prog 400 119 as119 rs119 (x0,())) (t119 x0) [(bl 0 0,[])] :=
  ⟨by kernel_rfl,trivial⟩
theorem ok119_t (x0:Int):TrOk (PureRuns Go.Proofs.Try.prog (kf27 Go.Proofs.Try.prog).orc 119 as119 rs119 (x0,())) (t119 x0) :=
  Walks.ok (fun _ _ _=>PureRuns.of) (wk119 x0) (by kernel_rfl)
theorem ok119:PureOk Go.Proofs.Try.prog 119 p119:=pureOk_of kf27_ok.base (T:=fun (d:Tys.data as119)=>t119 d.1) (by kernel_rfl) (fun (d:Tys.data as119)=>ok119_t d.1)
def kf119 (P:Go.Program):Known:=(kf27 P).func 119 p119
theorem kf119_ok:KnownOk Go.Proofs.Try.prog (kf119 Go.Proofs.Try.prog):=kf27_ok.func ok119
abbrev as102:List Ty:=[(.pair (.pair (.int .i64) (.pair (.int .i64) (.pair .bool .unit))) (.pair (.pair (.int .i64) (.pair .bool .unit)) (.pair (.int .i64) .unit))),(.int .i64)]
abbrev rs102:List Ty:=[(.int .i64)]
def t102 (x0_:Int) (x0_':Int) (x0_'':Bool) (x0'_:Int) (x0'_':Bool) (x0'':Int) (x1:Int):Tr (Tys.data rs102) :=
  Tr.test (x0'_')
    (Tr.fin (((0:Int),())))
    (Tr.test (Option.isSome (f119 ((wrap64 (x1 - x0'_):Int),())))
      (Tr.test (Option.isSome (f99 (((x0_,(x0_',(x0_'',()))),((x0'_,(x0'_',())),(x0'',()))),())))
        (Tr.test (x0_'')
          (let r0:=g119 ((wrap64 (x1 - x0'_):Int),());
          let r1:=g99 (((x0_,(x0_',(x0_'',()))),((x0'_,(x0'_',())),(x0'',()))),());
          Tr.fin (((wrap64 (wrap64 (wrap64 (x0_ * if x0_' < r0.1 then x0_' else r0.1) * if x0_' < r0.1 then x0_' else r0.1) - r1.1):Int),())))
          (let r0:=g119 ((wrap64 (x1 - x0'_):Int),());
          let r1:=g99 (((x0_,(x0_',(x0_'',()))),((x0'_,(x0'_',())),(x0'',()))),());
          Tr.fin (((wrap64 (wrap64 (wrap64 (wrap64 (x0_ * if x0_' < r0.1 then x0_' else r0.1) * if x0_' < r0.1 then x0_' else r0.1) - r1.1) + wrap64 (wrap64 (wrap64 ((2:Int) * x0_) * x0_') * wrap64 (r0.1 - if x0_' < r0.1 then x0_' else r0.1))):Int),()))))
        (Tr.stop))
      (Tr.stop))
def f102 (d:Tys.data as102):Option (Tys.data rs102):=(t102 d.1.1.1 d.1.1.2.1 d.1.1.2.2.1 d.1.2.1.1 d.1.2.1.2.1 d.1.2.2.1 d.2.1).val
def g102 (d:Tys.data as102):Tys.data rs102:=(f102 d).getD (Tys.dflt rs102)
def p102:PureC:=pcOf as102 rs102 f102 g102
theorem wk102 (x0_:Int) (x0_':Int) (x0_'':Bool) (x0'_:Int) (x0'_':Bool) (x0'':Int) (x1:Int):Walks (runPure (kf119 Go.Proofs.Try.prog).orc Go.Proofs.Try.prog 400 102 as102 rs102 (((x0_,x0_',x0_'',()),(x0'_,x0'_',()),x0'',()),x1,())) (t102 x0_ x0_' x0_'' x0'_ x0'_' x0'' x1) [(bl 1 1,[2]),(bl 4 14,[2,4,6,8]),(bl 4 6,[2,4,6,8])] :=
  ⟨by kernel_rfl,by kernel_rfl,by kernel_rfl,trivial⟩
theorem ok102_t (x0_:Int) (x0_':Int) (x0_'':Bool) (x0'_:Int) (x0'_':Bool) (x0'':Int) (x1:Int):TrOk (PureRuns Go.Proofs.Try.prog (kf119 Go.Proofs.Try.prog).orc 102 as102 rs102 (((x0_,x0_',x0_'',()),(x0'_,x0'_',()),x0'',()),x1,())) (t102 x0_ x0_' x0_'' x0'_ x0'_' x0'' x1) :=
  Walks.ok (fun _ _ _=>PureRuns.of) (wk102 x0_ x0_' x0_'' x0'_ x0'_' x0'' x1) (by kernel_rfl)
theorem ok102:PureOk Go.Proofs.Try.prog 102 p102:=pureOk_of kf119_ok.base (T:=fun (d:Tys.data as102)=>t102 d.1.1.1 d.1.1.2.1 d.1.1.2.2.1 d.1.2.1.1 d.1.2.1.2.1 d.1.2.2.1 d.2.1) (by kernel_rfl) (fun (d:Tys.data as102)=>ok102_t d.1.1.1 d.1.1.2.1 d.1.1.2.2.1 d.1.2.1.1 d.1.2.1.2.1 d.1.2.2.1 d.2.1)
def kf102 (P:Go.Program):Known:=(kf119 P).func 102 p102
theorem kf102_ok:KnownOk Go.Proofs.Try.prog (kf102 Go.Proofs.Try.prog):=kf119_ok.func ok102
abbrev as104:List Ty:=[(.pair (.pair (.int .i64) (.pair (.int .i64) (.pair .bool .unit))) (.pair (.pair (.int .i64) (.pair .bool .unit)) (.pair (.int .i64) .unit))),(.int .i64)]
abbrev rs104:List Ty:=[(.int .i64)]
def t104 (x0_:Int) (x0_':Int) (x0_'':Bool) (x0'_:Int) (x0'_':Bool) (x0'':Int) (x1:Int):Tr (Tys.data rs104) :=
  Tr.test (Option.isSome (f130 (((x0_,(x0_',(x0_'',()))),((x0'_,(x0'_',())),(x0'',()))),(x1,()))))
    (let r0:=g130 (((x0_,(x0_',(x0_'',()))),((x0'_,(x0'_',())),(x0'',()))),(x1,()));
    Tr.test (r0.1.2.1.2.1)
      (Tr.test ((!x0'_':Bool))
        (Tr.fin (((wrap64 (wrap64 (x0_ * x0_') * x0_'):Int),())))
        (Tr.test (Option.isSome (f119 ((wrap64 (r0.1.2.1.1 - x0'_):Int),())))
          (let r1:=g119 ((wrap64 (r0.1.2.1.1 - x0'_):Int),());
          Tr.fin (((wrap64 (wrap64 (wrap64 ((2:Int) * x0_) * x0_') * r1.1):Int),())))
          (Tr.stop)))
      (Tr.test (Option.isSome (f119 ((wrap64 (r0.1.2.1.1 - x0'_):Int),())))
        (let r1:=g119 ((wrap64 (r0.1.2.1.1 - x0'_):Int),());
        Tr.fin (((wrap64 (wrap64 (wrap64 ((2:Int) * x0_) * x0_') * r1.1):Int),())))
        (Tr.stop)))
    (Tr.stop)
def f104 (d:Tys.data as104):Option (Tys.data rs104):=(t104 d.1.1.1 d.1.1.2.1 d.1.1.2.2.1 d.1.2.1.1 d.1.2.1.2.1 d.1.2.2.1 d.2.1).val
def g104 (d:Tys.data as104):Tys.data rs104:=(f104 d).getD (Tys.dflt rs104)
def p104:PureC:=pcOf as104 rs104 f104 g104
theorem wk104 (x0_:Int) (x0_':Int) (x0_'':Bool) (x0'_:Int) (x0'_':Bool) (x0'':Int) (x1:Int):Walks (runPure (kf102 Go.Proofs.Try.prog).orc Go.Proofs.Try.prog 400 104 as104 rs104 (((x0_,x0_',x0_'',()),(x0'_,x0'_',()),x0'',()),x1,())) (t104 x0_ x0_' x0_'' x0'_ x0'_' x0'' x1) [(bl 3 7,[2,4,4,4,4,4,6]),(bl 4 11,[2,4,6,6,6,6,6,8]),(bl 3 5,[2,0,4,4,4,4,4,6])] :=
  ⟨by kernel_rfl,by kernel_rfl,by kernel_rfl,trivial⟩
theorem ok104_t (x0_:Int) (x0_':Int) (x0_'':Bool) (x0'_:Int) (x0'_':Bool) (x0'':Int) (x1:Int):TrOk (PureRuns Go.Proofs.Try.prog (kf102 Go.Proofs.Try.prog).orc 104 as104 rs104 (((x0_,x0_',x0_'',()),(x0'_,x0'_',()),x0'',()),x1,())) (t104 x0_ x0_' x0_'' x0'_ x0'_' x0'' x1) :=
  Walks.ok (fun _ _ _=>PureRuns.of) (wk104 x0_ x0_' x0_'' x0'_ x0'_' x0'' x1) (by kernel_rfl)
theorem ok104:PureOk Go.Proofs.Try.prog 104 p104:=pureOk_of kf102_ok.base (T:=fun (d:Tys.data as104)=>t104 d.1.1.1 d.1.1.2.1 d.1.1.2.2.1 d.1.2.1.1 d.1.2.1.2.1 d.1.2.2.1 d.2.1) (by kernel_rfl) (fun (d:Tys.data as104)=>ok104_t d.1.1.1 d.1.1.2.1 d.1.1.2.2.1 d.1.2.1.1 d.1.2.1.2.1 d.1.2.2.1 d.2.1)
def kf104 (P:Go.Program):Known:=(kf102 P).func 104 p104
theorem kf104_ok:KnownOk Go.Proofs.Try.prog (kf104 Go.Proofs.Try.prog):=kf102_ok.func ok104
end Go.Vm.Mo
