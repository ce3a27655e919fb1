import Derived.Test.YtlmcodagfhdncaaGreatA4
import Derived.KernelRfl
import Derived.Test.YtlmcodagfhdncaaGreatProg
set_option linter.unusedVariables false
set_option linter.unusedSimpArgs false

namespace Go.Vm.Mo
open Go
set_option linter.unusedVariables false
def kn0 (_:Go.Program):Known:=⟨[],[]⟩
abbrev tt:Bool:=true
abbrev ff:Bool:=false
theorem nn {b v:Bool} (h:(!b) = v):(!b) = !(!v):=not_of (of_not h)
theorem ac {b d:Bool} {r:List (Bool×Bool)} (h:b = d) (t:All r):All ((b, d) :: r):=All.cons h t
theorem plainP:Plain Go.Proofs.Tryz.prog:=by
  have h : (Go.Proofs.Tryz.prog.funcs.toList.all fun fn => !(fn.body.isSome && fn.name == "runtime.NumGoroutine")) = true := by kernel_rfl
  intro f fn hf hb
  have hm:fn ∈ Go.Proofs.Tryz.prog.funcs.toList:=by
    have:=Array.getElem?_eq_some_iff.1 hf
    obtain ⟨hlt,rfl⟩:=this
    simp
  have:=List.all_eq_true.1 h fn hm
  rw [hb] at this
  simpa using this
theorem kn0_ok:KnownOk Go.Proofs.Tryz.prog (kn0 Go.Proofs.Tryz.prog):=⟨plainP,by kernel_rfl,(fun _ h=>by cases h),(fun _ h=>by cases h)⟩
abbrev as48:List Ty:=[]
abbrev rs48:List Ty:=[(.pair (.int .i64) (.pair (.int .i64) (.pair (.int .i64) (.pair (.int .i64) (.pair (.int .i64) (.pair .bool (.pair (.int .i64) (.pair (.pair (.int .i64) (.pair (.int .i64) .unit)) .unit))))))))]
def t48 :Tr (Tys.data rs48) :=
  Tr.fin ((((4:Int),((1:Int),((2:Int),((2:Int),((1:Int),((false:Bool),((3:Int),(((0:Int),((8:Int),())),())))))))),()))
def f48 (d:Tys.data as48):Option (Tys.data rs48):=(t48 ).val
def g48 (d:Tys.data as48):Tys.data rs48:=(f48 d).getD (Tys.dflt rs48)
def p48:PureC:=pcOf as48 rs48 f48 g48
theorem wk48 :Walks (runPure (kn0 Go.Proofs.Tryz.prog).orc Go.Proofs.Tryz.prog 400 48 as48 rs48 ()) (t48 ) [([],[])] :=
  ⟨by kernel_rfl,trivial⟩
theorem ok48_t :TrOk (PureRuns Go.Proofs.Tryz.prog (kn0 Go.Proofs.Tryz.prog).orc 48 as48 rs48 ()) (t48 ) :=
  Walks.ok (fun _ _ _=>PureRuns.of) (wk48 ) (by kernel_rfl)
theorem ok48:PureOk Go.Proofs.Tryz.prog 48 p48:=pureOk_of kn0_ok.base (T:=fun (d:Tys.data as48)=>t48 ) (by kernel_rfl) (fun (d:Tys.data as48)=>ok48_t )
def kf48 (P:Go.Program):Known:=(kn0 P).func 48 p48
theorem kf48_ok:KnownOk Go.Proofs.Tryz.prog (kf48 Go.Proofs.Tryz.prog):=kn0_ok.func ok48
abbrev as51:List Ty:=[]
abbrev rs51:List Ty:=[(.slice (.pair (.int .i64) (.pair (.int .i64) (.pair (.int .i64) .unit))))]
def t51 :Tr (Tys.data rs51) :=
  Tr.fin ((([((0:Int),(0:Int),(10:Int),()),((1:Int),(0:Int),(14:Int),()),((0:Int),(1:Int),(20:Int),()),((1:Int),(1:Int),(29:Int),()),((0:Int),(2:Int),(30:Int),())]:List (Int×Int×Int×PUnit)),()))
def f51 (d:Tys.data as51):Option (Tys.data rs51):=(t51 ).val
def g51 (d:Tys.data as51):Tys.data rs51:=(f51 d).getD (Tys.dflt rs51)
def p51:PureC:=pcOf as51 rs51 f51 g51
theorem wk51 :Walks (runPure (kf48 Go.Proofs.Tryz.prog).orc Go.Proofs.Tryz.prog 400 51 as51 rs51 ()) (t51 ) [([],[])] :=
  ⟨by kernel_rfl,trivial⟩
theorem ok51_t :TrOk (PureRuns Go.Proofs.Tryz.prog (kf48 Go.Proofs.Tryz.prog).orc 51 as51 rs51 ()) (t51 ) :=
  Walks.ok (fun _ _ _=>PureRuns.of) (wk51 ) (by kernel_rfl)
theorem ok51:PureOk Go.Proofs.Tryz.prog 51 p51:=pureOk_of kf48_ok.base (T:=fun (d:Tys.data as51)=>t51 ) (by kernel_rfl) (fun (d:Tys.data as51)=>ok51_t )
def kf51 (P:Go.Program):Known:=(kf48 P).func 51 p51
theorem kf51_ok:KnownOk Go.Proofs.Tryz.prog (kf51 Go.Proofs.Tryz.prog):=kf48_ok.func ok51
abbrev as52:List Ty:=[]
abbrev rs52:List Ty:=[(.pair (.slice (.int .i64)) (.pair (.slice (.int .i64)) .unit))]
def t52 :Tr (Tys.data rs52) :=
  Tr.fin (((([(2:Int),(4:Int)]:List Int),(([(6:Int),(4:Int)]:List Int),())),()))
def f52 (d:Tys.data as52):Option (Tys.data rs52):=(t52 ).val
def g52 (d:Tys.data as52):Tys.data rs52:=(f52 d).getD (Tys.dflt rs52)
def p52:PureC:=pcOf as52 rs52 f52 g52
theorem wk52 :Walks (runPure (kf51 Go.Proofs.Tryz.prog).orc Go.Proofs.Tryz.prog 400 52 as52 rs52 ()) (t52 ) [([],[])] :=
  ⟨by kernel_rfl,trivial⟩
theorem ok52_t :TrOk (PureRuns Go.Proofs.Tryz.prog (kf51 Go.Proofs.Tryz.prog).orc 52 as52 rs52 ()) (t52 ) :=
  Walks.ok (fun _ _ _=>PureRuns.of) (wk52 ) (by kernel_rfl)
theorem ok52:PureOk Go.Proofs.Tryz.prog 52 p52:=pureOk_of kf51_ok.base (T:=fun (d:Tys.data as52)=>t52 ) (by kernel_rfl) (fun (d:Tys.data as52)=>ok52_t )
def kf52 (P:Go.Program):Known:=(kf51 P).func 52 p52
theorem kf52_ok:KnownOk Go.Proofs.Tryz.prog (kf52 Go.Proofs.Tryz.prog):=kf51_ok.func ok52
abbrev sh17_0:Sh:={ n:=26,slots:=[0,1,5],pats:=[.ty (.slice (.int .i64)),.ty (.slice (.int .i64)),.ty (.int .i64)],boxes:=[] }
abbrev shb17_0:Sh:={ n:=26,slots:=[],pats:=[],boxes:=[] }
abbrev shr17_0:Sh:={ n:=26,slots:=[4],pats:=[.ty .bool],boxes:=[] }
def t17_0 (x0:(List Int)) (x1:(List Int)) (x2:Int):Tr (Out sh17_0.data shb17_0.data shr17_0.data) :=
  Tr.test ((!leF (↑(List.length x0):Int) x2:Bool))
    (Tr.test (decide ((0:Int) ≤ x2) && decide (x2 < (↑(List.length x0):Int)))
      (Tr.test ((decide ((0:Int) ≤ x2) && decide (x2 < (↑(List.length x1):Int)):Bool))
        (Tr.test ((!eqF (List.getD x0 (Int.toNat x2) (0:Int)) (List.getD x1 (Int.toNat x2) (0:Int)):Bool))
          (Tr.fin (.ret (((false:Bool),()),())))
          (Tr.fin (.again ((x0,(x1,((wrap64 (x2 + (1:Int)):Int),()))),()))))
        (Tr.stop))
      (Tr.stop))
    (Tr.fin (.brk ((),())))
def s17_0 (d:sh17_0.data):Option (Out sh17_0.data shb17_0.data shr17_0.data):=(t17_0 d.1.1 d.1.2.1 d.1.2.2.1).val
def l17_0 (d:sh17_0.data):Option (shb17_0.data ⊕ shr17_0.data):=itr s17_0 rounds d
def b17_0 (d:sh17_0.data):shb17_0.data:=outB shb17_0.dflt (l17_0 d)
def r17_0 (d:sh17_0.data):shr17_0.data:=outR shr17_0.dflt (l17_0 d)
def lc17_0:LoopC:=lcOf sh17_0 shb17_0 shr17_0 l17_0 b17_0 r17_0
theorem wk17_0 (x0:(List Int)) (x1:(List Int)) (x2:Int):Walks (runBody (kf52 Go.Proofs.Tryz.prog).orc Go.Proofs.Tryz.prog 400 17 0 sh17_0 shb17_0 shr17_0 ((x0,x1,x2,()),())) (t17_0 x0 x1 x2) [([true,true,true,true],[2,4,6,8]),([true,true,true,false],[2,4,6,8]),([ff],[2])] :=
  ⟨by kernel_rfl,by kernel_rfl,by kernel_rfl,trivial⟩
theorem ok17_0_t (x0:(List Int)) (x1:(List Int)) (x2:Int):TrOk (BodyRuns Go.Proofs.Tryz.prog (kf52 Go.Proofs.Tryz.prog).orc 17 0 sh17_0 shb17_0 shr17_0 ((x0,x1,x2,()),())) (t17_0 x0 x1 x2) :=
  Walks.ok (fun _ _ _=>BodyRuns.of) (wk17_0 x0 x1 x2) (by kernel_rfl)
theorem ok17_0:LoopOk Go.Proofs.Tryz.prog 17 0 lc17_0:=loopOk_of (sh:=sh17_0) (shB:=shb17_0) (shR:=shr17_0) kf52_ok.base (T:=fun (d:sh17_0.data)=>t17_0 d.1.1 d.1.2.1 d.1.2.2.1) (by kernel_rfl) rfl (fun (d:sh17_0.data)=>ok17_0_t d.1.1 d.1.2.1 d.1.2.2.1) (fun _=>rfl)
def kl17_0 (P:Go.Program):Known:=(kf52 P).loop 17 0 lc17_0
theorem kl17_0_ok:KnownOk Go.Proofs.Tryz.prog (kl17_0 Go.Proofs.Tryz.prog):=kf52_ok.loop ok17_0
abbrev as17:List Ty:=[(.slice (.int .i64)),(.slice (.int .i64))]
abbrev rs17:List Ty:=[.bool]
def t17 (x0:(List Int)) (x1:(List Int)):Tr (Tys.data rs17) :=
  Tr.test ((!eqF (↑(List.length x0):Int) (↑(List.length x1):Int):Bool))
    (Tr.fin ((false,())))
    (Tr.test (Option.isSome (l17_0 ((x0,(x1,((0:Int),()))),())))
      (Tr.test (isRet (l17_0 ((x0,(x1,((0:Int),()))),())))
        (let r0:=r17_0 ((x0,(x1,((0:Int),()))),());
        Tr.fin ((r0.1.1,())))
        (Tr.fin (((true:Bool),()))))
      (Tr.stop))
def f17 (d:Tys.data as17):Option (Tys.data rs17):=(t17 d.1 d.2.1).val
def g17 (d:Tys.data as17):Tys.data rs17:=(f17 d).getD (Tys.dflt rs17)
def p17:PureC:=pcOf as17 rs17 f17 g17
theorem wk17 (x0:(List Int)) (x1:(List Int)):Walks (runPure (kl17_0 Go.Proofs.Tryz.prog).orc Go.Proofs.Tryz.prog 400 17 as17 rs17 (x0,x1,())) (t17 x0 x1) [([tt],[2]),([false,true,true],[2,4,6]),([false,true,false],[2,4,6])] :=
  ⟨by kernel_rfl,by kernel_rfl,by kernel_rfl,trivial⟩
theorem ok17_t (x0:(List Int)) (x1:(List Int)):TrOk (PureRuns Go.Proofs.Tryz.prog (kl17_0 Go.Proofs.Tryz.prog).orc 17 as17 rs17 (x0,x1,())) (t17 x0 x1) :=
  Walks.ok (fun _ _ _=>PureRuns.of) (wk17 x0 x1) (by kernel_rfl)
theorem ok17:PureOk Go.Proofs.Tryz.prog 17 p17:=pureOk_of kl17_0_ok.base (T:=fun (d:Tys.data as17)=>t17 d.1 d.2.1) (by kernel_rfl) (fun (d:Tys.data as17)=>ok17_t d.1 d.2.1)
def kf17 (P:Go.Program):Known:=(kl17_0 P).func 17 p17
theorem kf17_ok:KnownOk Go.Proofs.Tryz.prog (kf17 Go.Proofs.Tryz.prog):=kl17_0_ok.func ok17
abbrev sh31_0:Sh:={ n:=26,slots:=[0,1,5],pats:=[.ty (.slice (.pair (.int .i64) (.pair (.int .i64) .unit))),.ty (.slice (.pair (.int .i64) (.pair (.int .i64) .unit))),.ty (.int .i64)],boxes:=[] }
abbrev shb31_0:Sh:={ n:=26,slots:=[],pats:=[],boxes:=[] }
abbrev shr31_0:Sh:={ n:=26,slots:=[4],pats:=[.ty .bool],boxes:=[] }
def t31_0 (x0:(List (Int×(Int×Unit)))) (x1:(List (Int×(Int×Unit)))) (x2:Int):Tr (Out sh31_0.data shb31_0.data shr31_0.data) :=
  Tr.test ((!leF (↑(List.length x0):Int) x2:Bool))
    (Tr.test (decide ((0:Int) ≤ x2) && decide (x2 < (↑(List.length x0):Int)))
      (Tr.test ((decide ((0:Int) ≤ x2) && decide (x2 < (↑(List.length x1):Int)):Bool))
        (Tr.test ((!((List.getD x0 (Int.toNat x2) ((0:Int),(0:Int),())).1 == (List.getD x1 (Int.toNat x2) ((0:Int),(0:Int),())).1 && ((List.getD x0 (Int.toNat x2) ((0:Int),(0:Int),())).2.1 == (List.getD x1 (Int.toNat x2) ((0:Int),(0:Int),())).2.1 && true)):Bool))
          (Tr.fin (.ret (((false:Bool),()),())))
          (Tr.fin (.again ((x0,(x1,((wrap64 (x2 + (1:Int)):Int),()))),()))))
        (Tr.stop))
      (Tr.stop))
    (Tr.fin (.brk ((),())))
def s31_0 (d:sh31_0.data):Option (Out sh31_0.data shb31_0.data shr31_0.data):=(t31_0 d.1.1 d.1.2.1 d.1.2.2.1).val
def l31_0 (d:sh31_0.data):Option (shb31_0.data ⊕ shr31_0.data):=itr s31_0 rounds d
def b31_0 (d:sh31_0.data):shb31_0.data:=outB shb31_0.dflt (l31_0 d)
def r31_0 (d:sh31_0.data):shr31_0.data:=outR shr31_0.dflt (l31_0 d)
def lc31_0:LoopC:=lcOf sh31_0 shb31_0 shr31_0 l31_0 b31_0 r31_0
theorem wk31_0 (x0:(List (Int×(Int×Unit)))) (x1:(List (Int×(Int×Unit)))) (x2:Int):Walks (runBody (kf17 Go.Proofs.Tryz.prog).orc Go.Proofs.Tryz.prog 400 31 0 sh31_0 shb31_0 shr31_0 ((x0,x1,x2,()),())) (t31_0 x0 x1 x2) [([true,true,true,true],[2,4,6,8]),([true,true,true,false],[2,4,6,8]),([ff],[2])] :=
  ⟨by kernel_rfl,by kernel_rfl,by kernel_rfl,trivial⟩
theorem ok31_0_t (x0:(List (Int×(Int×Unit)))) (x1:(List (Int×(Int×Unit)))) (x2:Int):TrOk (BodyRuns Go.Proofs.Tryz.prog (kf17 Go.Proofs.Tryz.prog).orc 31 0 sh31_0 shb31_0 shr31_0 ((x0,x1,x2,()),())) (t31_0 x0 x1 x2) :=
  Walks.ok (fun _ _ _=>BodyRuns.of) (wk31_0 x0 x1 x2) (by kernel_rfl)
theorem ok31_0:LoopOk Go.Proofs.Tryz.prog 31 0 lc31_0:=loopOk_of (sh:=sh31_0) (shB:=shb31_0) (shR:=shr31_0) kf17_ok.base (T:=fun (d:sh31_0.data)=>t31_0 d.1.1 d.1.2.1 d.1.2.2.1) (by kernel_rfl) rfl (fun (d:sh31_0.data)=>ok31_0_t d.1.1 d.1.2.1 d.1.2.2.1) (fun _=>rfl)
def kl31_0 (P:Go.Program):Known:=(kf17 P).loop 31 0 lc31_0
theorem kl31_0_ok:KnownOk Go.Proofs.Tryz.prog (kl31_0 Go.Proofs.Tryz.prog):=kf17_ok.loop ok31_0
abbrev as31:List Ty:=[(.slice (.pair (.int .i64) (.pair (.int .i64) .unit))),(.slice (.pair (.int .i64) (.pair (.int .i64) .unit)))]
abbrev rs31:List Ty:=[.bool]
def t31 (x0:(List (Int×(Int×Unit)))) (x1:(List (Int×(Int×Unit)))):Tr (Tys.data rs31) :=
  Tr.test ((!eqF (↑(List.length x0):Int) (↑(List.length x1):Int):Bool))
    (Tr.fin ((false,())))
    (Tr.test (Option.isSome (l31_0 ((x0,(x1,((0:Int),()))),())))
      (Tr.test (isRet (l31_0 ((x0,(x1,((0:Int),()))),())))
        (let r0:=r31_0 ((x0,(x1,((0:Int),()))),());
        Tr.fin ((r0.1.1,())))
        (Tr.fin (((true:Bool),()))))
      (Tr.stop))
def f31 (d:Tys.data as31):Option (Tys.data rs31):=(t31 d.1 d.2.1).val
def g31 (d:Tys.data as31):Tys.data rs31:=(f31 d).getD (Tys.dflt rs31)
def p31:PureC:=pcOf as31 rs31 f31 g31
theorem wk31 (x0:(List (Int×(Int×Unit)))) (x1:(List (Int×(Int×Unit)))):Walks (runPure (kl31_0 Go.Proofs.Tryz.prog).orc Go.Proofs.Tryz.prog 400 31 as31 rs31 (x0,x1,())) (t31 x0 x1) [([tt],[2]),([false,true,true],[2,4,6]),([false,true,false],[2,4,6])] :=
  ⟨by kernel_rfl,by kernel_rfl,by kernel_rfl,trivial⟩
theorem ok31_t (x0:(List (Int×(Int×Unit)))) (x1:(List (Int×(Int×Unit)))):TrOk (PureRuns Go.Proofs.Tryz.prog (kl31_0 Go.Proofs.Tryz.prog).orc 31 as31 rs31 (x0,x1,())) (t31 x0 x1) :=
  Walks.ok (fun _ _ _=>PureRuns.of) (wk31 x0 x1) (by kernel_rfl)
theorem ok31:PureOk Go.Proofs.Tryz.prog 31 p31:=pureOk_of kl31_0_ok.base (T:=fun (d:Tys.data as31)=>t31 d.1 d.2.1) (by kernel_rfl) (fun (d:Tys.data as31)=>ok31_t d.1 d.2.1)
def kf31 (P:Go.Program):Known:=(kl31_0 P).func 31 p31
theorem kf31_ok:KnownOk Go.Proofs.Tryz.prog (kf31 Go.Proofs.Tryz.prog):=kl31_0_ok.func ok31
abbrev as6:List Ty:=[]
abbrev rs6:List Ty:=[.bool]
def f6 (_:Tys.data as6):Option (Tys.data rs6):=some (true,())
def g6 (_:Tys.data as6):Tys.data rs6:=(true,())
def p6:PureC:=pcOf as6 rs6 f6 g6
theorem e6:runAsk (kf31 Go.Proofs.Tryz.prog).orc Go.Proofs.Tryz.prog 400 6 as6 rs6 () none = some ((true,()),[]):=by kernel_rfl
theorem ok6:PureOk Go.Proofs.Tryz.prog 6 p6:=pureOk_closed kf31_ok.base (by kernel_rfl) e6 All.nil
def kf6 (P:Go.Program):Known:=(kf31 P).func 6 p6
theorem kf6_ok:KnownOk Go.Proofs.Tryz.prog (kf6 Go.Proofs.Tryz.prog):=kf31_ok.func ok6
abbrev as42:List Ty:=[(.slice (.int .i64))]
abbrev rs42:List Ty:=[(.slice (.int .i64))]
def t42 (x0:(List Int)):Tr (Tys.data rs42) :=
  Tr.test ((Nat.beq (List.length x0) (0:Nat):Bool))
    (Tr.fin ((([]:List Int),())))
    (Tr.test (Nat.ble ((0:Nat) + List.length x0) (0:Nat))
      (Tr.stop)
      (Tr.test ((Nat.ble (((2:Nat) * ((0:Nat) + List.length x0) + (192:Nat)) * (8:Nat)) (281474976710656:Nat) && Nat.ble ((0:Nat) + List.length x0) (281474976710656:Nat):Bool))
        (Tr.test ((Nat.beq ((0:Nat) + List.length x0) (List.length ([]++x0)):Bool))
          (Tr.fin ((([]++x0:List Int),())))
          (Tr.stop))
        (Tr.stop)))
def f42 (d:Tys.data as42):Option (Tys.data rs42):=(t42 d.1).val
def g42 (d:Tys.data as42):Tys.data rs42:=(f42 d).getD (Tys.dflt rs42)
def p42:PureC:=pcOf as42 rs42 f42 g42
theorem wk42 (x0:(List Int)):Walks (runPure (kf6 Go.Proofs.Tryz.prog).orc Go.Proofs.Tryz.prog 400 42 as42 rs42 (x0,())) (t42 x0) [([tt],[2]),([false,false,true,true],[2,4,6,8])] :=
  ⟨by kernel_rfl,by kernel_rfl,trivial⟩
theorem ok42_t (x0:(List Int)):TrOk (PureRuns Go.Proofs.Tryz.prog (kf6 Go.Proofs.Tryz.prog).orc 42 as42 rs42 (x0,())) (t42 x0) :=
  Walks.ok (fun _ _ _=>PureRuns.of) (wk42 x0) (by kernel_rfl)
theorem ok42:PureOk Go.Proofs.Tryz.prog 42 p42:=pureOk_of kf6_ok.base (T:=fun (d:Tys.data as42)=>t42 d.1) (by kernel_rfl) (fun (d:Tys.data as42)=>ok42_t d.1)
def kf42 (P:Go.Program):Known:=(kf6 P).func 42 p42
theorem kf42_ok:KnownOk Go.Proofs.Tryz.prog (kf42 Go.Proofs.Tryz.prog):=kf6_ok.func ok42
abbrev as21:List Ty:=[(.pair (.slice (.int .i64)) (.pair (.slice (.int .i64)) .unit))]
abbrev rs21:List Ty:=[(.pair (.slice (.int .i64)) (.pair (.slice (.int .i64)) .unit))]
def t21 (x0:(List Int)) (x0':(List Int)):Tr (Tys.data rs21) :=
  Tr.test (Option.isSome (f42 (x0,())))
    (Tr.test (Option.isSome (f42 (x0',())))
      (let r0:=g42 (x0,());
      let r1:=g42 (x0',());
      Tr.fin (((r0.1,(r1.1,())),())))
      (Tr.stop))
    (Tr.stop)
def f21 (d:Tys.data as21):Option (Tys.data rs21):=(t21 d.1.1 d.1.2.1).val
def g21 (d:Tys.data as21):Tys.data rs21:=(f21 d).getD (Tys.dflt rs21)
def p21:PureC:=pcOf as21 rs21 f21 g21
theorem wk21 (x0:(List Int)) (x0':(List Int)):Walks (runPure (kf42 Go.Proofs.Tryz.prog).orc Go.Proofs.Tryz.prog 400 21 as21 rs21 ((x0,x0',()),())) (t21 x0 x0') [([true,true],[2,4])] :=
  ⟨by kernel_rfl,trivial⟩
theorem ok21_t (x0:(List Int)) (x0':(List Int)):TrOk (PureRuns Go.Proofs.Tryz.prog (kf42 Go.Proofs.Tryz.prog).orc 21 as21 rs21 ((x0,x0',()),())) (t21 x0 x0') :=
  Walks.ok (fun _ _ _=>PureRuns.of) (wk21 x0 x0') (by kernel_rfl)
theorem ok21:PureOk Go.Proofs.Tryz.prog 21 p21:=pureOk_of kf42_ok.base (T:=fun (d:Tys.data as21)=>t21 d.1.1 d.1.2.1) (by kernel_rfl) (fun (d:Tys.data as21)=>ok21_t d.1.1 d.1.2.1)
def kf21 (P:Go.Program):Known:=(kf42 P).func 21 p21
theorem kf21_ok:KnownOk Go.Proofs.Tryz.prog (kf21 Go.Proofs.Tryz.prog):=kf42_ok.func ok21
abbrev as60:List Ty:=[.bool,(.int .i64)]
abbrev rs60:List Ty:=[(.int .i64)]
def t60 (x0:Bool) (x1:Int):Tr (Tys.data rs60) :=
  Tr.test (x0)
    (Tr.fin ((x1,())))
    (Tr.fin (((0:Int),())))
def f60 (d:Tys.data as60):Option (Tys.data rs60):=(t60 d.1 d.2.1).val
def g60 (d:Tys.data as60):Tys.data rs60:=(f60 d).getD (Tys.dflt rs60)
def p60:PureC:=pcOf as60 rs60 f60 g60
theorem wk60 (x0:Bool) (x1:Int):Walks (runPure (kf21 Go.Proofs.Tryz.prog).orc Go.Proofs.Tryz.prog 400 60 as60 rs60 (x0,x1,())) (t60 x0 x1) [([tt],[2]),([ff],[2])] :=
  ⟨by kernel_rfl,by kernel_rfl,trivial⟩
theorem ok60_t (x0:Bool) (x1:Int):TrOk (PureRuns Go.Proofs.Tryz.prog (kf21 Go.Proofs.Tryz.prog).orc 60 as60 rs60 (x0,x1,())) (t60 x0 x1) :=
  Walks.ok (fun _ _ _=>PureRuns.of) (wk60 x0 x1) (by kernel_rfl)
theorem ok60:PureOk Go.Proofs.Tryz.prog 60 p60:=pureOk_of kf21_ok.base (T:=fun (d:Tys.data as60)=>t60 d.1 d.2.1) (by kernel_rfl) (fun (d:Tys.data as60)=>ok60_t d.1 d.2.1)
def kf60 (P:Go.Program):Known:=(kf21 P).func 60 p60
theorem kf60_ok:KnownOk Go.Proofs.Tryz.prog (kf60 Go.Proofs.Tryz.prog):=kf21_ok.func ok60
abbrev sh64_0:Sh:={ n:=15,slots:=[5,6,7],pats:=[.ty (.slice (.int .i64)),.ty (.int .i64),.ty (.int .i64)],boxes:=[] }
abbrev shb64_0:Sh:={ n:=15,slots:=[],pats:=[],boxes:=[] }
abbrev shr64_0:Sh:={ n:=15,slots:=[2],pats:=[.ty (.int .i64)],boxes:=[] }
def t64_0 (x0:(List Int)) (x1:Int) (x2:Int):Tr (Out sh64_0.data shb64_0.data shr64_0.data) :=
  Tr.test ((!leF x1 x2:Bool))
    (Tr.test (decide ((0:Int) ≤ x2) && decide (x2 < (↑(List.length x0):Int)))
      (Tr.test ((!eqF (List.getD x0 (Int.toNat x2) (0:Int)) (0:Int):Bool))
        (Tr.fin (.ret (((List.getD x0 (Int.toNat x2) (0:Int):Int),()),())))
        (Tr.fin (.again ((x0,(x1,((wrap64 (x2 + (1:Int)):Int),()))),()))))
      (Tr.stop))
    (Tr.fin (.brk ((),())))
def s64_0 (d:sh64_0.data):Option (Out sh64_0.data shb64_0.data shr64_0.data):=(t64_0 d.1.1 d.1.2.1 d.1.2.2.1).val
def l64_0 (d:sh64_0.data):Option (shb64_0.data ⊕ shr64_0.data):=itr s64_0 rounds d
def b64_0 (d:sh64_0.data):shb64_0.data:=outB shb64_0.dflt (l64_0 d)
def r64_0 (d:sh64_0.data):shr64_0.data:=outR shr64_0.dflt (l64_0 d)
def lc64_0:LoopC:=lcOf sh64_0 shb64_0 shr64_0 l64_0 b64_0 r64_0
theorem wk64_0 (x0:(List Int)) (x1:Int) (x2:Int):Walks (runBody (kf60 Go.Proofs.Tryz.prog).orc Go.Proofs.Tryz.prog 400 64 0 sh64_0 shb64_0 shr64_0 ((x0,x1,x2,()),())) (t64_0 x0 x1 x2) [([true,true,true],[2,4,6]),([true,true,false],[2,4,6]),([ff],[2])] :=
  ⟨by kernel_rfl,by kernel_rfl,by kernel_rfl,trivial⟩
theorem ok64_0_t (x0:(List Int)) (x1:Int) (x2:Int):TrOk (BodyRuns Go.Proofs.Tryz.prog (kf60 Go.Proofs.Tryz.prog).orc 64 0 sh64_0 shb64_0 shr64_0 ((x0,x1,x2,()),())) (t64_0 x0 x1 x2) :=
  Walks.ok (fun _ _ _=>BodyRuns.of) (wk64_0 x0 x1 x2) (by kernel_rfl)
theorem ok64_0:LoopOk Go.Proofs.Tryz.prog 64 0 lc64_0:=loopOk_of (sh:=sh64_0) (shB:=shb64_0) (shR:=shr64_0) kf60_ok.base (T:=fun (d:sh64_0.data)=>t64_0 d.1.1 d.1.2.1 d.1.2.2.1) (by kernel_rfl) rfl (fun (d:sh64_0.data)=>ok64_0_t d.1.1 d.1.2.1 d.1.2.2.1) (fun _=>rfl)
def kl64_0 (P:Go.Program):Known:=(kf60 P).loop 64 0 lc64_0
theorem kl64_0_ok:KnownOk Go.Proofs.Tryz.prog (kl64_0 Go.Proofs.Tryz.prog):=kf60_ok.loop ok64_0
abbrev as64:List Ty:=[(.slice (.int .i64))]
abbrev rs64:List Ty:=[(.int .i64)]
def t64 (x0:(List Int)):Tr (Tys.data rs64) :=
  Tr.test (Option.isSome (l64_0 ((x0,((↑(List.length x0):Int),((0:Int),()))),())))
    (Tr.test (isRet (l64_0 ((x0,((↑(List.length x0):Int),((0:Int),()))),())))
      (let r0:=r64_0 ((x0,((↑(List.length x0):Int),((0:Int),()))),());
      Tr.fin ((r0.1.1,())))
      (Tr.fin (((0:Int),()))))
    (Tr.stop)
def f64 (d:Tys.data as64):Option (Tys.data rs64):=(t64 d.1).val
def g64 (d:Tys.data as64):Tys.data rs64:=(f64 d).getD (Tys.dflt rs64)
def p64:PureC:=pcOf as64 rs64 f64 g64
theorem wk64 (x0:(List Int)):Walks (runPure (kl64_0 Go.Proofs.Tryz.prog).orc Go.Proofs.Tryz.prog 400 64 as64 rs64 (x0,())) (t64 x0) [([true,true],[2,4]),([true,false],[2,4])] :=
  ⟨by kernel_rfl,by kernel_rfl,trivial⟩
theorem ok64_t (x0:(List Int)):TrOk (PureRuns Go.Proofs.Tryz.prog (kl64_0 Go.Proofs.Tryz.prog).orc 64 as64 rs64 (x0,())) (t64 x0) :=
  Walks.ok (fun _ _ _=>PureRuns.of) (wk64 x0) (by kernel_rfl)
theorem ok64:PureOk Go.Proofs.Tryz.prog 64 p64:=pureOk_of kl64_0_ok.base (T:=fun (d:Tys.data as64)=>t64 d.1) (by kernel_rfl) (fun (d:Tys.data as64)=>ok64_t d.1)
def kf64 (P:Go.Program):Known:=(kl64_0 P).func 64 p64
theorem kf64_ok:KnownOk Go.Proofs.Tryz.prog (kf64 Go.Proofs.Tryz.prog):=kl64_0_ok.func ok64
abbrev sh77_0:Sh:={ n:=24,slots:=[0,1,9,10,11],pats:=[.ty (.int .i64),.ty (.int .i64),.ty (.slice (.int .i64)),.ty (.int .i64),.ty (.int .i64)],boxes:=[] }
abbrev shb77_0:Sh:={ n:=24,slots:=[],pats:=[],boxes:=[] }
abbrev shr77_0:Sh:={ n:=24,slots:=[6],pats:=[.ty .bool],boxes:=[] }
def t77_0 (x0:Int) (x1:Int) (x2:(List Int)) (x3:Int) (x4:Int):Tr (Out sh77_0.data shb77_0.data shr77_0.data) :=
  Tr.test ((!leF x3 x4:Bool))
    (Tr.test (decide ((0:Int) ≤ x4) && decide (x4 < (↑(List.length x2):Int)))
      (Tr.test ((!leF x0 (List.getD x2 (Int.toNat x4) (0:Int)):Bool))
        (Tr.fin (.ret (((false:Bool),()),())))
        (Tr.test ((!leF (List.getD x2 (Int.toNat x4) (0:Int)) x1:Bool))
          (Tr.fin (.ret (((false:Bool),()),())))
          (Tr.fin (.again ((x0,(x1,(x2,(x3,((wrap64 (x4 + (1:Int)):Int),()))))),())))))
      (Tr.stop))
    (Tr.fin (.brk ((),())))
def s77_0 (d:sh77_0.data):Option (Out sh77_0.data shb77_0.data shr77_0.data):=(t77_0 d.1.1 d.1.2.1 d.1.2.2.1 d.1.2.2.2.1 d.1.2.2.2.2.1).val
def l77_0 (d:sh77_0.data):Option (shb77_0.data ⊕ shr77_0.data):=itr s77_0 rounds d
def b77_0 (d:sh77_0.data):shb77_0.data:=outB shb77_0.dflt (l77_0 d)
def r77_0 (d:sh77_0.data):shr77_0.data:=outR shr77_0.dflt (l77_0 d)
def lc77_0:LoopC:=lcOf sh77_0 shb77_0 shr77_0 l77_0 b77_0 r77_0
theorem wk77_0 (x0:Int) (x1:Int) (x2:(List Int)) (x3:Int) (x4:Int):Walks (runBody (kf64 Go.Proofs.Tryz.prog).orc Go.Proofs.Tryz.prog 400 77 0 sh77_0 shb77_0 shr77_0 ((x0,x1,x2,x3,x4,()),())) (t77_0 x0 x1 x2 x3 x4) [([true,true,true],[1,2,2,2,2,4,6]),([true,true,false,true],[2,4,4,4,4,6,8]),([true,true,false,false],[2,4,4,4,4,6,8]),([ff],[2])] :=
  ⟨by kernel_rfl,by kernel_rfl,by kernel_rfl,by kernel_rfl,trivial⟩
theorem ok77_0_t (x0:Int) (x1:Int) (x2:(List Int)) (x3:Int) (x4:Int):TrOk (BodyRuns Go.Proofs.Tryz.prog (kf64 Go.Proofs.Tryz.prog).orc 77 0 sh77_0 shb77_0 shr77_0 ((x0,x1,x2,x3,x4,()),())) (t77_0 x0 x1 x2 x3 x4) :=
  Walks.ok (fun _ _ _=>BodyRuns.of) (wk77_0 x0 x1 x2 x3 x4) (by kernel_rfl)
theorem ok77_0:LoopOk Go.Proofs.Tryz.prog 77 0 lc77_0:=loopOk_of (sh:=sh77_0) (shB:=shb77_0) (shR:=shr77_0) kf64_ok.base (T:=fun (d:sh77_0.data)=>t77_0 d.1.1 d.1.2.1 d.1.2.2.1 d.1.2.2.2.1 d.1.2.2.2.2.1) (by kernel_rfl) rfl (fun (d:sh77_0.data)=>ok77_0_t d.1.1 d.1.2.1 d.1.2.2.1 d.1.2.2.2.1 d.1.2.2.2.2.1) (fun _=>rfl)
def kl77_0 (P:Go.Program):Known:=(kf64 P).loop 77 0 lc77_0
theorem kl77_0_ok:KnownOk Go.Proofs.Tryz.prog (kl77_0 Go.Proofs.Tryz.prog):=kf64_ok.loop ok77_0
abbrev as77:List Ty:=[(.int .i64),(.int .i64),(.slice (.int .i64))]
abbrev rs77:List Ty:=[.bool]
def t77 (x0:Int) (x1:Int) (x2:(List Int)):Tr (Tys.data rs77) :=
  Tr.test (Option.isSome (l77_0 ((x0,(x1,(x2,((↑(List.length x2):Int),((0:Int),()))))),())))
    (Tr.test (isRet (l77_0 ((x0,(x1,(x2,((↑(List.length x2):Int),((0:Int),()))))),())))
      (let r0:=r77_0 ((x0,(x1,(x2,((↑(List.length x2):Int),((0:Int),()))))),());
      Tr.fin ((r0.1.1,())))
      (Tr.fin (((true:Bool),()))))
    (Tr.stop)
def f77 (d:Tys.data as77):Option (Tys.data rs77):=(t77 d.1 d.2.1 d.2.2.1).val
def g77 (d:Tys.data as77):Tys.data rs77:=(f77 d).getD (Tys.dflt rs77)
def p77:PureC:=pcOf as77 rs77 f77 g77
theorem wk77 (x0:Int) (x1:Int) (x2:(List Int)):Walks (runPure (kl77_0 Go.Proofs.Tryz.prog).orc Go.Proofs.Tryz.prog 400 77 as77 rs77 (x0,x1,x2,())) (t77 x0 x1 x2) [([true,true],[2,4]),([true,false],[2,4])] :=
  ⟨by kernel_rfl,by kernel_rfl,trivial⟩
theorem ok77_t (x0:Int) (x1:Int) (x2:(List Int)):TrOk (PureRuns Go.Proofs.Tryz.prog (kl77_0 Go.Proofs.Tryz.prog).orc 77 as77 rs77 (x0,x1,x2,())) (t77 x0 x1 x2) :=
  Walks.ok (fun _ _ _=>PureRuns.of) (wk77 x0 x1 x2) (by kernel_rfl)
theorem ok77:PureOk Go.Proofs.Tryz.prog 77 p77:=pureOk_of kl77_0_ok.base (T:=fun (d:Tys.data as77)=>t77 d.1 d.2.1 d.2.2.1) (by kernel_rfl) (fun (d:Tys.data as77)=>ok77_t d.1 d.2.1 d.2.2.1)
def kf77 (P:Go.Program):Known:=(kl77_0 P).func 77 p77
theorem kf77_ok:KnownOk Go.Proofs.Tryz.prog (kf77 Go.Proofs.Tryz.prog):=kl77_0_ok.func ok77
abbrev as78:List Ty:=[(.int .i64),(.slice (.int .i64))]
abbrev rs78:List Ty:=[.bool]
def t78 (x0:Int) (x1:(List Int)):Tr (Tys.data rs78) :=
  Tr.test (Option.isSome (f77 ((Go.IntKind.wrap Go.IntKind.i64 ((0:Int) - x0):Int),(x0,(x1,())))))
    (let r0:=g77 ((Go.IntKind.wrap Go.IntKind.i64 ((0:Int) - x0):Int),(x0,(x1,())));
    Tr.fin (((!r0.1:Bool),())))
    (Tr.stop)
def f78 (d:Tys.data as78):Option (Tys.data rs78):=(t78 d.1 d.2.1).val
def g78 (d:Tys.data as78):Tys.data rs78:=(f78 d).getD (Tys.dflt rs78)
def p78:PureC:=pcOf as78 rs78 f78 g78
theorem wk78 (x0:Int) (x1:(List Int)):Walks (runPure (kf77 Go.Proofs.Tryz.prog).orc Go.Proofs.Tryz.prog 400 78 as78 rs78 (x0,x1,())) (t78 x0 x1) [([tt],[2])] :=
  ⟨by kernel_rfl,trivial⟩
theorem ok78_t (x0:Int) (x1:(List Int)):TrOk (PureRuns Go.Proofs.Tryz.prog (kf77 Go.Proofs.Tryz.prog).orc 78 as78 rs78 (x0,x1,())) (t78 x0 x1) :=
  Walks.ok (fun _ _ _=>PureRuns.of) (wk78 x0 x1) (by kernel_rfl)
theorem ok78:PureOk Go.Proofs.Tryz.prog 78 p78:=pureOk_of kf77_ok.base (T:=fun (d:Tys.data as78)=>t78 d.1 d.2.1) (by kernel_rfl) (fun (d:Tys.data as78)=>ok78_t d.1 d.2.1)
def kf78 (P:Go.Program):Known:=(kf77 P).func 78 p78
theorem kf78_ok:KnownOk Go.Proofs.Tryz.prog (kf78 Go.Proofs.Tryz.prog):=kf77_ok.func ok78
abbrev sh75_0:Sh:={ n:=25,slots:=[1,9,10,11],pats:=[.fn 76 [(0,2)],.ty (.slice (.int .i64)),.ty (.int .i64),.ty (.int .i64)],boxes:=[.row [.ty (.slice (.int .i64)),.ty (.slice (.int .i64))]] }
abbrev shb75_0:Sh:={ n:=25,slots:=[],pats:=[],boxes:=[.row [.ty (.slice (.int .i64)),.ty (.slice (.int .i64))]] }
abbrev shr75_0:Sh:={ n:=25,slots:=[4,5],pats:=[.ty (.int .i64),.ty (.int .i64)],boxes:=[.row [.ty (.slice (.int .i64)),.ty (.slice (.int .i64))]] }
def t75_0 (x1:(List Int)) (x2:Int) (x3:Int) (b0_0:(List Int)) (b0_1:(List Int)):Tr (Out sh75_0.data shb75_0.data shr75_0.data) :=
  Tr.test ((!leF x2 x3:Bool))
    (Tr.test (decide ((0:Int) ≤ x3) && decide (x3 < (↑(List.length x1):Int)))
      (Tr.test (Option.isSome (f77 ((1:Int),((20:Int),(([List.getD x1 (Int.toNat x3) (0:Int)]:List Int),())))))
        (let r0:=g77 ((1:Int),((20:Int),(([List.getD x1 (Int.toNat x3) (0:Int)]:List Int),())));
        Tr.test (r0.1)
          (Tr.test ((decide ((0:Int) ≤ x3) && decide (x3 < (↑(List.length b0_1):Int)):Bool))
            (Tr.test (Option.isSome (f78 ((1000:Int),(([List.getD b0_1 (Int.toNat x3) (0:Int)]:List Int),()))))
              (let r1:=g78 ((1000:Int),(([List.getD b0_1 (Int.toNat x3) (0:Int)]:List Int),()));
              Tr.test (Option.isSome (f60 ((!!r1.1:Bool),((2:Int),()))))
                (let r2:=g60 ((!!r1.1:Bool),((2:Int),()));
                Tr.test ((!eqF r2.1 0:Bool))
                  (Tr.fin (.ret ((x3,(r2.1,())),((b0_0,(b0_1,())),()))))
                  (Tr.fin (.again ((x1,(x2,((wrap64 (x3 + (1:Int)):Int),()))),((b0_0,(b0_1,())),())))))
                (Tr.stop))
              (Tr.stop))
            (Tr.stop))
          (Tr.test (Option.isSome (f60 ((true:Bool),((2:Int),()))))
            (let r3:=g60 ((true:Bool),((2:Int),()));
            Tr.test ((!eqF r3.1 0:Bool))
              (Tr.fin (.ret ((x3,(r3.1,())),((b0_0,(b0_1,())),()))))
              (Tr.fin (.again ((x1,(x2,((wrap64 (x3 + (1:Int)):Int),()))),((b0_0,(b0_1,())),())))))
            (Tr.stop)))
        (Tr.stop))
      (Tr.stop))
    (Tr.fin (.brk ((),((b0_0,(b0_1,())),()))))
def s75_0 (d:sh75_0.data):Option (Out sh75_0.data shb75_0.data shr75_0.data):=(t75_0 d.1.1 d.1.2.1 d.1.2.2.1 d.2.1.1 d.2.1.2.1).val
def l75_0 (d:sh75_0.data):Option (shb75_0.data ⊕ shr75_0.data):=itr s75_0 rounds d
def b75_0 (d:sh75_0.data):shb75_0.data:=outB shb75_0.dflt (l75_0 d)
def r75_0 (d:sh75_0.data):shr75_0.data:=outR shr75_0.dflt (l75_0 d)
def lc75_0:LoopC:=lcOf sh75_0 shb75_0 shr75_0 l75_0 b75_0 r75_0
theorem wk75_0 (x1:(List Int)) (x2:Int) (x3:Int) (b0_0:(List Int)) (b0_1:(List Int)):Walks (runBody (kf78 Go.Proofs.Tryz.prog).orc Go.Proofs.Tryz.prog 400 75 0 sh75_0 shb75_0 shr75_0 ((x1,x2,x3,()),(b0_0,b0_1,()),())) (t75_0 x1 x2 x3 b0_0 b0_1) [([true,true,true,true,true,true,true,true],[2,4,10,10,6,10,10,10,8,10,10,10,10,12,14,16]),([true,true,true,true,true,true,true,false],[2,4,10,10,6,10,10,10,8,10,10,10,10,12,14,16]),([true,true,true,false,true,true],[2,4,6,6,6,6,6,6,6,6,6,8,10,12]),([true,true,true,false,true,false],[2,4,6,6,6,6,6,6,6,6,6,8,10,12]),([ff],[2])] :=
  ⟨by kernel_rfl,by kernel_rfl,by kernel_rfl,by kernel_rfl,by kernel_rfl,trivial⟩
theorem ok75_0_t (x1:(List Int)) (x2:Int) (x3:Int) (b0_0:(List Int)) (b0_1:(List Int)):TrOk (BodyRuns Go.Proofs.Tryz.prog (kf78 Go.Proofs.Tryz.prog).orc 75 0 sh75_0 shb75_0 shr75_0 ((x1,x2,x3,()),(b0_0,b0_1,()),())) (t75_0 x1 x2 x3 b0_0 b0_1) :=
  Walks.ok (fun _ _ _=>BodyRuns.of) (wk75_0 x1 x2 x3 b0_0 b0_1) (by kernel_rfl)
theorem ok75_0:LoopOk Go.Proofs.Tryz.prog 75 0 lc75_0:=loopOk_of (sh:=sh75_0) (shB:=shb75_0) (shR:=shr75_0) kf78_ok.base (T:=fun (d:sh75_0.data)=>t75_0 d.1.1 d.1.2.1 d.1.2.2.1 d.2.1.1 d.2.1.2.1) (by kernel_rfl) rfl (fun (d:sh75_0.data)=>ok75_0_t d.1.1 d.1.2.1 d.1.2.2.1 d.2.1.1 d.2.1.2.1) (fun _=>rfl)
def kl75_0 (P:Go.Program):Known:=(kf78 P).loop 75 0 lc75_0
theorem kl75_0_ok:KnownOk Go.Proofs.Tryz.prog (kl75_0 Go.Proofs.Tryz.prog):=kf78_ok.loop ok75_0
abbrev as20:List Ty:=[(.pair (.slice (.int .i64)) (.pair (.slice (.int .i64)) .unit))]
abbrev rs20:List Ty:=[(.int .i64),(.int .i64)]
def t20 (x0:(List Int)) (x0':(List Int)):Tr (Tys.data rs20) :=
  Tr.test ((eqF (↑(List.length x0):Int) (0:Int):Bool))
    (Tr.test (Option.isSome (f60 (true,((10:Int),()))))
      (Tr.test (Option.isSome (f60 ((!leF (↑(List.length x0):Int) (6:Int):Bool),((8:Int),()))))
        (let r0:=g60 ((true:Bool),((10:Int),()));
        let r1:=g60 ((!leF (↑(List.length x0):Int) (6:Int):Bool),((8:Int),()));
        Tr.test (Option.isSome (f64 (([r0.1,r1.1]:List Int),())))
          (let r2:=g64 (([r0.1,r1.1]:List Int),());
          Tr.test ((!eqF r2.1 0:Bool))
            (Tr.fin (((0:Int),(r2.1,()))))
            (Tr.test (Option.isSome (l75_0 ((x0,((↑(List.length x0):Int),((0:Int),()))),((x0,(x0',())),()))))
              (Tr.test (isRet (l75_0 ((x0,((↑(List.length x0):Int),((0:Int),()))),((x0,(x0',())),()))))
                (let r3:=r75_0 ((x0,((↑(List.length x0):Int),((0:Int),()))),((x0,(x0',())),()));
                Tr.fin ((r3.1.1,(r3.1.2.1,()))))
                (Tr.fin (((0:Int),((0:Int),())))))
              (Tr.stop)))
          (Tr.stop))
        (Tr.stop))
      (Tr.stop))
    (Tr.test (Option.isSome (f60 (!eqF (↑(List.length x0'):Int) (↑(List.length x0):Int),((10:Int),()))))
      (Tr.test (Option.isSome (f60 ((!leF (↑(List.length x0):Int) (6:Int):Bool),((8:Int),()))))
        (let r1:=g60 ((!leF (↑(List.length x0):Int) (6:Int):Bool),((8:Int),()));
        let r5:=g60 ((!eqF (↑(List.length x0'):Int) (↑(List.length x0):Int):Bool),((10:Int),()));
        Tr.test (Option.isSome (f64 (([r5.1,r1.1]:List Int),())))
          (let r6:=g64 (([r5.1,r1.1]:List Int),());
          Tr.test ((!eqF r6.1 0:Bool))
            (Tr.fin (((0:Int),(r6.1,()))))
            (Tr.test (Option.isSome (l75_0 ((x0,((↑(List.length x0):Int),((0:Int),()))),((x0,(x0',())),()))))
              (Tr.test (isRet (l75_0 ((x0,((↑(List.length x0):Int),((0:Int),()))),((x0,(x0',())),()))))
                (let r3:=r75_0 ((x0,((↑(List.length x0):Int),((0:Int),()))),((x0,(x0',())),()));
                Tr.fin ((r3.1.1,(r3.1.2.1,()))))
                (Tr.fin (((0:Int),((0:Int),())))))
              (Tr.stop)))
          (Tr.stop))
        (Tr.stop))
      (Tr.stop))
def f20 (d:Tys.data as20):Option (Tys.data rs20):=(t20 d.1.1 d.1.2.1).val
def g20 (d:Tys.data as20):Tys.data rs20:=(f20 d).getD (Tys.dflt rs20)
def p20:PureC:=pcOf as20 rs20 f20 g20
theorem wk20 (x0:(List Int)) (x0':(List Int)):Walks (runPure (kl75_0 Go.Proofs.Tryz.prog).orc Go.Proofs.Tryz.prog 400 20 as20 rs20 ((x0,x0',()),())) (t20 x0 x0') [([true,true,true,true,true],[2,4,6,8,10,10,10,10,10,10]),([true,true,true,true,false,true,true],[2,4,6,8,10,12,14,14,14,14,14,14]),([true,true,true,true,false,true,false],[2,4,6,8,10,12,14,14,14,14,14,14]),([false,true,true,true,true],[2,4,6,8,10,10,10,10,10,10]),([false,true,true,true,false,true,true],[2,4,6,8,10,12,14,14,14,14,14,14]),([false,true,true,true,false,true,false],[2,4,6,8,10,12,14,14,14,14,14,14])] :=
  ⟨by kernel_rfl,by kernel_rfl,by kernel_rfl,by kernel_rfl,by kernel_rfl,by kernel_rfl,trivial⟩
theorem ok20_t (x0:(List Int)) (x0':(List Int)):TrOk (PureRuns Go.Proofs.Tryz.prog (kl75_0 Go.Proofs.Tryz.prog).orc 20 as20 rs20 ((x0,x0',()),())) (t20 x0 x0') :=
  Walks.ok (fun _ _ _=>PureRuns.of) (wk20 x0 x0') (by kernel_rfl)
theorem ok20:PureOk Go.Proofs.Tryz.prog 20 p20:=pureOk_of kl75_0_ok.base (T:=fun (d:Tys.data as20)=>t20 d.1.1 d.1.2.1) (by kernel_rfl) (fun (d:Tys.data as20)=>ok20_t d.1.1 d.1.2.1)
def kf20 (P:Go.Program):Known:=(kl75_0 P).func 20 p20
theorem kf20_ok:KnownOk Go.Proofs.Tryz.prog (kf20 Go.Proofs.Tryz.prog):=kl75_0_ok.func ok20
abbrev as118:List Ty:=[]
abbrev rs118:List Ty:=[(.pair (.int .i64) (.pair (.int .i64) .unit))]
def t118 :Tr (Tys.data rs118) :=
  Tr.fin ((((0:Int),((1:Int),())),()))
def f118 (d:Tys.data as118):Option (Tys.data rs118):=(t118 ).val
def g118 (d:Tys.data as118):Tys.data rs118:=(f118 d).getD (Tys.dflt rs118)
def p118:PureC:=pcOf as118 rs118 f118 g118
theorem wk118 :Walks (runPure (kf20 Go.Proofs.Tryz.prog).orc Go.Proofs.Tryz.prog 400 118 as118 rs118 ()) (t118 ) [([],[])] :=
  ⟨by kernel_rfl,trivial⟩
theorem ok118_t :TrOk (PureRuns Go.Proofs.Tryz.prog (kf20 Go.Proofs.Tryz.prog).orc 118 as118 rs118 ()) (t118 ) :=
  Walks.ok (fun _ _ _=>PureRuns.of) (wk118 ) (by kernel_rfl)
theorem ok118:PureOk Go.Proofs.Tryz.prog 118 p118:=pureOk_of kf20_ok.base (T:=fun (d:Tys.data as118)=>t118 ) (by kernel_rfl) (fun (d:Tys.data as118)=>ok118_t )
def kf118 (P:Go.Program):Known:=(kf20 P).func 118 p118
theorem kf118_ok:KnownOk Go.Proofs.Tryz.prog (kf118 Go.Proofs.Tryz.prog):=kf20_ok.func ok118
abbrev as79:List Ty:=[(.pair (.slice (.int .i64)) (.pair (.slice (.int .i64)) .unit))]
abbrev rs79:List Ty:=[(.pair (.pair (.slice (.int .i64)) (.pair (.slice (.int .i64)) .unit)) (.pair (.pair (.int .i64) (.pair (.int .i64) .unit)) .unit)),(.int .i64)]
def t79 (x0:(List Int)) (x0':(List Int)):Tr (Tys.data rs79) :=
  Tr.test (Option.isSome (f20 ((x0,(x0',())),())))
    (let r0:=g20 ((x0,(x0',())),());
    Tr.test ((!eqF r0.2.1 0:Bool))
      (Tr.fin ((((([]:List Int),(([]:List Int),())),(((0:Int),((0:Int),())),())),(r0.2.1,()))))
      (Tr.test (Option.isSome (f118 ()))
        (let r1:=g118 ();
        Tr.fin ((((x0,(x0',())),((r1.1.1,(r1.1.2.1,())),())),((0:Int),()))))
        (Tr.stop)))
    (Tr.stop)
def f79 (d:Tys.data as79):Option (Tys.data rs79):=(t79 d.1.1 d.1.2.1).val
def g79 (d:Tys.data as79):Tys.data rs79:=(f79 d).getD (Tys.dflt rs79)
def p79:PureC:=pcOf as79 rs79 f79 g79
theorem wk79 (x0:(List Int)) (x0':(List Int)):Walks (runPure (kf118 Go.Proofs.Tryz.prog).orc Go.Proofs.Tryz.prog 400 79 as79 rs79 ((x0,x0',()),())) (t79 x0 x0') [([true,true],[2,4]),([true,false,true],[2,4,6])] :=
  ⟨by kernel_rfl,by kernel_rfl,trivial⟩
theorem ok79_t (x0:(List Int)) (x0':(List Int)):TrOk (PureRuns Go.Proofs.Tryz.prog (kf118 Go.Proofs.Tryz.prog).orc 79 as79 rs79 ((x0,x0',()),())) (t79 x0 x0') :=
  Walks.ok (fun _ _ _=>PureRuns.of) (wk79 x0 x0') (by kernel_rfl)
theorem ok79:PureOk Go.Proofs.Tryz.prog 79 p79:=pureOk_of kf118_ok.base (T:=fun (d:Tys.data as79)=>t79 d.1.1 d.1.2.1) (by kernel_rfl) (fun (d:Tys.data as79)=>ok79_t d.1.1 d.1.2.1)
def kf79 (P:Go.Program):Known:=(kf118 P).func 79 p79
theorem kf79_ok:KnownOk Go.Proofs.Tryz.prog (kf79 Go.Proofs.Tryz.prog):=kf118_ok.func ok79
abbrev sh85_0:Sh:={ n:=23,slots:=[5,12,13,14],pats:=[.ty (.int .i64),.ty (.slice (.int .i64)),.ty (.int .i64),.ty (.int .i64)],boxes:=[] }
abbrev shb85_0:Sh:={ n:=23,slots:=[5],pats:=[.ty (.int .i64)],boxes:=[] }
abbrev shr85_0:Sh:={ n:=23,slots:=[],pats:=[],boxes:=[] }
def t85_0 (x0:Int) (x1:(List Int)) (x2:Int) (x3:Int):Tr (Out sh85_0.data shb85_0.data shr85_0.data) :=
  Tr.test ((!leF x2 x3:Bool))
    (Tr.test (decide ((0:Int) ≤ x3) && decide (x3 < (↑(List.length x1):Int)))
      (Tr.fin (.again (((wrap64 (x0 + List.getD x1 (Int.toNat x3) (0:Int)):Int),(x1,(x2,((wrap64 (x3 + (1:Int)):Int),())))),())))
      (Tr.stop))
    (Tr.fin (.brk ((x0,()),())))
def s85_0 (d:sh85_0.data):Option (Out sh85_0.data shb85_0.data shr85_0.data):=(t85_0 d.1.1 d.1.2.1 d.1.2.2.1 d.1.2.2.2.1).val
def l85_0 (d:sh85_0.data):Option (shb85_0.data ⊕ shr85_0.data):=itr s85_0 rounds d
def b85_0 (d:sh85_0.data):shb85_0.data:=outB shb85_0.dflt (l85_0 d)
def lc85_0:LoopC:=lcB sh85_0 shb85_0 shr85_0 l85_0 b85_0
theorem wk85_0 (x0:Int) (x1:(List Int)) (x2:Int) (x3:Int):Walks (runBody (kf79 Go.Proofs.Tryz.prog).orc Go.Proofs.Tryz.prog 400 85 0 sh85_0 shb85_0 shr85_0 ((x0,x1,x2,x3,()),())) (t85_0 x0 x1 x2 x3) [([true,true],[2,4]),([ff],[2])] :=
  ⟨by kernel_rfl,by kernel_rfl,trivial⟩
theorem ok85_0_t (x0:Int) (x1:(List Int)) (x2:Int) (x3:Int):TrOk (BodyRuns Go.Proofs.Tryz.prog (kf79 Go.Proofs.Tryz.prog).orc 85 0 sh85_0 shb85_0 shr85_0 ((x0,x1,x2,x3,()),())) (t85_0 x0 x1 x2 x3) :=
  Walks.ok (fun _ _ _=>BodyRuns.of) (wk85_0 x0 x1 x2 x3) (by kernel_rfl)
theorem ok85_0:LoopOk Go.Proofs.Tryz.prog 85 0 lc85_0:=loopOk_ofB (sh:=sh85_0) (shB:=shb85_0) (shR:=shr85_0) kf79_ok.base (T:=fun (d:sh85_0.data)=>t85_0 d.1.1 d.1.2.1 d.1.2.2.1 d.1.2.2.2.1) (by kernel_rfl) rfl (fun (d:sh85_0.data)=>ok85_0_t d.1.1 d.1.2.1 d.1.2.2.1 d.1.2.2.2.1) (fun _=>rfl)
def kl85_0 (P:Go.Program):Known:=(kf79 P).loop 85 0 lc85_0
theorem kl85_0_ok:KnownOk Go.Proofs.Tryz.prog (kl85_0 Go.Proofs.Tryz.prog):=kf79_ok.loop ok85_0
abbrev as85:List Ty:=[(.pair (.pair (.slice (.int .i64)) (.pair (.slice (.int .i64)) .unit)) (.pair (.pair (.int .i64) (.pair (.int .i64) .unit)) .unit)),(.int .i64)]
abbrev rs85:List Ty:=[(.int .i64)]
def t85 (x0_:(List Int)) (x0_':(List Int)) (x0'_:Int) (x0'_':Int) (x1:Int):Tr (Tys.data rs85) :=
  Tr.test ((decide ((0:Int) ≤ x1) && decide (x1 ≤ (↑(List.length x0_'):Int)):Bool))
    (Tr.test (isBrk (l85_0 (((0:Int),((List.drop (Int.toNat x1) x0_':List Int),((↑(List.length (List.drop (Int.toNat x1) x0_')):Int),((0:Int),())))),())))
      (let r0:=b85_0 (((0:Int),((List.drop (Int.toNat x1) x0_':List Int),((↑(List.length (List.drop (Int.toNat x1) x0_')):Int),((0:Int),())))),());
      Tr.fin ((r0.1.1,())))
      (Tr.stop))
    (Tr.stop)
def f85 (d:Tys.data as85):Option (Tys.data rs85):=(t85 d.1.1.1 d.1.1.2.1 d.1.2.1.1 d.1.2.1.2.1 d.2.1).val
def g85 (d:Tys.data as85):Tys.data rs85:=(f85 d).getD (Tys.dflt rs85)
def p85:PureC:=pcOf as85 rs85 f85 g85
theorem wk85 (x0_:(List Int)) (x0_':(List Int)) (x0'_:Int) (x0'_':Int) (x1:Int):Walks (runPure (kl85_0 Go.Proofs.Tryz.prog).orc Go.Proofs.Tryz.prog 400 85 as85 rs85 (((x0_,x0_',()),(x0'_,x0'_',()),()),x1,())) (t85 x0_ x0_' x0'_ x0'_' x1) [([true,true],[1,2,4])] :=
  ⟨by kernel_rfl,trivial⟩
theorem ok85_t (x0_:(List Int)) (x0_':(List Int)) (x0'_:Int) (x0'_':Int) (x1:Int):TrOk (PureRuns Go.Proofs.Tryz.prog (kl85_0 Go.Proofs.Tryz.prog).orc 85 as85 rs85 (((x0_,x0_',()),(x0'_,x0'_',()),()),x1,())) (t85 x0_ x0_' x0'_ x0'_' x1) :=
  Walks.ok (fun _ _ _=>PureRuns.of) (wk85 x0_ x0_' x0'_ x0'_' x1) (by kernel_rfl)
theorem ok85:PureOk Go.Proofs.Tryz.prog 85 p85:=pureOk_of kl85_0_ok.base (T:=fun (d:Tys.data as85)=>t85 d.1.1.1 d.1.1.2.1 d.1.2.1.1 d.1.2.1.2.1 d.2.1) (by kernel_rfl) (fun (d:Tys.data as85)=>ok85_t d.1.1.1 d.1.1.2.1 d.1.2.1.1 d.1.2.1.2.1 d.2.1)
def kf85 (P:Go.Program):Known:=(kl85_0 P).func 85 p85
theorem kf85_ok:KnownOk Go.Proofs.Tryz.prog (kf85 Go.Proofs.Tryz.prog):=kl85_0_ok.func ok85
abbrev sh123_0:Sh:={ n:=15,slots:=[0,1],pats:=[.ty (.int .i64),.ty (.int .i64)],boxes:=[] }
abbrev shb123_0:Sh:={ n:=15,slots:=[0],pats:=[.ty (.int .i64)],boxes:=[] }
abbrev shr123_0:Sh:={ n:=15,slots:=[],pats:=[],boxes:=[] }
def t123_0 (x0:Int) (x1:Int):Tr (Out sh123_0.data shb123_0.data shr123_0.data) :=
  Tr.test ((!eqF x1 0:Bool))
    (Tr.test (x1 == (0:Int))
      (Tr.stop)
      (Tr.fin (.again ((x1,((Int.tmod x0 x1:Int),())),()))))
    (Tr.fin (.brk ((x0,()),())))
def s123_0 (d:sh123_0.data):Option (Out sh123_0.data shb123_0.data shr123_0.data):=(t123_0 d.1.1 d.1.2.1).val
def l123_0 (d:sh123_0.data):Option (shb123_0.data ⊕ shr123_0.data):=itr s123_0 rounds d
def b123_0 (d:sh123_0.data):shb123_0.data:=outB shb123_0.dflt (l123_0 d)
def lc123_0:LoopC:=lcB sh123_0 shb123_0 shr123_0 l123_0 b123_0
theorem wk123_0 (x0:Int) (x1:Int):Walks (runBody (kf85 Go.Proofs.Tryz.prog).orc Go.Proofs.Tryz.prog 400 123 0 sh123_0 shb123_0 shr123_0 ((x0,x1,()),())) (t123_0 x0 x1) [([true,false],[2,4]),([ff],[2])] :=
  ⟨by kernel_rfl,by kernel_rfl,trivial⟩
theorem ok123_0_t (x0:Int) (x1:Int):TrOk (BodyRuns Go.Proofs.Tryz.prog (kf85 Go.Proofs.Tryz.prog).orc 123 0 sh123_0 shb123_0 shr123_0 ((x0,x1,()),())) (t123_0 x0 x1) :=
  Walks.ok (fun _ _ _=>BodyRuns.of) (wk123_0 x0 x1) (by kernel_rfl)
theorem ok123_0:LoopOk Go.Proofs.Tryz.prog 123 0 lc123_0:=loopOk_ofB (sh:=sh123_0) (shB:=shb123_0) (shR:=shr123_0) kf85_ok.base (T:=fun (d:sh123_0.data)=>t123_0 d.1.1 d.1.2.1) (by kernel_rfl) rfl (fun (d:sh123_0.data)=>ok123_0_t d.1.1 d.1.2.1) (fun _=>rfl)
def kl123_0 (P:Go.Program):Known:=(kf85 P).loop 123 0 lc123_0
theorem kl123_0_ok:KnownOk Go.Proofs.Tryz.prog (kl123_0 Go.Proofs.Tryz.prog):=kf85_ok.loop ok123_0
abbrev as123:List Ty:=[(.int .i64),(.int .i64)]
abbrev rs123:List Ty:=[(.int .i64)]
def t123 (x0:Int) (x1:Int):Tr (Tys.data rs123) :=
  Tr.test (isBrk (l123_0 ((x0,(x1,())),())))
    (let r0:=b123_0 ((x0,(x1,())),());
    Tr.fin (((if r0.1.1 < Go.IntKind.wrap Go.IntKind.i64 ((0:Int) - r0.1.1) then Go.IntKind.wrap Go.IntKind.i64 ((0:Int) - r0.1.1) else r0.1.1:Int),())))
    (Tr.stop)
def f123 (d:Tys.data as123):Option (Tys.data rs123):=(t123 d.1 d.2.1).val
def g123 (d:Tys.data as123):Tys.data rs123:=(f123 d).getD (Tys.dflt rs123)
def p123:PureC:=pcOf as123 rs123 f123 g123
theorem wk123 (x0:Int) (x1:Int):Walks (runPure (kl123_0 Go.Proofs.Tryz.prog).orc Go.Proofs.Tryz.prog 400 123 as123 rs123 (x0,x1,())) (t123 x0 x1) [([tt],[1,2])] :=
  ⟨by kernel_rfl,trivial⟩
theorem ok123_t (x0:Int) (x1:Int):TrOk (PureRuns Go.Proofs.Tryz.prog (kl123_0 Go.Proofs.Tryz.prog).orc 123 as123 rs123 (x0,x1,())) (t123 x0 x1) :=
  Walks.ok (fun _ _ _=>PureRuns.of) (wk123 x0 x1) (by kernel_rfl)
theorem ok123:PureOk Go.Proofs.Tryz.prog 123 p123:=pureOk_of kl123_0_ok.base (T:=fun (d:Tys.data as123)=>t123 d.1 d.2.1) (by kernel_rfl) (fun (d:Tys.data as123)=>ok123_t d.1 d.2.1)
def kf123 (P:Go.Program):Known:=(kl123_0 P).func 123 p123
theorem kf123_ok:KnownOk Go.Proofs.Tryz.prog (kf123 Go.Proofs.Tryz.prog):=kl123_0_ok.func ok123
abbrev as120:List Ty:=[(.int .i64),(.int .i64)]
abbrev rs120:List Ty:=[(.pair (.int .i64) (.pair (.int .i64) .unit))]
def t120 (x0:Int) (x1:Int):Tr (Tys.data rs120) :=
  Tr.test (Option.isSome (f123 (x1,(x0,()))))
    (let r0:=g123 (x1,(x0,()));
    Tr.test ((r0.1 == (0:Int):Bool))
      (Tr.stop)
      (Tr.fin ((((Go.IntKind.wrap Go.IntKind.i64 (Int.tdiv x0 r0.1):Int),((Go.IntKind.wrap Go.IntKind.i64 (Int.tdiv x1 r0.1):Int),())),()))))
    (Tr.stop)
def f120 (d:Tys.data as120):Option (Tys.data rs120):=(t120 d.1 d.2.1).val
def g120 (d:Tys.data as120):Tys.data rs120:=(f120 d).getD (Tys.dflt rs120)
def p120:PureC:=pcOf as120 rs120 f120 g120
theorem wk120 (x0:Int) (x1:Int):Walks (runPure (kf123 Go.Proofs.Tryz.prog).orc Go.Proofs.Tryz.prog 400 120 as120 rs120 (x0,x1,())) (t120 x0 x1) [([true,false],[2,2,4])] :=
  ⟨by kernel_rfl,trivial⟩
theorem ok120_t (x0:Int) (x1:Int):TrOk (PureRuns Go.Proofs.Tryz.prog (kf123 Go.Proofs.Tryz.prog).orc 120 as120 rs120 (x0,x1,())) (t120 x0 x1) :=
  Walks.ok (fun _ _ _=>PureRuns.of) (wk120 x0 x1) (by kernel_rfl)
theorem ok120:PureOk Go.Proofs.Tryz.prog 120 p120:=pureOk_of kf123_ok.base (T:=fun (d:Tys.data as120)=>t120 d.1 d.2.1) (by kernel_rfl) (fun (d:Tys.data as120)=>ok120_t d.1 d.2.1)
def kf120 (P:Go.Program):Known:=(kf123 P).func 120 p120
theorem kf120_ok:KnownOk Go.Proofs.Tryz.prog (kf120 Go.Proofs.Tryz.prog):=kf123_ok.func ok120
abbrev as119:List Ty:=[(.pair (.int .i64) (.pair (.int .i64) .unit)),(.pair (.int .i64) (.pair (.int .i64) .unit))]
abbrev rs119:List Ty:=[(.pair (.int .i64) (.pair (.int .i64) .unit))]
def t119 (x0:Int) (x0':Int) (x1:Int) (x1':Int):Tr (Tys.data rs119) :=
  Tr.test (Option.isSome (f120 ((wrap64 (wrap64 (x0 * x1') + wrap64 (x1 * x0')):Int),((wrap64 (x0' * x1'):Int),()))))
    (let r0:=g120 ((wrap64 (wrap64 (x0 * x1') + wrap64 (x1 * x0')):Int),((wrap64 (x0' * x1'):Int),()));
    Tr.fin (((r0.1.1,(r0.1.2.1,())),())))
    (Tr.stop)
def f119 (d:Tys.data as119):Option (Tys.data rs119):=(t119 d.1.1 d.1.2.1 d.2.1.1 d.2.1.2.1).val
def g119 (d:Tys.data as119):Tys.data rs119:=(f119 d).getD (Tys.dflt rs119)
def p119:PureC:=pcOf as119 rs119 f119 g119
theorem wk119 (x0:Int) (x0':Int) (x1:Int) (x1':Int):Walks (runPure (kf120 Go.Proofs.Tryz.prog).orc Go.Proofs.Tryz.prog 400 119 as119 rs119 ((x0,x0',()),(x1,x1',()),())) (t119 x0 x0' x1 x1') [([tt],[2])] :=
  ⟨by kernel_rfl,trivial⟩
theorem ok119_t (x0:Int) (x0':Int) (x1:Int) (x1':Int):TrOk (PureRuns Go.Proofs.Tryz.prog (kf120 Go.Proofs.Tryz.prog).orc 119 as119 rs119 ((x0,x0',()),(x1,x1',()),())) (t119 x0 x0' x1 x1') :=
  Walks.ok (fun _ _ _=>PureRuns.of) (wk119 x0 x0' x1 x1') (by kernel_rfl)
theorem ok119:PureOk Go.Proofs.Tryz.prog 119 p119:=pureOk_of kf120_ok.base (T:=fun (d:Tys.data as119)=>t119 d.1.1 d.1.2.1 d.2.1.1 d.2.1.2.1) (by kernel_rfl) (fun (d:Tys.data as119)=>ok119_t d.1.1 d.1.2.1 d.2.1.1 d.2.1.2.1)
def kf119 (P:Go.Program):Known:=(kf120 P).func 119 p119
theorem kf119_ok:KnownOk Go.Proofs.Tryz.prog (kf119 Go.Proofs.Tryz.prog):=kf120_ok.func ok119
abbrev sh80_0:Sh:={ n:=36,slots:=[1,3,4,16,17,18],pats:=[.ptr 0 4 0,.sli 1 2,.ptr 2 2 0,.ty (.slice (.int .i64)),.ty (.int .i64),.ty (.int .i64)],boxes:=[.row [.ty (.slice (.int .i64)),.ty (.slice (.int .i64)),.ty (.int .i64),.ty (.int .i64)],.arr (.pair (.int .i64) (.pair (.int .i64) .unit)),.row [.ty (.int .i64),.ty (.int .i64)]] }
abbrev shb80_0:Sh:={ n:=36,slots:=[3],pats:=[.sli 1 2],boxes:=[.row [.ty (.slice (.int .i64)),.ty (.slice (.int .i64)),.ty (.int .i64),.ty (.int .i64)],.arr (.pair (.int .i64) (.pair (.int .i64) .unit)),.row [.ty (.int .i64),.ty (.int .i64)]] }
abbrev shr80_0:Sh:={ n:=36,slots:=[],pats:=[],boxes:=[.row [.ty (.slice (.int .i64)),.ty (.slice (.int .i64)),.ty (.int .i64),.ty (.int .i64)],.arr (.pair (.int .i64) (.pair (.int .i64) .unit)),.row [.ty (.int .i64),.ty (.int .i64)]] }
def t80_0 (x1n:Nat) (x1c:Nat) (x3:(List Int)) (x4:Int) (x5:Int) (b0_0:(List Int)) (b0_1:(List Int)) (b0_2:Int) (b0_3:Int) (b1:(List (Int×(Int×Unit)))) (b2_0:Int) (b2_1:Int):Tr (Out sh80_0.data shb80_0.data shr80_0.data) :=
  Tr.test ((!leF x4 x5:Bool))
    (Tr.test (decide ((0:Int) ≤ x5) && decide (x5 < (↑(List.length x3):Int)))
      (Tr.test (Option.isSome (f85 (((b0_0,(b0_1,())),((b0_2,(b0_3,())),())),(x5,()))))
        (let r0:=g85 (((b0_0,(b0_1,())),((b0_2,(b0_3,())),())),(x5,()));
        Tr.test (Option.isSome (f120 (r0.1,((List.getD x3 (Int.toNat x5) (0:Int):Int),()))))
          (let r1:=g120 (r0.1,((List.getD x3 (Int.toNat x5) (0:Int):Int),()));
          Tr.test (Option.isSome (f119 ((b2_0,(b2_1,())),((r1.1.1,(r1.1.2.1,())),()))))
            (Tr.test ((decide ((0:Int) ≤ x5) && decide (x5 < (↑x1n:Int)):Bool))
              (Tr.test ((Nat.ble ((0:Nat) + Int.toNat x5 + (1:Nat)) (List.length b1):Bool))
                (let r2:=g119 ((b2_0,(b2_1,())),((r1.1.1,(r1.1.2.1,())),()));
                Tr.fin (.again (((x1n,x1c),(x3,(x4,((wrap64 (x5 + (1:Int)):Int),())))),((b0_0,(b0_1,(b0_2,(b0_3,())))),((List.set b1 ((0:Nat) + Int.toNat x5) (r2.1.1,r2.1.2.1,()):List (Int×Int×PUnit)),((r2.1.1,(r2.1.2.1,())),()))))))
                (Tr.stop))
              (Tr.stop))
            (Tr.stop))
          (Tr.stop))
        (Tr.stop))
      (Tr.stop))
    (Tr.fin (.brk (((x1n,x1c),()),((b0_0,(b0_1,(b0_2,(b0_3,())))),(b1,((b2_0,(b2_1,())),()))))))
def s80_0 (d:sh80_0.data):Option (Out sh80_0.data shb80_0.data shr80_0.data):=(t80_0 d.1.1.1 d.1.1.2 d.1.2.1 d.1.2.2.1 d.1.2.2.2.1 d.2.1.1 d.2.1.2.1 d.2.1.2.2.1 d.2.1.2.2.2.1 d.2.2.1 d.2.2.2.1.1 d.2.2.2.1.2.1).val
def l80_0 (d:sh80_0.data):Option (shb80_0.data ⊕ shr80_0.data):=itr s80_0 rounds d
def b80_0 (d:sh80_0.data):shb80_0.data:=outB shb80_0.dflt (l80_0 d)
def lc80_0:LoopC:=lcB sh80_0 shb80_0 shr80_0 l80_0 b80_0
theorem wk80_0 (x1n:Nat) (x1c:Nat) (x3:(List Int)) (x4:Int) (x5:Int) (b0_0:(List Int)) (b0_1:(List Int)) (b0_2:Int) (b0_3:Int) (b1:(List (Int×(Int×Unit)))) (b2_0:Int) (b2_1:Int):Walks (runBody (kf119 Go.Proofs.Tryz.prog).orc Go.Proofs.Tryz.prog 400 80 0 sh80_0 shb80_0 shr80_0 (((x1n,x1c),x3,x4,x5,()),(b0_0,b0_1,b0_2,b0_3,()),b1,(b2_0,b2_1,()),())) (t80_0 x1n x1c x3 x4 x5 b0_0 b0_1 b0_2 b0_3 b1 b2_0 b2_1) [([true,true,true,true,true,true,true],[2,4,6,8,10,12,14]),([ff],[2])] :=
  ⟨by kernel_rfl,by kernel_rfl,trivial⟩
theorem ok80_0_t (x1n:Nat) (x1c:Nat) (x3:(List Int)) (x4:Int) (x5:Int) (b0_0:(List Int)) (b0_1:(List Int)) (b0_2:Int) (b0_3:Int) (b1:(List (Int×(Int×Unit)))) (b2_0:Int) (b2_1:Int):TrOk (BodyRuns Go.Proofs.Tryz.prog (kf119 Go.Proofs.Tryz.prog).orc 80 0 sh80_0 shb80_0 shr80_0 (((x1n,x1c),x3,x4,x5,()),(b0_0,b0_1,b0_2,b0_3,()),b1,(b2_0,b2_1,()),())) (t80_0 x1n x1c x3 x4 x5 b0_0 b0_1 b0_2 b0_3 b1 b2_0 b2_1) :=
  Walks.ok (fun _ _ _=>BodyRuns.of) (wk80_0 x1n x1c x3 x4 x5 b0_0 b0_1 b0_2 b0_3 b1 b2_0 b2_1) (by kernel_rfl)
theorem ok80_0:LoopOk Go.Proofs.Tryz.prog 80 0 lc80_0:=loopOk_ofB (sh:=sh80_0) (shB:=shb80_0) (shR:=shr80_0) kf119_ok.base (T:=fun (d:sh80_0.data)=>t80_0 d.1.1.1 d.1.1.2 d.1.2.1 d.1.2.2.1 d.1.2.2.2.1 d.2.1.1 d.2.1.2.1 d.2.1.2.2.1 d.2.1.2.2.2.1 d.2.2.1 d.2.2.2.1.1 d.2.2.2.1.2.1) (by kernel_rfl) rfl (fun (d:sh80_0.data)=>ok80_0_t d.1.1.1 d.1.1.2 d.1.2.1 d.1.2.2.1 d.1.2.2.2.1 d.2.1.1 d.2.1.2.1 d.2.1.2.2.1 d.2.1.2.2.2.1 d.2.2.1 d.2.2.2.1.1 d.2.2.2.1.2.1) (fun _=>rfl)
def kl80_0 (P:Go.Program):Known:=(kf119 P).loop 80 0 lc80_0
theorem kl80_0_ok:KnownOk Go.Proofs.Tryz.prog (kl80_0 Go.Proofs.Tryz.prog):=kf119_ok.loop ok80_0
abbrev as80:List Ty:=[(.pair (.pair (.slice (.int .i64)) (.pair (.slice (.int .i64)) .unit)) (.pair (.pair (.int .i64) (.pair (.int .i64) .unit)) .unit))]
abbrev rs80:List Ty:=[(.slice (.pair (.int .i64) (.pair (.int .i64) .unit)))]
def t80 (x0_:(List Int)) (x0_':(List Int)) (x0'_:Int) (x0'_':Int):Tr (Tys.data rs80) :=
  Tr.test ((decide ((0:Int) ≤ (↑(List.length x0_):Int)) && decide ((↑(List.length x0_):Int) ≤ (↑(List.length x0_):Int)) && decide ((16:Int) * (↑(List.length x0_):Int) ≤ (281474976710656:Int)) && decide ((↑(List.length x0_):Int) ≤ (281474976710656:Int)):Bool))
    (Tr.test (isBrk (l80_0 ((((Int.toNat (↑(List.length x0_):Int):Nat),(Int.toNat (↑(List.length x0_):Int):Nat)),(x0_,((↑(List.length x0_):Int),((0:Int),())))),((x0_,(x0_',(x0'_,(x0'_',())))),((List.replicate (Int.toNat (↑(List.length x0_):Int)) ((0:Int),(0:Int),()):List (Int×Int×PUnit)),((x0'_,(x0'_',())),()))))))
      (let r0:=b80_0 ((((Int.toNat (↑(List.length x0_):Int):Nat),(Int.toNat (↑(List.length x0_):Int):Nat)),(x0_,((↑(List.length x0_):Int),((0:Int),())))),((x0_,(x0_',(x0'_,(x0'_',())))),((List.replicate (Int.toNat (↑(List.length x0_):Int)) ((0:Int),(0:Int),()):List (Int×Int×PUnit)),((x0'_,(x0'_',())),()))));
      Tr.test ((Nat.beq r0.1.1.1 (List.length r0.2.2.1):Bool))
        (Tr.fin ((r0.2.2.1,())))
        (Tr.test ((Nat.ble r0.1.1.1 (List.length r0.2.2.1):Bool))
          (Tr.fin (((List.take r0.1.1.1 r0.2.2.1:List (Int×Int×PUnit)),())))
          (Tr.stop)))
      (Tr.stop))
    (Tr.stop)
def f80 (d:Tys.data as80):Option (Tys.data rs80):=(t80 d.1.1.1 d.1.1.2.1 d.1.2.1.1 d.1.2.1.2.1).val
def g80 (d:Tys.data as80):Tys.data rs80:=(f80 d).getD (Tys.dflt rs80)
def p80:PureC:=pcOf as80 rs80 f80 g80
theorem wk80 (x0_:(List Int)) (x0_':(List Int)) (x0'_:Int) (x0'_':Int):Walks (runPure (kl80_0 Go.Proofs.Tryz.prog).orc Go.Proofs.Tryz.prog 400 80 as80 rs80 (((x0_,x0_',()),(x0'_,x0'_',()),()),())) (t80 x0_ x0_' x0'_ x0'_') [([true,true,true],[2,1,4,6]),([true,true,false,true],[2,4,1,6,8])] :=
  ⟨by kernel_rfl,by kernel_rfl,trivial⟩
theorem ok80_t (x0_:(List Int)) (x0_':(List Int)) (x0'_:Int) (x0'_':Int):TrOk (PureRuns Go.Proofs.Tryz.prog (kl80_0 Go.Proofs.Tryz.prog).orc 80 as80 rs80 (((x0_,x0_',()),(x0'_,x0'_',()),()),())) (t80 x0_ x0_' x0'_ x0'_') :=
  Walks.ok (fun _ _ _=>PureRuns.of) (wk80 x0_ x0_' x0'_ x0'_') (by kernel_rfl)
theorem ok80:PureOk Go.Proofs.Tryz.prog 80 p80:=pureOk_of kl80_0_ok.base (T:=fun (d:Tys.data as80)=>t80 d.1.1.1 d.1.1.2.1 d.1.2.1.1 d.1.2.1.2.1) (by kernel_rfl) (fun (d:Tys.data as80)=>ok80_t d.1.1.1 d.1.1.2.1 d.1.2.1.1 d.1.2.1.2.1)
def kf80 (P:Go.Program):Known:=(kl80_0 P).func 80 p80
theorem kf80_ok:KnownOk Go.Proofs.Tryz.prog (kf80 Go.Proofs.Tryz.prog):=kl80_0_ok.func ok80
abbrev sh86_0:Sh:={ n:=25,slots:=[1,9,10,11],pats:=[.fn 121 [],.ty (.slice (.pair (.int .i64) (.pair (.int .i64) .unit))),.ty (.int .i64),.ty (.int .i64)],boxes:=[] }
abbrev shb86_0:Sh:={ n:=25,slots:=[],pats:=[],boxes:=[] }
abbrev shr86_0:Sh:={ n:=25,slots:=[4,5],pats:=[.ty (.int .i64),.ty (.int .i64)],boxes:=[] }
def t86_0 (x1:(List (Int×(Int×Unit)))) (x2:Int) (x3:Int):Tr (Out sh86_0.data shb86_0.data shr86_0.data) :=
  Tr.test ((!leF x2 x3:Bool))
    (Tr.test (decide ((0:Int) ≤ x3) && decide (x3 < (↑(List.length x1):Int)))
      (Tr.test (Option.isSome (f78 ((1000000000:Int),(([(List.getD x1 (Int.toNat x3) ((0:Int),(0:Int),())).1,(List.getD x1 (Int.toNat x3) ((0:Int),(0:Int),())).2.1]:List Int),()))))
        (let r0:=g78 ((1000000000:Int),(([(List.getD x1 (Int.toNat x3) ((0:Int),(0:Int),())).1,(List.getD x1 (Int.toNat x3) ((0:Int),(0:Int),())).2.1]:List Int),()));
        Tr.test (Option.isSome (f60 (r0.1,((8:Int),()))))
          (let r1:=g60 (r0.1,((8:Int),()));
          Tr.test ((!eqF r1.1 0:Bool))
            (Tr.fin (.ret ((x3,(r1.1,())),())))
            (Tr.fin (.again ((x1,(x2,((wrap64 (x3 + (1:Int)):Int),()))),()))))
          (Tr.stop))
        (Tr.stop))
      (Tr.stop))
    (Tr.fin (.brk ((),())))
def s86_0 (d:sh86_0.data):Option (Out sh86_0.data shb86_0.data shr86_0.data):=(t86_0 d.1.1 d.1.2.1 d.1.2.2.1).val
def l86_0 (d:sh86_0.data):Option (shb86_0.data ⊕ shr86_0.data):=itr s86_0 rounds d
def b86_0 (d:sh86_0.data):shb86_0.data:=outB shb86_0.dflt (l86_0 d)
def r86_0 (d:sh86_0.data):shr86_0.data:=outR shr86_0.dflt (l86_0 d)
def lc86_0:LoopC:=lcOf sh86_0 shb86_0 shr86_0 l86_0 b86_0 r86_0
theorem wk86_0 (x1:(List (Int×(Int×Unit)))) (x2:Int) (x3:Int):Walks (runBody (kf80 Go.Proofs.Tryz.prog).orc Go.Proofs.Tryz.prog 400 86 0 sh86_0 shb86_0 shr86_0 ((x1,x2,x3,()),())) (t86_0 x1 x2 x3) [([true,true,true,true,true],[2,4,6,8,10]),([true,true,true,true,false],[2,4,6,8,10]),([ff],[2])] :=
  ⟨by kernel_rfl,by kernel_rfl,by kernel_rfl,trivial⟩
theorem ok86_0_t (x1:(List (Int×(Int×Unit)))) (x2:Int) (x3:Int):TrOk (BodyRuns Go.Proofs.Tryz.prog (kf80 Go.Proofs.Tryz.prog).orc 86 0 sh86_0 shb86_0 shr86_0 ((x1,x2,x3,()),())) (t86_0 x1 x2 x3) :=
  Walks.ok (fun _ _ _=>BodyRuns.of) (wk86_0 x1 x2 x3) (by kernel_rfl)
theorem ok86_0:LoopOk Go.Proofs.Tryz.prog 86 0 lc86_0:=loopOk_of (sh:=sh86_0) (shB:=shb86_0) (shR:=shr86_0) kf80_ok.base (T:=fun (d:sh86_0.data)=>t86_0 d.1.1 d.1.2.1 d.1.2.2.1) (by kernel_rfl) rfl (fun (d:sh86_0.data)=>ok86_0_t d.1.1 d.1.2.1 d.1.2.2.1) (fun _=>rfl)
def kl86_0 (P:Go.Program):Known:=(kf80 P).loop 86 0 lc86_0
theorem kl86_0_ok:KnownOk Go.Proofs.Tryz.prog (kl86_0 Go.Proofs.Tryz.prog):=kf80_ok.loop ok86_0
abbrev as81:List Ty:=[(.slice (.pair (.int .i64) (.pair (.int .i64) .unit)))]
abbrev rs81:List Ty:=[(.int .i64)]
def t81 (x0:(List (Int×(Int×Unit)))):Tr (Tys.data rs81) :=
  Tr.test (Option.isSome (l86_0 ((x0,((↑(List.length x0):Int),((0:Int),()))),())))
    (Tr.test (isRet (l86_0 ((x0,((↑(List.length x0):Int),((0:Int),()))),())))
      (let r0:=r86_0 ((x0,((↑(List.length x0):Int),((0:Int),()))),());
      Tr.fin ((r0.1.2.1,())))
      (Tr.fin (((0:Int),()))))
    (Tr.stop)
def f81 (d:Tys.data as81):Option (Tys.data rs81):=(t81 d.1).val
def g81 (d:Tys.data as81):Tys.data rs81:=(f81 d).getD (Tys.dflt rs81)
def p81:PureC:=pcOf as81 rs81 f81 g81
theorem wk81 (x0:(List (Int×(Int×Unit)))):Walks (runPure (kl86_0 Go.Proofs.Tryz.prog).orc Go.Proofs.Tryz.prog 400 81 as81 rs81 (x0,())) (t81 x0) [([true,true],[2,4]),([true,false],[2,4])] :=
  ⟨by kernel_rfl,by kernel_rfl,trivial⟩
theorem ok81_t (x0:(List (Int×(Int×Unit)))):TrOk (PureRuns Go.Proofs.Tryz.prog (kl86_0 Go.Proofs.Tryz.prog).orc 81 as81 rs81 (x0,())) (t81 x0) :=
  Walks.ok (fun _ _ _=>PureRuns.of) (wk81 x0) (by kernel_rfl)
theorem ok81:PureOk Go.Proofs.Tryz.prog 81 p81:=pureOk_of kl86_0_ok.base (T:=fun (d:Tys.data as81)=>t81 d.1) (by kernel_rfl) (fun (d:Tys.data as81)=>ok81_t d.1)
def kf81 (P:Go.Program):Known:=(kl86_0 P).func 81 p81
theorem kf81_ok:KnownOk Go.Proofs.Tryz.prog (kf81 Go.Proofs.Tryz.prog):=kl86_0_ok.func ok81
abbrev as22:List Ty:=[(.pair (.slice (.int .i64)) (.pair (.slice (.int .i64)) .unit))]
abbrev rs22:List Ty:=[(.slice (.pair (.int .i64) (.pair (.int .i64) .unit))),(.int .i64)]
def t22 (x0:(List Int)) (x0':(List Int)):Tr (Tys.data rs22) :=
  Tr.test (Option.isSome (f79 ((x0,(x0',())),())))
    (let r0:=g79 ((x0,(x0',())),());
    Tr.test ((!eqF r0.2.1 0:Bool))
      (Tr.fin ((([]:List (Int×Int×PUnit)),(r0.2.1,()))))
      (Tr.test (Option.isSome (f80 (((r0.1.1.1,(r0.1.1.2.1,())),((r0.1.2.1.1,(r0.1.2.1.2.1,())),())),())))
        (let r1:=g80 (((r0.1.1.1,(r0.1.1.2.1,())),((r0.1.2.1.1,(r0.1.2.1.2.1,())),())),());
        Tr.test (Option.isSome (f81 (r1.1,())))
          (let r2:=g81 (r1.1,());
          Tr.test ((!eqF r2.1 0:Bool))
            (Tr.fin ((([]:List (Int×Int×PUnit)),(r2.1,()))))
            (Tr.fin ((r1.1,((0:Int),())))))
          (Tr.stop))
        (Tr.stop)))
    (Tr.stop)
def f22 (d:Tys.data as22):Option (Tys.data rs22):=(t22 d.1.1 d.1.2.1).val
def g22 (d:Tys.data as22):Tys.data rs22:=(f22 d).getD (Tys.dflt rs22)
def p22:PureC:=pcOf as22 rs22 f22 g22
theorem wk22 (x0:(List Int)) (x0':(List Int)):Walks (runPure (kf81 Go.Proofs.Tryz.prog).orc Go.Proofs.Tryz.prog 400 22 as22 rs22 ((x0,x0',()),())) (t22 x0 x0') [([true,true],[2,4]),([true,false,true,true,true],[2,4,6,8,10]),([true,false,true,true,false],[2,4,6,8,10])] :=
  ⟨by kernel_rfl,by kernel_rfl,by kernel_rfl,trivial⟩
theorem ok22_t (x0:(List Int)) (x0':(List Int)):TrOk (PureRuns Go.Proofs.Tryz.prog (kf81 Go.Proofs.Tryz.prog).orc 22 as22 rs22 ((x0,x0',()),())) (t22 x0 x0') :=
  Walks.ok (fun _ _ _=>PureRuns.of) (wk22 x0 x0') (by kernel_rfl)
theorem ok22:PureOk Go.Proofs.Tryz.prog 22 p22:=pureOk_of kf81_ok.base (T:=fun (d:Tys.data as22)=>t22 d.1.1 d.1.2.1) (by kernel_rfl) (fun (d:Tys.data as22)=>ok22_t d.1.1 d.1.2.1)
def kf22 (P:Go.Program):Known:=(kf81 P).func 22 p22
theorem kf22_ok:KnownOk Go.Proofs.Tryz.prog (kf22 Go.Proofs.Tryz.prog):=kf81_ok.func ok22
abbrev as82:List Ty:=[(.pair (.pair (.slice (.int .i64)) (.pair (.slice (.int .i64)) .unit)) (.pair (.pair (.int .i64) (.pair (.int .i64) .unit)) .unit)),(.int .i64)]
abbrev rs82:List Ty:=[(.int .i64)]
def t82 (x0_:(List Int)) (x0_':(List Int)) (x0'_:Int) (x0'_':Int) (x1:Int):Tr (Tys.data rs82) :=
  Tr.test (Option.isSome (f77 ((0:Int),((wrap64 ((↑(List.length x0_):Int) - (1:Int)):Int),(([x1]:List Int),())))))
    (let r0:=g77 ((0:Int),((wrap64 ((↑(List.length x0_):Int) - (1:Int)):Int),(([x1]:List Int),())));
    Tr.test (Option.isSome (f60 ((!r0.1:Bool),((6:Int),()))))
      (let r1:=g60 ((!r0.1:Bool),((6:Int),()));
      Tr.fin ((r1.1,())))
      (Tr.stop))
    (Tr.stop)
def f82 (d:Tys.data as82):Option (Tys.data rs82):=(t82 d.1.1.1 d.1.1.2.1 d.1.2.1.1 d.1.2.1.2.1 d.2.1).val
def g82 (d:Tys.data as82):Tys.data rs82:=(f82 d).getD (Tys.dflt rs82)
def p82:PureC:=pcOf as82 rs82 f82 g82
theorem wk82 (x0_:(List Int)) (x0_':(List Int)) (x0'_:Int) (x0'_':Int) (x1:Int):Walks (runPure (kf22 Go.Proofs.Tryz.prog).orc Go.Proofs.Tryz.prog 400 82 as82 rs82 (((x0_,x0_',()),(x0'_,x0'_',()),()),x1,())) (t82 x0_ x0_' x0'_ x0'_' x1) [([true,true],[2,4])] :=
  ⟨by kernel_rfl,trivial⟩
theorem ok82_t (x0_:(List Int)) (x0_':(List Int)) (x0'_:Int) (x0'_':Int) (x1:Int):TrOk (PureRuns Go.Proofs.Tryz.prog (kf22 Go.Proofs.Tryz.prog).orc 82 as82 rs82 (((x0_,x0_',()),(x0'_,x0'_',()),()),x1,())) (t82 x0_ x0_' x0'_ x0'_' x1) :=
  Walks.ok (fun _ _ _=>PureRuns.of) (wk82 x0_ x0_' x0'_ x0'_' x1) (by kernel_rfl)
theorem ok82:PureOk Go.Proofs.Tryz.prog 82 p82:=pureOk_of kf22_ok.base (T:=fun (d:Tys.data as82)=>t82 d.1.1.1 d.1.1.2.1 d.1.2.1.1 d.1.2.1.2.1 d.2.1) (by kernel_rfl) (fun (d:Tys.data as82)=>ok82_t d.1.1.1 d.1.1.2.1 d.1.2.1.1 d.1.2.1.2.1 d.2.1)
def kf82 (P:Go.Program):Known:=(kf22 P).func 82 p82
theorem kf82_ok:KnownOk Go.Proofs.Tryz.prog (kf82 Go.Proofs.Tryz.prog):=kf22_ok.func ok82
abbrev as83:List Ty:=[(.pair (.pair (.slice (.int .i64)) (.pair (.slice (.int .i64)) .unit)) (.pair (.pair (.int .i64) (.pair (.int .i64) .unit)) .unit)),(.int .i64)]
abbrev rs83:List Ty:=[(.pair (.pair (.slice (.int .i64)) (.pair (.slice (.int .i64)) .unit)) (.pair (.pair (.int .i64) (.pair (.int .i64) .unit)) .unit))]
def t83 (x0_:(List Int)) (x0_':(List Int)) (x0'_:Int) (x0'_':Int) (x1:Int):Tr (Tys.data rs83) :=
  Tr.test ((decide ((0:Int) ≤ wrap64 (x1 + (1:Int))) && decide (wrap64 (x1 + (1:Int)) ≤ wrap64 (x1 + (1:Int))) && decide ((8:Int) * wrap64 (x1 + (1:Int)) ≤ (281474976710656:Int)) && decide (wrap64 (x1 + (1:Int)) ≤ (281474976710656:Int)):Bool))
    (Tr.test (Nat.ble (List.length x0_') (Int.toNat (wrap64 (x1 + (1:Int)))))
      (Tr.test ((Nat.ble ((0:Nat) + List.length x0_') (List.length (List.replicate (Int.toNat (wrap64 (x1 + (1:Int)))) (0:Int))):Bool))
        (Tr.test (Option.isSome (f85 (((x0_,(x0_',())),((x0'_,(x0'_',())),())),(x1,()))))
          (Tr.test ((decide ((0:Int) ≤ x1) && decide (x1 < (↑(Int.toNat (wrap64 (x1 + (1:Int)))):Int)):Bool))
            (Tr.test ((Nat.ble ((0:Nat) + Int.toNat x1 + (1:Nat)) (List.length (List.take (0:Nat) (List.replicate (Int.toNat (wrap64 (x1 + (1:Int)))) (0:Int))++(List.take (List.length x0_') x0_'++List.drop ((0:Nat) + List.length x0_') (List.replicate (Int.toNat (wrap64 (x1 + (1:Int)))) (0:Int))))):Bool))
              (Tr.test ((decide ((0:Int) ≤ wrap64 (x1 + (1:Int))) && decide (wrap64 (x1 + (1:Int)) ≤ (↑(List.length x0_):Int)):Bool))
                (let r0:=g85 (((x0_,(x0_',())),((x0'_,(x0'_',())),())),(x1,()));
                Tr.test ((Nat.beq (Int.toNat (wrap64 (x1 + (1:Int)))) (List.length (List.set (List.take (0:Nat) (List.replicate (Int.toNat (wrap64 (x1 + (1:Int)))) (0:Int))++(List.take (List.length x0_') x0_'++List.drop ((0:Nat) + List.length x0_') (List.replicate (Int.toNat (wrap64 (x1 + (1:Int)))) (0:Int)))) ((0:Nat) + Int.toNat x1) r0.1)):Bool))
                  (Tr.fin (((((List.take (Int.toNat (wrap64 (x1 + (1:Int)))) x0_:List Int),((List.set (List.take (0:Nat) (List.replicate (Int.toNat (wrap64 (x1 + (1:Int)))) (0:Int))++(List.take (List.length x0_') x0_'++List.drop ((0:Nat) + List.length x0_') (List.replicate (Int.toNat (wrap64 (x1 + (1:Int)))) (0:Int)))) ((0:Nat) + Int.toNat x1) r0.1:List Int),())),((x0'_,(x0'_',())),())),())))
                  (Tr.test ((Nat.ble (Int.toNat (wrap64 (x1 + (1:Int)))) (List.length (List.set (List.take (0:Nat) (List.replicate (Int.toNat (wrap64 (x1 + (1:Int)))) (0:Int))++(List.take (List.length x0_') x0_'++List.drop ((0:Nat) + List.length x0_') (List.replicate (Int.toNat (wrap64 (x1 + (1:Int)))) (0:Int)))) ((0:Nat) + Int.toNat x1) r0.1)):Bool))
                    (Tr.fin (((((List.take (Int.toNat (wrap64 (x1 + (1:Int)))) x0_:List Int),((List.take (Int.toNat (wrap64 (x1 + (1:Int)))) (List.set (List.take (0:Nat) (List.replicate (Int.toNat (wrap64 (x1 + (1:Int)))) (0:Int))++(List.take (List.length x0_') x0_'++List.drop ((0:Nat) + List.length x0_') (List.replicate (Int.toNat (wrap64 (x1 + (1:Int)))) (0:Int)))) ((0:Nat) + Int.toNat x1) r0.1):List Int),())),((x0'_,(x0'_',())),())),())))
                    (Tr.stop)))
                (Tr.stop))
              (Tr.stop))
            (Tr.stop))
          (Tr.stop))
        (Tr.stop))
      (Tr.test ((Nat.ble ((0:Nat) + Int.toNat (wrap64 (x1 + (1:Int)))) (List.length (List.replicate (Int.toNat (wrap64 (x1 + (1:Int)))) (0:Int))):Bool))
        (Tr.test (Option.isSome (f85 (((x0_,(x0_',())),((x0'_,(x0'_',())),())),(x1,()))))
          (Tr.test ((decide ((0:Int) ≤ x1) && decide (x1 < (↑(Int.toNat (wrap64 (x1 + (1:Int)))):Int)):Bool))
            (Tr.test ((Nat.ble ((0:Nat) + Int.toNat x1 + (1:Nat)) (List.length (List.take (0:Nat) (List.replicate (Int.toNat (wrap64 (x1 + (1:Int)))) (0:Int))++(List.take (Int.toNat (wrap64 (x1 + (1:Int)))) x0_'++List.drop ((0:Nat) + Int.toNat (wrap64 (x1 + (1:Int)))) (List.replicate (Int.toNat (wrap64 (x1 + (1:Int)))) (0:Int))))):Bool))
              (Tr.test ((decide ((0:Int) ≤ wrap64 (x1 + (1:Int))) && decide (wrap64 (x1 + (1:Int)) ≤ (↑(List.length x0_):Int)):Bool))
                (let r0:=g85 (((x0_,(x0_',())),((x0'_,(x0'_',())),())),(x1,()));
                Tr.test ((Nat.beq (Int.toNat (wrap64 (x1 + (1:Int)))) (List.length (List.set (List.take (0:Nat) (List.replicate (Int.toNat (wrap64 (x1 + (1:Int)))) (0:Int))++(List.take (Int.toNat (wrap64 (x1 + (1:Int)))) x0_'++List.drop ((0:Nat) + Int.toNat (wrap64 (x1 + (1:Int)))) (List.replicate (Int.toNat (wrap64 (x1 + (1:Int)))) (0:Int)))) ((0:Nat) + Int.toNat x1) r0.1)):Bool))
                  (Tr.fin (((((List.take (Int.toNat (wrap64 (x1 + (1:Int)))) x0_:List Int),((List.set (List.take (0:Nat) (List.replicate (Int.toNat (wrap64 (x1 + (1:Int)))) (0:Int))++(List.take (Int.toNat (wrap64 (x1 + (1:Int)))) x0_'++List.drop ((0:Nat) + Int.toNat (wrap64 (x1 + (1:Int)))) (List.replicate (Int.toNat (wrap64 (x1 + (1:Int)))) (0:Int)))) ((0:Nat) + Int.toNat x1) r0.1:List Int),())),((x0'_,(x0'_',())),())),())))
                  (Tr.test ((Nat.ble (Int.toNat (wrap64 (x1 + (1:Int)))) (List.length (List.set (List.take (0:Nat) (List.replicate (Int.toNat (wrap64 (x1 + (1:Int)))) (0:Int))++(List.take (Int.toNat (wrap64 (x1 + (1:Int)))) x0_'++List.drop ((0:Nat) + Int.toNat (wrap64 (x1 + (1:Int)))) (List.replicate (Int.toNat (wrap64 (x1 + (1:Int)))) (0:Int)))) ((0:Nat) + Int.toNat x1) r0.1)):Bool))
                    (Tr.fin (((((List.take (Int.toNat (wrap64 (x1 + (1:Int)))) x0_:List Int),((List.take (Int.toNat (wrap64 (x1 + (1:Int)))) (List.set (List.take (0:Nat) (List.replicate (Int.toNat (wrap64 (x1 + (1:Int)))) (0:Int))++(List.take (Int.toNat (wrap64 (x1 + (1:Int)))) x0_'++List.drop ((0:Nat) + Int.toNat (wrap64 (x1 + (1:Int)))) (List.replicate (Int.toNat (wrap64 (x1 + (1:Int)))) (0:Int)))) ((0:Nat) + Int.toNat x1) r0.1):List Int),())),((x0'_,(x0'_',())),())),())))
                    (Tr.stop)))
                (Tr.stop))
              (Tr.stop))
            (Tr.stop))
          (Tr.stop))
        (Tr.stop)))
    (Tr.stop)
def f83 (d:Tys.data as83):Option (Tys.data rs83):=(t83 d.1.1.1 d.1.1.2.1 d.1.2.1.1 d.1.2.1.2.1 d.2.1).val
def g83 (d:Tys.data as83):Tys.data rs83:=(f83 d).getD (Tys.dflt rs83)
def p83:PureC:=pcOf as83 rs83 f83 g83
theorem wk83 (x0_:(List Int)) (x0_':(List Int)) (x0'_:Int) (x0'_':Int) (x1:Int):Walks (runPure (kf82 Go.Proofs.Tryz.prog).orc Go.Proofs.Tryz.prog 400 83 as83 rs83 (((x0_,x0_',()),(x0'_,x0'_',()),()),x1,())) (t83 x0_ x0_' x0'_ x0'_' x1) [([true,true,true,true,true,true,true,true],[2,4,6,8,10,12,14,16]),([true,true,true,true,true,true,true,false,true],[2,4,6,8,10,12,14,16,18]),([true,false,true,true,true,true,true,true],[2,4,6,8,10,12,14,16]),([true,false,true,true,true,true,true,false,true],[2,4,6,8,10,12,14,16,18])] :=
  ⟨by kernel_rfl,by kernel_rfl,by kernel_rfl,by kernel_rfl,trivial⟩
theorem ok83_t (x0_:(List Int)) (x0_':(List Int)) (x0'_:Int) (x0'_':Int) (x1:Int):TrOk (PureRuns Go.Proofs.Tryz.prog (kf82 Go.Proofs.Tryz.prog).orc 83 as83 rs83 (((x0_,x0_',()),(x0'_,x0'_',()),()),x1,())) (t83 x0_ x0_' x0'_ x0'_' x1) :=
  Walks.ok (fun _ _ _=>PureRuns.of) (wk83 x0_ x0_' x0'_ x0'_' x1) (by kernel_rfl)
theorem ok83:PureOk Go.Proofs.Tryz.prog 83 p83:=pureOk_of kf82_ok.base (T:=fun (d:Tys.data as83)=>t83 d.1.1.1 d.1.1.2.1 d.1.2.1.1 d.1.2.1.2.1 d.2.1) (by kernel_rfl) (fun (d:Tys.data as83)=>ok83_t d.1.1.1 d.1.1.2.1 d.1.2.1.1 d.1.2.1.2.1 d.2.1)
def kf83 (P:Go.Program):Known:=(kf82 P).func 83 p83
theorem kf83_ok:KnownOk Go.Proofs.Tryz.prog (kf83 Go.Proofs.Tryz.prog):=kf82_ok.func ok83
abbrev as84:List Ty:=[(.pair (.pair (.slice (.int .i64)) (.pair (.slice (.int .i64)) .unit)) (.pair (.pair (.int .i64) (.pair (.int .i64) .unit)) .unit)),(.int .i64),(.pair (.int .i64) (.pair (.int .i64) .unit))]
abbrev rs84:List Ty:=[(.pair (.pair (.slice (.int .i64)) (.pair (.slice (.int .i64)) .unit)) (.pair (.pair (.int .i64) (.pair (.int .i64) .unit)) .unit))]
def t84 (x0_:(List Int)) (x0_':(List Int)) (x0'_:Int) (x0'_':Int) (x1:Int) (x2:Int) (x2':Int):Tr (Tys.data rs84) :=
  Tr.test ((decide ((0:Int) ≤ wrap64 (x1 + (1:Int))) && decide (wrap64 (x1 + (1:Int)) ≤ (↑(List.length x0_):Int)):Bool))
    (Tr.test (decide ((0:Int) ≤ wrap64 (x1 + (1:Int))) && decide (wrap64 (x1 + (1:Int)) ≤ (↑(List.length x0_'):Int)))
      (Tr.fin (((((List.drop (Int.toNat (wrap64 (x1 + (1:Int)))) x0_:List Int),((List.drop (Int.toNat (wrap64 (x1 + (1:Int)))) x0_':List Int),())),((x2,(x2',())),())),())))
      (Tr.stop))
    (Tr.stop)
def f84 (d:Tys.data as84):Option (Tys.data rs84):=(t84 d.1.1.1 d.1.1.2.1 d.1.2.1.1 d.1.2.1.2.1 d.2.1 d.2.2.1.1 d.2.2.1.2.1).val
def g84 (d:Tys.data as84):Tys.data rs84:=(f84 d).getD (Tys.dflt rs84)
def p84:PureC:=pcOf as84 rs84 f84 g84
theorem wk84 (x0_:(List Int)) (x0_':(List Int)) (x0'_:Int) (x0'_':Int) (x1:Int) (x2:Int) (x2':Int):Walks (runPure (kf83 Go.Proofs.Tryz.prog).orc Go.Proofs.Tryz.prog 400 84 as84 rs84 (((x0_,x0_',()),(x0'_,x0'_',()),()),x1,(x2,x2',()),())) (t84 x0_ x0_' x0'_ x0'_' x1 x2 x2') [([true,true],[2,4])] :=
  ⟨by kernel_rfl,trivial⟩
theorem ok84_t (x0_:(List Int)) (x0_':(List Int)) (x0'_:Int) (x0'_':Int) (x1:Int) (x2:Int) (x2':Int):TrOk (PureRuns Go.Proofs.Tryz.prog (kf83 Go.Proofs.Tryz.prog).orc 84 as84 rs84 (((x0_,x0_',()),(x0'_,x0'_',()),()),x1,(x2,x2',()),())) (t84 x0_ x0_' x0'_ x0'_' x1 x2 x2') :=
  Walks.ok (fun _ _ _=>PureRuns.of) (wk84 x0_ x0_' x0'_ x0'_' x1 x2 x2') (by kernel_rfl)
theorem ok84:PureOk Go.Proofs.Tryz.prog 84 p84:=pureOk_of kf83_ok.base (T:=fun (d:Tys.data as84)=>t84 d.1.1.1 d.1.1.2.1 d.1.2.1.1 d.1.2.1.2.1 d.2.1 d.2.2.1.1 d.2.2.1.2.1) (by kernel_rfl) (fun (d:Tys.data as84)=>ok84_t d.1.1.1 d.1.1.2.1 d.1.2.1.1 d.1.2.1.2.1 d.2.1 d.2.2.1.1 d.2.2.1.2.1)
def kf84 (P:Go.Program):Known:=(kf83 P).func 84 p84
theorem kf84_ok:KnownOk Go.Proofs.Tryz.prog (kf84 Go.Proofs.Tryz.prog):=kf83_ok.func ok84
abbrev as23:List Ty:=[(.pair (.slice (.int .i64)) (.pair (.slice (.int .i64)) .unit)),(.int .i64)]
abbrev rs23:List Ty:=[(.pair (.slice (.pair (.int .i64) (.pair (.int .i64) .unit))) (.pair (.slice (.pair (.int .i64) (.pair (.int .i64) .unit))) (.pair (.int .i64) .unit))),(.int .i64)]
def t23 (x0:(List Int)) (x0':(List Int)) (x1:Int):Tr (Tys.data rs23) :=
  Tr.test (Option.isSome (f79 ((x0,(x0',())),())))
    (let r0:=g79 ((x0,(x0',())),());
    Tr.test (Option.isSome (f82 (((r0.1.1.1,(r0.1.1.2.1,())),((r0.1.2.1.1,(r0.1.2.1.2.1,())),())),(x1,()))))
      (let r1:=g82 (((r0.1.1.1,(r0.1.1.2.1,())),((r0.1.2.1.1,(r0.1.2.1.2.1,())),())),(x1,()));
      Tr.test (Option.isSome (f64 (([r0.2.1,r1.1]:List Int),())))
        (let r2:=g64 (([r0.2.1,r1.1]:List Int),());
        Tr.test ((!eqF r2.1 0:Bool))
          (Tr.fin (((([]:List (Int×Int×PUnit)),(([]:List (Int×Int×PUnit)),((0:Int),()))),(r2.1,()))))
          (Tr.test (Option.isSome (f83 (((r0.1.1.1,(r0.1.1.2.1,())),((r0.1.2.1.1,(r0.1.2.1.2.1,())),())),(x1,()))))
            (let r3:=g83 (((r0.1.1.1,(r0.1.1.2.1,())),((r0.1.2.1.1,(r0.1.2.1.2.1,())),())),(x1,()));
            Tr.test (Option.isSome (f80 (((r3.1.1.1,(r3.1.1.2.1,())),((r3.1.2.1.1,(r3.1.2.1.2.1,())),())),())))
              (let r4:=g80 (((r3.1.1.1,(r3.1.1.2.1,())),((r3.1.2.1.1,(r3.1.2.1.2.1,())),())),());
              Tr.test ((decide ((0:Int) ≤ x1) && decide (x1 < (↑(List.length r4.1):Int)):Bool))
                (Tr.test (Option.isSome (f84 (((r0.1.1.1,(r0.1.1.2.1,())),((r0.1.2.1.1,(r0.1.2.1.2.1,())),())),(x1,((((List.getD r4.1 (Int.toNat x1) ((0:Int),(0:Int),())).1:Int),(((List.getD r4.1 (Int.toNat x1) ((0:Int),(0:Int),())).2.1:Int),())),())))))
                  (let r5:=g84 (((r0.1.1.1,(r0.1.1.2.1,())),((r0.1.2.1.1,(r0.1.2.1.2.1,())),())),(x1,((((List.getD r4.1 (Int.toNat x1) ((0:Int),(0:Int),())).1:Int),(((List.getD r4.1 (Int.toNat x1) ((0:Int),(0:Int),())).2.1:Int),())),())));
                  Tr.test (Option.isSome (f80 (((r5.1.1.1,(r5.1.1.2.1,())),((r5.1.2.1.1,(r5.1.2.1.2.1,())),())),())))
                    (Tr.test (Option.isSome (f81 (r4.1,())))
                      (let r6:=g80 (((r5.1.1.1,(r5.1.1.2.1,())),((r5.1.2.1.1,(r5.1.2.1.2.1,())),())),());
                      Tr.test (Option.isSome (f81 (r6.1,())))
                        (let r7:=g81 (r4.1,());
                        let r8:=g81 (r6.1,());
                        Tr.test (Option.isSome (f64 (([r7.1,r8.1]:List Int),())))
                          (let r9:=g64 (([r7.1,r8.1]:List Int),());
                          Tr.test ((!eqF r9.1 0:Bool))
                            (Tr.fin (((([]:List (Int×Int×PUnit)),(([]:List (Int×Int×PUnit)),((0:Int),()))),(r9.1,()))))
                            (Tr.test (Option.isSome (f85 (((r0.1.1.1,(r0.1.1.2.1,())),((r0.1.2.1.1,(r0.1.2.1.2.1,())),())),((wrap64 (x1 + (1:Int)):Int),()))))
                              (let r10:=g85 (((r0.1.1.1,(r0.1.1.2.1,())),((r0.1.2.1.1,(r0.1.2.1.2.1,())),())),((wrap64 (x1 + (1:Int)):Int),()));
                              Tr.fin (((r4.1,(r6.1,(r10.1,()))),((0:Int),()))))
                              (Tr.stop)))
                          (Tr.stop))
                        (Tr.stop))
                      (Tr.stop))
                    (Tr.stop))
                  (Tr.stop))
                (Tr.stop))
              (Tr.stop))
            (Tr.stop)))
        (Tr.stop))
      (Tr.stop))
    (Tr.stop)
def f23 (d:Tys.data as23):Option (Tys.data rs23):=(t23 d.1.1 d.1.2.1 d.2.1).val
def g23 (d:Tys.data as23):Tys.data rs23:=(f23 d).getD (Tys.dflt rs23)
def p23:PureC:=pcOf as23 rs23 f23 g23
theorem wk23 (x0:(List Int)) (x0':(List Int)) (x1:Int):Walks (runPure (kf84 Go.Proofs.Tryz.prog).orc Go.Proofs.Tryz.prog 400 23 as23 rs23 ((x0,x0',()),x1,())) (t23 x0 x0' x1) [([true,true,true,true],[2,4,6,8]),([true,true,true,false,true,true,true,true,true,true,true,true,true],[2,4,6,8,10,12,14,16,18,20,22,24,26]),([true,true,true,false,true,true,true,true,true,true,true,true,false,true],[2,4,6,8,10,12,14,16,18,20,22,24,26,28])] :=
  ⟨by kernel_rfl,by kernel_rfl,by kernel_rfl,trivial⟩
theorem ok23_t (x0:(List Int)) (x0':(List Int)) (x1:Int):TrOk (PureRuns Go.Proofs.Tryz.prog (kf84 Go.Proofs.Tryz.prog).orc 23 as23 rs23 ((x0,x0',()),x1,())) (t23 x0 x0' x1) :=
  Walks.ok (fun _ _ _=>PureRuns.of) (wk23 x0 x0' x1) (by kernel_rfl)
theorem ok23:PureOk Go.Proofs.Tryz.prog 23 p23:=pureOk_of kf84_ok.base (T:=fun (d:Tys.data as23)=>t23 d.1.1 d.1.2.1 d.2.1) (by kernel_rfl) (fun (d:Tys.data as23)=>ok23_t d.1.1 d.1.2.1 d.2.1)
def kf23 (P:Go.Program):Known:=(kf84 P).func 23 p23
theorem kf23_ok:KnownOk Go.Proofs.Tryz.prog (kf23 Go.Proofs.Tryz.prog):=kf84_ok.func ok23
abbrev as25:List Ty:=[(.pair (.slice (.pair (.int .i64) (.pair (.int .i64) .unit))) (.pair (.slice (.pair (.int .i64) (.pair (.int .i64) .unit))) (.pair (.int .i64) .unit)))]
abbrev rs25:List Ty:=[(.pair (.slice (.pair (.int .i64) (.pair (.int .i64) .unit))) (.pair (.slice (.pair (.int .i64) (.pair (.int .i64) .unit))) (.pair (.int .i64) .unit)))]
def t25 (x0:(List (Int×(Int×Unit)))) (x0':(List (Int×(Int×Unit)))) (x0'':Int):Tr (Tys.data rs25) :=
  Tr.test ((Nat.beq (List.length x0) (0:Nat):Bool))
    (Tr.test (Nat.beq (List.length x0') (0:Nat))
      (Tr.fin (((([]:List (Int×Int×PUnit)),(([]:List (Int×Int×PUnit)),(x0'',()))),())))
      (Tr.test ((Nat.ble ((0:Nat) + List.length x0') (0:Nat):Bool))
        (Tr.stop)
        (Tr.test ((Nat.ble (((2:Nat) * ((0:Nat) + List.length x0') + (192:Nat)) * (16:Nat)) (281474976710656:Nat) && Nat.ble ((0:Nat) + List.length x0') (281474976710656:Nat):Bool))
          (Tr.test ((Nat.beq ((0:Nat) + List.length x0') (List.length ([]++x0')):Bool))
            (Tr.fin (((([]:List (Int×Int×PUnit)),(([]++x0':List (Int×Int×PUnit)),(x0'',()))),())))
            (Tr.stop))
          (Tr.stop))))
    (Tr.test (Nat.ble ((0:Nat) + List.length x0) (0:Nat))
      (Tr.stop)
      (Tr.test ((Nat.ble (((2:Nat) * ((0:Nat) + List.length x0) + (192:Nat)) * (16:Nat)) (281474976710656:Nat) && Nat.ble ((0:Nat) + List.length x0) (281474976710656:Nat):Bool))
        (Tr.test ((Nat.beq (List.length x0') (0:Nat):Bool))
          (Tr.test ((Nat.beq ((0:Nat) + List.length x0) (List.length ([]++x0)):Bool))
            (Tr.fin (((([]++x0:List (Int×Int×PUnit)),(([]:List (Int×Int×PUnit)),(x0'',()))),())))
            (Tr.stop))
          (Tr.test ((Nat.ble ((0:Nat) + List.length x0') (0:Nat):Bool))
            (Tr.stop)
            (Tr.test ((Nat.ble (((2:Nat) * ((0:Nat) + List.length x0') + (192:Nat)) * (16:Nat)) (281474976710656:Nat) && Nat.ble ((0:Nat) + List.length x0') (281474976710656:Nat):Bool))
              (Tr.test ((Nat.beq ((0:Nat) + List.length x0) (List.length ([]++x0)):Bool))
                (Tr.test ((Nat.beq ((0:Nat) + List.length x0') (List.length ([]++x0')):Bool))
                  (Tr.fin (((([]++x0:List (Int×Int×PUnit)),(([]++x0':List (Int×Int×PUnit)),(x0'',()))),())))
                  (Tr.stop))
                (Tr.stop))
              (Tr.stop))))
        (Tr.stop)))
def f25 (d:Tys.data as25):Option (Tys.data rs25):=(t25 d.1.1 d.1.2.1 d.1.2.2.1).val
def g25 (d:Tys.data as25):Tys.data rs25:=(f25 d).getD (Tys.dflt rs25)
def p25:PureC:=pcOf as25 rs25 f25 g25
theorem wk25 (x0:(List (Int×(Int×Unit)))) (x0':(List (Int×(Int×Unit)))) (x0'':Int):Walks (runPure (kf23 Go.Proofs.Tryz.prog).orc Go.Proofs.Tryz.prog 400 25 as25 rs25 ((x0,x0',x0'',()),())) (t25 x0 x0' x0'') [([true,true],[2,4]),([true,false,false,true,true],[2,4,6,8,10]),([false,false,true,true,true],[2,4,6,8,10]),([false,false,true,false,false,true,true,true],[2,4,6,8,10,12,14,16])] :=
  ⟨by kernel_rfl,by kernel_rfl,by kernel_rfl,by kernel_rfl,trivial⟩
theorem ok25_t (x0:(List (Int×(Int×Unit)))) (x0':(List (Int×(Int×Unit)))) (x0'':Int):TrOk (PureRuns Go.Proofs.Tryz.prog (kf23 Go.Proofs.Tryz.prog).orc 25 as25 rs25 ((x0,x0',x0'',()),())) (t25 x0 x0' x0'') :=
  Walks.ok (fun _ _ _=>PureRuns.of) (wk25 x0 x0' x0'') (by kernel_rfl)
theorem ok25:PureOk Go.Proofs.Tryz.prog 25 p25:=pureOk_of kf23_ok.base (T:=fun (d:Tys.data as25)=>t25 d.1.1 d.1.2.1 d.1.2.2.1) (by kernel_rfl) (fun (d:Tys.data as25)=>ok25_t d.1.1 d.1.2.1 d.1.2.2.1)
def kf25 (P:Go.Program):Known:=(kf23 P).func 25 p25
theorem kf25_ok:KnownOk Go.Proofs.Tryz.prog (kf25 Go.Proofs.Tryz.prog):=kf23_ok.func ok25
end Go.Vm.Mo
