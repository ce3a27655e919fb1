import Derived.Test.YtlaojojnembodaaGreatA5
import Derived.KernelRfl
import Derived.Test.YtlaojojnembodaaGreatProg
set_option linter.unusedVariables false
set_option linter.unusedSimpArgs false

namespace Go.Vm.Mo
open Go
set_option linter.unusedVariables false
def kn0 (_:Go.Program):Known:=⟨[],[]⟩
abbrev tt:Bool:=true
abbrev ff:Bool:=false
theorem nn {b v:Bool} (h:(!b) = v):(!b) = !(!v):=not_of (of_not h)
theorem ac {b d:Bool} {r:List (Bool×Bool)} (h:b = d) (t:All r):All ((b, d) :: r):=All.cons h t
theorem plainP:Plain Go.Proofs.Tryz.prog:=by
  have h : (Go.Proofs.Tryz.prog.funcs.toList.all fun fn => !(fn.body.isSome && fn.name == "runtime.NumGoroutine")) = true := by kernel_rfl
  intro f fn hf hb
  have hm:fn ∈ Go.Proofs.Tryz.prog.funcs.toList:=by
    have:=Array.getElem?_eq_some_iff.1 hf
    obtain ⟨hlt,rfl⟩:=this
    simp
  have:=List.all_eq_true.1 h fn hm
  rw [hb] at this
  simpa using this
theorem kn0_ok:KnownOk Go.Proofs.Tryz.prog (kn0 Go.Proofs.Tryz.prog):=⟨plainP,by kernel_rfl,(fun _ h=>by cases h),(fun _ h=>by cases h)⟩
abbrev as5:List Ty:=[]
abbrev rs5:List Ty:=[.bool]
def f5 (_:Tys.data as5):Option (Tys.data rs5):=some (true,())
def g5 (_:Tys.data as5):Tys.data rs5:=(true,())
def p5:PureC:=pcOf as5 rs5 f5 g5
theorem e5:runAsk (kn0 Go.Proofs.Tryz.prog).orc Go.Proofs.Tryz.prog 400 5 as5 rs5 () none = some ((true,()),[]):=by kernel_rfl
theorem ok5:PureOk Go.Proofs.Tryz.prog 5 p5:=pureOk_closed kn0_ok.base (by kernel_rfl) e5 All.nil
def kf5 (P:Go.Program):Known:=(kn0 P).func 5 p5
theorem kf5_ok:KnownOk Go.Proofs.Tryz.prog (kf5 Go.Proofs.Tryz.prog):=kn0_ok.func ok5
abbrev sh6_0:Sh:={ n:=23,slots:=[1,3],pats:=[.ptr 0 1 0,.ty (.int .i64)],boxes:=[.row [.ty (.slice (.pair (.int .i64) (.pair (.int .i64) (.pair (.slice (.pair (.int .i64) (.pair (.int .i64) (.pair .bool .unit)))) .unit))))]] }
abbrev shb6_0:Sh:={ n:=23,slots:=[],pats:=[],boxes:=[.row [.ty (.slice (.pair (.int .i64) (.pair (.int .i64) (.pair (.slice (.pair (.int .i64) (.pair (.int .i64) (.pair .bool .unit)))) .unit))))]] }
abbrev shr6_0:Sh:={ n:=23,slots:=[2],pats:=[.ty .bool],boxes:=[.row [.ty (.slice (.pair (.int .i64) (.pair (.int .i64) (.pair (.slice (.pair (.int .i64) (.pair (.int .i64) (.pair .bool .unit)))) .unit))))]] }
def t6_0 (x1:Int) (b0_0:(List (Int×(Int×((List (Int×(Int×(Bool×Unit))))×Unit))))):Tr (Out sh6_0.data shb6_0.data shr6_0.data) :=
  Tr.test ((!leF (↑(List.length b0_0):Int) x1:Bool))
    (Tr.test (decide ((0:Int) ≤ x1) && decide (x1 < (↑(List.length b0_0):Int)))
      (Tr.test ((!leF (↑(List.length (List.getD b0_0 (Int.toNat x1) ((0:Int),(0:Int),[],())).2.2.1):Int) (6:Int):Bool))
        (Tr.fin (.ret (((false:Bool),()),((b0_0,()),()))))
        (Tr.fin (.again (((wrap64 (x1 + (1:Int)):Int),()),((b0_0,()),())))))
      (Tr.stop))
    (Tr.fin (.brk ((),((b0_0,()),()))))
def s6_0 (d:sh6_0.data):Option (Out sh6_0.data shb6_0.data shr6_0.data):=(t6_0 d.1.1 d.2.1.1).val
def l6_0 (d:sh6_0.data):Option (shb6_0.data ⊕ shr6_0.data):=itr s6_0 rounds d
def b6_0 (d:sh6_0.data):shb6_0.data:=outB shb6_0.dflt (l6_0 d)
def r6_0 (d:sh6_0.data):shr6_0.data:=outR shr6_0.dflt (l6_0 d)
def lc6_0:LoopC:=lcOf sh6_0 shb6_0 shr6_0 l6_0 b6_0 r6_0
theorem wk6_0 (x1:Int) (b0_0:(List (Int×(Int×((List (Int×(Int×(Bool×Unit))))×Unit))))):Walks (runBody (kf5 Go.Proofs.Tryz.prog).orc Go.Proofs.Tryz.prog 400 6 0 sh6_0 shb6_0 shr6_0 ((x1,()),(b0_0,()),())) (t6_0 x1 b0_0) [(bl 3 7,[2,4,6]),(bl 3 3,[2,4,6]),(bl 1 0,[2])] :=
  ⟨by kernel_rfl,by kernel_rfl,by kernel_rfl,trivial⟩
theorem ok6_0_t (x1:Int) (b0_0:(List (Int×(Int×((List (Int×(Int×(Bool×Unit))))×Unit))))):TrOk (BodyRuns Go.Proofs.Tryz.prog (kf5 Go.Proofs.Tryz.prog).orc 6 0 sh6_0 shb6_0 shr6_0 ((x1,()),(b0_0,()),())) (t6_0 x1 b0_0) :=
  Walks.ok (fun _ _ _=>BodyRuns.of) (wk6_0 x1 b0_0) (by kernel_rfl)
theorem ok6_0:LoopOk Go.Proofs.Tryz.prog 6 0 lc6_0:=loopOk_of (sh:=sh6_0) (shB:=shb6_0) (shR:=shr6_0) kf5_ok.base (T:=fun (d:sh6_0.data)=>t6_0 d.1.1 d.2.1.1) (by kernel_rfl) rfl (fun (d:sh6_0.data)=>ok6_0_t d.1.1 d.2.1.1) (fun _=>rfl)
def kl6_0 (P:Go.Program):Known:=(kf5 P).loop 6 0 lc6_0
theorem kl6_0_ok:KnownOk Go.Proofs.Tryz.prog (kl6_0 Go.Proofs.Tryz.prog):=kf5_ok.loop ok6_0
abbrev as6:List Ty:=[(.pair (.slice (.pair (.int .i64) (.pair (.int .i64) (.pair (.slice (.pair (.int .i64) (.pair (.int .i64) (.pair .bool .unit)))) .unit)))) .unit)]
abbrev rs6:List Ty:=[.bool]
def t6 (x0:(List (Int×(Int×((List (Int×(Int×(Bool×Unit))))×Unit))))):Tr (Tys.data rs6) :=
  Tr.test ((!leF (↑(List.length x0):Int) (7:Int):Bool))
    (Tr.fin ((false,())))
    (Tr.test (Option.isSome (l6_0 (((0:Int),()),((x0,()),()))))
      (Tr.test (isRet (l6_0 (((0:Int),()),((x0,()),()))))
        (let r0:=r6_0 (((0:Int),()),((x0,()),()));
        Tr.fin ((r0.1.1,())))
        (Tr.fin (((true:Bool),()))))
      (Tr.stop))
def f6 (d:Tys.data as6):Option (Tys.data rs6):=(t6 d.1.1).val
def g6 (d:Tys.data as6):Tys.data rs6:=(f6 d).getD (Tys.dflt rs6)
def p6:PureC:=pcOf as6 rs6 f6 g6
theorem wk6 (x0:(List (Int×(Int×((List (Int×(Int×(Bool×Unit))))×Unit))))):Walks (runPure (kl6_0 Go.Proofs.Tryz.prog).orc Go.Proofs.Tryz.prog 400 6 as6 rs6 ((x0,()),())) (t6 x0) [(bl 1 1,[2]),(bl 3 6,[2,4,6]),(bl 3 2,[2,4,6])] :=
  ⟨by kernel_rfl,by kernel_rfl,by kernel_rfl,trivial⟩
theorem ok6_t (x0:(List (Int×(Int×((List (Int×(Int×(Bool×Unit))))×Unit))))):TrOk (PureRuns Go.Proofs.Tryz.prog (kl6_0 Go.Proofs.Tryz.prog).orc 6 as6 rs6 ((x0,()),())) (t6 x0) :=
  Walks.ok (fun _ _ _=>PureRuns.of) (wk6 x0) (by kernel_rfl)
theorem ok6:PureOk Go.Proofs.Tryz.prog 6 p6:=pureOk_of kl6_0_ok.base (T:=fun (d:Tys.data as6)=>t6 d.1.1) (by kernel_rfl) (fun (d:Tys.data as6)=>ok6_t d.1.1)
def kf6 (P:Go.Program):Known:=(kl6_0 P).func 6 p6
theorem kf6_ok:KnownOk Go.Proofs.Tryz.prog (kf6 Go.Proofs.Tryz.prog):=kl6_0_ok.func ok6
abbrev as25:List Ty:=[(.slice (.pair (.int .i64) (.pair (.int .i64) (.pair .bool .unit))))]
abbrev rs25:List Ty:=[(.slice (.pair (.int .i64) (.pair (.int .i64) (.pair .bool .unit))))]
def t25 (x0:(List (Int×(Int×(Bool×Unit))))):Tr (Tys.data rs25) :=
  Tr.test ((Nat.ble (((2:Nat) * ((0:Nat) + List.length x0) + (192:Nat)) * (24:Nat)) (281474976710656:Nat) && Nat.ble ((0:Nat) + List.length x0) (281474976710656:Nat):Bool))
    (Tr.fin ((([]++x0:List (Int×Int×Bool×PUnit)),())))
    (Tr.test (Nat.ble ((0:Nat) + List.length x0) (0:Nat))
      (Tr.stop)
      (Tr.stop))
def f25 (d:Tys.data as25):Option (Tys.data rs25):=(t25 d.1).val
def g25 (d:Tys.data as25):Tys.data rs25:=(f25 d).getD (Tys.dflt rs25)
def p25:PureC:=pcOf as25 rs25 f25 g25
theorem wk25 (x0:(List (Int×(Int×(Bool×Unit))))):Walks (runPure (kf6 Go.Proofs.Tryz.prog).orc Go.Proofs.Tryz.prog 400 25 as25 rs25 (x0,())) (t25 x0) [(bl 1 1,[2])] :=
  ⟨by kernel_rfl,trivial⟩
theorem ok25_t (x0:(List (Int×(Int×(Bool×Unit))))):TrOk (PureRuns Go.Proofs.Tryz.prog (kf6 Go.Proofs.Tryz.prog).orc 25 as25 rs25 (x0,())) (t25 x0) :=
  Walks.ok (fun _ _ _=>PureRuns.of) (wk25 x0) (by kernel_rfl)
theorem ok25:PureOk Go.Proofs.Tryz.prog 25 p25:=pureOk_of kf6_ok.base (T:=fun (d:Tys.data as25)=>t25 d.1) (by kernel_rfl) (fun (d:Tys.data as25)=>ok25_t d.1)
def kf25 (P:Go.Program):Known:=(kf6 P).func 25 p25
theorem kf25_ok:KnownOk Go.Proofs.Tryz.prog (kf25 Go.Proofs.Tryz.prog):=kf6_ok.func ok25
abbrev sh8_0:Sh:={ n:=29,slots:=[1,2,3,4],pats:=[.ptr 0 1 0,.ptr 1 1 0,.ptr 2 1 0,.ty (.int .i64)],boxes:=[.row [.ty (.slice (.pair (.int .i64) (.pair (.int .i64) (.pair (.slice (.pair (.int .i64) (.pair (.int .i64) (.pair .bool .unit)))) .unit))))],.row [.nil],.row [.acc (.pair (.int .i64) (.pair (.int .i64) (.pair (.slice (.pair (.int .i64) (.pair (.int .i64) (.pair .bool .unit)))) .unit)))]] }
abbrev shb8_0:Sh:={ n:=29,slots:=[2,3],pats:=[.ptr 1 1 0,.ptr 2 1 0],boxes:=[.row [.ty (.slice (.pair (.int .i64) (.pair (.int .i64) (.pair (.slice (.pair (.int .i64) (.pair (.int .i64) (.pair .bool .unit)))) .unit))))],.row [.nil],.row [.acc (.pair (.int .i64) (.pair (.int .i64) (.pair (.slice (.pair (.int .i64) (.pair (.int .i64) (.pair .bool .unit)))) .unit)))]] }
abbrev shr8_0:Sh:={ n:=29,slots:=[],pats:=[],boxes:=[.row [.ty (.slice (.pair (.int .i64) (.pair (.int .i64) (.pair (.slice (.pair (.int .i64) (.pair (.int .i64) (.pair .bool .unit)))) .unit))))],.row [.nil],.row [.acc (.pair (.int .i64) (.pair (.int .i64) (.pair (.slice (.pair (.int .i64) (.pair (.int .i64) (.pair .bool .unit)))) .unit)))]] }
def t8_0 (x3:Int) (b0_0:(List (Int×(Int×((List (Int×(Int×(Bool×Unit))))×Unit))))) (b2_0:(List (Int×(Int×((List (Int×(Int×(Bool×Unit))))×Unit))))):Tr (Out sh8_0.data shb8_0.data shr8_0.data) :=
  Tr.test ((!leF (↑(List.length b0_0):Int) x3:Bool))
    (Tr.test (decide ((0:Int) ≤ x3) && decide (x3 < (↑(List.length b0_0):Int)))
      (Tr.test (Option.isSome (f25 (((List.getD b0_0 (Int.toNat x3) ((0:Int),(0:Int),[],())).2.2.1:List (Int×Int×Bool×PUnit)),())))
        (Tr.test ((Nat.ble (((2:Nat) * (List.length b2_0 + (1:Nat)) + (192:Nat)) * (40:Nat)) (281474976710656:Nat) && Nat.ble (List.length b2_0 + (1:Nat)) (281474976710656:Nat):Bool))
          (let r0:=g25 (((List.getD b0_0 (Int.toNat x3) ((0:Int),(0:Int),[],())).2.2.1:List (Int×Int×Bool×PUnit)),());
          Tr.fin (.again (((wrap64 (x3 + (1:Int)):Int),()),((b0_0,()),((),(((b2_0++[((List.getD b0_0 (Int.toNat x3) ((0:Int),(0:Int),[],())).1,(List.getD b0_0 (Int.toNat x3) ((0:Int),(0:Int),[],())).2.1,r0.1,())]:List (Int×Int×List (Int×Int×Bool×PUnit)×PUnit)),()),()))))))
          (Tr.stop))
        (Tr.stop))
      (Tr.stop))
    (Tr.fin (.brk ((),((b0_0,()),((),((b2_0,()),()))))))
def s8_0 (d:sh8_0.data):Option (Out sh8_0.data shb8_0.data shr8_0.data):=(t8_0 d.1.1 d.2.1.1 d.2.2.2.1.1).val
def l8_0 (d:sh8_0.data):Option (shb8_0.data ⊕ shr8_0.data):=itr s8_0 rounds d
def b8_0 (d:sh8_0.data):shb8_0.data:=outB shb8_0.dflt (l8_0 d)
def lc8_0:LoopC:=lcB sh8_0 shb8_0 shr8_0 l8_0 b8_0
theorem wk8_0 (x3:Int) (b0_0:(List (Int×(Int×((List (Int×(Int×(Bool×Unit))))×Unit))))) (b2_0:(List (Int×(Int×((List (Int×(Int×(Bool×Unit))))×Unit))))):Walks (runBody (kf25 Go.Proofs.Tryz.prog).orc Go.Proofs.Tryz.prog 400 8 0 sh8_0 shb8_0 shr8_0 ((x3,()),(b0_0,()),(),(b2_0,()),())) (t8_0 x3 b0_0 b2_0) [(bl 4 15,[2,4,6,8]),(bl 1 0,[2])] :=
  ⟨by kernel_rfl,by kernel_rfl,trivial⟩
theorem ok8_0_t (x3:Int) (b0_0:(List (Int×(Int×((List (Int×(Int×(Bool×Unit))))×Unit))))) (b2_0:(List (Int×(Int×((List (Int×(Int×(Bool×Unit))))×Unit))))):TrOk (BodyRuns Go.Proofs.Tryz.prog (kf25 Go.Proofs.Tryz.prog).orc 8 0 sh8_0 shb8_0 shr8_0 ((x3,()),(b0_0,()),(),(b2_0,()),())) (t8_0 x3 b0_0 b2_0) :=
  Walks.ok (fun _ _ _=>BodyRuns.of) (wk8_0 x3 b0_0 b2_0) (by kernel_rfl)
theorem ok8_0:LoopOk Go.Proofs.Tryz.prog 8 0 lc8_0:=loopOk_ofB (sh:=sh8_0) (shB:=shb8_0) (shR:=shr8_0) kf25_ok.base (T:=fun (d:sh8_0.data)=>t8_0 d.1.1 d.2.1.1 d.2.2.2.1.1) (by kernel_rfl) rfl (fun (d:sh8_0.data)=>ok8_0_t d.1.1 d.2.1.1 d.2.2.2.1.1) (fun _=>rfl)
def kl8_0 (P:Go.Program):Known:=(kf25 P).loop 8 0 lc8_0
theorem kl8_0_ok:KnownOk Go.Proofs.Tryz.prog (kl8_0 Go.Proofs.Tryz.prog):=kf25_ok.loop ok8_0
abbrev as8:List Ty:=[(.pair (.slice (.pair (.int .i64) (.pair (.int .i64) (.pair (.slice (.pair (.int .i64) (.pair (.int .i64) (.pair .bool .unit)))) .unit)))) .unit)]
abbrev rs8:List Ty:=[(.pair (.slice (.pair (.int .i64) (.pair (.int .i64) (.pair (.slice (.pair (.int .i64) (.pair (.int .i64) (.pair .bool .unit)))) .unit)))) .unit)]
def t8 (x0:(List (Int×(Int×((List (Int×(Int×(Bool×Unit))))×Unit))))):Tr (Tys.data rs8) :=
  Tr.test (isBrk (l8_0 (((0:Int),()),((x0,()),((),((([]:List (Int×Int×List (Int×Int×Bool×PUnit)×PUnit)),()),()))))))
    (let r0:=b8_0 (((0:Int),()),((x0,()),((),((([]:List (Int×Int×List (Int×Int×Bool×PUnit)×PUnit)),()),()))));
    Tr.fin ((((r0.2.2.2.1.1:List (Int×Int×List (Int×Int×Bool×PUnit)×PUnit)),()),())))
    (Tr.stop)
def f8 (d:Tys.data as8):Option (Tys.data rs8):=(t8 d.1.1).val
def g8 (d:Tys.data as8):Tys.data rs8:=(f8 d).getD (Tys.dflt rs8)
def p8:PureC:=pcOf as8 rs8 f8 g8
theorem wk8 (x0:(List (Int×(Int×((List (Int×(Int×(Bool×Unit))))×Unit))))):Walks (runPure (kl8_0 Go.Proofs.Tryz.prog).orc Go.Proofs.Tryz.prog 400 8 as8 rs8 ((x0,()),())) (t8 x0) [(bl 1 1,[1,2])] :=
  ⟨by kernel_rfl,trivial⟩
theorem ok8_t (x0:(List (Int×(Int×((List (Int×(Int×(Bool×Unit))))×Unit))))):TrOk (PureRuns Go.Proofs.Tryz.prog (kl8_0 Go.Proofs.Tryz.prog).orc 8 as8 rs8 ((x0,()),())) (t8 x0) :=
  Walks.ok (fun _ _ _=>PureRuns.of) (wk8 x0) (by kernel_rfl)
theorem ok8:PureOk Go.Proofs.Tryz.prog 8 p8:=pureOk_of kl8_0_ok.base (T:=fun (d:Tys.data as8)=>t8 d.1.1) (by kernel_rfl) (fun (d:Tys.data as8)=>ok8_t d.1.1)
def kf8 (P:Go.Program):Known:=(kl8_0 P).func 8 p8
theorem kf8_ok:KnownOk Go.Proofs.Tryz.prog (kf8 Go.Proofs.Tryz.prog):=kl8_0_ok.func ok8
abbrev as21:List Ty:=[(.slice (.int .i64))]
abbrev rs21:List Ty:=[(.slice (.int .i64))]
def t21 (x0:(List Int)):Tr (Tys.data rs21) :=
  Tr.test ((Nat.ble (((2:Nat) * ((0:Nat) + List.length x0) + (192:Nat)) * (8:Nat)) (281474976710656:Nat) && Nat.ble ((0:Nat) + List.length x0) (281474976710656:Nat):Bool))
    (Tr.fin ((([]++x0:List Int),())))
    (Tr.test (Nat.ble ((0:Nat) + List.length x0) (0:Nat))
      (Tr.stop)
      (Tr.stop))
def f21 (d:Tys.data as21):Option (Tys.data rs21):=(t21 d.1).val
def g21 (d:Tys.data as21):Tys.data rs21:=(f21 d).getD (Tys.dflt rs21)
def p21:PureC:=pcOf as21 rs21 f21 g21
theorem wk21 (x0:(List Int)):Walks (runPure (kf8 Go.Proofs.Tryz.prog).orc Go.Proofs.Tryz.prog 400 21 as21 rs21 (x0,())) (t21 x0) [(bl 1 1,[2])] :=
  ⟨by kernel_rfl,trivial⟩
theorem ok21_t (x0:(List Int)):TrOk (PureRuns Go.Proofs.Tryz.prog (kf8 Go.Proofs.Tryz.prog).orc 21 as21 rs21 (x0,())) (t21 x0) :=
  Walks.ok (fun _ _ _=>PureRuns.of) (wk21 x0) (by kernel_rfl)
theorem ok21:PureOk Go.Proofs.Tryz.prog 21 p21:=pureOk_of kf8_ok.base (T:=fun (d:Tys.data as21)=>t21 d.1) (by kernel_rfl) (fun (d:Tys.data as21)=>ok21_t d.1)
def kf21 (P:Go.Program):Known:=(kf8 P).func 21 p21
theorem kf21_ok:KnownOk Go.Proofs.Tryz.prog (kf21 Go.Proofs.Tryz.prog):=kf8_ok.func ok21
abbrev as26:List Ty:=[(.pair (.int .i64) (.pair (.slice (.pair (.int .i64) (.pair .bool .unit))) .unit))]
abbrev rs26:List Ty:=[(.pair (.int .i64) (.pair (.slice (.pair (.int .i64) (.pair .bool .unit))) .unit))]
def t26 (x0:Int) (x0':(List (Int×(Bool×Unit)))):Tr (Tys.data rs26) :=
  Tr.test ((Nat.ble (((2:Nat) * ((0:Nat) + List.length x0') + (192:Nat)) * (16:Nat)) (281474976710656:Nat) && Nat.ble ((0:Nat) + List.length x0') (281474976710656:Nat):Bool))
    (Tr.fin (((x0,(([]++x0':List (Int×Bool×PUnit)),())),())))
    (Tr.test (Nat.ble ((0:Nat) + List.length x0') (0:Nat))
      (Tr.stop)
      (Tr.stop))
def f26 (d:Tys.data as26):Option (Tys.data rs26):=(t26 d.1.1 d.1.2.1).val
def g26 (d:Tys.data as26):Tys.data rs26:=(f26 d).getD (Tys.dflt rs26)
def p26:PureC:=pcOf as26 rs26 f26 g26
theorem wk26 (x0:Int) (x0':(List (Int×(Bool×Unit)))):Walks (runPure (kf21 Go.Proofs.Tryz.prog).orc Go.Proofs.Tryz.prog 400 26 as26 rs26 ((x0,x0',()),())) (t26 x0 x0') [(bl 1 1,[2])] :=
  ⟨by kernel_rfl,trivial⟩
theorem ok26_t (x0:Int) (x0':(List (Int×(Bool×Unit)))):TrOk (PureRuns Go.Proofs.Tryz.prog (kf21 Go.Proofs.Tryz.prog).orc 26 as26 rs26 ((x0,x0',()),())) (t26 x0 x0') :=
  Walks.ok (fun _ _ _=>PureRuns.of) (wk26 x0 x0') (by kernel_rfl)
theorem ok26:PureOk Go.Proofs.Tryz.prog 26 p26:=pureOk_of kf21_ok.base (T:=fun (d:Tys.data as26)=>t26 d.1.1 d.1.2.1) (by kernel_rfl) (fun (d:Tys.data as26)=>ok26_t d.1.1 d.1.2.1)
def kf26 (P:Go.Program):Known:=(kf21 P).func 26 p26
theorem kf26_ok:KnownOk Go.Proofs.Tryz.prog (kf26 Go.Proofs.Tryz.prog):=kf21_ok.func ok26
abbrev sh9_0:Sh:={ n:=31,slots:=[1,2,3,4],pats:=[.ptr 0 3 0,.ptr 1 3 0,.ptr 2 3 0,.ty (.int .i64)],boxes:=[.row [.ty (.slice (.int .i64)),.ty (.slice (.int .i64)),.ty (.slice (.pair (.int .i64) (.pair (.slice (.pair (.int .i64) (.pair .bool .unit))) .unit)))],.row [.nil,.nil,.nil],.row [.ty (.slice (.int .i64)),.ty (.slice (.int .i64)),.acc (.pair (.int .i64) (.pair (.slice (.pair (.int .i64) (.pair .bool .unit))) .unit))]] }
abbrev shb9_0:Sh:={ n:=31,slots:=[2,3],pats:=[.ptr 1 3 0,.ptr 2 3 0],boxes:=[.row [.ty (.slice (.int .i64)),.ty (.slice (.int .i64)),.ty (.slice (.pair (.int .i64) (.pair (.slice (.pair (.int .i64) (.pair .bool .unit))) .unit)))],.row [.nil,.nil,.nil],.row [.ty (.slice (.int .i64)),.ty (.slice (.int .i64)),.acc (.pair (.int .i64) (.pair (.slice (.pair (.int .i64) (.pair .bool .unit))) .unit))]] }
abbrev shr9_0:Sh:={ n:=31,slots:=[],pats:=[],boxes:=[.row [.ty (.slice (.int .i64)),.ty (.slice (.int .i64)),.ty (.slice (.pair (.int .i64) (.pair (.slice (.pair (.int .i64) (.pair .bool .unit))) .unit)))],.row [.nil,.nil,.nil],.row [.ty (.slice (.int .i64)),.ty (.slice (.int .i64)),.acc (.pair (.int .i64) (.pair (.slice (.pair (.int .i64) (.pair .bool .unit))) .unit))]] }
def t9_0 (x3:Int) (b0_0:(List Int)) (b0_1:(List Int)) (b0_2:(List (Int×((List (Int×(Bool×Unit)))×Unit)))) (b2_0:(List Int)) (b2_1:(List Int)) (b2_2:(List (Int×((List (Int×(Bool×Unit)))×Unit)))):Tr (Out sh9_0.data shb9_0.data shr9_0.data) :=
  Tr.test ((!leF (↑(List.length b0_2):Int) x3:Bool))
    (Tr.test (decide ((0:Int) ≤ x3) && decide (x3 < (↑(List.length b0_2):Int)))
      (Tr.test (Option.isSome (f26 ((((List.getD b0_2 (Int.toNat x3) ((0:Int),[],())).1:Int),(((List.getD b0_2 (Int.toNat x3) ((0:Int),[],())).2.1:List (Int×Bool×PUnit)),())),())))
        (Tr.test ((Nat.ble (((2:Nat) * (List.length b2_2 + (1:Nat)) + (192:Nat)) * (32:Nat)) (281474976710656:Nat) && Nat.ble (List.length b2_2 + (1:Nat)) (281474976710656:Nat):Bool))
          (let r0:=g26 ((((List.getD b0_2 (Int.toNat x3) ((0:Int),[],())).1:Int),(((List.getD b0_2 (Int.toNat x3) ((0:Int),[],())).2.1:List (Int×Bool×PUnit)),())),());
          Tr.fin (.again (((wrap64 (x3 + (1:Int)):Int),()),((b0_0,(b0_1,(b0_2,()))),((),((b2_0,(b2_1,((b2_2++[(r0.1.1,r0.1.2.1,())]:List (Int×List (Int×Bool×PUnit)×PUnit)),()))),()))))))
          (Tr.stop))
        (Tr.stop))
      (Tr.stop))
    (Tr.fin (.brk ((),((b0_0,(b0_1,(b0_2,()))),((),((b2_0,(b2_1,(b2_2,()))),()))))))
def s9_0 (d:sh9_0.data):Option (Out sh9_0.data shb9_0.data shr9_0.data):=(t9_0 d.1.1 d.2.1.1 d.2.1.2.1 d.2.1.2.2.1 d.2.2.2.1.1 d.2.2.2.1.2.1 d.2.2.2.1.2.2.1).val
def l9_0 (d:sh9_0.data):Option (shb9_0.data ⊕ shr9_0.data):=itr s9_0 rounds d
def b9_0 (d:sh9_0.data):shb9_0.data:=outB shb9_0.dflt (l9_0 d)
def lc9_0:LoopC:=lcB sh9_0 shb9_0 shr9_0 l9_0 b9_0
theorem wk9_0 (x3:Int) (b0_0:(List Int)) (b0_1:(List Int)) (b0_2:(List (Int×((List (Int×(Bool×Unit)))×Unit)))) (b2_0:(List Int)) (b2_1:(List Int)) (b2_2:(List (Int×((List (Int×(Bool×Unit)))×Unit)))):Walks (runBody (kf26 Go.Proofs.Tryz.prog).orc Go.Proofs.Tryz.prog 400 9 0 sh9_0 shb9_0 shr9_0 ((x3,()),(b0_0,b0_1,b0_2,()),(),(b2_0,b2_1,b2_2,()),())) (t9_0 x3 b0_0 b0_1 b0_2 b2_0 b2_1 b2_2) [(bl 4 15,[2,4,6,8]),(bl 1 0,[2])] :=
  ⟨by kernel_rfl,by kernel_rfl,trivial⟩
theorem ok9_0_t (x3:Int) (b0_0:(List Int)) (b0_1:(List Int)) (b0_2:(List (Int×((List (Int×(Bool×Unit)))×Unit)))) (b2_0:(List Int)) (b2_1:(List Int)) (b2_2:(List (Int×((List (Int×(Bool×Unit)))×Unit)))):TrOk (BodyRuns Go.Proofs.Tryz.prog (kf26 Go.Proofs.Tryz.prog).orc 9 0 sh9_0 shb9_0 shr9_0 ((x3,()),(b0_0,b0_1,b0_2,()),(),(b2_0,b2_1,b2_2,()),())) (t9_0 x3 b0_0 b0_1 b0_2 b2_0 b2_1 b2_2) :=
  Walks.ok (fun _ _ _=>BodyRuns.of) (wk9_0 x3 b0_0 b0_1 b0_2 b2_0 b2_1 b2_2) (by kernel_rfl)
theorem ok9_0:LoopOk Go.Proofs.Tryz.prog 9 0 lc9_0:=loopOk_ofB (sh:=sh9_0) (shB:=shb9_0) (shR:=shr9_0) kf26_ok.base (T:=fun (d:sh9_0.data)=>t9_0 d.1.1 d.2.1.1 d.2.1.2.1 d.2.1.2.2.1 d.2.2.2.1.1 d.2.2.2.1.2.1 d.2.2.2.1.2.2.1) (by kernel_rfl) rfl (fun (d:sh9_0.data)=>ok9_0_t d.1.1 d.2.1.1 d.2.1.2.1 d.2.1.2.2.1 d.2.2.2.1.1 d.2.2.2.1.2.1 d.2.2.2.1.2.2.1) (fun _=>rfl)
def kl9_0 (P:Go.Program):Known:=(kf26 P).loop 9 0 lc9_0
theorem kl9_0_ok:KnownOk Go.Proofs.Tryz.prog (kl9_0 Go.Proofs.Tryz.prog):=kf26_ok.loop ok9_0
abbrev as9:List Ty:=[(.pair (.slice (.int .i64)) (.pair (.slice (.int .i64)) (.pair (.slice (.pair (.int .i64) (.pair (.slice (.pair (.int .i64) (.pair .bool .unit))) .unit))) .unit)))]
abbrev rs9:List Ty:=[(.pair (.slice (.int .i64)) (.pair (.slice (.int .i64)) (.pair (.slice (.pair (.int .i64) (.pair (.slice (.pair (.int .i64) (.pair .bool .unit))) .unit))) .unit)))]
def t9 (x0:(List Int)) (x0':(List Int)) (x0'':(List (Int×((List (Int×(Bool×Unit)))×Unit)))):Tr (Tys.data rs9) :=
  Tr.test (Option.isSome (f21 (x0,())))
    (Tr.test (Option.isSome (f21 (x0',())))
      (let r0:=g21 (x0,());
      let r1:=g21 (x0',());
      Tr.test (isBrk (l9_0 (((0:Int),()),((x0,(x0',(x0'',()))),((),((r0.1,(r1.1,(([]:List (Int×List (Int×Bool×PUnit)×PUnit)),()))),()))))))
        (let r2:=b9_0 (((0:Int),()),((x0,(x0',(x0'',()))),((),((r0.1,(r1.1,(([]:List (Int×List (Int×Bool×PUnit)×PUnit)),()))),()))));
        Tr.fin (((r2.2.2.2.1.1,(r2.2.2.2.1.2.1,((r2.2.2.2.1.2.2.1:List (Int×List (Int×Bool×PUnit)×PUnit)),()))),())))
        (Tr.stop))
      (Tr.stop))
    (Tr.stop)
def f9 (d:Tys.data as9):Option (Tys.data rs9):=(t9 d.1.1 d.1.2.1 d.1.2.2.1).val
def g9 (d:Tys.data as9):Tys.data rs9:=(f9 d).getD (Tys.dflt rs9)
def p9:PureC:=pcOf as9 rs9 f9 g9
theorem wk9 (x0:(List Int)) (x0':(List Int)) (x0'':(List (Int×((List (Int×(Bool×Unit)))×Unit)))):Walks (runPure (kl9_0 Go.Proofs.Tryz.prog).orc Go.Proofs.Tryz.prog 400 9 as9 rs9 ((x0,x0',x0'',()),())) (t9 x0 x0' x0'') [(bl 3 7,[1,2,4,6])] :=
  ⟨by kernel_rfl,trivial⟩
theorem ok9_t (x0:(List Int)) (x0':(List Int)) (x0'':(List (Int×((List (Int×(Bool×Unit)))×Unit)))):TrOk (PureRuns Go.Proofs.Tryz.prog (kl9_0 Go.Proofs.Tryz.prog).orc 9 as9 rs9 ((x0,x0',x0'',()),())) (t9 x0 x0' x0'') :=
  Walks.ok (fun _ _ _=>PureRuns.of) (wk9 x0 x0' x0'') (by kernel_rfl)
theorem ok9:PureOk Go.Proofs.Tryz.prog 9 p9:=pureOk_of kl9_0_ok.base (T:=fun (d:Tys.data as9)=>t9 d.1.1 d.1.2.1 d.1.2.2.1) (by kernel_rfl) (fun (d:Tys.data as9)=>ok9_t d.1.1 d.1.2.1 d.1.2.2.1)
def kf9 (P:Go.Program):Known:=(kl9_0 P).func 9 p9
theorem kf9_ok:KnownOk Go.Proofs.Tryz.prog (kf9 Go.Proofs.Tryz.prog):=kl9_0_ok.func ok9
abbrev as43:List Ty:=[.bool,(.int .i64)]
abbrev rs43:List Ty:=[(.int .i64)]
def t43 (x0:Bool) (x1:Int):Tr (Tys.data rs43) :=
  Tr.test (x0)
    (Tr.fin ((x1,())))
    (Tr.fin (((0:Int),())))
def f43 (d:Tys.data as43):Option (Tys.data rs43):=(t43 d.1 d.2.1).val
def g43 (d:Tys.data as43):Tys.data rs43:=(f43 d).getD (Tys.dflt rs43)
def p43:PureC:=pcOf as43 rs43 f43 g43
theorem wk43 (x0:Bool) (x1:Int):Walks (runPure (kf9 Go.Proofs.Tryz.prog).orc Go.Proofs.Tryz.prog 400 43 as43 rs43 (x0,x1,())) (t43 x0 x1) [(bl 1 1,[2]),(bl 1 0,[2])] :=
  ⟨by kernel_rfl,by kernel_rfl,trivial⟩
theorem ok43_t (x0:Bool) (x1:Int):TrOk (PureRuns Go.Proofs.Tryz.prog (kf9 Go.Proofs.Tryz.prog).orc 43 as43 rs43 (x0,x1,())) (t43 x0 x1) :=
  Walks.ok (fun _ _ _=>PureRuns.of) (wk43 x0 x1) (by kernel_rfl)
theorem ok43:PureOk Go.Proofs.Tryz.prog 43 p43:=pureOk_of kf9_ok.base (T:=fun (d:Tys.data as43)=>t43 d.1 d.2.1) (by kernel_rfl) (fun (d:Tys.data as43)=>ok43_t d.1 d.2.1)
def kf43 (P:Go.Program):Known:=(kf9 P).func 43 p43
theorem kf43_ok:KnownOk Go.Proofs.Tryz.prog (kf43 Go.Proofs.Tryz.prog):=kf9_ok.func ok43
abbrev sh41_0:Sh:={ n:=15,slots:=[5,6,7],pats:=[.ty (.slice (.int .i64)),.ty (.int .i64),.ty (.int .i64)],boxes:=[] }
abbrev shb41_0:Sh:={ n:=15,slots:=[],pats:=[],boxes:=[] }
abbrev shr41_0:Sh:={ n:=15,slots:=[2],pats:=[.ty (.int .i64)],boxes:=[] }
def t41_0 (x0:(List Int)) (x1:Int) (x2:Int):Tr (Out sh41_0.data shb41_0.data shr41_0.data) :=
  Tr.test ((!leF x1 x2:Bool))
    (Tr.test (decide ((0:Int) ≤ x2) && decide (x2 < (↑(List.length x0):Int)))
      (Tr.test ((!eqF (List.getD x0 (Int.toNat x2) (0:Int)) (0:Int):Bool))
        (Tr.fin (.ret (((List.getD x0 (Int.toNat x2) (0:Int):Int),()),())))
        (Tr.fin (.again ((x0,(x1,((wrap64 (x2 + (1:Int)):Int),()))),()))))
      (Tr.stop))
    (Tr.fin (.brk ((),())))
def s41_0 (d:sh41_0.data):Option (Out sh41_0.data shb41_0.data shr41_0.data):=(t41_0 d.1.1 d.1.2.1 d.1.2.2.1).val
def l41_0 (d:sh41_0.data):Option (shb41_0.data ⊕ shr41_0.data):=itr s41_0 rounds d
def b41_0 (d:sh41_0.data):shb41_0.data:=outB shb41_0.dflt (l41_0 d)
def r41_0 (d:sh41_0.data):shr41_0.data:=outR shr41_0.dflt (l41_0 d)
def lc41_0:LoopC:=lcOf sh41_0 shb41_0 shr41_0 l41_0 b41_0 r41_0
theorem wk41_0 (x0:(List Int)) (x1:Int) (x2:Int):Walks (runBody (kf43 Go.Proofs.Tryz.prog).orc Go.Proofs.Tryz.prog 400 41 0 sh41_0 shb41_0 shr41_0 ((x0,x1,x2,()),())) (t41_0 x0 x1 x2) [(bl 3 7,[2,4,6]),(bl 3 3,[2,4,6]),(bl 1 0,[2])] :=
  ⟨by kernel_rfl,by kernel_rfl,by kernel_rfl,trivial⟩
theorem ok41_0_t (x0:(List Int)) (x1:Int) (x2:Int):TrOk (BodyRuns Go.Proofs.Tryz.prog (kf43 Go.Proofs.Tryz.prog).orc 41 0 sh41_0 shb41_0 shr41_0 ((x0,x1,x2,()),())) (t41_0 x0 x1 x2) :=
  Walks.ok (fun _ _ _=>BodyRuns.of) (wk41_0 x0 x1 x2) (by kernel_rfl)
theorem ok41_0:LoopOk Go.Proofs.Tryz.prog 41 0 lc41_0:=loopOk_of (sh:=sh41_0) (shB:=shb41_0) (shR:=shr41_0) kf43_ok.base (T:=fun (d:sh41_0.data)=>t41_0 d.1.1 d.1.2.1 d.1.2.2.1) (by kernel_rfl) rfl (fun (d:sh41_0.data)=>ok41_0_t d.1.1 d.1.2.1 d.1.2.2.1) (fun _=>rfl)
def kl41_0 (P:Go.Program):Known:=(kf43 P).loop 41 0 lc41_0
theorem kl41_0_ok:KnownOk Go.Proofs.Tryz.prog (kl41_0 Go.Proofs.Tryz.prog):=kf43_ok.loop ok41_0
abbrev as41:List Ty:=[(.slice (.int .i64))]
abbrev rs41:List Ty:=[(.int .i64)]
def t41 (x0:(List Int)):Tr (Tys.data rs41) :=
  Tr.test (Option.isSome (l41_0 ((x0,((↑(List.length x0):Int),((0:Int),()))),())))
    (Tr.test (isRet (l41_0 ((x0,((↑(List.length x0):Int),((0:Int),()))),())))
      (let r0:=r41_0 ((x0,((↑(List.length x0):Int),((0:Int),()))),());
      Tr.fin ((r0.1.1,())))
      (Tr.fin (((0:Int),()))))
    (Tr.stop)
def f41 (d:Tys.data as41):Option (Tys.data rs41):=(t41 d.1).val
def g41 (d:Tys.data as41):Tys.data rs41:=(f41 d).getD (Tys.dflt rs41)
def p41:PureC:=pcOf as41 rs41 f41 g41
theorem wk41 (x0:(List Int)):Walks (runPure (kl41_0 Go.Proofs.Tryz.prog).orc Go.Proofs.Tryz.prog 400 41 as41 rs41 (x0,())) (t41 x0) [(bl 2 3,[2,4]),(bl 2 1,[2,4])] :=
  ⟨by kernel_rfl,by kernel_rfl,trivial⟩
theorem ok41_t (x0:(List Int)):TrOk (PureRuns Go.Proofs.Tryz.prog (kl41_0 Go.Proofs.Tryz.prog).orc 41 as41 rs41 (x0,())) (t41 x0) :=
  Walks.ok (fun _ _ _=>PureRuns.of) (wk41 x0) (by kernel_rfl)
theorem ok41:PureOk Go.Proofs.Tryz.prog 41 p41:=pureOk_of kl41_0_ok.base (T:=fun (d:Tys.data as41)=>t41 d.1) (by kernel_rfl) (fun (d:Tys.data as41)=>ok41_t d.1)
def kf41 (P:Go.Program):Known:=(kl41_0 P).func 41 p41
theorem kf41_ok:KnownOk Go.Proofs.Tryz.prog (kf41 Go.Proofs.Tryz.prog):=kl41_0_ok.func ok41
abbrev as82:List Ty:=[(.int .i64),(.int .i64)]
abbrev rs82:List Ty:=[(.int .i64)]
def t82 (x0:Int) (x1:Int):Tr (Tys.data rs82) :=
  Tr.test (Option.isSome (f43 ((eqF x0 0:Bool),((10:Int),()))))
    (Tr.test (Option.isSome (f43 (!leF x0 x1,((8:Int),()))))
      (let r0:=g43 ((eqF x0 0:Bool),((10:Int),()));
      let r1:=g43 ((!leF x0 x1:Bool),((8:Int),()));
      Tr.test (Option.isSome (f41 (([r0.1,r1.1]:List Int),())))
        (let r2:=g41 (([r0.1,r1.1]:List Int),());
        Tr.fin ((r2.1,())))
        (Tr.stop))
      (Tr.stop))
    (Tr.stop)
def f82 (d:Tys.data as82):Option (Tys.data rs82):=(t82 d.1 d.2.1).val
def g82 (d:Tys.data as82):Tys.data rs82:=(f82 d).getD (Tys.dflt rs82)
def p82:PureC:=pcOf as82 rs82 f82 g82
theorem wk82 (x0:Int) (x1:Int):Walks (runPure (kf41 Go.Proofs.Tryz.prog).orc Go.Proofs.Tryz.prog 400 82 as82 rs82 (x0,x1,())) (t82 x0 x1) [(bl 3 7,[2,4,6])] :=
  ⟨by kernel_rfl,trivial⟩
theorem ok82_t (x0:Int) (x1:Int):TrOk (PureRuns Go.Proofs.Tryz.prog (kf41 Go.Proofs.Tryz.prog).orc 82 as82 rs82 (x0,x1,())) (t82 x0 x1) :=
  Walks.ok (fun _ _ _=>PureRuns.of) (wk82 x0 x1) (by kernel_rfl)
theorem ok82:PureOk Go.Proofs.Tryz.prog 82 p82:=pureOk_of kf41_ok.base (T:=fun (d:Tys.data as82)=>t82 d.1 d.2.1) (by kernel_rfl) (fun (d:Tys.data as82)=>ok82_t d.1 d.2.1)
def kf82 (P:Go.Program):Known:=(kf41 P).func 82 p82
theorem kf82_ok:KnownOk Go.Proofs.Tryz.prog (kf82 Go.Proofs.Tryz.prog):=kf41_ok.func ok82
abbrev sh85_0:Sh:={ n:=24,slots:=[0,1,9,10,11],pats:=[.ty (.int .i64),.ty (.int .i64),.ty (.slice (.int .i64)),.ty (.int .i64),.ty (.int .i64)],boxes:=[] }
abbrev shb85_0:Sh:={ n:=24,slots:=[],pats:=[],boxes:=[] }
abbrev shr85_0:Sh:={ n:=24,slots:=[6],pats:=[.ty .bool],boxes:=[] }
def t85_0 (x0:Int) (x1:Int) (x2:(List Int)) (x3:Int) (x4:Int):Tr (Out sh85_0.data shb85_0.data shr85_0.data) :=
  Tr.test ((!leF x3 x4:Bool))
    (Tr.test (decide ((0:Int) ≤ x4) && decide (x4 < (↑(List.length x2):Int)))
      (Tr.test ((!leF x0 (List.getD x2 (Int.toNat x4) (0:Int)):Bool))
        (Tr.fin (.ret (((false:Bool),()),())))
        (Tr.test ((!leF (List.getD x2 (Int.toNat x4) (0:Int)) x1:Bool))
          (Tr.fin (.ret (((false:Bool),()),())))
          (Tr.fin (.again ((x0,(x1,(x2,(x3,((wrap64 (x4 + (1:Int)):Int),()))))),())))))
      (Tr.stop))
    (Tr.fin (.brk ((),())))
def s85_0 (d:sh85_0.data):Option (Out sh85_0.data shb85_0.data shr85_0.data):=(t85_0 d.1.1 d.1.2.1 d.1.2.2.1 d.1.2.2.2.1 d.1.2.2.2.2.1).val
def l85_0 (d:sh85_0.data):Option (shb85_0.data ⊕ shr85_0.data):=itr s85_0 rounds d
def b85_0 (d:sh85_0.data):shb85_0.data:=outB shb85_0.dflt (l85_0 d)
def r85_0 (d:sh85_0.data):shr85_0.data:=outR shr85_0.dflt (l85_0 d)
def lc85_0:LoopC:=lcOf sh85_0 shb85_0 shr85_0 l85_0 b85_0 r85_0
theorem wk85_0 (x0:Int) (x1:Int) (x2:(List Int)) (x3:Int) (x4:Int):Walks (runBody (kf82 Go.Proofs.Tryz.prog).orc Go.Proofs.Tryz.prog 400 85 0 sh85_0 shb85_0 shr85_0 ((x0,x1,x2,x3,x4,()),())) (t85_0 x0 x1 x2 x3 x4) [(bl 3 7,[1,2,2,2,2,4,6]),(bl 4 11,[2,4,4,4,4,6,8]),(bl 4 3,[2,4,4,4,4,6,8]),(bl 1 0,[2])] :=
  ⟨by kernel_rfl,by kernel_rfl,by kernel_rfl,by kernel_rfl,trivial⟩
theorem ok85_0_t (x0:Int) (x1:Int) (x2:(List Int)) (x3:Int) (x4:Int):TrOk (BodyRuns Go.Proofs.Tryz.prog (kf82 Go.Proofs.Tryz.prog).orc 85 0 sh85_0 shb85_0 shr85_0 ((x0,x1,x2,x3,x4,()),())) (t85_0 x0 x1 x2 x3 x4) :=
  Walks.ok (fun _ _ _=>BodyRuns.of) (wk85_0 x0 x1 x2 x3 x4) (by kernel_rfl)
theorem ok85_0:LoopOk Go.Proofs.Tryz.prog 85 0 lc85_0:=loopOk_of (sh:=sh85_0) (shB:=shb85_0) (shR:=shr85_0) kf82_ok.base (T:=fun (d:sh85_0.data)=>t85_0 d.1.1 d.1.2.1 d.1.2.2.1 d.1.2.2.2.1 d.1.2.2.2.2.1) (by kernel_rfl) rfl (fun (d:sh85_0.data)=>ok85_0_t d.1.1 d.1.2.1 d.1.2.2.1 d.1.2.2.2.1 d.1.2.2.2.2.1) (fun _=>rfl)
def kl85_0 (P:Go.Program):Known:=(kf82 P).loop 85 0 lc85_0
theorem kl85_0_ok:KnownOk Go.Proofs.Tryz.prog (kl85_0 Go.Proofs.Tryz.prog):=kf82_ok.loop ok85_0
abbrev as85:List Ty:=[(.int .i64),(.int .i64),(.slice (.int .i64))]
abbrev rs85:List Ty:=[.bool]
def t85 (x0:Int) (x1:Int) (x2:(List Int)):Tr (Tys.data rs85) :=
  Tr.test (Option.isSome (l85_0 ((x0,(x1,(x2,((↑(List.length x2):Int),((0:Int),()))))),())))
    (Tr.test (isRet (l85_0 ((x0,(x1,(x2,((↑(List.length x2):Int),((0:Int),()))))),())))
      (let r0:=r85_0 ((x0,(x1,(x2,((↑(List.length x2):Int),((0:Int),()))))),());
      Tr.fin ((r0.1.1,())))
      (Tr.fin (((true:Bool),()))))
    (Tr.stop)
def f85 (d:Tys.data as85):Option (Tys.data rs85):=(t85 d.1 d.2.1 d.2.2.1).val
def g85 (d:Tys.data as85):Tys.data rs85:=(f85 d).getD (Tys.dflt rs85)
def p85:PureC:=pcOf as85 rs85 f85 g85
theorem wk85 (x0:Int) (x1:Int) (x2:(List Int)):Walks (runPure (kl85_0 Go.Proofs.Tryz.prog).orc Go.Proofs.Tryz.prog 400 85 as85 rs85 (x0,x1,x2,())) (t85 x0 x1 x2) [(bl 2 3,[2,4]),(bl 2 1,[2,4])] :=
  ⟨by kernel_rfl,by kernel_rfl,trivial⟩
theorem ok85_t (x0:Int) (x1:Int) (x2:(List Int)):TrOk (PureRuns Go.Proofs.Tryz.prog (kl85_0 Go.Proofs.Tryz.prog).orc 85 as85 rs85 (x0,x1,x2,())) (t85 x0 x1 x2) :=
  Walks.ok (fun _ _ _=>PureRuns.of) (wk85 x0 x1 x2) (by kernel_rfl)
theorem ok85:PureOk Go.Proofs.Tryz.prog 85 p85:=pureOk_of kl85_0_ok.base (T:=fun (d:Tys.data as85)=>t85 d.1 d.2.1 d.2.2.1) (by kernel_rfl) (fun (d:Tys.data as85)=>ok85_t d.1 d.2.1 d.2.2.1)
def kf85 (P:Go.Program):Known:=(kl85_0 P).func 85 p85
theorem kf85_ok:KnownOk Go.Proofs.Tryz.prog (kf85 Go.Proofs.Tryz.prog):=kl85_0_ok.func ok85
abbrev sh111_0:Sh:={ n:=25,slots:=[1,9,10,11],pats:=[.fn 112 [],.ty (.slice (.pair (.int .i64) (.pair (.int .i64) (.pair .bool .unit)))),.ty (.int .i64),.ty (.int .i64)],boxes:=[] }
abbrev shb111_0:Sh:={ n:=25,slots:=[],pats:=[],boxes:=[] }
abbrev shr111_0:Sh:={ n:=25,slots:=[4,5],pats:=[.ty (.int .i64),.ty (.int .i64)],boxes:=[] }
def t111_0 (x1:(List (Int×(Int×(Bool×Unit))))) (x2:Int) (x3:Int):Tr (Out sh111_0.data shb111_0.data shr111_0.data) :=
  Tr.test ((!leF x2 x3:Bool))
    (Tr.test (decide ((0:Int) ≤ x3) && decide (x3 < (↑(List.length x1):Int)))
      (Tr.test (Option.isSome (f85 ((1:Int),((1000:Int),(([(List.getD x1 (Int.toNat x3) ((0:Int),(0:Int),false,())).1,(List.getD x1 (Int.toNat x3) ((0:Int),(0:Int),false,())).2.1]:List Int),())))))
        (let r0:=g85 ((1:Int),((1000:Int),(([(List.getD x1 (Int.toNat x3) ((0:Int),(0:Int),false,())).1,(List.getD x1 (Int.toNat x3) ((0:Int),(0:Int),false,())).2.1]:List Int),())));
        Tr.test (Option.isSome (f43 ((!r0.1:Bool),((2:Int),()))))
          (let r1:=g43 ((!r0.1:Bool),((2:Int),()));
          Tr.test ((!eqF r1.1 0:Bool))
            (Tr.fin (.ret ((x3,(r1.1,())),())))
            (Tr.fin (.again ((x1,(x2,((wrap64 (x3 + (1:Int)):Int),()))),()))))
          (Tr.stop))
        (Tr.stop))
      (Tr.stop))
    (Tr.fin (.brk ((),())))
def s111_0 (d:sh111_0.data):Option (Out sh111_0.data shb111_0.data shr111_0.data):=(t111_0 d.1.1 d.1.2.1 d.1.2.2.1).val
def l111_0 (d:sh111_0.data):Option (shb111_0.data ⊕ shr111_0.data):=itr s111_0 rounds d
def b111_0 (d:sh111_0.data):shb111_0.data:=outB shb111_0.dflt (l111_0 d)
def r111_0 (d:sh111_0.data):shr111_0.data:=outR shr111_0.dflt (l111_0 d)
def lc111_0:LoopC:=lcOf sh111_0 shb111_0 shr111_0 l111_0 b111_0 r111_0
theorem wk111_0 (x1:(List (Int×(Int×(Bool×Unit))))) (x2:Int) (x3:Int):Walks (runBody (kf85 Go.Proofs.Tryz.prog).orc Go.Proofs.Tryz.prog 400 111 0 sh111_0 shb111_0 shr111_0 ((x1,x2,x3,()),())) (t111_0 x1 x2 x3) [(bl 5 31,[2,4,6,8,10]),(bl 5 15,[2,4,6,8,10]),(bl 1 0,[2])] :=
  ⟨by kernel_rfl,by kernel_rfl,by kernel_rfl,trivial⟩
theorem ok111_0_t (x1:(List (Int×(Int×(Bool×Unit))))) (x2:Int) (x3:Int):TrOk (BodyRuns Go.Proofs.Tryz.prog (kf85 Go.Proofs.Tryz.prog).orc 111 0 sh111_0 shb111_0 shr111_0 ((x1,x2,x3,()),())) (t111_0 x1 x2 x3) :=
  Walks.ok (fun _ _ _=>BodyRuns.of) (wk111_0 x1 x2 x3) (by kernel_rfl)
theorem ok111_0:LoopOk Go.Proofs.Tryz.prog 111 0 lc111_0:=loopOk_of (sh:=sh111_0) (shB:=shb111_0) (shR:=shr111_0) kf85_ok.base (T:=fun (d:sh111_0.data)=>t111_0 d.1.1 d.1.2.1 d.1.2.2.1) (by kernel_rfl) rfl (fun (d:sh111_0.data)=>ok111_0_t d.1.1 d.1.2.1 d.1.2.2.1) (fun _=>rfl)
def kl111_0 (P:Go.Program):Known:=(kf85 P).loop 111 0 lc111_0
theorem kl111_0_ok:KnownOk Go.Proofs.Tryz.prog (kl111_0 Go.Proofs.Tryz.prog):=kf85_ok.loop ok111_0
abbrev as86:List Ty:=[(.slice (.pair (.int .i64) (.pair (.int .i64) (.pair .bool .unit))))]
abbrev rs86:List Ty:=[(.int .i64),(.int .i64)]
def t86 (x0:(List (Int×(Int×(Bool×Unit))))):Tr (Tys.data rs86) :=
  Tr.test (Option.isSome (f82 ((↑(List.length x0):Int),((4:Int),()))))
    (let r0:=g82 ((↑(List.length x0):Int),((4:Int),()));
    Tr.test ((!eqF r0.1 0:Bool))
      (Tr.fin (((0:Int),(r0.1,()))))
      (Tr.test (Option.isSome (l111_0 ((x0,((↑(List.length x0):Int),((0:Int),()))),())))
        (Tr.test (isRet (l111_0 ((x0,((↑(List.length x0):Int),((0:Int),()))),())))
          (let r1:=r111_0 ((x0,((↑(List.length x0):Int),((0:Int),()))),());
          Tr.fin ((r1.1.1,(r1.1.2.1,()))))
          (Tr.fin (((0:Int),((0:Int),())))))
        (Tr.stop)))
    (Tr.stop)
def f86 (d:Tys.data as86):Option (Tys.data rs86):=(t86 d.1).val
def g86 (d:Tys.data as86):Tys.data rs86:=(f86 d).getD (Tys.dflt rs86)
def p86:PureC:=pcOf as86 rs86 f86 g86
theorem wk86 (x0:(List (Int×(Int×(Bool×Unit))))):Walks (runPure (kl111_0 Go.Proofs.Tryz.prog).orc Go.Proofs.Tryz.prog 400 86 as86 rs86 (x0,())) (t86 x0) [(bl 2 3,[2,4]),(bl 4 13,[2,4,6,8]),(bl 4 5,[2,4,6,8])] :=
  ⟨by kernel_rfl,by kernel_rfl,by kernel_rfl,trivial⟩
theorem ok86_t (x0:(List (Int×(Int×(Bool×Unit))))):TrOk (PureRuns Go.Proofs.Tryz.prog (kl111_0 Go.Proofs.Tryz.prog).orc 86 as86 rs86 (x0,())) (t86 x0) :=
  Walks.ok (fun _ _ _=>PureRuns.of) (wk86 x0) (by kernel_rfl)
theorem ok86:PureOk Go.Proofs.Tryz.prog 86 p86:=pureOk_of kl111_0_ok.base (T:=fun (d:Tys.data as86)=>t86 d.1) (by kernel_rfl) (fun (d:Tys.data as86)=>ok86_t d.1)
def kf86 (P:Go.Program):Known:=(kl111_0 P).func 86 p86
theorem kf86_ok:KnownOk Go.Proofs.Tryz.prog (kf86 Go.Proofs.Tryz.prog):=kl111_0_ok.func ok86
abbrev sh83_0:Sh:={ n:=25,slots:=[1,9,10,11],pats:=[.fn 84 [],.ty (.slice (.pair (.int .i64) (.pair (.int .i64) (.pair (.slice (.pair (.int .i64) (.pair (.int .i64) (.pair .bool .unit)))) .unit)))),.ty (.int .i64),.ty (.int .i64)],boxes:=[] }
abbrev shb83_0:Sh:={ n:=25,slots:=[],pats:=[],boxes:=[] }
abbrev shr83_0:Sh:={ n:=25,slots:=[4,5],pats:=[.ty (.int .i64),.ty (.int .i64)],boxes:=[] }
def t83_0 (x1:(List (Int×(Int×((List (Int×(Int×(Bool×Unit))))×Unit))))) (x2:Int) (x3:Int):Tr (Out sh83_0.data shb83_0.data shr83_0.data) :=
  Tr.test ((!leF x2 x3:Bool))
    (Tr.test (decide ((0:Int) ≤ x3) && decide (x3 < (↑(List.length x1):Int)))
      (Tr.test (Option.isSome (f85 ((1:Int),((10000:Int),(([(List.getD x1 (Int.toNat x3) ((0:Int),(0:Int),[],())).1]:List Int),())))))
        (let r0:=g85 ((1:Int),((10000:Int),(([(List.getD x1 (Int.toNat x3) ((0:Int),(0:Int),[],())).1]:List Int),())));
        Tr.test ((!r0.1:Bool))
          (Tr.test (Option.isSome (f86 (((List.getD x1 (Int.toNat x3) ((0:Int),(0:Int),[],())).2.2.1:List (Int×Int×Bool×PUnit)),())))
            (Tr.test (Option.isSome (f43 ((true:Bool),((2:Int),()))))
              (let r1:=g43 ((true:Bool),((2:Int),()));
              let r2:=g86 (((List.getD x1 (Int.toNat x3) ((0:Int),(0:Int),[],())).2.2.1:List (Int×Int×Bool×PUnit)),());
              Tr.test (Option.isSome (f41 (([r1.1,r2.2.1]:List Int),())))
                (let r5:=g41 (([r1.1,r2.2.1]:List Int),());
                Tr.test ((!eqF r5.1 0:Bool))
                  (Tr.fin (.ret ((x3,(r5.1,())),())))
                  (Tr.fin (.again ((x1,(x2,((wrap64 (x3 + (1:Int)):Int),()))),()))))
                (Tr.stop))
              (Tr.stop))
            (Tr.stop))
          (Tr.test (Option.isSome (f85 ((1:Int),((1000:Int),(([(List.getD x1 (Int.toNat x3) ((0:Int),(0:Int),[],())).2.1]:List Int),())))))
            (Tr.test (Option.isSome (f86 (((List.getD x1 (Int.toNat x3) ((0:Int),(0:Int),[],())).2.2.1:List (Int×Int×Bool×PUnit)),())))
              (let r3:=g85 ((1:Int),((1000:Int),(([(List.getD x1 (Int.toNat x3) ((0:Int),(0:Int),[],())).2.1]:List Int),())));
              Tr.test (Option.isSome (f43 ((!r3.1:Bool),((2:Int),()))))
                (let r2:=g86 (((List.getD x1 (Int.toNat x3) ((0:Int),(0:Int),[],())).2.2.1:List (Int×Int×Bool×PUnit)),());
                let r4:=g43 ((!r3.1:Bool),((2:Int),()));
                Tr.test (Option.isSome (f41 (([r4.1,r2.2.1]:List Int),())))
                  (let r6:=g41 (([r4.1,r2.2.1]:List Int),());
                  Tr.test ((!eqF r6.1 0:Bool))
                    (Tr.fin (.ret ((x3,(r6.1,())),())))
                    (Tr.fin (.again ((x1,(x2,((wrap64 (x3 + (1:Int)):Int),()))),()))))
                  (Tr.stop))
                (Tr.stop))
              (Tr.stop))
            (Tr.stop)))
        (Tr.stop))
      (Tr.stop))
    (Tr.fin (.brk ((),())))
def s83_0 (d:sh83_0.data):Option (Out sh83_0.data shb83_0.data shr83_0.data):=(t83_0 d.1.1 d.1.2.1 d.1.2.2.1).val
def l83_0 (d:sh83_0.data):Option (shb83_0.data ⊕ shr83_0.data):=itr s83_0 rounds d
def b83_0 (d:sh83_0.data):shb83_0.data:=outB shb83_0.dflt (l83_0 d)
def r83_0 (d:sh83_0.data):shr83_0.data:=outR shr83_0.dflt (l83_0 d)
def lc83_0:LoopC:=lcOf sh83_0 shb83_0 shr83_0 l83_0 b83_0 r83_0
theorem wk83_0 (x1:(List (Int×(Int×((List (Int×(Int×(Bool×Unit))))×Unit))))) (x2:Int) (x3:Int):Walks (runBody (kf86 Go.Proofs.Tryz.prog).orc Go.Proofs.Tryz.prog 400 83 0 sh83_0 shb83_0 shr83_0 ((x1,x2,x3,()),())) (t83_0 x1 x2 x3) [(bl 8 255,[2,4,6,8,10,10,10,10,10,10,12,14,16]),(bl 8 127,[2,4,6,8,10,10,10,10,10,10,12,14,16]),(bl 9 503,[2,4,6,8,12,12,10,12,12,12,12,14,16,18]),(bl 9 247,[2,4,6,8,12,12,10,12,12,12,12,14,16,18]),(bl 1 0,[2])] :=
  ⟨by kernel_rfl,by kernel_rfl,by kernel_rfl,by kernel_rfl,by kernel_rfl,trivial⟩
theorem ok83_0_t (x1:(List (Int×(Int×((List (Int×(Int×(Bool×Unit))))×Unit))))) (x2:Int) (x3:Int):TrOk (BodyRuns Go.Proofs.Tryz.prog (kf86 Go.Proofs.Tryz.prog).orc 83 0 sh83_0 shb83_0 shr83_0 ((x1,x2,x3,()),())) (t83_0 x1 x2 x3) :=
  Walks.ok (fun _ _ _=>BodyRuns.of) (wk83_0 x1 x2 x3) (by kernel_rfl)
theorem ok83_0:LoopOk Go.Proofs.Tryz.prog 83 0 lc83_0:=loopOk_of (sh:=sh83_0) (shB:=shb83_0) (shR:=shr83_0) kf86_ok.base (T:=fun (d:sh83_0.data)=>t83_0 d.1.1 d.1.2.1 d.1.2.2.1) (by kernel_rfl) rfl (fun (d:sh83_0.data)=>ok83_0_t d.1.1 d.1.2.1 d.1.2.2.1) (fun _=>rfl)
def kl83_0 (P:Go.Program):Known:=(kf86 P).loop 83 0 lc83_0
theorem kl83_0_ok:KnownOk Go.Proofs.Tryz.prog (kl83_0 Go.Proofs.Tryz.prog):=kf86_ok.loop ok83_0
abbrev as38:List Ty:=[(.pair (.slice (.pair (.int .i64) (.pair (.int .i64) (.pair (.slice (.pair (.int .i64) (.pair (.int .i64) (.pair .bool .unit)))) .unit)))) .unit)]
abbrev rs38:List Ty:=[(.int .i64),(.int .i64)]
def t38 (x0:(List (Int×(Int×((List (Int×(Int×(Bool×Unit))))×Unit))))):Tr (Tys.data rs38) :=
  Tr.test (Option.isSome (f82 ((↑(List.length x0):Int),((5:Int),()))))
    (let r0:=g82 ((↑(List.length x0):Int),((5:Int),()));
    Tr.test ((!eqF r0.1 0:Bool))
      (Tr.fin (((0:Int),(r0.1,()))))
      (Tr.test (Option.isSome (l83_0 ((x0,((↑(List.length x0):Int),((0:Int),()))),())))
        (Tr.test (isRet (l83_0 ((x0,((↑(List.length x0):Int),((0:Int),()))),())))
          (let r1:=r83_0 ((x0,((↑(List.length x0):Int),((0:Int),()))),());
          Tr.fin ((r1.1.1,(r1.1.2.1,()))))
          (Tr.fin (((0:Int),((0:Int),())))))
        (Tr.stop)))
    (Tr.stop)
def f38 (d:Tys.data as38):Option (Tys.data rs38):=(t38 d.1.1).val
def g38 (d:Tys.data as38):Tys.data rs38:=(f38 d).getD (Tys.dflt rs38)
def p38:PureC:=pcOf as38 rs38 f38 g38
theorem wk38 (x0:(List (Int×(Int×((List (Int×(Int×(Bool×Unit))))×Unit))))):Walks (runPure (kl83_0 Go.Proofs.Tryz.prog).orc Go.Proofs.Tryz.prog 400 38 as38 rs38 ((x0,()),())) (t38 x0) [(bl 2 3,[2,4]),(bl 4 13,[2,4,6,8]),(bl 4 5,[2,4,6,8])] :=
  ⟨by kernel_rfl,by kernel_rfl,by kernel_rfl,trivial⟩
theorem ok38_t (x0:(List (Int×(Int×((List (Int×(Int×(Bool×Unit))))×Unit))))):TrOk (PureRuns Go.Proofs.Tryz.prog (kl83_0 Go.Proofs.Tryz.prog).orc 38 as38 rs38 ((x0,()),())) (t38 x0) :=
  Walks.ok (fun _ _ _=>PureRuns.of) (wk38 x0) (by kernel_rfl)
theorem ok38:PureOk Go.Proofs.Tryz.prog 38 p38:=pureOk_of kl83_0_ok.base (T:=fun (d:Tys.data as38)=>t38 d.1.1) (by kernel_rfl) (fun (d:Tys.data as38)=>ok38_t d.1.1)
def kf38 (P:Go.Program):Known:=(kl83_0 P).func 38 p38
theorem kf38_ok:KnownOk Go.Proofs.Tryz.prog (kf38 Go.Proofs.Tryz.prog):=kl83_0_ok.func ok38
abbrev as44:List Ty:=[(.int .i64),(.slice (.int .i64))]
abbrev rs44:List Ty:=[.bool]
def t44 (x0:Int) (x1:(List Int)):Tr (Tys.data rs44) :=
  Tr.test (Option.isSome (f85 ((Go.IntKind.wrap Go.IntKind.i64 ((0:Int) - x0):Int),(x0,(x1,())))))
    (let r0:=g85 ((Go.IntKind.wrap Go.IntKind.i64 ((0:Int) - x0):Int),(x0,(x1,())));
    Tr.fin (((!r0.1:Bool),())))
    (Tr.stop)
def f44 (d:Tys.data as44):Option (Tys.data rs44):=(t44 d.1 d.2.1).val
def g44 (d:Tys.data as44):Tys.data rs44:=(f44 d).getD (Tys.dflt rs44)
def p44:PureC:=pcOf as44 rs44 f44 g44
theorem wk44 (x0:Int) (x1:(List Int)):Walks (runPure (kf38 Go.Proofs.Tryz.prog).orc Go.Proofs.Tryz.prog 400 44 as44 rs44 (x0,x1,())) (t44 x0 x1) [(bl 1 1,[2])] :=
  ⟨by kernel_rfl,trivial⟩
theorem ok44_t (x0:Int) (x1:(List Int)):TrOk (PureRuns Go.Proofs.Tryz.prog (kf38 Go.Proofs.Tryz.prog).orc 44 as44 rs44 (x0,x1,())) (t44 x0 x1) :=
  Walks.ok (fun _ _ _=>PureRuns.of) (wk44 x0 x1) (by kernel_rfl)
theorem ok44:PureOk Go.Proofs.Tryz.prog 44 p44:=pureOk_of kf38_ok.base (T:=fun (d:Tys.data as44)=>t44 d.1 d.2.1) (by kernel_rfl) (fun (d:Tys.data as44)=>ok44_t d.1 d.2.1)
def kf44 (P:Go.Program):Known:=(kf38 P).func 44 p44
theorem kf44_ok:KnownOk Go.Proofs.Tryz.prog (kf44 Go.Proofs.Tryz.prog):=kf38_ok.func ok44
abbrev as42:List Ty:=[(.int .i64),(.slice (.int .i64))]
abbrev rs42:List Ty:=[(.int .i64)]
def t42 (x0:Int) (x1:(List Int)):Tr (Tys.data rs42) :=
  Tr.test (Option.isSome (f44 (x0,(x1,()))))
    (let r0:=g44 (x0,(x1,()));
    Tr.test (Option.isSome (f43 (r0.1,((2:Int),()))))
      (let r1:=g43 (r0.1,((2:Int),()));
      Tr.fin ((r1.1,())))
      (Tr.stop))
    (Tr.stop)
def f42 (d:Tys.data as42):Option (Tys.data rs42):=(t42 d.1 d.2.1).val
def g42 (d:Tys.data as42):Tys.data rs42:=(f42 d).getD (Tys.dflt rs42)
def p42:PureC:=pcOf as42 rs42 f42 g42
theorem wk42 (x0:Int) (x1:(List Int)):Walks (runPure (kf44 Go.Proofs.Tryz.prog).orc Go.Proofs.Tryz.prog 400 42 as42 rs42 (x0,x1,())) (t42 x0 x1) [(bl 2 3,[2,4])] :=
  ⟨by kernel_rfl,trivial⟩
theorem ok42_t (x0:Int) (x1:(List Int)):TrOk (PureRuns Go.Proofs.Tryz.prog (kf44 Go.Proofs.Tryz.prog).orc 42 as42 rs42 (x0,x1,())) (t42 x0 x1) :=
  Walks.ok (fun _ _ _=>PureRuns.of) (wk42 x0 x1) (by kernel_rfl)
theorem ok42:PureOk Go.Proofs.Tryz.prog 42 p42:=pureOk_of kf44_ok.base (T:=fun (d:Tys.data as42)=>t42 d.1 d.2.1) (by kernel_rfl) (fun (d:Tys.data as42)=>ok42_t d.1 d.2.1)
def kf42 (P:Go.Program):Known:=(kf44 P).func 42 p42
theorem kf42_ok:KnownOk Go.Proofs.Tryz.prog (kf42 Go.Proofs.Tryz.prog):=kf44_ok.func ok42
abbrev as73:List Ty:=[(.int .i64)]
abbrev rs73:List Ty:=[(.int .i64)]
def t73 (x0:Int):Tr (Tys.data rs73) :=
  Tr.test (Option.isSome (f42 ((10000:Int),(([x0]:List Int),()))))
    (let r0:=g42 ((10000:Int),(([x0]:List Int),()));
    Tr.fin ((r0.1,())))
    (Tr.stop)
def f73 (d:Tys.data as73):Option (Tys.data rs73):=(t73 d.1).val
def g73 (d:Tys.data as73):Tys.data rs73:=(f73 d).getD (Tys.dflt rs73)
def p73:PureC:=pcOf as73 rs73 f73 g73
theorem wk73 (x0:Int):Walks (runPure (kf42 Go.Proofs.Tryz.prog).orc Go.Proofs.Tryz.prog 400 73 as73 rs73 (x0,())) (t73 x0) [(bl 1 1,[2])] :=
  ⟨by kernel_rfl,trivial⟩
theorem ok73_t (x0:Int):TrOk (PureRuns Go.Proofs.Tryz.prog (kf42 Go.Proofs.Tryz.prog).orc 73 as73 rs73 (x0,())) (t73 x0) :=
  Walks.ok (fun _ _ _=>PureRuns.of) (wk73 x0) (by kernel_rfl)
theorem ok73:PureOk Go.Proofs.Tryz.prog 73 p73:=pureOk_of kf42_ok.base (T:=fun (d:Tys.data as73)=>t73 d.1) (by kernel_rfl) (fun (d:Tys.data as73)=>ok73_t d.1)
def kf73 (P:Go.Program):Known:=(kf42 P).func 73 p73
theorem kf73_ok:KnownOk Go.Proofs.Tryz.prog (kf73 Go.Proofs.Tryz.prog):=kf42_ok.func ok73
abbrev as113:List Ty:=[(.pair (.pair (.int .i64) (.pair (.int .i64) (.pair .bool .unit))) (.pair (.pair (.int .i64) (.pair .bool .unit)) (.pair (.int .i64) .unit)))]
abbrev rs113:List Ty:=[(.int .i64)]
def t113 (x0_:Int) (x0_':Int) (x0_'':Bool) (x0'_:Int) (x0'_':Bool) (x0'':Int):Tr (Tys.data rs113) :=
  Tr.fin (((wrap64 (x0'' - x0'_):Int),()))
def f113 (d:Tys.data as113):Option (Tys.data rs113):=(t113 d.1.1.1 d.1.1.2.1 d.1.1.2.2.1 d.1.2.1.1 d.1.2.1.2.1 d.1.2.2.1).val
def g113 (d:Tys.data as113):Tys.data rs113:=(f113 d).getD (Tys.dflt rs113)
def p113:PureC:=pcOf as113 rs113 f113 g113
theorem wk113 (x0_:Int) (x0_':Int) (x0_'':Bool) (x0'_:Int) (x0'_':Bool) (x0'':Int):Walks (runPure (kf73 Go.Proofs.Tryz.prog).orc Go.Proofs.Tryz.prog 400 113 as113 rs113 (((x0_,x0_',x0_'',()),(x0'_,x0'_',()),x0'',()),())) (t113 x0_ x0_' x0_'' x0'_ x0'_' x0'') [(bl 0 0,[])] :=
  ⟨by kernel_rfl,trivial⟩
theorem ok113_t (x0_:Int) (x0_':Int) (x0_'':Bool) (x0'_:Int) (x0'_':Bool) (x0'':Int):TrOk (PureRuns Go.Proofs.Tryz.prog (kf73 Go.Proofs.Tryz.prog).orc 113 as113 rs113 (((x0_,x0_',x0_'',()),(x0'_,x0'_',()),x0'',()),())) (t113 x0_ x0_' x0_'' x0'_ x0'_' x0'') :=
  Walks.ok (fun _ _ _=>PureRuns.of) (wk113 x0_ x0_' x0_'' x0'_ x0'_' x0'') (by kernel_rfl)
theorem ok113:PureOk Go.Proofs.Tryz.prog 113 p113:=pureOk_of kf73_ok.base (T:=fun (d:Tys.data as113)=>t113 d.1.1.1 d.1.1.2.1 d.1.1.2.2.1 d.1.2.1.1 d.1.2.1.2.1 d.1.2.2.1) (by kernel_rfl) (fun (d:Tys.data as113)=>ok113_t d.1.1.1 d.1.1.2.1 d.1.1.2.2.1 d.1.2.1.1 d.1.2.1.2.1 d.1.2.2.1)
def kf113 (P:Go.Program):Known:=(kf73 P).func 113 p113
theorem kf113_ok:KnownOk Go.Proofs.Tryz.prog (kf113 Go.Proofs.Tryz.prog):=kf73_ok.func ok113
abbrev as90:List Ty:=[(.pair (.pair (.int .i64) (.pair (.int .i64) (.pair .bool .unit))) (.pair (.pair (.int .i64) (.pair .bool .unit)) (.pair (.int .i64) .unit)))]
abbrev rs90:List Ty:=[(.int .i64)]
def t90 (x0_:Int) (x0_':Int) (x0_'':Bool) (x0'_:Int) (x0'_':Bool) (x0'':Int):Tr (Tys.data rs90) :=
  Tr.test (x0'_')
    (Tr.test (x0_'')
      (Tr.test (Option.isSome (f73 (x0'_,())))
        (Tr.test (Option.isSome (f43 ((!eqF x0'_ 0:Bool),((3:Int),()))))
          (Tr.test (Option.isSome (f43 ((false:Bool),((22:Int),()))))
            (let r0:=g73 (x0'_,());
            let r2:=g43 ((false:Bool),((22:Int),()));
            let r4:=g43 ((!eqF x0'_ 0:Bool),((3:Int),()));
            Tr.test (Option.isSome (f41 (([r0.1,r4.1,r2.1]:List Int),())))
              (let r5:=g41 (([r0.1,r4.1,r2.1]:List Int),());
              Tr.fin ((r5.1,())))
              (Tr.stop))
            (Tr.stop))
          (Tr.stop))
        (Tr.stop))
      (Tr.test (Option.isSome (f73 (x0'_,())))
        (Tr.test (Option.isSome (f43 ((true:Bool),((3:Int),()))))
          (Tr.test (Option.isSome (f43 ((false:Bool),((22:Int),()))))
            (let r0:=g73 (x0'_,());
            let r1:=g43 ((true:Bool),((3:Int),()));
            let r2:=g43 ((false:Bool),((22:Int),()));
            Tr.test (Option.isSome (f41 (([r0.1,r1.1,r2.1]:List Int),())))
              (let r3:=g41 (([r0.1,r1.1,r2.1]:List Int),());
              Tr.fin ((r3.1,())))
              (Tr.stop))
            (Tr.stop))
          (Tr.stop))
        (Tr.stop)))
    (Tr.test (x0_'')
      (Tr.test (Option.isSome (f113 (((x0_,(x0_',(x0_'',()))),((x0'_,(x0'_',())),(x0'',()))),())))
        (let r6:=g113 (((x0_,(x0_',(x0_'',()))),((x0'_,(x0'_',())),(x0'',()))),());
        Tr.test (Option.isSome (f44 (x0_',(([r6.1]:List Int),()))))
          (Tr.test (Option.isSome (f73 (x0'_,())))
            (Tr.test (Option.isSome (f43 ((!eqF x0'_ 0:Bool),((3:Int),()))))
              (let r7:=g44 (x0_',(([r6.1]:List Int),()));
              Tr.test (Option.isSome (f43 (r7.1,((22:Int),()))))
                (let r0:=g73 (x0'_,());
                let r4:=g43 ((!eqF x0'_ 0:Bool),((3:Int),()));
                let r8:=g43 (r7.1,((22:Int),()));
                Tr.test (Option.isSome (f41 (([r0.1,r4.1,r8.1]:List Int),())))
                  (let r9:=g41 (([r0.1,r4.1,r8.1]:List Int),());
                  Tr.fin ((r9.1,())))
                  (Tr.stop))
                (Tr.stop))
              (Tr.stop))
            (Tr.stop))
          (Tr.stop))
        (Tr.stop))
      (Tr.test (Option.isSome (f113 (((x0_,(x0_',(x0_'',()))),((x0'_,(x0'_',())),(x0'',()))),())))
        (let r6:=g113 (((x0_,(x0_',(x0_'',()))),((x0'_,(x0'_',())),(x0'',()))),());
        Tr.test (Option.isSome (f44 (x0_',(([r6.1]:List Int),()))))
          (Tr.test (Option.isSome (f73 (x0'_,())))
            (Tr.test (Option.isSome (f43 ((false:Bool),((3:Int),()))))
              (let r7:=g44 (x0_',(([r6.1]:List Int),()));
              Tr.test (Option.isSome (f43 (r7.1,((22:Int),()))))
                (let r0:=g73 (x0'_,());
                let r8:=g43 (r7.1,((22:Int),()));
                let r10:=g43 ((false:Bool),((3:Int),()));
                Tr.test (Option.isSome (f41 (([r0.1,r10.1,r8.1]:List Int),())))
                  (let r11:=g41 (([r0.1,r10.1,r8.1]:List Int),());
                  Tr.fin ((r11.1,())))
                  (Tr.stop))
                (Tr.stop))
              (Tr.stop))
            (Tr.stop))
          (Tr.stop))
        (Tr.stop)))
def f90 (d:Tys.data as90):Option (Tys.data rs90):=(t90 d.1.1.1 d.1.1.2.1 d.1.1.2.2.1 d.1.2.1.1 d.1.2.1.2.1 d.1.2.2.1).val
def g90 (d:Tys.data as90):Tys.data rs90:=(f90 d).getD (Tys.dflt rs90)
def p90:PureC:=pcOf as90 rs90 f90 g90
theorem wk90 (x0_:Int) (x0_':Int) (x0_'':Bool) (x0'_:Int) (x0'_':Bool) (x0'':Int):Walks (runPure (kf113 Go.Proofs.Tryz.prog).orc Go.Proofs.Tryz.prog 400 90 as90 rs90 (((x0_,x0_',x0_'',()),(x0'_,x0'_',()),x0'',()),())) (t90 x0_ x0_' x0_'' x0'_ x0'_' x0'') [(bl 6 63,[2,4,6,8,13,13,13,13,13,13,13,13,11,10,11,10,10,10,10,11,11,11,11,12,12,12,12,12]),(bl 6 61,[2,4,6,8,13,13,13,13,13,13,13,13,11,11,11,11,11,11,12,12,12,12,12]),(bl 8 254,[2,4,6,8,17,10,17,17,12,17,17,17,17,17,0,14,0,14,14,14,14,0,0,0,0,16,16,16,16,16]),(bl 8 252,[2,4,6,8,17,10,17,17,12,17,17,17,17,17,0,14,0,14,14,14,14,0,0,0,0,16,16,16,16,16])] :=
  ⟨by kernel_rfl,by kernel_rfl,by kernel_rfl,by kernel_rfl,trivial⟩
theorem ok90_t (x0_:Int) (x0_':Int) (x0_'':Bool) (x0'_:Int) (x0'_':Bool) (x0'':Int):TrOk (PureRuns Go.Proofs.Tryz.prog (kf113 Go.Proofs.Tryz.prog).orc 90 as90 rs90 (((x0_,x0_',x0_'',()),(x0'_,x0'_',()),x0'',()),())) (t90 x0_ x0_' x0_'' x0'_ x0'_' x0'') :=
  Walks.ok (fun _ _ _=>PureRuns.of) (wk90 x0_ x0_' x0_'' x0'_ x0'_' x0'') (by kernel_rfl)
theorem ok90:PureOk Go.Proofs.Tryz.prog 90 p90:=pureOk_of kf113_ok.base (T:=fun (d:Tys.data as90)=>t90 d.1.1.1 d.1.1.2.1 d.1.1.2.2.1 d.1.2.1.1 d.1.2.1.2.1 d.1.2.2.1) (by kernel_rfl) (fun (d:Tys.data as90)=>ok90_t d.1.1.1 d.1.1.2.1 d.1.1.2.2.1 d.1.2.1.1 d.1.2.1.2.1 d.1.2.2.1)
def kf90 (P:Go.Program):Known:=(kf113 P).func 90 p90
theorem kf90_ok:KnownOk Go.Proofs.Tryz.prog (kf90 Go.Proofs.Tryz.prog):=kf113_ok.func ok90
abbrev sh88_0:Sh:={ n:=25,slots:=[1,9,10,11],pats:=[.fn 89 [(0,1),(1,2)],.ty (.slice (.pair (.int .i64) (.pair .bool .unit))),.ty (.int .i64),.ty (.int .i64)],boxes:=[.row [.ty (.slice (.pair (.int .i64) (.pair (.int .i64) (.pair .bool .unit))))],.row [.ty (.int .i64),.ty (.slice (.pair (.int .i64) (.pair .bool .unit)))]] }
abbrev shb88_0:Sh:={ n:=25,slots:=[],pats:=[],boxes:=[.row [.ty (.slice (.pair (.int .i64) (.pair (.int .i64) (.pair .bool .unit))))],.row [.ty (.int .i64),.ty (.slice (.pair (.int .i64) (.pair .bool .unit)))]] }
abbrev shr88_0:Sh:={ n:=25,slots:=[4,5],pats:=[.ty (.int .i64),.ty (.int .i64)],boxes:=[.row [.ty (.slice (.pair (.int .i64) (.pair (.int .i64) (.pair .bool .unit))))],.row [.ty (.int .i64),.ty (.slice (.pair (.int .i64) (.pair .bool .unit)))]] }
def t88_0 (x1:(List (Int×(Bool×Unit)))) (x2:Int) (x3:Int) (b0_0:(List (Int×(Int×(Bool×Unit))))) (b1_0:Int) (b1_1:(List (Int×(Bool×Unit)))):Tr (Out sh88_0.data shb88_0.data shr88_0.data) :=
  Tr.test ((!leF x2 x3:Bool))
    (Tr.test (decide ((0:Int) ≤ x3) && decide (x3 < (↑(List.length x1):Int)))
      (Tr.test ((decide ((0:Int) ≤ x3) && decide (x3 < (↑(List.length b0_0):Int)):Bool))
        (Tr.test (Option.isSome (f90 (((((List.getD b0_0 (Int.toNat x3) ((0:Int),(0:Int),false,())).1:Int),(((List.getD b0_0 (Int.toNat x3) ((0:Int),(0:Int),false,())).2.1:Int),(((List.getD b0_0 (Int.toNat x3) ((0:Int),(0:Int),false,())).2.2.1:Bool),()))),((((List.getD x1 (Int.toNat x3) ((0:Int),false,())).1:Int),(((List.getD x1 (Int.toNat x3) ((0:Int),false,())).2.1:Bool),())),(b1_0,()))),())))
          (let r0:=g90 (((((List.getD b0_0 (Int.toNat x3) ((0:Int),(0:Int),false,())).1:Int),(((List.getD b0_0 (Int.toNat x3) ((0:Int),(0:Int),false,())).2.1:Int),(((List.getD b0_0 (Int.toNat x3) ((0:Int),(0:Int),false,())).2.2.1:Bool),()))),((((List.getD x1 (Int.toNat x3) ((0:Int),false,())).1:Int),(((List.getD x1 (Int.toNat x3) ((0:Int),false,())).2.1:Bool),())),(b1_0,()))),());
          Tr.test ((!eqF r0.1 0:Bool))
            (Tr.fin (.ret ((x3,(r0.1,())),((b0_0,()),((b1_0,(b1_1,())),())))))
            (Tr.fin (.again ((x1,(x2,((wrap64 (x3 + (1:Int)):Int),()))),((b0_0,()),((b1_0,(b1_1,())),()))))))
          (Tr.stop))
        (Tr.stop))
      (Tr.stop))
    (Tr.fin (.brk ((),((b0_0,()),((b1_0,(b1_1,())),())))))
def s88_0 (d:sh88_0.data):Option (Out sh88_0.data shb88_0.data shr88_0.data):=(t88_0 d.1.1 d.1.2.1 d.1.2.2.1 d.2.1.1 d.2.2.1.1 d.2.2.1.2.1).val
def l88_0 (d:sh88_0.data):Option (shb88_0.data ⊕ shr88_0.data):=itr s88_0 rounds d
def b88_0 (d:sh88_0.data):shb88_0.data:=outB shb88_0.dflt (l88_0 d)
def r88_0 (d:sh88_0.data):shr88_0.data:=outR shr88_0.dflt (l88_0 d)
def lc88_0:LoopC:=lcOf sh88_0 shb88_0 shr88_0 l88_0 b88_0 r88_0
theorem wk88_0 (x1:(List (Int×(Bool×Unit)))) (x2:Int) (x3:Int) (b0_0:(List (Int×(Int×(Bool×Unit))))) (b1_0:Int) (b1_1:(List (Int×(Bool×Unit)))):Walks (runBody (kf90 Go.Proofs.Tryz.prog).orc Go.Proofs.Tryz.prog 400 88 0 sh88_0 shb88_0 shr88_0 ((x1,x2,x3,()),(b0_0,()),(b1_0,b1_1,()),())) (t88_0 x1 x2 x3 b0_0 b1_0 b1_1) [(bl 5 31,[2,4,6,8,10]),(bl 5 15,[2,4,6,8,10]),(bl 1 0,[2])] :=
  ⟨by kernel_rfl,by kernel_rfl,by kernel_rfl,trivial⟩
theorem ok88_0_t (x1:(List (Int×(Bool×Unit)))) (x2:Int) (x3:Int) (b0_0:(List (Int×(Int×(Bool×Unit))))) (b1_0:Int) (b1_1:(List (Int×(Bool×Unit)))):TrOk (BodyRuns Go.Proofs.Tryz.prog (kf90 Go.Proofs.Tryz.prog).orc 88 0 sh88_0 shb88_0 shr88_0 ((x1,x2,x3,()),(b0_0,()),(b1_0,b1_1,()),())) (t88_0 x1 x2 x3 b0_0 b1_0 b1_1) :=
  Walks.ok (fun _ _ _=>BodyRuns.of) (wk88_0 x1 x2 x3 b0_0 b1_0 b1_1) (by kernel_rfl)
theorem ok88_0:LoopOk Go.Proofs.Tryz.prog 88 0 lc88_0:=loopOk_of (sh:=sh88_0) (shB:=shb88_0) (shR:=shr88_0) kf90_ok.base (T:=fun (d:sh88_0.data)=>t88_0 d.1.1 d.1.2.1 d.1.2.2.1 d.2.1.1 d.2.2.1.1 d.2.2.1.2.1) (by kernel_rfl) rfl (fun (d:sh88_0.data)=>ok88_0_t d.1.1 d.1.2.1 d.1.2.2.1 d.2.1.1 d.2.2.1.1 d.2.2.1.2.1) (fun _=>rfl)
def kl88_0 (P:Go.Program):Known:=(kf90 P).loop 88 0 lc88_0
theorem kl88_0_ok:KnownOk Go.Proofs.Tryz.prog (kl88_0 Go.Proofs.Tryz.prog):=kf90_ok.loop ok88_0
abbrev as40:List Ty:=[(.slice (.pair (.int .i64) (.pair (.int .i64) (.pair .bool .unit)))),(.pair (.int .i64) (.pair (.slice (.pair (.int .i64) (.pair .bool .unit))) .unit))]
abbrev rs40:List Ty:=[(.int .i64),(.int .i64)]
def t40 (x0:(List (Int×(Int×(Bool×Unit))))) (x1:Int) (x1':(List (Int×(Bool×Unit)))):Tr (Tys.data rs40) :=
  Tr.test (Option.isSome (f86 (x0,())))
    (let r0:=g86 (x0,());
    Tr.test ((!eqF r0.2.1 0:Bool))
      (Tr.fin ((r0.1,(r0.2.1,()))))
      (Tr.test (Option.isSome (f73 (x1,())))
        (Tr.test (Option.isSome (f43 ((!eqF (↑(List.length x1'):Int) (↑(List.length x0):Int):Bool),((10:Int),()))))
          (let r1:=g73 (x1,());
          let r2:=g43 ((!eqF (↑(List.length x1'):Int) (↑(List.length x0):Int):Bool),((10:Int),()));
          Tr.test (Option.isSome (f41 (([r1.1,r2.1]:List Int),())))
            (let r3:=g41 (([r1.1,r2.1]:List Int),());
            Tr.test ((!eqF r3.1 0:Bool))
              (Tr.fin (((0:Int),(r3.1,()))))
              (Tr.test (Option.isSome (l88_0 ((x1',((↑(List.length x1'):Int),((0:Int),()))),((x0,()),((x1,(x1',())),())))))
                (Tr.test (isRet (l88_0 ((x1',((↑(List.length x1'):Int),((0:Int),()))),((x0,()),((x1,(x1',())),())))))
                  (let r4:=r88_0 ((x1',((↑(List.length x1'):Int),((0:Int),()))),((x0,()),((x1,(x1',())),())));
                  Tr.fin ((r4.1.1,(r4.1.2.1,()))))
                  (Tr.fin (((0:Int),((0:Int),())))))
                (Tr.stop)))
            (Tr.stop))
          (Tr.stop))
        (Tr.stop)))
    (Tr.stop)
def f40 (d:Tys.data as40):Option (Tys.data rs40):=(t40 d.1 d.2.1.1 d.2.1.2.1).val
def g40 (d:Tys.data as40):Tys.data rs40:=(f40 d).getD (Tys.dflt rs40)
def p40:PureC:=pcOf as40 rs40 f40 g40
theorem wk40 (x0:(List (Int×(Int×(Bool×Unit))))) (x1:Int) (x1':(List (Int×(Bool×Unit)))):Walks (runPure (kl88_0 Go.Proofs.Tryz.prog).orc Go.Proofs.Tryz.prog 400 40 as40 rs40 (x0,(x1,x1',()),())) (t40 x0 x1 x1') [(bl 2 3,[2,4]),(bl 6 61,[2,4,6,8,10,12]),(bl 8 221,[2,4,6,8,10,12,14,16]),(bl 8 93,[2,4,6,8,10,12,14,16])] :=
  ⟨by kernel_rfl,by kernel_rfl,by kernel_rfl,by kernel_rfl,trivial⟩
theorem ok40_t (x0:(List (Int×(Int×(Bool×Unit))))) (x1:Int) (x1':(List (Int×(Bool×Unit)))):TrOk (PureRuns Go.Proofs.Tryz.prog (kl88_0 Go.Proofs.Tryz.prog).orc 40 as40 rs40 (x0,(x1,x1',()),())) (t40 x0 x1 x1') :=
  Walks.ok (fun _ _ _=>PureRuns.of) (wk40 x0 x1 x1') (by kernel_rfl)
theorem ok40:PureOk Go.Proofs.Tryz.prog 40 p40:=pureOk_of kl88_0_ok.base (T:=fun (d:Tys.data as40)=>t40 d.1 d.2.1.1 d.2.1.2.1) (by kernel_rfl) (fun (d:Tys.data as40)=>ok40_t d.1 d.2.1.1 d.2.1.2.1)
def kf40 (P:Go.Program):Known:=(kl88_0 P).func 40 p40
theorem kf40_ok:KnownOk Go.Proofs.Tryz.prog (kf40 Go.Proofs.Tryz.prog):=kl88_0_ok.func ok40
theorem sc7_0:sameRf Go.Proofs.Tryz.prog 7 0 = true:=sameRf_ok (by kernel_rfl)
abbrev sh87_0 (P:Go.Program):Sh:={ n:=22,slots:=[0,3,6,7,8],pats:=[.yld 0,.ty (.int .i64),.ty (.slice (.int .i64)),.ty (.int .i64),.ty (.int .i64)],boxes:=[.lp (lpOf P 7 0 .ready none 99 [2,3,4,5] 1) [.ptr 2 1 0,.ptr 3 3 0,.ptr 4 1 0,.ptr 5 1 0],.dfr,.row [.ty (.slice (.pair (.int .i64) (.pair (.int .i64) (.pair (.slice (.pair (.int .i64) (.pair (.int .i64) (.pair .bool .unit)))) .unit))))],.row [.ty (.slice (.int .i64)),.ty (.slice (.int .i64)),.ty (.slice (.pair (.int .i64) (.pair (.slice (.pair (.int .i64) (.pair .bool .unit))) .unit)))],.row [.ty (.int .i64)],.row [.ty (.int .i64)]] }
abbrev shb87_0 (P:Go.Program):Sh:={ n:=22,slots:=[],pats:=[],boxes:=[.lp (lpOf P 7 0 .ready none 99 [2,3,4,5] 1) [.ptr 2 1 0,.ptr 3 3 0,.ptr 4 1 0,.ptr 5 1 0],.dfr,.row [.ty (.slice (.pair (.int .i64) (.pair (.int .i64) (.pair (.slice (.pair (.int .i64) (.pair (.int .i64) (.pair .bool .unit)))) .unit))))],.row [.ty (.slice (.int .i64)),.ty (.slice (.int .i64)),.ty (.slice (.pair (.int .i64) (.pair (.slice (.pair (.int .i64) (.pair .bool .unit))) .unit)))],.row [.ty (.int .i64)],.row [.ty (.int .i64)]] }
abbrev shr87_0 (P:Go.Program):Sh:={ n:=22,slots:=[],pats:=[],boxes:=[.lp (lpOf P 7 0 .done (some none) 99 [2,3,4,5] 1) [.ptr 2 1 0,.ptr 3 3 0,.ptr 4 1 0,.ptr 5 1 0],.dfr,.row [.ty (.slice (.pair (.int .i64) (.pair (.int .i64) (.pair (.slice (.pair (.int .i64) (.pair (.int .i64) (.pair .bool .unit)))) .unit))))],.row [.ty (.slice (.int .i64)),.ty (.slice (.int .i64)),.ty (.slice (.pair (.int .i64) (.pair (.slice (.pair (.int .i64) (.pair .bool .unit))) .unit)))],.row [.ty (.int .i64)],.row [.ty (.int .i64)]] }
abbrev dt87_0:Type:=(Int×List Int×Int×Int×PUnit)×PUnit×(List (Int×Int×List (Int×Int×Bool×PUnit)×PUnit)×PUnit)×(List Int×List Int×List (Int×List (Int×Bool×PUnit)×PUnit)×PUnit)×(Int×PUnit)×(Int×PUnit)×PUnit
abbrev db87_0:Type:=PUnit×PUnit×(List (Int×Int×List (Int×Int×Bool×PUnit)×PUnit)×PUnit)×(List Int×List Int×List (Int×List (Int×Bool×PUnit)×PUnit)×PUnit)×(Int×PUnit)×(Int×PUnit)×PUnit
abbrev dr87_0:Type:=PUnit×PUnit×(List (Int×Int×List (Int×Int×Bool×PUnit)×PUnit)×PUnit)×(List Int×List Int×List (Int×List (Int×Bool×PUnit)×PUnit)×PUnit)×(Int×PUnit)×(Int×PUnit)×PUnit
def t87_0 (x1:Int) (x2:(List Int)) (x3:Int) (x4:Int) (b2_0:(List (Int×(Int×((List (Int×(Int×(Bool×Unit))))×Unit))))) (b3_0:(List Int)) (b3_1:(List Int)) (b3_2:(List (Int×((List (Int×(Bool×Unit)))×Unit)))) (b4_0:Int) (b5_0:Int):Tr (Out dt87_0 db87_0 dr87_0) :=
  Tr.test ((!leF x3 x4:Bool))
    (Tr.test (decide ((0:Int) ≤ x4) && decide (x4 < (↑(List.length x2):Int)))
      (Tr.test ((decide ((0:Int) ≤ x4) && decide (x4 < (↑(List.length b2_0):Int)):Bool))
        (Tr.test ((decide ((0:Int) ≤ x4) && decide (x4 < (↑(List.length b3_2):Int)):Bool))
          (Tr.test (Option.isSome (f40 (((List.getD b2_0 (Int.toNat x4) ((0:Int),(0:Int),[],())).2.2.1:List (Int×Int×Bool×PUnit)),((((List.getD b3_2 (Int.toNat x4) ((0:Int),[],())).1:Int),(((List.getD b3_2 (Int.toNat x4) ((0:Int),[],())).2.1:List (Int×Bool×PUnit)),())),()))))
            (Tr.test ((decide ((0:Int) ≤ x4) && decide (x4 < (↑(List.length b3_0):Int)):Bool))
              (Tr.test ((decide ((0:Int) ≤ x4) && decide (x4 < (↑(List.length b3_1):Int)):Bool))
                (Tr.test (Option.isSome (f42 ((10000:Int),(([List.getD b3_0 (Int.toNat x4) (0:Int),List.getD b3_1 (Int.toNat x4) (0:Int)]:List Int),()))))
                  (Tr.test (Option.isSome (f43 ((!eqF (List.getD b3_2 (Int.toNat x4) ((0:Int),[],())).1 (wrap64 (List.getD x2 (Int.toNat x4) (0:Int) - x1)):Bool),((13:Int),()))))
                    (Tr.test (Option.isSome (f44 (((List.getD b2_0 (Int.toNat x4) ((0:Int),(0:Int),[],())).2.1:Int),(([wrap64 (List.getD x2 (Int.toNat x4) (0:Int) - x1)]:List Int),()))))
                      (let r0:=g44 (((List.getD b2_0 (Int.toNat x4) ((0:Int),(0:Int),[],())).2.1:Int),(([wrap64 (List.getD x2 (Int.toNat x4) (0:Int) - x1)]:List Int),()));
                      Tr.test (Option.isSome (f43 (r0.1,((22:Int),()))))
                        (let r1:=g42 ((10000:Int),(([List.getD b3_0 (Int.toNat x4) (0:Int),List.getD b3_1 (Int.toNat x4) (0:Int)]:List Int),()));
                        let r2:=g40 (((List.getD b2_0 (Int.toNat x4) ((0:Int),(0:Int),[],())).2.2.1:List (Int×Int×Bool×PUnit)),((((List.getD b3_2 (Int.toNat x4) ((0:Int),[],())).1:Int),(((List.getD b3_2 (Int.toNat x4) ((0:Int),[],())).2.1:List (Int×Bool×PUnit)),())),()));
                        let r3:=g43 ((!eqF (List.getD b3_2 (Int.toNat x4) ((0:Int),[],())).1 (wrap64 (List.getD x2 (Int.toNat x4) (0:Int) - x1)):Bool),((13:Int),()));
                        let r4:=g43 (r0.1,((22:Int),()));
                        Tr.test (Option.isSome (f41 (([r1.1,r2.2.1,r3.1,r4.1]:List Int),())))
                          (let r5:=g41 (([r1.1,r2.2.1,r3.1,r4.1]:List Int),());
                          Tr.test ((!eqF r5.1 0:Bool))
                            (Tr.fin (.ret ((),((),((b2_0,()),((b3_0,(b3_1,(b3_2,()))),((x4,()),((r5.1,()),()))))))))
                            (Tr.fin (.again (((List.getD x2 (Int.toNat x4) (0:Int):Int),(x2,(x3,((wrap64 (x4 + (1:Int)):Int),())))),((),((b2_0,()),((b3_0,(b3_1,(b3_2,()))),((b4_0,()),((b5_0,()),())))))))))
                          (Tr.stop))
                        (Tr.stop))
                      (Tr.stop))
                    (Tr.stop))
                  (Tr.stop))
                (Tr.stop))
              (Tr.stop))
            (Tr.stop))
          (Tr.stop))
        (Tr.stop))
      (Tr.stop))
    (Tr.fin (.brk ((),((),((b2_0,()),((b3_0,(b3_1,(b3_2,()))),((b4_0,()),((b5_0,()),()))))))))
def s87_0 (d:dt87_0):Option (Out dt87_0 db87_0 dr87_0):=(t87_0 d.1.1 d.1.2.1 d.1.2.2.1 d.1.2.2.2.1 d.2.2.1.1 d.2.2.2.1.1 d.2.2.2.1.2.1 d.2.2.2.1.2.2.1 d.2.2.2.2.1.1 d.2.2.2.2.2.1.1).val
def l87_0 (d:dt87_0):Option (db87_0 ⊕ dr87_0):=itr s87_0 rounds d
def b87_0 (d:dt87_0):db87_0:=outB (((),((),((([]:List (Int×Int×List (Int×Int×Bool×PUnit)×PUnit)),()),((([]:List Int),(([]:List Int),(([]:List (Int×List (Int×Bool×PUnit)×PUnit)),()))),(((0:Int),()),(((0:Int),()),()))))))) (l87_0 d)
def r87_0 (d:dt87_0):dr87_0:=outR (((),((),((([]:List (Int×Int×List (Int×Int×Bool×PUnit)×PUnit)),()),((([]:List Int),(([]:List Int),(([]:List (Int×List (Int×Bool×PUnit)×PUnit)),()))),(((0:Int),()),(((0:Int),()),()))))))) (l87_0 d)
def lc87_0 (P:Go.Program):LoopC:=lcOf (sh87_0 P) (shb87_0 P) (shr87_0 P) l87_0 b87_0 r87_0
theorem e87_0_0 (x1:Int) (x2:(List Int)) (x3:Int) (x4:Int) (b2_0:(List (Int×(Int×((List (Int×(Int×(Bool×Unit))))×Unit))))) (b3_0:(List Int)) (b3_1:(List Int)) (b3_2:(List (Int×((List (Int×(Bool×Unit)))×Unit)))) (b4_0:Int) (b5_0:Int):runBody (kf40 Go.Proofs.Tryz.prog).orc Go.Proofs.Tryz.prog 400 87 0 (sh87_0 Go.Proofs.Tryz.prog) (shb87_0 Go.Proofs.Tryz.prog) (shr87_0 Go.Proofs.Tryz.prog) ((x1,x2,x3,x4,()),(),(b2_0,()),(b3_0,b3_1,b3_2,()),(b4_0,()),(b5_0,()),()) [tt,tt,tt,tt,tt,tt,tt,tt,tt,tt,tt,tt,tt,tt] =
    (let r0:=g44 (((List.getD b2_0 (Int.toNat x4) ((0:Int),(0:Int),[],())).2.1:Int),(([wrap64 (List.getD x2 (Int.toNat x4) (0:Int) - x1)]:List Int),()));let r1:=g42 ((10000:Int),(([List.getD b3_0 (Int.toNat x4) (0:Int),List.getD b3_1 (Int.toNat x4) (0:Int)]:List Int),()));let r2:=g40 (((List.getD b2_0 (Int.toNat x4) ((0:Int),(0:Int),[],())).2.2.1:List (Int×Int×Bool×PUnit)),((((List.getD b3_2 (Int.toNat x4) ((0:Int),[],())).1:Int),(((List.getD b3_2 (Int.toNat x4) ((0:Int),[],())).2.1:List (Int×Bool×PUnit)),())),()));let r3:=g43 (!eqF (List.getD b3_2 (Int.toNat x4) ((0:Int),[],())).1 (wrap64 (List.getD x2 (Int.toNat x4) (0:Int) - x1)),((13:Int),()));let r4:=g43 (r0.1,((22:Int),()));let r5:=g41 (([r1.1,r2.2.1,r3.1,r4.1]:List Int),()); some (.ret ((),((),((b2_0,()),((b3_0,(b3_1,(b3_2,()))),((x4,()),((r5.1,()),())))))),[(sameRf Go.Proofs.Tryz.prog (nat_lit 7) (nat_lit 0),true),(true,true),(!eqF r5.1 0,true),(Option.isSome (f41 (([r1.1,r2.2.1,r3.1,r4.1]:List Int),())),true),(Option.isSome (f43 (r0.1,((22:Int),()))),true),(Option.isSome (f44 (((List.getD b2_0 (Int.toNat x4) ((0:Int),(0:Int),[],())).2.1:Int),(([wrap64 (List.getD x2 (Int.toNat x4) (0:Int) - x1)]:List Int),()))),true),(Option.isSome (f43 (!eqF (List.getD b3_2 (Int.toNat x4) ((0:Int),[],())).1 (wrap64 (List.getD x2 (Int.toNat x4) (0:Int) - x1)),((13:Int),()))),true),(Option.isSome (f42 ((10000:Int),(([List.getD b3_0 (Int.toNat x4) (0:Int),List.getD b3_1 (Int.toNat x4) (0:Int)]:List Int),()))),true),(decide ((0:Int) ≤ x4) && decide (x4 < (↑(List.length b3_1):Int)),true),(decide ((0:Int) ≤ x4) && decide (x4 < (↑(List.length b3_0):Int)),true),(Option.isSome (f40 (((List.getD b2_0 (Int.toNat x4) ((0:Int),(0:Int),[],())).2.2.1:List (Int×Int×Bool×PUnit)),((((List.getD b3_2 (Int.toNat x4) ((0:Int),[],())).1:Int),(((List.getD b3_2 (Int.toNat x4) ((0:Int),[],())).2.1:List (Int×Bool×PUnit)),())),()))),true),(decide ((0:Int) ≤ x4) && decide (x4 < (↑(List.length b3_2):Int)),true),(decide ((0:Int) ≤ x4) && decide (x4 < (↑(List.length b2_0):Int)),true),(decide ((0:Int) ≤ x4) && decide (x4 < (↑(List.length x2):Int)),true),(!leF x3 x4,true)])):=by kernel_rfl
theorem e87_0_1 (x1:Int) (x2:(List Int)) (x3:Int) (x4:Int) (b2_0:(List (Int×(Int×((List (Int×(Int×(Bool×Unit))))×Unit))))) (b3_0:(List Int)) (b3_1:(List Int)) (b3_2:(List (Int×((List (Int×(Bool×Unit)))×Unit)))) (b4_0:Int) (b5_0:Int):runBody (kf40 Go.Proofs.Tryz.prog).orc Go.Proofs.Tryz.prog 400 87 0 (sh87_0 Go.Proofs.Tryz.prog) (shb87_0 Go.Proofs.Tryz.prog) (shr87_0 Go.Proofs.Tryz.prog) ((x1,x2,x3,x4,()),(),(b2_0,()),(b3_0,b3_1,b3_2,()),(b4_0,()),(b5_0,()),()) [tt,tt,tt,tt,tt,tt,tt,tt,tt,tt,tt,tt,ff,ff] =
    (let r0:=g44 (((List.getD b2_0 (Int.toNat x4) ((0:Int),(0:Int),[],())).2.1:Int),(([wrap64 (List.getD x2 (Int.toNat x4) (0:Int) - x1)]:List Int),()));let r1:=g42 ((10000:Int),(([List.getD b3_0 (Int.toNat x4) (0:Int),List.getD b3_1 (Int.toNat x4) (0:Int)]:List Int),()));let r2:=g40 (((List.getD b2_0 (Int.toNat x4) ((0:Int),(0:Int),[],())).2.2.1:List (Int×Int×Bool×PUnit)),((((List.getD b3_2 (Int.toNat x4) ((0:Int),[],())).1:Int),(((List.getD b3_2 (Int.toNat x4) ((0:Int),[],())).2.1:List (Int×Bool×PUnit)),())),()));let r3:=g43 (!eqF (List.getD b3_2 (Int.toNat x4) ((0:Int),[],())).1 (wrap64 (List.getD x2 (Int.toNat x4) (0:Int) - x1)),((13:Int),()));let r4:=g43 (r0.1,((22:Int),()));let r5:=g41 (([r1.1,r2.2.1,r3.1,r4.1]:List Int),()); some (.again (((List.getD x2 (Int.toNat x4) (0:Int):Int),(x2,(x3,((wrap64 (x4 + (1:Int)):Int),())))),((),((b2_0,()),((b3_0,(b3_1,(b3_2,()))),((b4_0,()),((b5_0,()),())))))),[(sameRf Go.Proofs.Tryz.prog (nat_lit 7) (nat_lit 0),true),(false,false),(!eqF r5.1 0,false),(Option.isSome (f41 (([r1.1,r2.2.1,r3.1,r4.1]:List Int),())),true),(Option.isSome (f43 (r0.1,((22:Int),()))),true),(Option.isSome (f44 (((List.getD b2_0 (Int.toNat x4) ((0:Int),(0:Int),[],())).2.1:Int),(([wrap64 (List.getD x2 (Int.toNat x4) (0:Int) - x1)]:List Int),()))),true),(Option.isSome (f43 (!eqF (List.getD b3_2 (Int.toNat x4) ((0:Int),[],())).1 (wrap64 (List.getD x2 (Int.toNat x4) (0:Int) - x1)),((13:Int),()))),true),(Option.isSome (f42 ((10000:Int),(([List.getD b3_0 (Int.toNat x4) (0:Int),List.getD b3_1 (Int.toNat x4) (0:Int)]:List Int),()))),true),(decide ((0:Int) ≤ x4) && decide (x4 < (↑(List.length b3_1):Int)),true),(decide ((0:Int) ≤ x4) && decide (x4 < (↑(List.length b3_0):Int)),true),(Option.isSome (f40 (((List.getD b2_0 (Int.toNat x4) ((0:Int),(0:Int),[],())).2.2.1:List (Int×Int×Bool×PUnit)),((((List.getD b3_2 (Int.toNat x4) ((0:Int),[],())).1:Int),(((List.getD b3_2 (Int.toNat x4) ((0:Int),[],())).2.1:List (Int×Bool×PUnit)),())),()))),true),(decide ((0:Int) ≤ x4) && decide (x4 < (↑(List.length b3_2):Int)),true),(decide ((0:Int) ≤ x4) && decide (x4 < (↑(List.length b2_0):Int)),true),(decide ((0:Int) ≤ x4) && decide (x4 < (↑(List.length x2):Int)),true),(!leF x3 x4,true)])):=by kernel_rfl
theorem e87_0_7 (x1:Int) (x2:(List Int)) (x3:Int) (x4:Int) (b2_0:(List (Int×(Int×((List (Int×(Int×(Bool×Unit))))×Unit))))) (b3_0:(List Int)) (b3_1:(List Int)) (b3_2:(List (Int×((List (Int×(Bool×Unit)))×Unit)))) (b4_0:Int) (b5_0:Int):runBody (kf40 Go.Proofs.Tryz.prog).orc Go.Proofs.Tryz.prog 400 87 0 (sh87_0 Go.Proofs.Tryz.prog) (shb87_0 Go.Proofs.Tryz.prog) (shr87_0 Go.Proofs.Tryz.prog) ((x1,x2,x3,x4,()),(),(b2_0,()),(b3_0,b3_1,b3_2,()),(b4_0,()),(b5_0,()),()) [ff] =
    (some (.brk ((),((),((b2_0,()),((b3_0,(b3_1,(b3_2,()))),((b4_0,()),((b5_0,()),())))))),[(sameRf Go.Proofs.Tryz.prog (nat_lit 7) (nat_lit 0),true),(!leF x3 x4,false)])):=by kernel_rfl
theorem ok87_0_t (x1:Int) (x2:(List Int)) (x3:Int) (x4:Int) (b2_0:(List (Int×(Int×((List (Int×(Int×(Bool×Unit))))×Unit))))) (b3_0:(List Int)) (b3_1:(List Int)) (b3_2:(List (Int×((List (Int×(Bool×Unit)))×Unit)))) (b4_0:Int) (b5_0:Int):TrOk (BodyRuns Go.Proofs.Tryz.prog (kf40 Go.Proofs.Tryz.prog).orc 87 0 (sh87_0 Go.Proofs.Tryz.prog) (shb87_0 Go.Proofs.Tryz.prog) (shr87_0 Go.Proofs.Tryz.prog) ((x1,x2,x3,x4,()),(),(b2_0,()),(b3_0,b3_1,b3_2,()),(b4_0,()),(b5_0,()),())) (t87_0 x1 x2 x3 x4 b2_0 b3_0 b3_1 b3_2 b4_0 b5_0) :=
  TrOk.ofTest (fun h0=>TrOk.ofTest (fun h1=>TrOk.ofTest (fun h2=>TrOk.ofTest (fun h3=>TrOk.ofTest (fun h4=>TrOk.ofTest (fun h5=>TrOk.ofTest (fun h6=>TrOk.ofTest (fun h7=>TrOk.ofTest (fun h8=>TrOk.ofTest (fun h9=>TrOk.ofTest (fun h10=>TrOk.ofTest (fun h11=>TrOk.ofTest (fun h12=>TrOk.ofFin (BodyRuns.of (e87_0_0 x1 x2 x3 x4 b2_0 b3_0 b3_1 b3_2 b4_0 b5_0) (ac (sc7_0) (ac rfl (ac h12 (ac h11 (ac h10 (ac h9 (ac h8 (ac h7 (ac h6 (ac h5 (ac h4 (ac h3 (ac h2 (ac h1 (ac h0 All.nil))))))))))))))))) (fun h12=>TrOk.ofFin (BodyRuns.of (e87_0_1 x1 x2 x3 x4 b2_0 b3_0 b3_1 b3_2 b4_0 b5_0) (ac (sc7_0) (ac rfl (ac h12 (ac h11 (ac h10 (ac h9 (ac h8 (ac h7 (ac h6 (ac h5 (ac h4 (ac h3 (ac h2 (ac h1 (ac h0 All.nil)))))))))))))))))) (fun h11=>TrOk.ofStop)) (fun h10=>TrOk.ofStop)) (fun h9=>TrOk.ofStop)) (fun h8=>TrOk.ofStop)) (fun h7=>TrOk.ofStop)) (fun h6=>TrOk.ofStop)) (fun h5=>TrOk.ofStop)) (fun h4=>TrOk.ofStop)) (fun h3=>TrOk.ofStop)) (fun h2=>TrOk.ofStop)) (fun h1=>TrOk.ofStop)) (fun h0=>TrOk.ofFin (BodyRuns.of (e87_0_7 x1 x2 x3 x4 b2_0 b3_0 b3_1 b3_2 b4_0 b5_0) (ac (sc7_0) (ac h0 All.nil))))
theorem ok87_0:LoopOk Go.Proofs.Tryz.prog 87 0 (lc87_0 Go.Proofs.Tryz.prog):=loopOk_of (sh:=(sh87_0 Go.Proofs.Tryz.prog)) (shB:=(shb87_0 Go.Proofs.Tryz.prog)) (shR:=(shr87_0 Go.Proofs.Tryz.prog)) kf40_ok.base (T:=fun (d:dt87_0)=>t87_0 d.1.1 d.1.2.1 d.1.2.2.1 d.1.2.2.2.1 d.2.2.1.1 d.2.2.2.1.1 d.2.2.2.1.2.1 d.2.2.2.1.2.2.1 d.2.2.2.2.1.1 d.2.2.2.2.2.1.1) (by kernel_rfl) rfl (fun (d:dt87_0)=>ok87_0_t d.1.1 d.1.2.1 d.1.2.2.1 d.1.2.2.2.1 d.2.2.1.1 d.2.2.2.1.1 d.2.2.2.1.2.1 d.2.2.2.1.2.2.1 d.2.2.2.2.1.1 d.2.2.2.2.2.1.1) (fun _=>rfl)
def kl87_0 (P:Go.Program):Known:=(kf40 P).loop 87 0 (lc87_0 P)
theorem kl87_0_ok:KnownOk Go.Proofs.Tryz.prog (kl87_0 Go.Proofs.Tryz.prog):=kf40_ok.loop ok87_0
abbrev as7:List Ty:=[(.pair (.slice (.pair (.int .i64) (.pair (.int .i64) (.pair (.slice (.pair (.int .i64) (.pair (.int .i64) (.pair .bool .unit)))) .unit)))) .unit),(.pair (.slice (.int .i64)) (.pair (.slice (.int .i64)) (.pair (.slice (.pair (.int .i64) (.pair (.slice (.pair (.int .i64) (.pair .bool .unit))) .unit))) .unit)))]
abbrev rs7:List Ty:=[(.int .i64),(.int .i64)]
def t7 (x0:(List (Int×(Int×((List (Int×(Int×(Bool×Unit))))×Unit))))) (x1:(List Int)) (x1':(List Int)) (x1'':(List (Int×((List (Int×(Bool×Unit)))×Unit)))):Tr (Tys.data rs7) :=
  Tr.test (Option.isSome (f38 ((x0,()),())))
    (let r0:=g38 ((x0,()),());
    Tr.test ((!eqF r0.2.1 0:Bool))
      (Tr.fin ((r0.1,(r0.2.1,()))))
      (Tr.test ((!eqF (↑(List.length x1):Int) (↑(List.length x0):Int):Bool))
        (Tr.fin (((0:Int),((10:Int),()))))
        (Tr.test ((!eqF (↑(List.length x1'):Int) (↑(List.length x0):Int):Bool))
          (Tr.fin (((0:Int),((10:Int),()))))
          (Tr.test ((!eqF (↑(List.length x1''):Int) (↑(List.length x0):Int):Bool))
            (Tr.fin (((0:Int),((10:Int),()))))
            (Tr.test (Option.isSome (l87_0 (((0:Int),(x1,((↑(List.length x1):Int),((0:Int),())))),((),((x0,()),((x1,(x1',(x1'',()))),(((0:Int),()),(((0:Int),()),()))))))))
              (Tr.test (isRet (l87_0 (((0:Int),(x1,((↑(List.length x1):Int),((0:Int),())))),((),((x0,()),((x1,(x1',(x1'',()))),(((0:Int),()),(((0:Int),()),()))))))))
                (let r1:=r87_0 (((0:Int),(x1,((↑(List.length x1):Int),((0:Int),())))),((),((x0,()),((x1,(x1',(x1'',()))),(((0:Int),()),(((0:Int),()),()))))));
                Tr.fin ((r1.2.2.2.2.1.1,(r1.2.2.2.2.2.1.1,()))))
                (Tr.fin (((0:Int),((0:Int),())))))
              (Tr.stop))))))
    (Tr.stop)
def f7 (d:Tys.data as7):Option (Tys.data rs7):=(t7 d.1.1 d.2.1.1 d.2.1.2.1 d.2.1.2.2.1).val
def g7 (d:Tys.data as7):Tys.data rs7:=(f7 d).getD (Tys.dflt rs7)
def p7:PureC:=pcOf as7 rs7 f7 g7
theorem e7_0 (x0:(List (Int×(Int×((List (Int×(Int×(Bool×Unit))))×Unit))))) (x1:(List Int)) (x1':(List Int)) (x1'':(List (Int×((List (Int×(Bool×Unit)))×Unit)))):runPure (kl87_0 Go.Proofs.Tryz.prog).orc Go.Proofs.Tryz.prog 400 7 as7 rs7 ((x0,()),(x1,x1',x1'',()),()) [tt,tt] =
    (let r0:=g38 ((x0,()),()); some ((r0.1,(r0.2.1,())),[(!eqF r0.2.1 0,true),(Option.isSome (f38 ((x0,()),())),true)])):=by kernel_rfl
theorem e7_1 (x0:(List (Int×(Int×((List (Int×(Int×(Bool×Unit))))×Unit))))) (x1:(List Int)) (x1':(List Int)) (x1'':(List (Int×((List (Int×(Bool×Unit)))×Unit)))):runPure (kl87_0 Go.Proofs.Tryz.prog).orc Go.Proofs.Tryz.prog 400 7 as7 rs7 ((x0,()),(x1,x1',x1'',()),()) [tt,ff,tt,tt,tt,tt,tt,tt,tt,tt,tt,tt,tt,tt,tt] =
    (let r0:=g38 ((x0,()),()); some (((0:Int),((10:Int),())),[(true,true),(true,true),(true,true),(true,true),(true,true),(true,true),(true,true),(!eqF (↑(List.length x1):Int) (↑(List.length x0):Int),true),(!eqF (↑(List.length x1):Int) (↑(List.length x0):Int),true),(!eqF (↑(List.length x1):Int) (↑(List.length x0):Int),true),(!eqF (↑(List.length x1):Int) (↑(List.length x0):Int),true),(!eqF (↑(List.length x1):Int) (↑(List.length x0):Int),true),(!eqF (↑(List.length x1):Int) (↑(List.length x0):Int),true),(!eqF r0.2.1 0,false),(Option.isSome (f38 ((x0,()),())),true)])):=by kernel_rfl
theorem e7_2 (x0:(List (Int×(Int×((List (Int×(Int×(Bool×Unit))))×Unit))))) (x1:(List Int)) (x1':(List Int)) (x1'':(List (Int×((List (Int×(Bool×Unit)))×Unit)))):runPure (kl87_0 Go.Proofs.Tryz.prog).orc Go.Proofs.Tryz.prog 400 7 as7 rs7 ((x0,()),(x1,x1',x1'',()),()) [tt,ff,ff,ff,ff,ff,ff,ff,tt,tt,tt,tt,tt,tt,tt] =
    (let r0:=g38 ((x0,()),()); some (((0:Int),((10:Int),())),[(true,true),(!eqF (↑(List.length x1'):Int) (↑(List.length x0):Int),true),(!eqF (↑(List.length x1'):Int) (↑(List.length x0):Int),true),(!eqF (↑(List.length x1'):Int) (↑(List.length x0):Int),true),(!eqF (↑(List.length x1'):Int) (↑(List.length x0):Int),true),(!eqF (↑(List.length x1'):Int) (↑(List.length x0):Int),true),(!eqF (↑(List.length x1'):Int) (↑(List.length x0):Int),true),(!eqF (↑(List.length x1):Int) (↑(List.length x0):Int),false),(!eqF (↑(List.length x1):Int) (↑(List.length x0):Int),false),(!eqF (↑(List.length x1):Int) (↑(List.length x0):Int),false),(!eqF (↑(List.length x1):Int) (↑(List.length x0):Int),false),(!eqF (↑(List.length x1):Int) (↑(List.length x0):Int),false),(!eqF (↑(List.length x1):Int) (↑(List.length x0):Int),false),(!eqF r0.2.1 0,false),(Option.isSome (f38 ((x0,()),())),true)])):=by kernel_rfl
theorem e7_3 (x0:(List (Int×(Int×((List (Int×(Int×(Bool×Unit))))×Unit))))) (x1:(List Int)) (x1':(List Int)) (x1'':(List (Int×((List (Int×(Bool×Unit)))×Unit)))):runPure (kl87_0 Go.Proofs.Tryz.prog).orc Go.Proofs.Tryz.prog 400 7 as7 rs7 ((x0,()),(x1,x1',x1'',()),()) [tt,ff,ff,ff,ff,ff,ff,ff,ff,ff,ff,ff,ff,ff,tt] =
    (let r0:=g38 ((x0,()),()); some (((0:Int),((10:Int),())),[(!eqF (↑(List.length x1''):Int) (↑(List.length x0):Int),true),(!eqF (↑(List.length x1'):Int) (↑(List.length x0):Int),false),(!eqF (↑(List.length x1'):Int) (↑(List.length x0):Int),false),(!eqF (↑(List.length x1'):Int) (↑(List.length x0):Int),false),(!eqF (↑(List.length x1'):Int) (↑(List.length x0):Int),false),(!eqF (↑(List.length x1'):Int) (↑(List.length x0):Int),false),(!eqF (↑(List.length x1'):Int) (↑(List.length x0):Int),false),(!eqF (↑(List.length x1):Int) (↑(List.length x0):Int),false),(!eqF (↑(List.length x1):Int) (↑(List.length x0):Int),false),(!eqF (↑(List.length x1):Int) (↑(List.length x0):Int),false),(!eqF (↑(List.length x1):Int) (↑(List.length x0):Int),false),(!eqF (↑(List.length x1):Int) (↑(List.length x0):Int),false),(!eqF (↑(List.length x1):Int) (↑(List.length x0):Int),false),(!eqF r0.2.1 0,false),(Option.isSome (f38 ((x0,()),())),true)])):=by kernel_rfl
theorem e7_4 (x0:(List (Int×(Int×((List (Int×(Int×(Bool×Unit))))×Unit))))) (x1:(List Int)) (x1':(List Int)) (x1'':(List (Int×((List (Int×(Bool×Unit)))×Unit)))):runPure (kl87_0 Go.Proofs.Tryz.prog).orc Go.Proofs.Tryz.prog 400 7 as7 rs7 ((x0,()),(x1,x1',x1'',()),()) [tt,ff,ff,ff,ff,ff,ff,ff,ff,ff,ff,ff,ff,ff,ff,tt,tt,tt] =
    (let r0:=g38 ((x0,()),());let r1:=r87_0 (((0:Int),(x1,((↑(List.length x1):Int),((0:Int),())))),((),((x0,()),((x1,(x1',(x1'',()))),(((0:Int),()),(((0:Int),()),())))))); some ((r1.2.2.2.2.1.1,(r1.2.2.2.2.2.1.1,())),[(isRet (l87_0 (((0:Int),(x1,((↑(List.length x1):Int),((0:Int),())))),((),((x0,()),((x1,(x1',(x1'',()))),(((0:Int),()),(((0:Int),()),()))))))),true),(Option.isSome (l87_0 (((0:Int),(x1,((↑(List.length x1):Int),((0:Int),())))),((),((x0,()),((x1,(x1',(x1'',()))),(((0:Int),()),(((0:Int),()),()))))))),true),(sameRf Go.Proofs.Tryz.prog (nat_lit 7) (nat_lit 0),true),(!eqF (↑(List.length x1''):Int) (↑(List.length x0):Int),false),(!eqF (↑(List.length x1'):Int) (↑(List.length x0):Int),false),(!eqF (↑(List.length x1'):Int) (↑(List.length x0):Int),false),(!eqF (↑(List.length x1'):Int) (↑(List.length x0):Int),false),(!eqF (↑(List.length x1'):Int) (↑(List.length x0):Int),false),(!eqF (↑(List.length x1'):Int) (↑(List.length x0):Int),false),(!eqF (↑(List.length x1'):Int) (↑(List.length x0):Int),false),(!eqF (↑(List.length x1):Int) (↑(List.length x0):Int),false),(!eqF (↑(List.length x1):Int) (↑(List.length x0):Int),false),(!eqF (↑(List.length x1):Int) (↑(List.length x0):Int),false),(!eqF (↑(List.length x1):Int) (↑(List.length x0):Int),false),(!eqF (↑(List.length x1):Int) (↑(List.length x0):Int),false),(!eqF (↑(List.length x1):Int) (↑(List.length x0):Int),false),(!eqF r0.2.1 0,false),(Option.isSome (f38 ((x0,()),())),true)])):=by kernel_rfl
theorem e7_5 (x0:(List (Int×(Int×((List (Int×(Int×(Bool×Unit))))×Unit))))) (x1:(List Int)) (x1':(List Int)) (x1'':(List (Int×((List (Int×(Bool×Unit)))×Unit)))):runPure (kl87_0 Go.Proofs.Tryz.prog).orc Go.Proofs.Tryz.prog 400 7 as7 rs7 ((x0,()),(x1,x1',x1'',()),()) [tt,ff,ff,ff,ff,ff,ff,ff,ff,ff,ff,ff,ff,ff,ff,tt,tt,ff] =
    (let r0:=g38 ((x0,()),()); some (((0:Int),((0:Int),())),[(isRet (l87_0 (((0:Int),(x1,((↑(List.length x1):Int),((0:Int),())))),((),((x0,()),((x1,(x1',(x1'',()))),(((0:Int),()),(((0:Int),()),()))))))),false),(Option.isSome (l87_0 (((0:Int),(x1,((↑(List.length x1):Int),((0:Int),())))),((),((x0,()),((x1,(x1',(x1'',()))),(((0:Int),()),(((0:Int),()),()))))))),true),(sameRf Go.Proofs.Tryz.prog (nat_lit 7) (nat_lit 0),true),(!eqF (↑(List.length x1''):Int) (↑(List.length x0):Int),false),(!eqF (↑(List.length x1'):Int) (↑(List.length x0):Int),false),(!eqF (↑(List.length x1'):Int) (↑(List.length x0):Int),false),(!eqF (↑(List.length x1'):Int) (↑(List.length x0):Int),false),(!eqF (↑(List.length x1'):Int) (↑(List.length x0):Int),false),(!eqF (↑(List.length x1'):Int) (↑(List.length x0):Int),false),(!eqF (↑(List.length x1'):Int) (↑(List.length x0):Int),false),(!eqF (↑(List.length x1):Int) (↑(List.length x0):Int),false),(!eqF (↑(List.length x1):Int) (↑(List.length x0):Int),false),(!eqF (↑(List.length x1):Int) (↑(List.length x0):Int),false),(!eqF (↑(List.length x1):Int) (↑(List.length x0):Int),false),(!eqF (↑(List.length x1):Int) (↑(List.length x0):Int),false),(!eqF (↑(List.length x1):Int) (↑(List.length x0):Int),false),(!eqF r0.2.1 0,false),(Option.isSome (f38 ((x0,()),())),true)])):=by kernel_rfl
theorem ok7_t (x0:(List (Int×(Int×((List (Int×(Int×(Bool×Unit))))×Unit))))) (x1:(List Int)) (x1':(List Int)) (x1'':(List (Int×((List (Int×(Bool×Unit)))×Unit)))):TrOk (PureRuns Go.Proofs.Tryz.prog (kl87_0 Go.Proofs.Tryz.prog).orc 7 as7 rs7 ((x0,()),(x1,x1',x1'',()),())) (t7 x0 x1 x1' x1'') :=
  TrOk.ofTest (fun h0=>TrOk.ofTest (fun h1=>TrOk.ofFin (PureRuns.of (e7_0 x0 x1 x1' x1'') (ac h1 (ac h0 All.nil)))) (fun h1=>TrOk.ofTest (fun h2=>TrOk.ofFin (PureRuns.of (e7_1 x0 x1 x1' x1'') (ac rfl (ac rfl (ac rfl (ac rfl (ac rfl (ac rfl (ac rfl (ac (nn h2) (ac (nn h2) (ac (nn h2) (ac (nn h2) (ac (nn h2) (ac h2 (ac h1 (ac h0 All.nil))))))))))))))))) (fun h2=>TrOk.ofTest (fun h8=>TrOk.ofFin (PureRuns.of (e7_2 x0 x1 x1' x1'') (ac rfl (ac (nn h8) (ac (nn h8) (ac (nn h8) (ac (nn h8) (ac (nn h8) (ac h8 (ac (nn h2) (ac (nn h2) (ac (nn h2) (ac (nn h2) (ac (nn h2) (ac h2 (ac h1 (ac h0 All.nil))))))))))))))))) (fun h8=>TrOk.ofTest (fun h14=>TrOk.ofFin (PureRuns.of (e7_3 x0 x1 x1' x1'') (ac h14 (ac (nn h8) (ac (nn h8) (ac (nn h8) (ac (nn h8) (ac (nn h8) (ac h8 (ac (nn h2) (ac (nn h2) (ac (nn h2) (ac (nn h2) (ac (nn h2) (ac h2 (ac h1 (ac h0 All.nil))))))))))))))))) (fun h14=>TrOk.ofTest (fun h16=>TrOk.ofTest (fun h17=>TrOk.ofFin (PureRuns.of (e7_4 x0 x1 x1' x1'') (ac h17 (ac h16 (ac (sc7_0) (ac h14 (ac (nn h8) (ac (nn h8) (ac (nn h8) (ac (nn h8) (ac (nn h8) (ac h8 (ac (nn h2) (ac (nn h2) (ac (nn h2) (ac (nn h2) (ac (nn h2) (ac h2 (ac h1 (ac h0 All.nil)))))))))))))))))))) (fun h17=>TrOk.ofFin (PureRuns.of (e7_5 x0 x1 x1' x1'') (ac h17 (ac h16 (ac (sc7_0) (ac h14 (ac (nn h8) (ac (nn h8) (ac (nn h8) (ac (nn h8) (ac (nn h8) (ac h8 (ac (nn h2) (ac (nn h2) (ac (nn h2) (ac (nn h2) (ac (nn h2) (ac h2 (ac h1 (ac h0 All.nil))))))))))))))))))))) (fun h16=>TrOk.ofStop)))))) (fun h0=>TrOk.ofStop)
theorem ok7:PureOk Go.Proofs.Tryz.prog 7 p7:=pureOk_of kl87_0_ok.base (T:=fun (d:Tys.data as7)=>t7 d.1.1 d.2.1.1 d.2.1.2.1 d.2.1.2.2.1) (by kernel_rfl) (fun (d:Tys.data as7)=>ok7_t d.1.1 d.2.1.1 d.2.1.2.1 d.2.1.2.2.1)
def kf7 (P:Go.Program):Known:=(kl87_0 P).func 7 p7
theorem kf7_ok:KnownOk Go.Proofs.Tryz.prog (kf7 Go.Proofs.Tryz.prog):=kl87_0_ok.func ok7
abbrev as46:List Ty:=[(.int .i64)]
abbrev rs46:List Ty:=[(.int .i64)]
def t46 (x0:Int):Tr (Tys.data rs46) :=
  Tr.test (Option.isSome (f42 ((100:Int),(([x0]:List Int),()))))
    (let r0:=g42 ((100:Int),(([x0]:List Int),()));
    Tr.fin ((r0.1,())))
    (Tr.stop)
def f46 (d:Tys.data as46):Option (Tys.data rs46):=(t46 d.1).val
def g46 (d:Tys.data as46):Tys.data rs46:=(f46 d).getD (Tys.dflt rs46)
def p46:PureC:=pcOf as46 rs46 f46 g46
theorem wk46 (x0:Int):Walks (runPure (kf7 Go.Proofs.Tryz.prog).orc Go.Proofs.Tryz.prog 400 46 as46 rs46 (x0,())) (t46 x0) [(bl 1 1,[2])] :=
  ⟨by kernel_rfl,trivial⟩
theorem ok46_t (x0:Int):TrOk (PureRuns Go.Proofs.Tryz.prog (kf7 Go.Proofs.Tryz.prog).orc 46 as46 rs46 (x0,())) (t46 x0) :=
  Walks.ok (fun _ _ _=>PureRuns.of) (wk46 x0) (by kernel_rfl)
theorem ok46:PureOk Go.Proofs.Tryz.prog 46 p46:=pureOk_of kf7_ok.base (T:=fun (d:Tys.data as46)=>t46 d.1) (by kernel_rfl) (fun (d:Tys.data as46)=>ok46_t d.1)
def kf46 (P:Go.Program):Known:=(kf7 P).func 46 p46
theorem kf46_ok:KnownOk Go.Proofs.Tryz.prog (kf46 Go.Proofs.Tryz.prog):=kf7_ok.func ok46
end Go.Vm.Mo
