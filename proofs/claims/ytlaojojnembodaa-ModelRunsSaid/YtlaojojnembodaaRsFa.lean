import Derived.Test.YtlaojojnembodaaA5
import Derived.KernelRfl
import Derived.Test.YtlaojojnembodaaProg
set_option linter.unusedVariables false
set_option linter.unusedSimpArgs false

namespace Go.Vm.Mo
open Go
set_option linter.unusedVariables false
def kn0 (_:Go.Program):Known:=⟨[],[]⟩
abbrev tt:Bool:=true
abbrev ff:Bool:=false
theorem ac {b d:Bool} {r:List (Bool×Bool)} (h:b = d) (t:All r):All ((b, d) :: r):=All.cons h t
theorem plainP:Plain Proofs.Try.prog:=by
  have h : (Proofs.Try.prog.funcs.toList.all fun fn => !(fn.body.isSome && fn.name == "runtime.NumGoroutine")) = true := by kernel_rfl
  intro f fn hf hb
  have hm:fn ∈ Proofs.Try.prog.funcs.toList:=by
    have:=Array.getElem?_eq_some_iff.1 hf
    obtain ⟨hlt,rfl⟩:=this
    simp
  have:=List.all_eq_true.1 h fn hm
  rw [hb] at this
  simpa using this
theorem kn0_ok:KnownOk Proofs.Try.prog (kn0 Proofs.Try.prog):=⟨plainP,by kernel_rfl,(fun _ h=>by cases h),(fun _ h=>by cases h)⟩
abbrev as9:List Ty:=[]
abbrev rs9:List Ty:=[.bool]
def f9 (_:Tys.data as9):Option (Tys.data rs9):=some (true,())
def g9 (_:Tys.data as9):Tys.data rs9:=(true,())
def p9:PureC:=pcOf as9 rs9 f9 g9
theorem e9:qiM (kn0 Proofs.Try.prog).orc Proofs.Try.prog 400 9 as9 rs9 () none = some ((true,()),[]):=by kernel_rfl
theorem ok9:PureOk Proofs.Try.prog 9 p9:=qhX kn0_ok.base (by kernel_rfl) e9 All.nil
def kf9 (P:Go.Program):Known:=(kn0 P).func 9 p9
theorem kf9_ok:KnownOk Proofs.Try.prog (kf9 Proofs.Try.prog):=kn0_ok.func ok9
abbrev sh42_0:Sh:={ n:=23,slots:=[1,3],pats:=[.ptr 0 1 0,.ty (.int .i64)],boxes:=[.row [.ty (.slice (.pair (.int .i64) (.pair (.int .i64) (.pair (.slice (.pair (.int .i64) (.pair (.int .i64) (.pair .bool .unit)))) .unit))))]] }
abbrev shb42_0:Sh:={ n:=23,slots:=[],pats:=[],boxes:=[.row [.ty (.slice (.pair (.int .i64) (.pair (.int .i64) (.pair (.slice (.pair (.int .i64) (.pair (.int .i64) (.pair .bool .unit)))) .unit))))]] }
abbrev shr42_0:Sh:={ n:=23,slots:=[2],pats:=[.ty .bool],boxes:=[.row [.ty (.slice (.pair (.int .i64) (.pair (.int .i64) (.pair (.slice (.pair (.int .i64) (.pair (.int .i64) (.pair .bool .unit)))) .unit))))]] }
def t42_0 (x1:Int) (b0_0:(List (Int×(Int×((List (Int×(Int×(Bool×Unit))))×Unit))))):Tr (Out sh42_0.data shb42_0.data shr42_0.data) :=
  Tr.test ((!leF (↑(List.length b0_0):Int) x1:Bool))
    (Tr.test (decide ((0:Int) ≤ x1) && decide (x1 < (↑(List.length b0_0):Int)))
      (Tr.test ((!leF (↑(List.length (List.getD b0_0 (Int.toNat x1) ((0:Int),(0:Int),[],())).2.2.1):Int) (6:Int):Bool))
        (Tr.fin (.ret (((false:Bool),()),((b0_0,()),()))))
        (Tr.fin (.again (((wrap64 (x1 + (1:Int)):Int),()),((b0_0,()),())))))
      (Tr.stop))
    (Tr.fin (.brk ((),((b0_0,()),()))))
def s42_0 (d:sh42_0.data):Option (Out sh42_0.data shb42_0.data shr42_0.data):=(t42_0 d.1.1 d.2.1.1).val
def l42_0 (d:sh42_0.data):Option (shb42_0.data ⊕ shr42_0.data):=itr s42_0 rounds d
def b42_0 (d:sh42_0.data):shb42_0.data:=outB shb42_0.dflt (l42_0 d)
def r42_0 (d:sh42_0.data):shr42_0.data:=outR shr42_0.dflt (l42_0 d)
def lc42_0:LoopC:=lcOf sh42_0 shb42_0 shr42_0 l42_0 b42_0 r42_0
theorem wk42_0 (x1:Int) (b0_0:(List (Int×(Int×((List (Int×(Int×(Bool×Unit))))×Unit))))):Walks (qal (kf9 Proofs.Try.prog).orc Proofs.Try.prog 400 42 0 sh42_0 shb42_0 shr42_0 ((x1,()),(b0_0,()),())) (t42_0 x1 b0_0) [(bl 3 7,[2,4,6]),(bl 3 3,[2,4,6]),(bl 1 0,[2])] :=
  ⟨by kernel_rfl,by kernel_rfl,by kernel_rfl,trivial⟩
theorem ok42_0_t (x1:Int) (b0_0:(List (Int×(Int×((List (Int×(Int×(Bool×Unit))))×Unit))))):TrOk (BodyRuns Proofs.Try.prog (kf9 Proofs.Try.prog).orc 42 0 sh42_0 shb42_0 shr42_0 ((x1,()),(b0_0,()),())) (t42_0 x1 b0_0) :=
  Walks.ok (fun _ _ _=>BodyRuns.of) (wk42_0 x1 b0_0) (by kernel_rfl)
theorem ok42_0:qau Proofs.Try.prog 42 0 lc42_0:=qax (sh:=sh42_0) (shB:=shb42_0) (shR:=shr42_0) kf9_ok.base (T:=fun (d:sh42_0.data)=>t42_0 d.1.1 d.2.1.1) (by kernel_rfl) rfl (fun (d:sh42_0.data)=>ok42_0_t d.1.1 d.2.1.1) (fun _=>rfl)
def kl42_0 (P:Go.Program):Known:=(kf9 P).loop 42 0 lc42_0
theorem kl42_0_ok:KnownOk Proofs.Try.prog (kl42_0 Proofs.Try.prog):=kf9_ok.loop ok42_0
abbrev as42:List Ty:=[(.pair (.slice (.pair (.int .i64) (.pair (.int .i64) (.pair (.slice (.pair (.int .i64) (.pair (.int .i64) (.pair .bool .unit)))) .unit)))) .unit)]
abbrev rs42:List Ty:=[.bool]
def t42 (x0:(List (Int×(Int×((List (Int×(Int×(Bool×Unit))))×Unit))))):Tr (Tys.data rs42) :=
  Tr.test ((!leF (↑(List.length x0):Int) (7:Int):Bool))
    (Tr.fin ((false,())))
    (Tr.test (Option.isSome (l42_0 (((0:Int),()),((x0,()),()))))
      (Tr.test (qaY (l42_0 (((0:Int),()),((x0,()),()))))
        (let r0:=r42_0 (((0:Int),()),((x0,()),()));
        Tr.fin ((r0.1.1,())))
        (Tr.fin (((true:Bool),()))))
      (Tr.stop))
def f42 (d:Tys.data as42):Option (Tys.data rs42):=(t42 d.1.1).val
def g42 (d:Tys.data as42):Tys.data rs42:=(f42 d).getD (Tys.dflt rs42)
def p42:PureC:=pcOf as42 rs42 f42 g42
theorem wk42 (x0:(List (Int×(Int×((List (Int×(Int×(Bool×Unit))))×Unit))))):Walks (runPure (kl42_0 Proofs.Try.prog).orc Proofs.Try.prog 400 42 as42 rs42 ((x0,()),())) (t42 x0) [(bl 1 1,[2]),(bl 3 6,[2,4,6]),(bl 3 2,[2,4,6])] :=
  ⟨by kernel_rfl,by kernel_rfl,by kernel_rfl,trivial⟩
theorem ok42_t (x0:(List (Int×(Int×((List (Int×(Int×(Bool×Unit))))×Unit))))):TrOk (PureRuns Proofs.Try.prog (kl42_0 Proofs.Try.prog).orc 42 as42 rs42 ((x0,()),())) (t42 x0) :=
  Walks.ok (fun _ _ _=>PureRuns.of) (wk42 x0) (by kernel_rfl)
theorem ok42:PureOk Proofs.Try.prog 42 p42:=qab kl42_0_ok.base (T:=fun (d:Tys.data as42)=>t42 d.1.1) (by kernel_rfl) (fun (d:Tys.data as42)=>ok42_t d.1.1)
def kf42 (P:Go.Program):Known:=(kl42_0 P).func 42 p42
theorem kf42_ok:KnownOk Proofs.Try.prog (kf42 Proofs.Try.prog):=kl42_0_ok.func ok42
abbrev as22:List Ty:=[(.slice (.pair (.int .i64) (.pair (.int .i64) (.pair .bool .unit))))]
abbrev rs22:List Ty:=[(.slice (.pair (.int .i64) (.pair (.int .i64) (.pair .bool .unit))))]
def t22 (x0:(List (Int×(Int×(Bool×Unit))))):Tr (Tys.data rs22) :=
  Tr.test ((Nat.ble (((2:Nat) * ((0:Nat) + List.length x0) + (192:Nat)) * (24:Nat)) (281474976710656:Nat) && Nat.ble ((0:Nat) + List.length x0) (281474976710656:Nat):Bool))
    (Tr.fin ((([]++x0:List (Int×Int×Bool×PUnit)),())))
    (Tr.test (Nat.ble ((0:Nat) + List.length x0) (0:Nat))
      (Tr.stop)
      (Tr.stop))
def f22 (d:Tys.data as22):Option (Tys.data rs22):=(t22 d.1).val
def g22 (d:Tys.data as22):Tys.data rs22:=(f22 d).getD (Tys.dflt rs22)
def p22:PureC:=pcOf as22 rs22 f22 g22
theorem wk22 (x0:(List (Int×(Int×(Bool×Unit))))):Walks (runPure (kf42 Proofs.Try.prog).orc Proofs.Try.prog 400 22 as22 rs22 (x0,())) (t22 x0) [(bl 1 1,[2])] :=
  ⟨by kernel_rfl,trivial⟩
theorem ok22_t (x0:(List (Int×(Int×(Bool×Unit))))):TrOk (PureRuns Proofs.Try.prog (kf42 Proofs.Try.prog).orc 22 as22 rs22 (x0,())) (t22 x0) :=
  Walks.ok (fun _ _ _=>PureRuns.of) (wk22 x0) (by kernel_rfl)
theorem ok22:PureOk Proofs.Try.prog 22 p22:=qab kf42_ok.base (T:=fun (d:Tys.data as22)=>t22 d.1) (by kernel_rfl) (fun (d:Tys.data as22)=>ok22_t d.1)
def kf22 (P:Go.Program):Known:=(kf42 P).func 22 p22
theorem kf22_ok:KnownOk Proofs.Try.prog (kf22 Proofs.Try.prog):=kf42_ok.func ok22
abbrev sh44_0:Sh:={ n:=29,slots:=[1,2,3,4],pats:=[.ptr 0 1 0,.ptr 1 1 0,.ptr 2 1 0,.ty (.int .i64)],boxes:=[.row [.ty (.slice (.pair (.int .i64) (.pair (.int .i64) (.pair (.slice (.pair (.int .i64) (.pair (.int .i64) (.pair .bool .unit)))) .unit))))],.row [.nil],.row [.acc (.pair (.int .i64) (.pair (.int .i64) (.pair (.slice (.pair (.int .i64) (.pair (.int .i64) (.pair .bool .unit)))) .unit)))]] }
abbrev shb44_0:Sh:={ n:=29,slots:=[2,3],pats:=[.ptr 1 1 0,.ptr 2 1 0],boxes:=[.row [.ty (.slice (.pair (.int .i64) (.pair (.int .i64) (.pair (.slice (.pair (.int .i64) (.pair (.int .i64) (.pair .bool .unit)))) .unit))))],.row [.nil],.row [.acc (.pair (.int .i64) (.pair (.int .i64) (.pair (.slice (.pair (.int .i64) (.pair (.int .i64) (.pair .bool .unit)))) .unit)))]] }
abbrev shr44_0:Sh:={ n:=29,slots:=[],pats:=[],boxes:=[.row [.ty (.slice (.pair (.int .i64) (.pair (.int .i64) (.pair (.slice (.pair (.int .i64) (.pair (.int .i64) (.pair .bool .unit)))) .unit))))],.row [.nil],.row [.acc (.pair (.int .i64) (.pair (.int .i64) (.pair (.slice (.pair (.int .i64) (.pair (.int .i64) (.pair .bool .unit)))) .unit)))]] }
def t44_0 (x3:Int) (b0_0:(List (Int×(Int×((List (Int×(Int×(Bool×Unit))))×Unit))))) (b2_0:(List (Int×(Int×((List (Int×(Int×(Bool×Unit))))×Unit))))):Tr (Out sh44_0.data shb44_0.data shr44_0.data) :=
  Tr.test ((!leF (↑(List.length b0_0):Int) x3:Bool))
    (Tr.test (decide ((0:Int) ≤ x3) && decide (x3 < (↑(List.length b0_0):Int)))
      (Tr.test (Option.isSome (f22 (((List.getD b0_0 (Int.toNat x3) ((0:Int),(0:Int),[],())).2.2.1:List (Int×Int×Bool×PUnit)),())))
        (Tr.test ((Nat.ble (((2:Nat) * (List.length b2_0 + (1:Nat)) + (192:Nat)) * (40:Nat)) (281474976710656:Nat) && Nat.ble (List.length b2_0 + (1:Nat)) (281474976710656:Nat):Bool))
          (let r0:=g22 (((List.getD b0_0 (Int.toNat x3) ((0:Int),(0:Int),[],())).2.2.1:List (Int×Int×Bool×PUnit)),());
          Tr.fin (.again (((wrap64 (x3 + (1:Int)):Int),()),((b0_0,()),((),(((b2_0++[((List.getD b0_0 (Int.toNat x3) ((0:Int),(0:Int),[],())).1,(List.getD b0_0 (Int.toNat x3) ((0:Int),(0:Int),[],())).2.1,r0.1,())]:List (Int×Int×List (Int×Int×Bool×PUnit)×PUnit)),()),()))))))
          (Tr.stop))
        (Tr.stop))
      (Tr.stop))
    (Tr.fin (.brk ((),((b0_0,()),((),((b2_0,()),()))))))
def s44_0 (d:sh44_0.data):Option (Out sh44_0.data shb44_0.data shr44_0.data):=(t44_0 d.1.1 d.2.1.1 d.2.2.2.1.1).val
def l44_0 (d:sh44_0.data):Option (shb44_0.data ⊕ shr44_0.data):=itr s44_0 rounds d
def b44_0 (d:sh44_0.data):shb44_0.data:=outB shb44_0.dflt (l44_0 d)
def lc44_0:LoopC:=lcB sh44_0 shb44_0 shr44_0 l44_0 b44_0
theorem wk44_0 (x3:Int) (b0_0:(List (Int×(Int×((List (Int×(Int×(Bool×Unit))))×Unit))))) (b2_0:(List (Int×(Int×((List (Int×(Int×(Bool×Unit))))×Unit))))):Walks (qal (kf22 Proofs.Try.prog).orc Proofs.Try.prog 400 44 0 sh44_0 shb44_0 shr44_0 ((x3,()),(b0_0,()),(),(b2_0,()),())) (t44_0 x3 b0_0 b2_0) [(bl 4 15,[2,4,6,8]),(bl 1 0,[2])] :=
  ⟨by kernel_rfl,by kernel_rfl,trivial⟩
theorem ok44_0_t (x3:Int) (b0_0:(List (Int×(Int×((List (Int×(Int×(Bool×Unit))))×Unit))))) (b2_0:(List (Int×(Int×((List (Int×(Int×(Bool×Unit))))×Unit))))):TrOk (BodyRuns Proofs.Try.prog (kf22 Proofs.Try.prog).orc 44 0 sh44_0 shb44_0 shr44_0 ((x3,()),(b0_0,()),(),(b2_0,()),())) (t44_0 x3 b0_0 b2_0) :=
  Walks.ok (fun _ _ _=>BodyRuns.of) (wk44_0 x3 b0_0 b2_0) (by kernel_rfl)
theorem ok44_0:qau Proofs.Try.prog 44 0 lc44_0:=qay (sh:=sh44_0) (shB:=shb44_0) (shR:=shr44_0) kf22_ok.base (T:=fun (d:sh44_0.data)=>t44_0 d.1.1 d.2.1.1 d.2.2.2.1.1) (by kernel_rfl) rfl (fun (d:sh44_0.data)=>ok44_0_t d.1.1 d.2.1.1 d.2.2.2.1.1) (fun _=>rfl)
def kl44_0 (P:Go.Program):Known:=(kf22 P).loop 44 0 lc44_0
theorem kl44_0_ok:KnownOk Proofs.Try.prog (kl44_0 Proofs.Try.prog):=kf22_ok.loop ok44_0
abbrev as44:List Ty:=[(.pair (.slice (.pair (.int .i64) (.pair (.int .i64) (.pair (.slice (.pair (.int .i64) (.pair (.int .i64) (.pair .bool .unit)))) .unit)))) .unit)]
abbrev rs44:List Ty:=[(.pair (.slice (.pair (.int .i64) (.pair (.int .i64) (.pair (.slice (.pair (.int .i64) (.pair (.int .i64) (.pair .bool .unit)))) .unit)))) .unit)]
def t44 (x0:(List (Int×(Int×((List (Int×(Int×(Bool×Unit))))×Unit))))):Tr (Tys.data rs44) :=
  Tr.test (qbh (l44_0 (((0:Int),()),((x0,()),((),((([]:List (Int×Int×List (Int×Int×Bool×PUnit)×PUnit)),()),()))))))
    (let r0:=b44_0 (((0:Int),()),((x0,()),((),((([]:List (Int×Int×List (Int×Int×Bool×PUnit)×PUnit)),()),()))));
    Tr.fin ((((r0.2.2.2.1.1:List (Int×Int×List (Int×Int×Bool×PUnit)×PUnit)),()),())))
    (Tr.stop)
def f44 (d:Tys.data as44):Option (Tys.data rs44):=(t44 d.1.1).val
def g44 (d:Tys.data as44):Tys.data rs44:=(f44 d).getD (Tys.dflt rs44)
def p44:PureC:=pcOf as44 rs44 f44 g44
theorem wk44 (x0:(List (Int×(Int×((List (Int×(Int×(Bool×Unit))))×Unit))))):Walks (runPure (kl44_0 Proofs.Try.prog).orc Proofs.Try.prog 400 44 as44 rs44 ((x0,()),())) (t44 x0) [(bl 1 1,[1,2])] :=
  ⟨by kernel_rfl,trivial⟩
theorem ok44_t (x0:(List (Int×(Int×((List (Int×(Int×(Bool×Unit))))×Unit))))):TrOk (PureRuns Proofs.Try.prog (kl44_0 Proofs.Try.prog).orc 44 as44 rs44 ((x0,()),())) (t44 x0) :=
  Walks.ok (fun _ _ _=>PureRuns.of) (wk44 x0) (by kernel_rfl)
theorem ok44:PureOk Proofs.Try.prog 44 p44:=qab kl44_0_ok.base (T:=fun (d:Tys.data as44)=>t44 d.1.1) (by kernel_rfl) (fun (d:Tys.data as44)=>ok44_t d.1.1)
def kf44 (P:Go.Program):Known:=(kl44_0 P).func 44 p44
theorem kf44_ok:KnownOk Proofs.Try.prog (kf44 Proofs.Try.prog):=kl44_0_ok.func ok44
abbrev as47:List Ty:=[(.slice (.int .i64))]
abbrev rs47:List Ty:=[(.slice (.int .i64))]
def t47 (x0:(List Int)):Tr (Tys.data rs47) :=
  Tr.test ((Nat.ble (((2:Nat) * ((0:Nat) + List.length x0) + (192:Nat)) * (8:Nat)) (281474976710656:Nat) && Nat.ble ((0:Nat) + List.length x0) (281474976710656:Nat):Bool))
    (Tr.fin ((([]++x0:List Int),())))
    (Tr.test (Nat.ble ((0:Nat) + List.length x0) (0:Nat))
      (Tr.stop)
      (Tr.stop))
def f47 (d:Tys.data as47):Option (Tys.data rs47):=(t47 d.1).val
def g47 (d:Tys.data as47):Tys.data rs47:=(f47 d).getD (Tys.dflt rs47)
def p47:PureC:=pcOf as47 rs47 f47 g47
theorem wk47 (x0:(List Int)):Walks (runPure (kf44 Proofs.Try.prog).orc Proofs.Try.prog 400 47 as47 rs47 (x0,())) (t47 x0) [(bl 1 1,[2])] :=
  ⟨by kernel_rfl,trivial⟩
theorem ok47_t (x0:(List Int)):TrOk (PureRuns Proofs.Try.prog (kf44 Proofs.Try.prog).orc 47 as47 rs47 (x0,())) (t47 x0) :=
  Walks.ok (fun _ _ _=>PureRuns.of) (wk47 x0) (by kernel_rfl)
theorem ok47:PureOk Proofs.Try.prog 47 p47:=qab kf44_ok.base (T:=fun (d:Tys.data as47)=>t47 d.1) (by kernel_rfl) (fun (d:Tys.data as47)=>ok47_t d.1)
def kf47 (P:Go.Program):Known:=(kf44 P).func 47 p47
theorem kf47_ok:KnownOk Proofs.Try.prog (kf47 Proofs.Try.prog):=kf44_ok.func ok47
abbrev as74:List Ty:=[.bool,(.int .i64)]
abbrev rs74:List Ty:=[(.int .i64)]
def t74 (x0:Bool) (x1:Int):Tr (Tys.data rs74) :=
  Tr.test (x0)
    (Tr.fin ((x1,())))
    (Tr.fin (((0:Int),())))
def f74 (d:Tys.data as74):Option (Tys.data rs74):=(t74 d.1 d.2.1).val
def g74 (d:Tys.data as74):Tys.data rs74:=(f74 d).getD (Tys.dflt rs74)
def p74:PureC:=pcOf as74 rs74 f74 g74
theorem wk74 (x0:Bool) (x1:Int):Walks (runPure (kf47 Proofs.Try.prog).orc Proofs.Try.prog 400 74 as74 rs74 (x0,x1,())) (t74 x0 x1) [(bl 1 1,[2]),(bl 1 0,[2])] :=
  ⟨by kernel_rfl,by kernel_rfl,trivial⟩
theorem ok74_t (x0:Bool) (x1:Int):TrOk (PureRuns Proofs.Try.prog (kf47 Proofs.Try.prog).orc 74 as74 rs74 (x0,x1,())) (t74 x0 x1) :=
  Walks.ok (fun _ _ _=>PureRuns.of) (wk74 x0 x1) (by kernel_rfl)
theorem ok74:PureOk Proofs.Try.prog 74 p74:=qab kf47_ok.base (T:=fun (d:Tys.data as74)=>t74 d.1 d.2.1) (by kernel_rfl) (fun (d:Tys.data as74)=>ok74_t d.1 d.2.1)
def kf74 (P:Go.Program):Known:=(kf47 P).func 74 p74
theorem kf74_ok:KnownOk Proofs.Try.prog (kf74 Proofs.Try.prog):=kf47_ok.func ok74
abbrev sh72_0:Sh:={ n:=24,slots:=[0,1,9,10,11],pats:=[.ty (.int .i64),.ty (.int .i64),.ty (.slice (.int .i64)),.ty (.int .i64),.ty (.int .i64)],boxes:=[] }
abbrev shb72_0:Sh:={ n:=24,slots:=[],pats:=[],boxes:=[] }
abbrev shr72_0:Sh:={ n:=24,slots:=[6],pats:=[.ty .bool],boxes:=[] }
def t72_0 (x0:Int) (x1:Int) (x2:(List Int)) (x3:Int) (x4:Int):Tr (Out sh72_0.data shb72_0.data shr72_0.data) :=
  Tr.test ((!leF x3 x4:Bool))
    (Tr.test (decide ((0:Int) ≤ x4) && decide (x4 < (↑(List.length x2):Int)))
      (Tr.test ((!leF x0 (List.getD x2 (Int.toNat x4) (0:Int)):Bool))
        (Tr.fin (.ret (((false:Bool),()),())))
        (Tr.test ((!leF (List.getD x2 (Int.toNat x4) (0:Int)) x1:Bool))
          (Tr.fin (.ret (((false:Bool),()),())))
          (Tr.fin (.again ((x0,(x1,(x2,(x3,((wrap64 (x4 + (1:Int)):Int),()))))),())))))
      (Tr.stop))
    (Tr.fin (.brk ((),())))
def s72_0 (d:sh72_0.data):Option (Out sh72_0.data shb72_0.data shr72_0.data):=(t72_0 d.1.1 d.1.2.1 d.1.2.2.1 d.1.2.2.2.1 d.1.2.2.2.2.1).val
def l72_0 (d:sh72_0.data):Option (shb72_0.data ⊕ shr72_0.data):=itr s72_0 rounds d
def b72_0 (d:sh72_0.data):shb72_0.data:=outB shb72_0.dflt (l72_0 d)
def r72_0 (d:sh72_0.data):shr72_0.data:=outR shr72_0.dflt (l72_0 d)
def lc72_0:LoopC:=lcOf sh72_0 shb72_0 shr72_0 l72_0 b72_0 r72_0
theorem wk72_0 (x0:Int) (x1:Int) (x2:(List Int)) (x3:Int) (x4:Int):Walks (qal (kf74 Proofs.Try.prog).orc Proofs.Try.prog 400 72 0 sh72_0 shb72_0 shr72_0 ((x0,x1,x2,x3,x4,()),())) (t72_0 x0 x1 x2 x3 x4) [(bl 3 7,[1,2,2,2,2,4,6]),(bl 4 11,[2,4,4,4,4,6,8]),(bl 4 3,[2,4,4,4,4,6,8]),(bl 1 0,[2])] :=
  ⟨by kernel_rfl,by kernel_rfl,by kernel_rfl,by kernel_rfl,trivial⟩
theorem ok72_0_t (x0:Int) (x1:Int) (x2:(List Int)) (x3:Int) (x4:Int):TrOk (BodyRuns Proofs.Try.prog (kf74 Proofs.Try.prog).orc 72 0 sh72_0 shb72_0 shr72_0 ((x0,x1,x2,x3,x4,()),())) (t72_0 x0 x1 x2 x3 x4) :=
  Walks.ok (fun _ _ _=>BodyRuns.of) (wk72_0 x0 x1 x2 x3 x4) (by kernel_rfl)
theorem ok72_0:qau Proofs.Try.prog 72 0 lc72_0:=qax (sh:=sh72_0) (shB:=shb72_0) (shR:=shr72_0) kf74_ok.base (T:=fun (d:sh72_0.data)=>t72_0 d.1.1 d.1.2.1 d.1.2.2.1 d.1.2.2.2.1 d.1.2.2.2.2.1) (by kernel_rfl) rfl (fun (d:sh72_0.data)=>ok72_0_t d.1.1 d.1.2.1 d.1.2.2.1 d.1.2.2.2.1 d.1.2.2.2.2.1) (fun _=>rfl)
def kl72_0 (P:Go.Program):Known:=(kf74 P).loop 72 0 lc72_0
theorem kl72_0_ok:KnownOk Proofs.Try.prog (kl72_0 Proofs.Try.prog):=kf74_ok.loop ok72_0
abbrev as72:List Ty:=[(.int .i64),(.int .i64),(.slice (.int .i64))]
abbrev rs72:List Ty:=[.bool]
def t72 (x0:Int) (x1:Int) (x2:(List Int)):Tr (Tys.data rs72) :=
  Tr.test (Option.isSome (l72_0 ((x0,(x1,(x2,((↑(List.length x2):Int),((0:Int),()))))),())))
    (Tr.test (qaY (l72_0 ((x0,(x1,(x2,((↑(List.length x2):Int),((0:Int),()))))),())))
      (let r0:=r72_0 ((x0,(x1,(x2,((↑(List.length x2):Int),((0:Int),()))))),());
      Tr.fin ((r0.1.1,())))
      (Tr.fin (((true:Bool),()))))
    (Tr.stop)
def f72 (d:Tys.data as72):Option (Tys.data rs72):=(t72 d.1 d.2.1 d.2.2.1).val
def g72 (d:Tys.data as72):Tys.data rs72:=(f72 d).getD (Tys.dflt rs72)
def p72:PureC:=pcOf as72 rs72 f72 g72
theorem wk72 (x0:Int) (x1:Int) (x2:(List Int)):Walks (runPure (kl72_0 Proofs.Try.prog).orc Proofs.Try.prog 400 72 as72 rs72 (x0,x1,x2,())) (t72 x0 x1 x2) [(bl 2 3,[2,4]),(bl 2 1,[2,4])] :=
  ⟨by kernel_rfl,by kernel_rfl,trivial⟩
theorem ok72_t (x0:Int) (x1:Int) (x2:(List Int)):TrOk (PureRuns Proofs.Try.prog (kl72_0 Proofs.Try.prog).orc 72 as72 rs72 (x0,x1,x2,())) (t72 x0 x1 x2) :=
  Walks.ok (fun _ _ _=>PureRuns.of) (wk72 x0 x1 x2) (by kernel_rfl)
theorem ok72:PureOk Proofs.Try.prog 72 p72:=qab kl72_0_ok.base (T:=fun (d:Tys.data as72)=>t72 d.1 d.2.1 d.2.2.1) (by kernel_rfl) (fun (d:Tys.data as72)=>ok72_t d.1 d.2.1 d.2.2.1)
def kf72 (P:Go.Program):Known:=(kl72_0 P).func 72 p72
theorem kf72_ok:KnownOk Proofs.Try.prog (kf72 Proofs.Try.prog):=kl72_0_ok.func ok72
abbrev as126:List Ty:=[(.int .i64),(.slice (.int .i64))]
abbrev rs126:List Ty:=[.bool]
def t126 (x0:Int) (x1:(List Int)):Tr (Tys.data rs126) :=
  Tr.test (Option.isSome (f72 ((Go.IntKind.wrap Go.IntKind.i64 ((0:Int) - x0):Int),(x0,(x1,())))))
    (let r0:=g72 ((Go.IntKind.wrap Go.IntKind.i64 ((0:Int) - x0):Int),(x0,(x1,())));
    Tr.fin (((!r0.1:Bool),())))
    (Tr.stop)
def f126 (d:Tys.data as126):Option (Tys.data rs126):=(t126 d.1 d.2.1).val
def g126 (d:Tys.data as126):Tys.data rs126:=(f126 d).getD (Tys.dflt rs126)
def p126:PureC:=pcOf as126 rs126 f126 g126
theorem wk126 (x0:Int) (x1:(List Int)):Walks (runPure (kf72 Proofs.Try.prog).orc Proofs.Try.prog 400 126 as126 rs126 (x0,x1,())) (t126 x0 x1) [(bl 1 1,[2])] :=
  ⟨by kernel_rfl,trivial⟩
theorem ok126_t (x0:Int) (x1:(List Int)):TrOk (PureRuns Proofs.Try.prog (kf72 Proofs.Try.prog).orc 126 as126 rs126 (x0,x1,())) (t126 x0 x1) :=
  Walks.ok (fun _ _ _=>PureRuns.of) (wk126 x0 x1) (by kernel_rfl)
theorem ok126:PureOk Proofs.Try.prog 126 p126:=qab kf72_ok.base (T:=fun (d:Tys.data as126)=>t126 d.1 d.2.1) (by kernel_rfl) (fun (d:Tys.data as126)=>ok126_t d.1 d.2.1)
def kf126 (P:Go.Program):Known:=(kf72 P).func 126 p126
theorem kf126_ok:KnownOk Proofs.Try.prog (kf126 Proofs.Try.prog):=kf72_ok.func ok126
abbrev as110:List Ty:=[(.int .i64),(.slice (.int .i64))]
abbrev rs110:List Ty:=[(.int .i64)]
def t110 (x0:Int) (x1:(List Int)):Tr (Tys.data rs110) :=
  Tr.test (Option.isSome (f126 (x0,(x1,()))))
    (let r0:=g126 (x0,(x1,()));
    Tr.test (Option.isSome (f74 (r0.1,((2:Int),()))))
      (let r1:=g74 (r0.1,((2:Int),()));
      Tr.fin ((r1.1,())))
      (Tr.stop))
    (Tr.stop)
def f110 (d:Tys.data as110):Option (Tys.data rs110):=(t110 d.1 d.2.1).val
def g110 (d:Tys.data as110):Tys.data rs110:=(f110 d).getD (Tys.dflt rs110)
def p110:PureC:=pcOf as110 rs110 f110 g110
theorem wk110 (x0:Int) (x1:(List Int)):Walks (runPure (kf126 Proofs.Try.prog).orc Proofs.Try.prog 400 110 as110 rs110 (x0,x1,())) (t110 x0 x1) [(bl 2 3,[2,4])] :=
  ⟨by kernel_rfl,trivial⟩
theorem ok110_t (x0:Int) (x1:(List Int)):TrOk (PureRuns Proofs.Try.prog (kf126 Proofs.Try.prog).orc 110 as110 rs110 (x0,x1,())) (t110 x0 x1) :=
  Walks.ok (fun _ _ _=>PureRuns.of) (wk110 x0 x1) (by kernel_rfl)
theorem ok110:PureOk Proofs.Try.prog 110 p110:=qab kf126_ok.base (T:=fun (d:Tys.data as110)=>t110 d.1 d.2.1) (by kernel_rfl) (fun (d:Tys.data as110)=>ok110_t d.1 d.2.1)
def kf110 (P:Go.Program):Known:=(kf126 P).func 110 p110
theorem kf110_ok:KnownOk Proofs.Try.prog (kf110 Proofs.Try.prog):=kf126_ok.func ok110
abbrev sh73_0:Sh:={ n:=15,slots:=[5,6,7],pats:=[.ty (.slice (.int .i64)),.ty (.int .i64),.ty (.int .i64)],boxes:=[] }
abbrev shb73_0:Sh:={ n:=15,slots:=[],pats:=[],boxes:=[] }
abbrev shr73_0:Sh:={ n:=15,slots:=[2],pats:=[.ty (.int .i64)],boxes:=[] }
def t73_0 (x0:(List Int)) (x1:Int) (x2:Int):Tr (Out sh73_0.data shb73_0.data shr73_0.data) :=
  Tr.test ((!leF x1 x2:Bool))
    (Tr.test (decide ((0:Int) ≤ x2) && decide (x2 < (↑(List.length x0):Int)))
      (Tr.test ((!eqF (List.getD x0 (Int.toNat x2) (0:Int)) (0:Int):Bool))
        (Tr.fin (.ret (((List.getD x0 (Int.toNat x2) (0:Int):Int),()),())))
        (Tr.fin (.again ((x0,(x1,((wrap64 (x2 + (1:Int)):Int),()))),()))))
      (Tr.stop))
    (Tr.fin (.brk ((),())))
def s73_0 (d:sh73_0.data):Option (Out sh73_0.data shb73_0.data shr73_0.data):=(t73_0 d.1.1 d.1.2.1 d.1.2.2.1).val
def l73_0 (d:sh73_0.data):Option (shb73_0.data ⊕ shr73_0.data):=itr s73_0 rounds d
def b73_0 (d:sh73_0.data):shb73_0.data:=outB shb73_0.dflt (l73_0 d)
def r73_0 (d:sh73_0.data):shr73_0.data:=outR shr73_0.dflt (l73_0 d)
def lc73_0:LoopC:=lcOf sh73_0 shb73_0 shr73_0 l73_0 b73_0 r73_0
theorem wk73_0 (x0:(List Int)) (x1:Int) (x2:Int):Walks (qal (kf110 Proofs.Try.prog).orc Proofs.Try.prog 400 73 0 sh73_0 shb73_0 shr73_0 ((x0,x1,x2,()),())) (t73_0 x0 x1 x2) [(bl 3 7,[2,4,6]),(bl 3 3,[2,4,6]),(bl 1 0,[2])] :=
  ⟨by kernel_rfl,by kernel_rfl,by kernel_rfl,trivial⟩
theorem ok73_0_t (x0:(List Int)) (x1:Int) (x2:Int):TrOk (BodyRuns Proofs.Try.prog (kf110 Proofs.Try.prog).orc 73 0 sh73_0 shb73_0 shr73_0 ((x0,x1,x2,()),())) (t73_0 x0 x1 x2) :=
  Walks.ok (fun _ _ _=>BodyRuns.of) (wk73_0 x0 x1 x2) (by kernel_rfl)
theorem ok73_0:qau Proofs.Try.prog 73 0 lc73_0:=qax (sh:=sh73_0) (shB:=shb73_0) (shR:=shr73_0) kf110_ok.base (T:=fun (d:sh73_0.data)=>t73_0 d.1.1 d.1.2.1 d.1.2.2.1) (by kernel_rfl) rfl (fun (d:sh73_0.data)=>ok73_0_t d.1.1 d.1.2.1 d.1.2.2.1) (fun _=>rfl)
def kl73_0 (P:Go.Program):Known:=(kf110 P).loop 73 0 lc73_0
theorem kl73_0_ok:KnownOk Proofs.Try.prog (kl73_0 Proofs.Try.prog):=kf110_ok.loop ok73_0
abbrev as73:List Ty:=[(.slice (.int .i64))]
abbrev rs73:List Ty:=[(.int .i64)]
def t73 (x0:(List Int)):Tr (Tys.data rs73) :=
  Tr.test (Option.isSome (l73_0 ((x0,((↑(List.length x0):Int),((0:Int),()))),())))
    (Tr.test (qaY (l73_0 ((x0,((↑(List.length x0):Int),((0:Int),()))),())))
      (let r0:=r73_0 ((x0,((↑(List.length x0):Int),((0:Int),()))),());
      Tr.fin ((r0.1.1,())))
      (Tr.fin (((0:Int),()))))
    (Tr.stop)
def f73 (d:Tys.data as73):Option (Tys.data rs73):=(t73 d.1).val
def g73 (d:Tys.data as73):Tys.data rs73:=(f73 d).getD (Tys.dflt rs73)
def p73:PureC:=pcOf as73 rs73 f73 g73
theorem wk73 (x0:(List Int)):Walks (runPure (kl73_0 Proofs.Try.prog).orc Proofs.Try.prog 400 73 as73 rs73 (x0,())) (t73 x0) [(bl 2 3,[2,4]),(bl 2 1,[2,4])] :=
  ⟨by kernel_rfl,by kernel_rfl,trivial⟩
theorem ok73_t (x0:(List Int)):TrOk (PureRuns Proofs.Try.prog (kl73_0 Proofs.Try.prog).orc 73 as73 rs73 (x0,())) (t73 x0) :=
  Walks.ok (fun _ _ _=>PureRuns.of) (wk73 x0) (by kernel_rfl)
theorem ok73:PureOk Proofs.Try.prog 73 p73:=qab kl73_0_ok.base (T:=fun (d:Tys.data as73)=>t73 d.1) (by kernel_rfl) (fun (d:Tys.data as73)=>ok73_t d.1)
def kf73 (P:Go.Program):Known:=(kl73_0 P).func 73 p73
theorem kf73_ok:KnownOk Proofs.Try.prog (kf73 Proofs.Try.prog):=kl73_0_ok.func ok73
abbrev as116:List Ty:=[(.slice (.int .i64))]
abbrev rs116:List Ty:=[(.int .i64)]
def t116 (x0:(List Int)):Tr (Tys.data rs116) :=
  Tr.test (Option.isSome (f74 ((!leF (↑(List.length x0):Int) (60:Int):Bool),((8:Int),()))))
    (Tr.test (Option.isSome (f110 ((100:Int),(x0,()))))
      (let r0:=g74 ((!leF (↑(List.length x0):Int) (60:Int):Bool),((8:Int),()));
      let r1:=g110 ((100:Int),(x0,()));
      Tr.test (Option.isSome (f73 (([r0.1,r1.1]:List Int),())))
        (let r2:=g73 (([r0.1,r1.1]:List Int),());
        Tr.fin ((r2.1,())))
        (Tr.stop))
      (Tr.stop))
    (Tr.stop)
def f116 (d:Tys.data as116):Option (Tys.data rs116):=(t116 d.1).val
def g116 (d:Tys.data as116):Tys.data rs116:=(f116 d).getD (Tys.dflt rs116)
def p116:PureC:=pcOf as116 rs116 f116 g116
theorem wk116 (x0:(List Int)):Walks (runPure (kf73 Proofs.Try.prog).orc Proofs.Try.prog 400 116 as116 rs116 (x0,())) (t116 x0) [(bl 3 7,[2,4,6])] :=
  ⟨by kernel_rfl,trivial⟩
theorem ok116_t (x0:(List Int)):TrOk (PureRuns Proofs.Try.prog (kf73 Proofs.Try.prog).orc 116 as116 rs116 (x0,())) (t116 x0) :=
  Walks.ok (fun _ _ _=>PureRuns.of) (wk116 x0) (by kernel_rfl)
theorem ok116:PureOk Proofs.Try.prog 116 p116:=qab kf73_ok.base (T:=fun (d:Tys.data as116)=>t116 d.1) (by kernel_rfl) (fun (d:Tys.data as116)=>ok116_t d.1)
def kf116 (P:Go.Program):Known:=(kf73 P).func 116 p116
theorem kf116_ok:KnownOk Proofs.Try.prog (kf116 Proofs.Try.prog):=kf73_ok.func ok116
abbrev as88:List Ty:=[(.int .i64),(.int .i64)]
abbrev rs88:List Ty:=[(.int .i64)]
def t88 (x0:Int) (x1:Int):Tr (Tys.data rs88) :=
  Tr.test (Option.isSome (f74 ((eqF x0 0:Bool),((10:Int),()))))
    (Tr.test (Option.isSome (f74 (!leF x0 x1,((8:Int),()))))
      (let r0:=g74 ((eqF x0 0:Bool),((10:Int),()));
      let r1:=g74 ((!leF x0 x1:Bool),((8:Int),()));
      Tr.test (Option.isSome (f73 (([r0.1,r1.1]:List Int),())))
        (let r2:=g73 (([r0.1,r1.1]:List Int),());
        Tr.fin ((r2.1,())))
        (Tr.stop))
      (Tr.stop))
    (Tr.stop)
def f88 (d:Tys.data as88):Option (Tys.data rs88):=(t88 d.1 d.2.1).val
def g88 (d:Tys.data as88):Tys.data rs88:=(f88 d).getD (Tys.dflt rs88)
def p88:PureC:=pcOf as88 rs88 f88 g88
theorem wk88 (x0:Int) (x1:Int):Walks (runPure (kf116 Proofs.Try.prog).orc Proofs.Try.prog 400 88 as88 rs88 (x0,x1,())) (t88 x0 x1) [(bl 3 7,[2,4,6])] :=
  ⟨by kernel_rfl,trivial⟩
theorem ok88_t (x0:Int) (x1:Int):TrOk (PureRuns Proofs.Try.prog (kf116 Proofs.Try.prog).orc 88 as88 rs88 (x0,x1,())) (t88 x0 x1) :=
  Walks.ok (fun _ _ _=>PureRuns.of) (wk88 x0 x1) (by kernel_rfl)
theorem ok88:PureOk Proofs.Try.prog 88 p88:=qab kf116_ok.base (T:=fun (d:Tys.data as88)=>t88 d.1 d.2.1) (by kernel_rfl) (fun (d:Tys.data as88)=>ok88_t d.1 d.2.1)
def kf88 (P:Go.Program):Known:=(kf116 P).func 88 p88
theorem kf88_ok:KnownOk Proofs.Try.prog (kf88 Proofs.Try.prog):=kf116_ok.func ok88
abbrev sh89_0:Sh:={ n:=25,slots:=[1,9,10,11],pats:=[.fn 90 [],.ty (.slice (.pair (.int .i64) (.pair (.int .i64) (.pair .bool .unit)))),.ty (.int .i64),.ty (.int .i64)],boxes:=[] }
abbrev shb89_0:Sh:={ n:=25,slots:=[],pats:=[],boxes:=[] }
abbrev shr89_0:Sh:={ n:=25,slots:=[4,5],pats:=[.ty (.int .i64),.ty (.int .i64)],boxes:=[] }
def t89_0 (x1:(List (Int×(Int×(Bool×Unit))))) (x2:Int) (x3:Int):Tr (Out sh89_0.data shb89_0.data shr89_0.data) :=
  Tr.test ((!leF x2 x3:Bool))
    (Tr.test (decide ((0:Int) ≤ x3) && decide (x3 < (↑(List.length x1):Int)))
      (Tr.test (Option.isSome (f72 ((1:Int),((1000:Int),(([(List.getD x1 (Int.toNat x3) ((0:Int),(0:Int),false,())).1,(List.getD x1 (Int.toNat x3) ((0:Int),(0:Int),false,())).2.1]:List Int),())))))
        (let r0:=g72 ((1:Int),((1000:Int),(([(List.getD x1 (Int.toNat x3) ((0:Int),(0:Int),false,())).1,(List.getD x1 (Int.toNat x3) ((0:Int),(0:Int),false,())).2.1]:List Int),())));
        Tr.test (Option.isSome (f74 ((!r0.1:Bool),((2:Int),()))))
          (let r1:=g74 ((!r0.1:Bool),((2:Int),()));
          Tr.test ((!eqF r1.1 0:Bool))
            (Tr.fin (.ret ((x3,(r1.1,())),())))
            (Tr.fin (.again ((x1,(x2,((wrap64 (x3 + (1:Int)):Int),()))),()))))
          (Tr.stop))
        (Tr.stop))
      (Tr.stop))
    (Tr.fin (.brk ((),())))
def s89_0 (d:sh89_0.data):Option (Out sh89_0.data shb89_0.data shr89_0.data):=(t89_0 d.1.1 d.1.2.1 d.1.2.2.1).val
def l89_0 (d:sh89_0.data):Option (shb89_0.data ⊕ shr89_0.data):=itr s89_0 rounds d
def b89_0 (d:sh89_0.data):shb89_0.data:=outB shb89_0.dflt (l89_0 d)
def r89_0 (d:sh89_0.data):shr89_0.data:=outR shr89_0.dflt (l89_0 d)
def lc89_0:LoopC:=lcOf sh89_0 shb89_0 shr89_0 l89_0 b89_0 r89_0
theorem wk89_0 (x1:(List (Int×(Int×(Bool×Unit))))) (x2:Int) (x3:Int):Walks (qal (kf88 Proofs.Try.prog).orc Proofs.Try.prog 400 89 0 sh89_0 shb89_0 shr89_0 ((x1,x2,x3,()),())) (t89_0 x1 x2 x3) [(bl 5 31,[2,4,6,8,10]),(bl 5 15,[2,4,6,8,10]),(bl 1 0,[2])] :=
  ⟨by kernel_rfl,by kernel_rfl,by kernel_rfl,trivial⟩
theorem ok89_0_t (x1:(List (Int×(Int×(Bool×Unit))))) (x2:Int) (x3:Int):TrOk (BodyRuns Proofs.Try.prog (kf88 Proofs.Try.prog).orc 89 0 sh89_0 shb89_0 shr89_0 ((x1,x2,x3,()),())) (t89_0 x1 x2 x3) :=
  Walks.ok (fun _ _ _=>BodyRuns.of) (wk89_0 x1 x2 x3) (by kernel_rfl)
theorem ok89_0:qau Proofs.Try.prog 89 0 lc89_0:=qax (sh:=sh89_0) (shB:=shb89_0) (shR:=shr89_0) kf88_ok.base (T:=fun (d:sh89_0.data)=>t89_0 d.1.1 d.1.2.1 d.1.2.2.1) (by kernel_rfl) rfl (fun (d:sh89_0.data)=>ok89_0_t d.1.1 d.1.2.1 d.1.2.2.1) (fun _=>rfl)
def kl89_0 (P:Go.Program):Known:=(kf88 P).loop 89 0 lc89_0
theorem kl89_0_ok:KnownOk Proofs.Try.prog (kl89_0 Proofs.Try.prog):=kf88_ok.loop ok89_0
abbrev as21:List Ty:=[(.slice (.pair (.int .i64) (.pair (.int .i64) (.pair .bool .unit))))]
abbrev rs21:List Ty:=[(.int .i64),(.int .i64)]
def t21 (x0:(List (Int×(Int×(Bool×Unit))))):Tr (Tys.data rs21) :=
  Tr.test (Option.isSome (f88 ((↑(List.length x0):Int),((4:Int),()))))
    (let r0:=g88 ((↑(List.length x0):Int),((4:Int),()));
    Tr.test ((!eqF r0.1 0:Bool))
      (Tr.fin (((0:Int),(r0.1,()))))
      (Tr.test (Option.isSome (l89_0 ((x0,((↑(List.length x0):Int),((0:Int),()))),())))
        (Tr.test (qaY (l89_0 ((x0,((↑(List.length x0):Int),((0:Int),()))),())))
          (let r1:=r89_0 ((x0,((↑(List.length x0):Int),((0:Int),()))),());
          Tr.fin ((r1.1.1,(r1.1.2.1,()))))
          (Tr.fin (((0:Int),((0:Int),())))))
        (Tr.stop)))
    (Tr.stop)
def f21 (d:Tys.data as21):Option (Tys.data rs21):=(t21 d.1).val
def g21 (d:Tys.data as21):Tys.data rs21:=(f21 d).getD (Tys.dflt rs21)
def p21:PureC:=pcOf as21 rs21 f21 g21
theorem wk21 (x0:(List (Int×(Int×(Bool×Unit))))):Walks (runPure (kl89_0 Proofs.Try.prog).orc Proofs.Try.prog 400 21 as21 rs21 (x0,())) (t21 x0) [(bl 2 3,[2,4]),(bl 4 13,[2,4,6,8]),(bl 4 5,[2,4,6,8])] :=
  ⟨by kernel_rfl,by kernel_rfl,by kernel_rfl,trivial⟩
theorem ok21_t (x0:(List (Int×(Int×(Bool×Unit))))):TrOk (PureRuns Proofs.Try.prog (kl89_0 Proofs.Try.prog).orc 21 as21 rs21 (x0,())) (t21 x0) :=
  Walks.ok (fun _ _ _=>PureRuns.of) (wk21 x0) (by kernel_rfl)
theorem ok21:PureOk Proofs.Try.prog 21 p21:=qab kl89_0_ok.base (T:=fun (d:Tys.data as21)=>t21 d.1) (by kernel_rfl) (fun (d:Tys.data as21)=>ok21_t d.1)
def kf21 (P:Go.Program):Known:=(kl89_0 P).func 21 p21
theorem kf21_ok:KnownOk Proofs.Try.prog (kf21 Proofs.Try.prog):=kl89_0_ok.func ok21
abbrev sh106_0:Sh:={ n:=25,slots:=[1,9,10,11],pats:=[.fn 107 [],.ty (.slice (.pair (.int .i64) (.pair (.int .i64) (.pair (.slice (.pair (.int .i64) (.pair (.int .i64) (.pair .bool .unit)))) .unit)))),.ty (.int .i64),.ty (.int .i64)],boxes:=[] }
abbrev shb106_0:Sh:={ n:=25,slots:=[],pats:=[],boxes:=[] }
abbrev shr106_0:Sh:={ n:=25,slots:=[4,5],pats:=[.ty (.int .i64),.ty (.int .i64)],boxes:=[] }
def t106_0 (x1:(List (Int×(Int×((List (Int×(Int×(Bool×Unit))))×Unit))))) (x2:Int) (x3:Int):Tr (Out sh106_0.data shb106_0.data shr106_0.data) :=
  Tr.test ((!leF x2 x3:Bool))
    (Tr.test (decide ((0:Int) ≤ x3) && decide (x3 < (↑(List.length x1):Int)))
      (Tr.test (Option.isSome (f72 ((1:Int),((10000:Int),(([(List.getD x1 (Int.toNat x3) ((0:Int),(0:Int),[],())).1]:List Int),())))))
        (let r0:=g72 ((1:Int),((10000:Int),(([(List.getD x1 (Int.toNat x3) ((0:Int),(0:Int),[],())).1]:List Int),())));
        Tr.test ((!r0.1:Bool))
          (Tr.test (Option.isSome (f21 (((List.getD x1 (Int.toNat x3) ((0:Int),(0:Int),[],())).2.2.1:List (Int×Int×Bool×PUnit)),())))
            (Tr.test (Option.isSome (f74 ((true:Bool),((2:Int),()))))
              (let r1:=g74 ((true:Bool),((2:Int),()));
              let r2:=g21 (((List.getD x1 (Int.toNat x3) ((0:Int),(0:Int),[],())).2.2.1:List (Int×Int×Bool×PUnit)),());
              Tr.test (Option.isSome (f73 (([r1.1,r2.2.1]:List Int),())))
                (let r5:=g73 (([r1.1,r2.2.1]:List Int),());
                Tr.test ((!eqF r5.1 0:Bool))
                  (Tr.fin (.ret ((x3,(r5.1,())),())))
                  (Tr.fin (.again ((x1,(x2,((wrap64 (x3 + (1:Int)):Int),()))),()))))
                (Tr.stop))
              (Tr.stop))
            (Tr.stop))
          (Tr.test (Option.isSome (f72 ((1:Int),((1000:Int),(([(List.getD x1 (Int.toNat x3) ((0:Int),(0:Int),[],())).2.1]:List Int),())))))
            (Tr.test (Option.isSome (f21 (((List.getD x1 (Int.toNat x3) ((0:Int),(0:Int),[],())).2.2.1:List (Int×Int×Bool×PUnit)),())))
              (let r3:=g72 ((1:Int),((1000:Int),(([(List.getD x1 (Int.toNat x3) ((0:Int),(0:Int),[],())).2.1]:List Int),())));
              Tr.test (Option.isSome (f74 ((!r3.1:Bool),((2:Int),()))))
                (let r2:=g21 (((List.getD x1 (Int.toNat x3) ((0:Int),(0:Int),[],())).2.2.1:List (Int×Int×Bool×PUnit)),());
                let r4:=g74 ((!r3.1:Bool),((2:Int),()));
                Tr.test (Option.isSome (f73 (([r4.1,r2.2.1]:List Int),())))
                  (let r6:=g73 (([r4.1,r2.2.1]:List Int),());
                  Tr.test ((!eqF r6.1 0:Bool))
                    (Tr.fin (.ret ((x3,(r6.1,())),())))
                    (Tr.fin (.again ((x1,(x2,((wrap64 (x3 + (1:Int)):Int),()))),()))))
                  (Tr.stop))
                (Tr.stop))
              (Tr.stop))
            (Tr.stop)))
        (Tr.stop))
      (Tr.stop))
    (Tr.fin (.brk ((),())))
def s106_0 (d:sh106_0.data):Option (Out sh106_0.data shb106_0.data shr106_0.data):=(t106_0 d.1.1 d.1.2.1 d.1.2.2.1).val
def l106_0 (d:sh106_0.data):Option (shb106_0.data ⊕ shr106_0.data):=itr s106_0 rounds d
def b106_0 (d:sh106_0.data):shb106_0.data:=outB shb106_0.dflt (l106_0 d)
def r106_0 (d:sh106_0.data):shr106_0.data:=outR shr106_0.dflt (l106_0 d)
def lc106_0:LoopC:=lcOf sh106_0 shb106_0 shr106_0 l106_0 b106_0 r106_0
theorem wk106_0 (x1:(List (Int×(Int×((List (Int×(Int×(Bool×Unit))))×Unit))))) (x2:Int) (x3:Int):Walks (qal (kf21 Proofs.Try.prog).orc Proofs.Try.prog 400 106 0 sh106_0 shb106_0 shr106_0 ((x1,x2,x3,()),())) (t106_0 x1 x2 x3) [(bl 8 255,[2,4,6,8,10,10,10,10,10,10,12,14,16]),(bl 8 127,[2,4,6,8,10,10,10,10,10,10,12,14,16]),(bl 9 503,[2,4,6,8,12,12,10,12,12,12,12,14,16,18]),(bl 9 247,[2,4,6,8,12,12,10,12,12,12,12,14,16,18]),(bl 1 0,[2])] :=
  ⟨by kernel_rfl,by kernel_rfl,by kernel_rfl,by kernel_rfl,by kernel_rfl,trivial⟩
theorem ok106_0_t (x1:(List (Int×(Int×((List (Int×(Int×(Bool×Unit))))×Unit))))) (x2:Int) (x3:Int):TrOk (BodyRuns Proofs.Try.prog (kf21 Proofs.Try.prog).orc 106 0 sh106_0 shb106_0 shr106_0 ((x1,x2,x3,()),())) (t106_0 x1 x2 x3) :=
  Walks.ok (fun _ _ _=>BodyRuns.of) (wk106_0 x1 x2 x3) (by kernel_rfl)
theorem ok106_0:qau Proofs.Try.prog 106 0 lc106_0:=qax (sh:=sh106_0) (shB:=shb106_0) (shR:=shr106_0) kf21_ok.base (T:=fun (d:sh106_0.data)=>t106_0 d.1.1 d.1.2.1 d.1.2.2.1) (by kernel_rfl) rfl (fun (d:sh106_0.data)=>ok106_0_t d.1.1 d.1.2.1 d.1.2.2.1) (fun _=>rfl)
def kl106_0 (P:Go.Program):Known:=(kf21 P).loop 106 0 lc106_0
theorem kl106_0_ok:KnownOk Proofs.Try.prog (kl106_0 Proofs.Try.prog):=kf21_ok.loop ok106_0
abbrev as43:List Ty:=[(.pair (.slice (.pair (.int .i64) (.pair (.int .i64) (.pair (.slice (.pair (.int .i64) (.pair (.int .i64) (.pair .bool .unit)))) .unit)))) .unit)]
abbrev rs43:List Ty:=[(.int .i64),(.int .i64)]
def t43 (x0:(List (Int×(Int×((List (Int×(Int×(Bool×Unit))))×Unit))))):Tr (Tys.data rs43) :=
  Tr.test (Option.isSome (f88 ((↑(List.length x0):Int),((5:Int),()))))
    (let r0:=g88 ((↑(List.length x0):Int),((5:Int),()));
    Tr.test ((!eqF r0.1 0:Bool))
      (Tr.fin (((0:Int),(r0.1,()))))
      (Tr.test (Option.isSome (l106_0 ((x0,((↑(List.length x0):Int),((0:Int),()))),())))
        (Tr.test (qaY (l106_0 ((x0,((↑(List.length x0):Int),((0:Int),()))),())))
          (let r1:=r106_0 ((x0,((↑(List.length x0):Int),((0:Int),()))),());
          Tr.fin ((r1.1.1,(r1.1.2.1,()))))
          (Tr.fin (((0:Int),((0:Int),())))))
        (Tr.stop)))
    (Tr.stop)
def f43 (d:Tys.data as43):Option (Tys.data rs43):=(t43 d.1.1).val
def g43 (d:Tys.data as43):Tys.data rs43:=(f43 d).getD (Tys.dflt rs43)
def p43:PureC:=pcOf as43 rs43 f43 g43
theorem wk43 (x0:(List (Int×(Int×((List (Int×(Int×(Bool×Unit))))×Unit))))):Walks (runPure (kl106_0 Proofs.Try.prog).orc Proofs.Try.prog 400 43 as43 rs43 ((x0,()),())) (t43 x0) [(bl 2 3,[2,4]),(bl 4 13,[2,4,6,8]),(bl 4 5,[2,4,6,8])] :=
  ⟨by kernel_rfl,by kernel_rfl,by kernel_rfl,trivial⟩
theorem ok43_t (x0:(List (Int×(Int×((List (Int×(Int×(Bool×Unit))))×Unit))))):TrOk (PureRuns Proofs.Try.prog (kl106_0 Proofs.Try.prog).orc 43 as43 rs43 ((x0,()),())) (t43 x0) :=
  Walks.ok (fun _ _ _=>PureRuns.of) (wk43 x0) (by kernel_rfl)
theorem ok43:PureOk Proofs.Try.prog 43 p43:=qab kl106_0_ok.base (T:=fun (d:Tys.data as43)=>t43 d.1.1) (by kernel_rfl) (fun (d:Tys.data as43)=>ok43_t d.1.1)
def kf43 (P:Go.Program):Known:=(kl106_0 P).func 43 p43
theorem kf43_ok:KnownOk Proofs.Try.prog (kf43 Proofs.Try.prog):=kl106_0_ok.func ok43
abbrev as108:List Ty:=[(.pair (.slice (.pair (.int .i64) (.pair (.int .i64) (.pair (.slice (.pair (.int .i64) (.pair (.int .i64) (.pair .bool .unit)))) .unit)))) .unit),(.slice (.int .i64))]
abbrev rs108:List Ty:=[(.pair (.pair (.slice (.pair (.int .i64) (.pair (.int .i64) (.pair (.slice (.pair (.int .i64) (.pair (.int .i64) (.pair .bool .unit)))) .unit)))) .unit) .unit),(.int .i64)]
def t108 (x0:(List (Int×(Int×((List (Int×(Int×(Bool×Unit))))×Unit))))) (x1:(List Int)):Tr (Tys.data rs108) :=
  Tr.test (Option.isSome (f43 ((x0,()),())))
    (Tr.test (Option.isSome (f73 (x1,())))
      (let r0:=g43 ((x0,()),());
      let r1:=g73 (x1,());
      Tr.test (Option.isSome (f73 (([r0.2.1,r1.1]:List Int),())))
        (let r2:=g73 (([r0.2.1,r1.1]:List Int),());
        Tr.test ((!eqF r2.1 0:Bool))
          (Tr.fin ((((([]:List (Int×Int×List (Int×Int×Bool×PUnit)×PUnit)),()),()),(r2.1,()))))
          (Tr.fin ((((x0,()),()),((0:Int),())))))
        (Tr.stop))
      (Tr.stop))
    (Tr.stop)
def f108 (d:Tys.data as108):Option (Tys.data rs108):=(t108 d.1.1 d.2.1).val
def g108 (d:Tys.data as108):Tys.data rs108:=(f108 d).getD (Tys.dflt rs108)
def p108:PureC:=pcOf as108 rs108 f108 g108
theorem wk108 (x0:(List (Int×(Int×((List (Int×(Int×(Bool×Unit))))×Unit))))) (x1:(List Int)):Walks (runPure (kf43 Proofs.Try.prog).orc Proofs.Try.prog 400 108 as108 rs108 ((x0,()),x1,())) (t108 x0 x1) [(bl 4 15,[2,4,6,8]),(bl 4 7,[2,4,6,8])] :=
  ⟨by kernel_rfl,by kernel_rfl,trivial⟩
theorem ok108_t (x0:(List (Int×(Int×((List (Int×(Int×(Bool×Unit))))×Unit))))) (x1:(List Int)):TrOk (PureRuns Proofs.Try.prog (kf43 Proofs.Try.prog).orc 108 as108 rs108 ((x0,()),x1,())) (t108 x0 x1) :=
  Walks.ok (fun _ _ _=>PureRuns.of) (wk108 x0 x1) (by kernel_rfl)
theorem ok108:PureOk Proofs.Try.prog 108 p108:=qab kf43_ok.base (T:=fun (d:Tys.data as108)=>t108 d.1.1 d.2.1) (by kernel_rfl) (fun (d:Tys.data as108)=>ok108_t d.1.1 d.2.1)
def kf108 (P:Go.Program):Known:=(kf43 P).func 108 p108
theorem kf108_ok:KnownOk Proofs.Try.prog (kf108 Proofs.Try.prog):=kf43_ok.func ok108
abbrev as105:List Ty:=[(.slice (.pair (.int .i64) (.pair (.int .i64) (.pair .bool .unit))))]
abbrev rs105:List Ty:=[(.pair (.slice (.pair (.int .i64) (.pair (.int .i64) (.pair .bool .unit)))) (.pair (.pair (.int .i64) (.pair (.slice (.pair (.int .i64) (.pair .bool .unit))) .unit)) .unit))]
def t105 (x0:(List (Int×(Int×(Bool×Unit))))):Tr (Tys.data rs105) :=
  Tr.test ((decide ((0:Int) ≤ (↑(List.length x0):Int)) && decide ((↑(List.length x0):Int) ≤ (↑(List.length x0):Int)) && decide ((16:Int) * (↑(List.length x0):Int) ≤ (281474976710656:Int)) && decide ((↑(List.length x0):Int) ≤ (281474976710656:Int)):Bool))
    (Tr.test (Nat.beq (Int.toNat (↑(List.length x0):Int)) (List.length (List.replicate (Int.toNat (↑(List.length x0):Int)) ((0:Int),false,()))))
      (Tr.fin (((x0,(((0:Int),((List.replicate (Int.toNat (↑(List.length x0):Int)) ((0:Int),false,()):List (Int×Bool×PUnit)),())),())),())))
      (Tr.stop))
    (Tr.stop)
def f105 (d:Tys.data as105):Option (Tys.data rs105):=(t105 d.1).val
def g105 (d:Tys.data as105):Tys.data rs105:=(f105 d).getD (Tys.dflt rs105)
def p105:PureC:=pcOf as105 rs105 f105 g105
theorem wk105 (x0:(List (Int×(Int×(Bool×Unit))))):Walks (runPure (kf108 Proofs.Try.prog).orc Proofs.Try.prog 400 105 as105 rs105 (x0,())) (t105 x0) [(bl 2 3,[2,4])] :=
  ⟨by kernel_rfl,trivial⟩
theorem ok105_t (x0:(List (Int×(Int×(Bool×Unit))))):TrOk (PureRuns Proofs.Try.prog (kf108 Proofs.Try.prog).orc 105 as105 rs105 (x0,())) (t105 x0) :=
  Walks.ok (fun _ _ _=>PureRuns.of) (wk105 x0) (by kernel_rfl)
theorem ok105:PureOk Proofs.Try.prog 105 p105:=qab kf108_ok.base (T:=fun (d:Tys.data as105)=>t105 d.1) (by kernel_rfl) (fun (d:Tys.data as105)=>ok105_t d.1)
def kf105 (P:Go.Program):Known:=(kf108 P).func 105 p105
theorem kf105_ok:KnownOk Proofs.Try.prog (kf105 Proofs.Try.prog):=kf108_ok.func ok105
abbrev sh113_0:Sh:={ n:=37,slots:=[1,2,4,18,19,20],pats:=[.ptr 0 1 0,.ptr 1 4 0,.ptr 2 3 0,.ty (.slice (.pair (.int .i64) (.pair (.int .i64) (.pair (.slice (.pair (.int .i64) (.pair (.int .i64) (.pair .bool .unit)))) .unit)))),.ty (.int .i64),.ty (.int .i64)],boxes:=[.row [.ty (.slice (.pair (.int .i64) (.pair (.int .i64) (.pair (.slice (.pair (.int .i64) (.pair (.int .i64) (.pair .bool .unit)))) .unit))))],.row [.nil,.nil,.nil,.nil],.row [.sli 3 1,.sli 4 1,.acc (.pair (.int .i64) (.pair (.slice (.pair (.int .i64) (.pair .bool .unit))) .unit))],.arr (.int .i64),.arr (.int .i64)] }
abbrev shb113_0:Sh:={ n:=37,slots:=[1,2,4],pats:=[.ptr 0 1 0,.ptr 1 4 0,.ptr 2 3 0],boxes:=[.row [.ty (.slice (.pair (.int .i64) (.pair (.int .i64) (.pair (.slice (.pair (.int .i64) (.pair (.int .i64) (.pair .bool .unit)))) .unit))))],.row [.nil,.nil,.nil,.nil],.row [.sli 3 1,.sli 4 1,.acc (.pair (.int .i64) (.pair (.slice (.pair (.int .i64) (.pair .bool .unit))) .unit))],.arr (.int .i64),.arr (.int .i64)] }
abbrev shr113_0:Sh:={ n:=37,slots:=[],pats:=[],boxes:=[.row [.ty (.slice (.pair (.int .i64) (.pair (.int .i64) (.pair (.slice (.pair (.int .i64) (.pair (.int .i64) (.pair .bool .unit)))) .unit))))],.row [.nil,.nil,.nil,.nil],.row [.sli 3 1,.sli 4 1,.acc (.pair (.int .i64) (.pair (.slice (.pair (.int .i64) (.pair .bool .unit))) .unit))],.arr (.int .i64),.arr (.int .i64)] }
def t113_0 (x3:(List (Int×(Int×((List (Int×(Int×(Bool×Unit))))×Unit))))) (x4:Int) (x5:Int) (b0_0:(List (Int×(Int×((List (Int×(Int×(Bool×Unit))))×Unit))))) (b2_0n:Nat) (b2_0c:Nat) (b2_1n:Nat) (b2_1c:Nat) (b2_2:(List (Int×((List (Int×(Bool×Unit)))×Unit)))) (b3:(List Int)) (b4:(List Int)):Tr (Out sh113_0.data shb113_0.data shr113_0.data) :=
  Tr.test ((!leF x4 x5:Bool))
    (Tr.test (decide ((0:Int) ≤ x5) && decide (x5 < (↑(List.length x3):Int)))
      (Tr.test (Option.isSome (f105 (((List.getD x3 (Int.toNat x5) ((0:Int),(0:Int),[],())).2.2.1:List (Int×Int×Bool×PUnit)),())))
        (Tr.test ((Nat.ble (((2:Nat) * (List.length b2_2 + (1:Nat)) + (192:Nat)) * (32:Nat)) (281474976710656:Nat) && Nat.ble (List.length b2_2 + (1:Nat)) (281474976710656:Nat):Bool))
          (let r0:=g105 (((List.getD x3 (Int.toNat x5) ((0:Int),(0:Int),[],())).2.2.1:List (Int×Int×Bool×PUnit)),());
          Tr.fin (.again ((x3,(x4,((wrap64 (x5 + (1:Int)):Int),()))),((b0_0,()),((),(((b2_0n,b2_0c),((b2_1n,b2_1c),((b2_2++[(r0.1.2.1.1,r0.1.2.1.2.1,())]:List (Int×List (Int×Bool×PUnit)×PUnit)),()))),(b3,(b4,()))))))))
          (Tr.stop))
        (Tr.stop))
      (Tr.stop))
    (Tr.fin (.brk ((),((b0_0,()),((),(((b2_0n,b2_0c),((b2_1n,b2_1c),(b2_2,()))),(b3,(b4,()))))))))
def s113_0 (d:sh113_0.data):Option (Out sh113_0.data shb113_0.data shr113_0.data):=(t113_0 d.1.1 d.1.2.1 d.1.2.2.1 d.2.1.1 d.2.2.2.1.1.1 d.2.2.2.1.1.2 d.2.2.2.1.2.1.1 d.2.2.2.1.2.1.2 d.2.2.2.1.2.2.1 d.2.2.2.2.1 d.2.2.2.2.2.1).val
def l113_0 (d:sh113_0.data):Option (shb113_0.data ⊕ shr113_0.data):=itr s113_0 rounds d
def b113_0 (d:sh113_0.data):shb113_0.data:=outB shb113_0.dflt (l113_0 d)
def lc113_0:LoopC:=lcB sh113_0 shb113_0 shr113_0 l113_0 b113_0
theorem wk113_0 (x3:(List (Int×(Int×((List (Int×(Int×(Bool×Unit))))×Unit))))) (x4:Int) (x5:Int) (b0_0:(List (Int×(Int×((List (Int×(Int×(Bool×Unit))))×Unit))))) (b2_0n:Nat) (b2_0c:Nat) (b2_1n:Nat) (b2_1c:Nat) (b2_2:(List (Int×((List (Int×(Bool×Unit)))×Unit)))) (b3:(List Int)) (b4:(List Int)):Walks (qal (kf105 Proofs.Try.prog).orc Proofs.Try.prog 400 113 0 sh113_0 shb113_0 shr113_0 ((x3,x4,x5,()),(b0_0,()),(),((b2_0n,b2_0c),(b2_1n,b2_1c),b2_2,()),b3,b4,())) (t113_0 x3 x4 x5 b0_0 b2_0n b2_0c b2_1n b2_1c b2_2 b3 b4) [(bl 4 15,[2,4,6,8]),(bl 1 0,[2])] :=
  ⟨by kernel_rfl,by kernel_rfl,trivial⟩
theorem ok113_0_t (x3:(List (Int×(Int×((List (Int×(Int×(Bool×Unit))))×Unit))))) (x4:Int) (x5:Int) (b0_0:(List (Int×(Int×((List (Int×(Int×(Bool×Unit))))×Unit))))) (b2_0n:Nat) (b2_0c:Nat) (b2_1n:Nat) (b2_1c:Nat) (b2_2:(List (Int×((List (Int×(Bool×Unit)))×Unit)))) (b3:(List Int)) (b4:(List Int)):TrOk (BodyRuns Proofs.Try.prog (kf105 Proofs.Try.prog).orc 113 0 sh113_0 shb113_0 shr113_0 ((x3,x4,x5,()),(b0_0,()),(),((b2_0n,b2_0c),(b2_1n,b2_1c),b2_2,()),b3,b4,())) (t113_0 x3 x4 x5 b0_0 b2_0n b2_0c b2_1n b2_1c b2_2 b3 b4) :=
  Walks.ok (fun _ _ _=>BodyRuns.of) (wk113_0 x3 x4 x5 b0_0 b2_0n b2_0c b2_1n b2_1c b2_2 b3 b4) (by kernel_rfl)
theorem ok113_0:qau Proofs.Try.prog 113 0 lc113_0:=qay (sh:=sh113_0) (shB:=shb113_0) (shR:=shr113_0) kf105_ok.base (T:=fun (d:sh113_0.data)=>t113_0 d.1.1 d.1.2.1 d.1.2.2.1 d.2.1.1 d.2.2.2.1.1.1 d.2.2.2.1.1.2 d.2.2.2.1.2.1.1 d.2.2.2.1.2.1.2 d.2.2.2.1.2.2.1 d.2.2.2.2.1 d.2.2.2.2.2.1) (by kernel_rfl) rfl (fun (d:sh113_0.data)=>ok113_0_t d.1.1 d.1.2.1 d.1.2.2.1 d.2.1.1 d.2.2.2.1.1.1 d.2.2.2.1.1.2 d.2.2.2.1.2.1.1 d.2.2.2.1.2.1.2 d.2.2.2.1.2.2.1 d.2.2.2.2.1 d.2.2.2.2.2.1) (fun _=>rfl)
def kl113_0 (P:Go.Program):Known:=(kf105 P).loop 113 0 lc113_0
theorem kl113_0_ok:KnownOk Proofs.Try.prog (kl113_0 Proofs.Try.prog):=kf105_ok.loop ok113_0
abbrev as113:List Ty:=[(.pair (.pair (.slice (.pair (.int .i64) (.pair (.int .i64) (.pair (.slice (.pair (.int .i64) (.pair (.int .i64) (.pair .bool .unit)))) .unit)))) .unit) .unit)]
abbrev rs113:List Ty:=[(.pair (.pair (.pair (.slice (.pair (.int .i64) (.pair (.int .i64) (.pair (.slice (.pair (.int .i64) (.pair (.int .i64) (.pair .bool .unit)))) .unit)))) .unit) .unit) (.pair (.pair (.slice (.int .i64)) (.pair (.slice (.int .i64)) (.pair (.slice (.pair (.int .i64) (.pair (.slice (.pair (.int .i64) (.pair .bool .unit))) .unit))) .unit))) .unit))]
def t113 (x0_:(List (Int×(Int×((List (Int×(Int×(Bool×Unit))))×Unit))))):Tr (Tys.data rs113) :=
  Tr.test ((decide ((0:Int) ≤ (↑(List.length x0_):Int)) && decide ((↑(List.length x0_):Int) ≤ (↑(List.length x0_):Int)) && decide ((8:Int) * (↑(List.length x0_):Int) ≤ (281474976710656:Int)) && decide ((↑(List.length x0_):Int) ≤ (281474976710656:Int)):Bool))
    (Tr.test (qbh (l113_0 ((x0_,((↑(List.length x0_):Int),((0:Int),()))),((x0_,()),((),((((Int.toNat (↑(List.length x0_):Int):Nat),(Int.toNat (↑(List.length x0_):Int):Nat)),(((Int.toNat (↑(List.length x0_):Int):Nat),(Int.toNat (↑(List.length x0_):Int):Nat)),(([]:List (Int×List (Int×Bool×PUnit)×PUnit)),()))),((List.replicate (Int.toNat (↑(List.length x0_):Int)) (0:Int):List Int),((List.replicate (Int.toNat (↑(List.length x0_):Int)) (0:Int):List Int),()))))))))
      (let r0:=b113_0 ((x0_,((↑(List.length x0_):Int),((0:Int),()))),((x0_,()),((),((((Int.toNat (↑(List.length x0_):Int):Nat),(Int.toNat (↑(List.length x0_):Int):Nat)),(((Int.toNat (↑(List.length x0_):Int):Nat),(Int.toNat (↑(List.length x0_):Int):Nat)),(([]:List (Int×List (Int×Bool×PUnit)×PUnit)),()))),((List.replicate (Int.toNat (↑(List.length x0_):Int)) (0:Int):List Int),((List.replicate (Int.toNat (↑(List.length x0_):Int)) (0:Int):List Int),()))))));
      Tr.test ((Nat.beq r0.2.2.2.1.1.1 (List.length r0.2.2.2.2.1):Bool))
        (Tr.test ((Nat.beq r0.2.2.2.1.2.1.1 (List.length r0.2.2.2.2.2.1):Bool))
          (Tr.fin ((((((r0.2.1.1:List (Int×Int×List (Int×Int×Bool×PUnit)×PUnit)),()),()),((r0.2.2.2.2.1,(r0.2.2.2.2.2.1,((r0.2.2.2.1.2.2.1:List (Int×List (Int×Bool×PUnit)×PUnit)),()))),())),())))
          (Tr.test ((Nat.ble r0.2.2.2.1.2.1.1 (List.length r0.2.2.2.2.2.1):Bool))
            (Tr.fin ((((((r0.2.1.1:List (Int×Int×List (Int×Int×Bool×PUnit)×PUnit)),()),()),((r0.2.2.2.2.1,((List.take r0.2.2.2.1.2.1.1 r0.2.2.2.2.2.1:List Int),((r0.2.2.2.1.2.2.1:List (Int×List (Int×Bool×PUnit)×PUnit)),()))),())),())))
            (Tr.stop)))
        (Tr.test ((Nat.ble r0.2.2.2.1.1.1 (List.length r0.2.2.2.2.1):Bool))
          (Tr.test ((Nat.beq r0.2.2.2.1.2.1.1 (List.length r0.2.2.2.2.2.1):Bool))
            (Tr.fin ((((((r0.2.1.1:List (Int×Int×List (Int×Int×Bool×PUnit)×PUnit)),()),()),(((List.take r0.2.2.2.1.1.1 r0.2.2.2.2.1:List Int),(r0.2.2.2.2.2.1,((r0.2.2.2.1.2.2.1:List (Int×List (Int×Bool×PUnit)×PUnit)),()))),())),())))
            (Tr.test ((Nat.ble r0.2.2.2.1.2.1.1 (List.length r0.2.2.2.2.2.1):Bool))
              (Tr.fin ((((((r0.2.1.1:List (Int×Int×List (Int×Int×Bool×PUnit)×PUnit)),()),()),(((List.take r0.2.2.2.1.1.1 r0.2.2.2.2.1:List Int),((List.take r0.2.2.2.1.2.1.1 r0.2.2.2.2.2.1:List Int),((r0.2.2.2.1.2.2.1:List (Int×List (Int×Bool×PUnit)×PUnit)),()))),())),())))
              (Tr.stop)))
          (Tr.stop)))
      (Tr.stop))
    (Tr.stop)
def f113 (d:Tys.data as113):Option (Tys.data rs113):=(t113 d.1.1.1).val
def g113 (d:Tys.data as113):Tys.data rs113:=(f113 d).getD (Tys.dflt rs113)
def p113:PureC:=pcOf as113 rs113 f113 g113
theorem wk113 (x0_:(List (Int×(Int×((List (Int×(Int×(Bool×Unit))))×Unit))))):Walks (runPure (kl113_0 Proofs.Try.prog).orc Proofs.Try.prog 400 113 as113 rs113 (((x0_,()),()),())) (t113 x0_) [(bl 4 15,[2,4,1,6,8,8]),(bl 5 23,[2,4,6,1,8,10,10]),(bl 5 27,[2,4,6,1,8,10,10]),(bl 6 43,[2,4,6,8,1,10,12,12])] :=
  ⟨by kernel_rfl,by kernel_rfl,by kernel_rfl,by kernel_rfl,trivial⟩
theorem ok113_t (x0_:(List (Int×(Int×((List (Int×(Int×(Bool×Unit))))×Unit))))):TrOk (PureRuns Proofs.Try.prog (kl113_0 Proofs.Try.prog).orc 113 as113 rs113 (((x0_,()),()),())) (t113 x0_) :=
  Walks.ok (fun _ _ _=>PureRuns.of) (wk113 x0_) (by kernel_rfl)
theorem ok113:PureOk Proofs.Try.prog 113 p113:=qab kl113_0_ok.base (T:=fun (d:Tys.data as113)=>t113 d.1.1.1) (by kernel_rfl) (fun (d:Tys.data as113)=>ok113_t d.1.1.1)
def kf113 (P:Go.Program):Known:=(kl113_0 P).func 113 p113
theorem kf113_ok:KnownOk Proofs.Try.prog (kf113 Proofs.Try.prog):=kl113_0_ok.func ok113
abbrev as133:List Ty:=[(.slice (.int .i64))]
abbrev rs133:List Ty:=[(.slice (.int .i64))]
def t133 (x0:(List Int)):Tr (Tys.data rs133) :=
  Tr.test ((Nat.beq (List.length x0) (0:Nat):Bool))
    (Tr.stop)
    (Tr.test (Nat.ble (((2:Nat) * ((0:Nat) + List.length x0) + (192:Nat)) * (8:Nat)) (281474976710656:Nat) && Nat.ble ((0:Nat) + List.length x0) (281474976710656:Nat))
      (Tr.fin ((([]++x0:List Int),())))
      (Tr.test ((Nat.ble ((0:Nat) + List.length x0) (0:Nat):Bool))
        (Tr.stop)
        (Tr.stop)))
def f133 (d:Tys.data as133):Option (Tys.data rs133):=(t133 d.1).val
def g133 (d:Tys.data as133):Tys.data rs133:=(f133 d).getD (Tys.dflt rs133)
def p133:PureC:=pcOf as133 rs133 f133 g133
theorem wk133 (x0:(List Int)):Walks (runPure (kf113 Proofs.Try.prog).orc Proofs.Try.prog 400 133 as133 rs133 (x0,())) (t133 x0) [(bl 2 2,[2,0,4])] :=
  ⟨by kernel_rfl,trivial⟩
theorem ok133_t (x0:(List Int)):TrOk (PureRuns Proofs.Try.prog (kf113 Proofs.Try.prog).orc 133 as133 rs133 (x0,())) (t133 x0) :=
  Walks.ok (fun _ _ _=>PureRuns.of) (wk133 x0) (by kernel_rfl)
theorem ok133:PureOk Proofs.Try.prog 133 p133:=qab kf113_ok.base (T:=fun (d:Tys.data as133)=>t133 d.1) (by kernel_rfl) (fun (d:Tys.data as133)=>ok133_t d.1)
def kf133 (P:Go.Program):Known:=(kf113 P).func 133 p133
theorem kf133_ok:KnownOk Proofs.Try.prog (kf133 Proofs.Try.prog):=kf113_ok.func ok133
abbrev as135:List Ty:=[(.pair (.pair (.pair (.slice (.pair (.int .i64) (.pair (.int .i64) (.pair (.slice (.pair (.int .i64) (.pair (.int .i64) (.pair .bool .unit)))) .unit)))) .unit) .unit) (.pair (.pair (.slice (.int .i64)) (.pair (.slice (.int .i64)) (.pair (.slice (.pair (.int .i64) (.pair (.slice (.pair (.int .i64) (.pair .bool .unit))) .unit))) .unit))) .unit)),(.int .i64)]
abbrev rs135:List Ty:=[(.pair (.slice (.pair (.int .i64) (.pair (.int .i64) (.pair .bool .unit)))) (.pair (.pair (.int .i64) (.pair (.slice (.pair (.int .i64) (.pair .bool .unit))) .unit)) .unit))]
def t135 (x0__:(List (Int×(Int×((List (Int×(Int×(Bool×Unit))))×Unit))))) (x0'_:(List Int)) (x0'_':(List Int)) (x0'_'':(List (Int×((List (Int×(Bool×Unit)))×Unit)))) (x1:Int):Tr (Tys.data rs135) :=
  Tr.test ((decide ((0:Int) ≤ x1) && decide (x1 < (↑(List.length x0__):Int)):Bool))
    (Tr.test (decide ((0:Int) ≤ x1) && decide (x1 < (↑(List.length x0'_''):Int)))
      (Tr.fin (((((List.getD x0__ (Int.toNat x1) ((0:Int),(0:Int),[],())).2.2.1:List (Int×Int×Bool×PUnit)),((((List.getD x0'_'' (Int.toNat x1) ((0:Int),[],())).1:Int),(((List.getD x0'_'' (Int.toNat x1) ((0:Int),[],())).2.1:List (Int×Bool×PUnit)),())),())),())))
      (Tr.stop))
    (Tr.stop)
def f135 (d:Tys.data as135):Option (Tys.data rs135):=(t135 d.1.1.1.1 d.1.2.1.1 d.1.2.1.2.1 d.1.2.1.2.2.1 d.2.1).val
def g135 (d:Tys.data as135):Tys.data rs135:=(f135 d).getD (Tys.dflt rs135)
def p135:PureC:=pcOf as135 rs135 f135 g135
theorem wk135 (x0__:(List (Int×(Int×((List (Int×(Int×(Bool×Unit))))×Unit))))) (x0'_:(List Int)) (x0'_':(List Int)) (x0'_'':(List (Int×((List (Int×(Bool×Unit)))×Unit)))) (x1:Int):Walks (runPure (kf133 Proofs.Try.prog).orc Proofs.Try.prog 400 135 as135 rs135 ((((x0__,()),()),(x0'_,x0'_',x0'_'',()),()),x1,())) (t135 x0__ x0'_ x0'_' x0'_'' x1) [(bl 2 3,[2,4])] :=
  ⟨by kernel_rfl,trivial⟩
theorem ok135_t (x0__:(List (Int×(Int×((List (Int×(Int×(Bool×Unit))))×Unit))))) (x0'_:(List Int)) (x0'_':(List Int)) (x0'_'':(List (Int×((List (Int×(Bool×Unit)))×Unit)))) (x1:Int):TrOk (PureRuns Proofs.Try.prog (kf133 Proofs.Try.prog).orc 135 as135 rs135 ((((x0__,()),()),(x0'_,x0'_',x0'_'',()),()),x1,())) (t135 x0__ x0'_ x0'_' x0'_'' x1) :=
  Walks.ok (fun _ _ _=>PureRuns.of) (wk135 x0__ x0'_ x0'_' x0'_'' x1) (by kernel_rfl)
theorem ok135:PureOk Proofs.Try.prog 135 p135:=qab kf133_ok.base (T:=fun (d:Tys.data as135)=>t135 d.1.1.1.1 d.1.2.1.1 d.1.2.1.2.1 d.1.2.1.2.2.1 d.2.1) (by kernel_rfl) (fun (d:Tys.data as135)=>ok135_t d.1.1.1.1 d.1.2.1.1 d.1.2.1.2.1 d.1.2.1.2.2.1 d.2.1)
def kf135 (P:Go.Program):Known:=(kf133 P).func 135 p135
theorem kf135_ok:KnownOk Proofs.Try.prog (kf135 Proofs.Try.prog):=kf133_ok.func ok135
abbrev as127:List Ty:=[(.pair (.pair (.int .i64) (.pair (.int .i64) (.pair .bool .unit))) (.pair (.pair (.int .i64) (.pair .bool .unit)) (.pair (.int .i64) .unit)))]
abbrev rs127:List Ty:=[(.int .i64)]
def t127 (x0_:Int) (x0_':Int) (x0_'':Bool) (x0'_:Int) (x0'_':Bool) (x0'':Int):Tr (Tys.data rs127) :=
  Tr.fin (((wrap64 (x0'' - x0'_):Int),()))
def f127 (d:Tys.data as127):Option (Tys.data rs127):=(t127 d.1.1.1 d.1.1.2.1 d.1.1.2.2.1 d.1.2.1.1 d.1.2.1.2.1 d.1.2.2.1).val
def g127 (d:Tys.data as127):Tys.data rs127:=(f127 d).getD (Tys.dflt rs127)
def p127:PureC:=pcOf as127 rs127 f127 g127
theorem wk127 (x0_:Int) (x0_':Int) (x0_'':Bool) (x0'_:Int) (x0'_':Bool) (x0'':Int):Walks (runPure (kf135 Proofs.Try.prog).orc Proofs.Try.prog 400 127 as127 rs127 (((x0_,x0_',x0_'',()),(x0'_,x0'_',()),x0'',()),())) (t127 x0_ x0_' x0_'' x0'_ x0'_' x0'') [(bl 0 0,[])] :=
  ⟨by kernel_rfl,trivial⟩
theorem ok127_t (x0_:Int) (x0_':Int) (x0_'':Bool) (x0'_:Int) (x0'_':Bool) (x0'':Int):TrOk (PureRuns Proofs.Try.prog (kf135 Proofs.Try.prog).orc 127 as127 rs127 (((x0_,x0_',x0_'',()),(x0'_,x0'_',()),x0'',()),())) (t127 x0_ x0_' x0_'' x0'_ x0'_' x0'') :=
  Walks.ok (fun _ _ _=>PureRuns.of) (wk127 x0_ x0_' x0_'' x0'_ x0'_' x0'') (by kernel_rfl)
theorem ok127:PureOk Proofs.Try.prog 127 p127:=qab kf135_ok.base (T:=fun (d:Tys.data as127)=>t127 d.1.1.1 d.1.1.2.1 d.1.1.2.2.1 d.1.2.1.1 d.1.2.1.2.1 d.1.2.2.1) (by kernel_rfl) (fun (d:Tys.data as127)=>ok127_t d.1.1.1 d.1.1.2.1 d.1.1.2.2.1 d.1.2.1.1 d.1.2.1.2.1 d.1.2.2.1)
def kf127 (P:Go.Program):Known:=(kf135 P).func 127 p127
theorem kf127_ok:KnownOk Proofs.Try.prog (kf127 Proofs.Try.prog):=kf135_ok.func ok127
abbrev as128:List Ty:=[(.pair (.pair (.int .i64) (.pair (.int .i64) (.pair .bool .unit))) (.pair (.pair (.int .i64) (.pair .bool .unit)) (.pair (.int .i64) .unit)))]
abbrev rs128:List Ty:=[(.int .i64)]
def t128 (x0_:Int) (x0_':Int) (x0_'':Bool) (x0'_:Int) (x0'_':Bool) (x0'':Int):Tr (Tys.data rs128) :=
  Tr.test (x0'_')
    (Tr.fin (((0:Int),())))
    (Tr.test (Option.isSome (f127 (((x0_,(x0_',(x0_'',()))),((x0'_,(x0'_',())),(x0'',()))),())))
      (let r0:=g127 (((x0_,(x0_',(x0_'',()))),((x0'_,(x0'_',())),(x0'',()))),());
      Tr.fin (((wrap64 (x0_ * r0.1):Int),())))
      (Tr.stop))
def f128 (d:Tys.data as128):Option (Tys.data rs128):=(t128 d.1.1.1 d.1.1.2.1 d.1.1.2.2.1 d.1.2.1.1 d.1.2.1.2.1 d.1.2.2.1).val
def g128 (d:Tys.data as128):Tys.data rs128:=(f128 d).getD (Tys.dflt rs128)
def p128:PureC:=pcOf as128 rs128 f128 g128
theorem wk128 (x0_:Int) (x0_':Int) (x0_'':Bool) (x0'_:Int) (x0'_':Bool) (x0'':Int):Walks (runPure (kf127 Proofs.Try.prog).orc Proofs.Try.prog 400 128 as128 rs128 (((x0_,x0_',x0_'',()),(x0'_,x0'_',()),x0'',()),())) (t128 x0_ x0_' x0_'' x0'_ x0'_' x0'') [(bl 1 1,[2]),(bl 2 2,[2,4])] :=
  ⟨by kernel_rfl,by kernel_rfl,trivial⟩
theorem ok128_t (x0_:Int) (x0_':Int) (x0_'':Bool) (x0'_:Int) (x0'_':Bool) (x0'':Int):TrOk (PureRuns Proofs.Try.prog (kf127 Proofs.Try.prog).orc 128 as128 rs128 (((x0_,x0_',x0_'',()),(x0'_,x0'_',()),x0'',()),())) (t128 x0_ x0_' x0_'' x0'_ x0'_' x0'') :=
  Walks.ok (fun _ _ _=>PureRuns.of) (wk128 x0_ x0_' x0_'' x0'_ x0'_' x0'') (by kernel_rfl)
theorem ok128:PureOk Proofs.Try.prog 128 p128:=qab kf127_ok.base (T:=fun (d:Tys.data as128)=>t128 d.1.1.1 d.1.1.2.1 d.1.1.2.2.1 d.1.2.1.1 d.1.2.1.2.1 d.1.2.2.1) (by kernel_rfl) (fun (d:Tys.data as128)=>ok128_t d.1.1.1 d.1.1.2.1 d.1.1.2.2.1 d.1.2.1.1 d.1.2.1.2.1 d.1.2.2.1)
def kf128 (P:Go.Program):Known:=(kf127 P).func 128 p128
theorem kf128_ok:KnownOk Proofs.Try.prog (kf128 Proofs.Try.prog):=kf127_ok.func ok128
theorem sc97_0:qaZ Proofs.Try.prog 97 0 = true:=qdC (by kernel_rfl)
abbrev sh129_0 (P:Go.Program):Sh:={ n:=28,slots:=[0,1,7,8,9],pats:=[.yld 0,.ptr 1 3 0,.ty (.slice (.pair (.int .i64) (.pair .bool .unit))),.ty (.int .i64),.ty (.int .i64)],boxes:=[.lp (lpOf P 97 0 .ready none 15 [3,5] 2) [.ptr 3 1 0,.ptr 4 1 0],.row [.ty (.slice (.pair (.int .i64) (.pair (.int .i64) (.pair .bool .unit)))),.ty (.int .i64),.ty (.slice (.pair (.int .i64) (.pair .bool .unit)))],.dfr,.row [.fn 128 []],.row [.ty (.int .i64)]] }
abbrev shb129_0 (P:Go.Program):Sh:={ n:=28,slots:=[],pats:=[],boxes:=[.lp (lpOf P 97 0 .ready none 15 [3,5] 2) [.ptr 3 1 0,.ptr 4 1 0],.row [.ty (.slice (.pair (.int .i64) (.pair (.int .i64) (.pair .bool .unit)))),.ty (.int .i64),.ty (.slice (.pair (.int .i64) (.pair .bool .unit)))],.dfr,.row [.fn 128 []],.row [.ty (.int .i64)]] }
abbrev shr129_0 (P:Go.Program):Sh:={ n:=28,slots:=[],pats:=[],boxes:=[.lp (lpOf P 97 0 .ready none 15 [3,5] 2) [.ptr 3 1 0,.ptr 4 1 0],.row [.ty (.slice (.pair (.int .i64) (.pair (.int .i64) (.pair .bool .unit)))),.ty (.int .i64),.ty (.slice (.pair (.int .i64) (.pair .bool .unit)))],.dfr,.row [.fn 128 []],.row [.ty (.int .i64)]] }
abbrev dt129_0:Type:=(List (Int×Bool×PUnit)×Int×Int×PUnit)×PUnit×(List (Int×Int×Bool×PUnit)×Int×List (Int×Bool×PUnit)×PUnit)×PUnit×(Int×PUnit)×PUnit
abbrev db129_0:Type:=PUnit×PUnit×(List (Int×Int×Bool×PUnit)×Int×List (Int×Bool×PUnit)×PUnit)×PUnit×(Int×PUnit)×PUnit
abbrev dr129_0:Type:=PUnit×PUnit×(List (Int×Int×Bool×PUnit)×Int×List (Int×Bool×PUnit)×PUnit)×PUnit×(Int×PUnit)×PUnit
def t129_0 (x2:(List (Int×(Bool×Unit)))) (x3:Int) (x4:Int) (b1_0:(List (Int×(Int×(Bool×Unit))))) (b1_1:Int) (b1_2:(List (Int×(Bool×Unit)))) (b4_0:Int):Tr (Out dt129_0 db129_0 dr129_0) :=
  Tr.test ((!leF x3 x4:Bool))
    (Tr.test (decide ((0:Int) ≤ x4) && decide (x4 < (↑(List.length x2):Int)))
      (Tr.test ((decide ((0:Int) ≤ x4) && decide (x4 < (↑(List.length b1_0):Int)):Bool))
        (Tr.test (Option.isSome (f128 (((((List.getD b1_0 (Int.toNat x4) ((0:Int),(0:Int),false,())).1:Int),(((List.getD b1_0 (Int.toNat x4) ((0:Int),(0:Int),false,())).2.1:Int),(((List.getD b1_0 (Int.toNat x4) ((0:Int),(0:Int),false,())).2.2.1:Bool),()))),((((List.getD x2 (Int.toNat x4) ((0:Int),false,())).1:Int),(((List.getD x2 (Int.toNat x4) ((0:Int),false,())).2.1:Bool),())),(b1_1,()))),())))
          (let r0:=g128 (((((List.getD b1_0 (Int.toNat x4) ((0:Int),(0:Int),false,())).1:Int),(((List.getD b1_0 (Int.toNat x4) ((0:Int),(0:Int),false,())).2.1:Int),(((List.getD b1_0 (Int.toNat x4) ((0:Int),(0:Int),false,())).2.2.1:Bool),()))),((((List.getD x2 (Int.toNat x4) ((0:Int),false,())).1:Int),(((List.getD x2 (Int.toNat x4) ((0:Int),false,())).2.1:Bool),())),(b1_1,()))),());
          Tr.fin (.again ((x2,(x3,((wrap64 (x4 + (1:Int)):Int),()))),((),((b1_0,(b1_1,(b1_2,()))),((),(((wrap64 (b4_0 + r0.1):Int),()),())))))))
          (Tr.stop))
        (Tr.stop))
      (Tr.stop))
    (Tr.fin (.brk ((),((),((b1_0,(b1_1,(b1_2,()))),((),((b4_0,()),())))))))
def s129_0 (d:dt129_0):Option (Out dt129_0 db129_0 dr129_0):=(t129_0 d.1.1 d.1.2.1 d.1.2.2.1 d.2.2.1.1 d.2.2.1.2.1 d.2.2.1.2.2.1 d.2.2.2.2.1.1).val
def l129_0 (d:dt129_0):Option (db129_0 ⊕ dr129_0):=itr s129_0 rounds d
def b129_0 (d:dt129_0):db129_0:=outB (((),((),((([]:List (Int×Int×Bool×PUnit)),((0:Int),(([]:List (Int×Bool×PUnit)),()))),((),(((0:Int),()),())))))) (l129_0 d)
def lc129_0 (P:Go.Program):LoopC:=lcB (sh129_0 P) (shb129_0 P) (shr129_0 P) l129_0 b129_0
theorem e129_0_0 (x2:(List (Int×(Bool×Unit)))) (x3:Int) (x4:Int) (b1_0:(List (Int×(Int×(Bool×Unit))))) (b1_1:Int) (b1_2:(List (Int×(Bool×Unit)))) (b4_0:Int):qal (kf128 Proofs.Try.prog).orc Proofs.Try.prog 400 129 0 (sh129_0 Proofs.Try.prog) (shb129_0 Proofs.Try.prog) (shr129_0 Proofs.Try.prog) ((x2,x3,x4,()),(),(b1_0,b1_1,b1_2,()),(),(b4_0,()),()) [tt,tt,tt,tt,ff] =
    (let r0:=g128 (((((List.getD b1_0 (Int.toNat x4) ((0:Int),(0:Int),false,())).1:Int),(((List.getD b1_0 (Int.toNat x4) ((0:Int),(0:Int),false,())).2.1:Int),((List.getD b1_0 (Int.toNat x4) ((0:Int),(0:Int),false,())).2.2.1,()))),((((List.getD x2 (Int.toNat x4) ((0:Int),false,())).1:Int),((List.getD x2 (Int.toNat x4) ((0:Int),false,())).2.1,())),(b1_1,()))),()); some (.again ((x2,(x3,((wrap64 (x4 + (1:Int)):Int),()))),((),((b1_0,(b1_1,(b1_2,()))),((),(((wrap64 (b4_0 + r0.1):Int),()),()))))),[(qaZ Proofs.Try.prog (nat_lit 97) (nat_lit 0),true),(false,false),(Option.isSome (f128 (((((List.getD b1_0 (Int.toNat x4) ((0:Int),(0:Int),false,())).1:Int),(((List.getD b1_0 (Int.toNat x4) ((0:Int),(0:Int),false,())).2.1:Int),((List.getD b1_0 (Int.toNat x4) ((0:Int),(0:Int),false,())).2.2.1,()))),((((List.getD x2 (Int.toNat x4) ((0:Int),false,())).1:Int),((List.getD x2 (Int.toNat x4) ((0:Int),false,())).2.1,())),(b1_1,()))),())),true),(decide ((0:Int) ≤ x4) && decide (x4 < (↑(List.length b1_0):Int)),true),(decide ((0:Int) ≤ x4) && decide (x4 < (↑(List.length x2):Int)),true),(!leF x3 x4,true)])):=by kernel_rfl
theorem e129_0_3 (x2:(List (Int×(Bool×Unit)))) (x3:Int) (x4:Int) (b1_0:(List (Int×(Int×(Bool×Unit))))) (b1_1:Int) (b1_2:(List (Int×(Bool×Unit)))) (b4_0:Int):qal (kf128 Proofs.Try.prog).orc Proofs.Try.prog 400 129 0 (sh129_0 Proofs.Try.prog) (shb129_0 Proofs.Try.prog) (shr129_0 Proofs.Try.prog) ((x2,x3,x4,()),(),(b1_0,b1_1,b1_2,()),(),(b4_0,()),()) [ff] =
    (some (.brk ((),((),((b1_0,(b1_1,(b1_2,()))),((),((b4_0,()),()))))),[(qaZ Proofs.Try.prog (nat_lit 97) (nat_lit 0),true),(!leF x3 x4,false)])):=by kernel_rfl
theorem ok129_0_t (x2:(List (Int×(Bool×Unit)))) (x3:Int) (x4:Int) (b1_0:(List (Int×(Int×(Bool×Unit))))) (b1_1:Int) (b1_2:(List (Int×(Bool×Unit)))) (b4_0:Int):TrOk (BodyRuns Proofs.Try.prog (kf128 Proofs.Try.prog).orc 129 0 (sh129_0 Proofs.Try.prog) (shb129_0 Proofs.Try.prog) (shr129_0 Proofs.Try.prog) ((x2,x3,x4,()),(),(b1_0,b1_1,b1_2,()),(),(b4_0,()),())) (t129_0 x2 x3 x4 b1_0 b1_1 b1_2 b4_0) :=
  TrOk.ofTest (fun h0=>TrOk.ofTest (fun h1=>TrOk.ofTest (fun h2=>TrOk.ofTest (fun h3=>TrOk.ofFin (BodyRuns.of (e129_0_0 x2 x3 x4 b1_0 b1_1 b1_2 b4_0) (ac (sc97_0) (ac rfl (ac h3 (ac h2 (ac h1 (ac h0 All.nil)))))))) (fun h3=>TrOk.ofStop)) (fun h2=>TrOk.ofStop)) (fun h1=>TrOk.ofStop)) (fun h0=>TrOk.ofFin (BodyRuns.of (e129_0_3 x2 x3 x4 b1_0 b1_1 b1_2 b4_0) (ac (sc97_0) (ac h0 All.nil))))
theorem ok129_0:qau Proofs.Try.prog 129 0 (lc129_0 Proofs.Try.prog):=qay (sh:=(sh129_0 Proofs.Try.prog)) (shB:=(shb129_0 Proofs.Try.prog)) (shR:=(shr129_0 Proofs.Try.prog)) kf128_ok.base (T:=fun (d:dt129_0)=>t129_0 d.1.1 d.1.2.1 d.1.2.2.1 d.2.2.1.1 d.2.2.1.2.1 d.2.2.1.2.2.1 d.2.2.2.2.1.1) (by kernel_rfl) rfl (fun (d:dt129_0)=>ok129_0_t d.1.1 d.1.2.1 d.1.2.2.1 d.2.2.1.1 d.2.2.1.2.1 d.2.2.1.2.2.1 d.2.2.2.2.1.1) (fun _=>rfl)
def kl129_0 (P:Go.Program):Known:=(kf128 P).loop 129 0 (lc129_0 P)
theorem kl129_0_ok:KnownOk Proofs.Try.prog (kl129_0 Proofs.Try.prog):=kf128_ok.loop ok129_0
abbrev as96:List Ty:=[(.pair (.slice (.pair (.int .i64) (.pair (.int .i64) (.pair .bool .unit)))) (.pair (.pair (.int .i64) (.pair (.slice (.pair (.int .i64) (.pair .bool .unit))) .unit)) .unit))]
abbrev rs96:List Ty:=[(.int .i64)]
def t96 (x0:(List (Int×(Int×(Bool×Unit))))) (x0'_:Int) (x0'_':(List (Int×(Bool×Unit)))):Tr (Tys.data rs96) :=
  Tr.test (qbh (l129_0 ((x0'_',((↑(List.length x0'_'):Int),((0:Int),()))),((),((x0,(x0'_,(x0'_',()))),((),(((0:Int),()),())))))))
    (let r0:=b129_0 ((x0'_',((↑(List.length x0'_'):Int),((0:Int),()))),((),((x0,(x0'_,(x0'_',()))),((),(((0:Int),()),())))));
    Tr.fin ((r0.2.2.2.2.1.1,())))
    (Tr.stop)
def f96 (d:Tys.data as96):Option (Tys.data rs96):=(t96 d.1.1 d.1.2.1.1 d.1.2.1.2.1).val
def g96 (d:Tys.data as96):Tys.data rs96:=(f96 d).getD (Tys.dflt rs96)
def p96:PureC:=pcOf as96 rs96 f96 g96
theorem e96_0 (x0:(List (Int×(Int×(Bool×Unit))))) (x0'_:Int) (x0'_':(List (Int×(Bool×Unit)))):runPure (kl129_0 Proofs.Try.prog).orc Proofs.Try.prog 400 96 as96 rs96 ((x0,(x0'_,x0'_',()),()),()) [tt,tt,tt] =
    (let r0:=b129_0 ((x0'_',((↑(List.length x0'_'):Int),((0:Int),()))),((),((x0,(x0'_,(x0'_',()))),((),(((0:Int),()),()))))); some ((r0.2.2.2.2.1.1,()),[(true,true),(qbh (l129_0 ((x0'_',((↑(List.length x0'_'):Int),((0:Int),()))),((),((x0,(x0'_,(x0'_',()))),((),(((0:Int),()),())))))),true),(qaZ Proofs.Try.prog (nat_lit 97) (nat_lit 0),true)])):=by kernel_rfl
theorem ok96_t (x0:(List (Int×(Int×(Bool×Unit))))) (x0'_:Int) (x0'_':(List (Int×(Bool×Unit)))):TrOk (PureRuns Proofs.Try.prog (kl129_0 Proofs.Try.prog).orc 96 as96 rs96 ((x0,(x0'_,x0'_',()),()),())) (t96 x0 x0'_ x0'_') :=
  TrOk.ofTest (fun h1=>TrOk.ofFin (PureRuns.of (e96_0 x0 x0'_ x0'_') (ac rfl (ac h1 (ac (sc97_0) All.nil))))) (fun h1=>TrOk.ofStop)
theorem ok96:PureOk Proofs.Try.prog 96 p96:=qab kl129_0_ok.base (T:=fun (d:Tys.data as96)=>t96 d.1.1 d.1.2.1.1 d.1.2.1.2.1) (by kernel_rfl) (fun (d:Tys.data as96)=>ok96_t d.1.1 d.1.2.1.1 d.1.2.1.2.1)
def kf96 (P:Go.Program):Known:=(kl129_0 P).func 96 p96
theorem kf96_ok:KnownOk Proofs.Try.prog (kf96 Proofs.Try.prog):=kl129_0_ok.func ok96
abbrev as139:List Ty:=[(.pair (.pair (.pair (.slice (.pair (.int .i64) (.pair (.int .i64) (.pair (.slice (.pair (.int .i64) (.pair (.int .i64) (.pair .bool .unit)))) .unit)))) .unit) .unit) (.pair (.pair (.slice (.int .i64)) (.pair (.slice (.int .i64)) (.pair (.slice (.pair (.int .i64) (.pair (.slice (.pair (.int .i64) (.pair .bool .unit))) .unit))) .unit))) .unit)),(.int .i64)]
abbrev rs139:List Ty:=[(.int .i64)]
def t139 (x0__:(List (Int×(Int×((List (Int×(Int×(Bool×Unit))))×Unit))))) (x0'_:(List Int)) (x0'_':(List Int)) (x0'_'':(List (Int×((List (Int×(Bool×Unit)))×Unit)))) (x1:Int):Tr (Tys.data rs139) :=
  Tr.test ((eqF x1 (↑(List.length x0__):Int):Bool))
    (Tr.fin (((0:Int),())))
    (Tr.test (Option.isSome (f135 ((((x0__,()),()),((x0'_,(x0'_',(x0'_'',()))),())),(x1,()))))
      (let r0:=g135 ((((x0__,()),()),((x0'_,(x0'_',(x0'_'',()))),())),(x1,()));
      Tr.test (Option.isSome (f96 ((r0.1.1,((r0.1.2.1.1,(r0.1.2.1.2.1,())),())),())))
        (let r1:=g96 ((r0.1.1,((r0.1.2.1.1,(r0.1.2.1.2.1,())),())),());
        Tr.fin ((r1.1,())))
        (Tr.stop))
      (Tr.stop))
def f139 (d:Tys.data as139):Option (Tys.data rs139):=(t139 d.1.1.1.1 d.1.2.1.1 d.1.2.1.2.1 d.1.2.1.2.2.1 d.2.1).val
def g139 (d:Tys.data as139):Tys.data rs139:=(f139 d).getD (Tys.dflt rs139)
def p139:PureC:=pcOf as139 rs139 f139 g139
theorem wk139 (x0__:(List (Int×(Int×((List (Int×(Int×(Bool×Unit))))×Unit))))) (x0'_:(List Int)) (x0'_':(List Int)) (x0'_'':(List (Int×((List (Int×(Bool×Unit)))×Unit)))) (x1:Int):Walks (runPure (kf96 Proofs.Try.prog).orc Proofs.Try.prog 400 139 as139 rs139 ((((x0__,()),()),(x0'_,x0'_',x0'_'',()),()),x1,())) (t139 x0__ x0'_ x0'_' x0'_'' x1) [(bl 1 1,[2]),(bl 3 6,[2,4,6])] :=
  ⟨by kernel_rfl,by kernel_rfl,trivial⟩
theorem ok139_t (x0__:(List (Int×(Int×((List (Int×(Int×(Bool×Unit))))×Unit))))) (x0'_:(List Int)) (x0'_':(List Int)) (x0'_'':(List (Int×((List (Int×(Bool×Unit)))×Unit)))) (x1:Int):TrOk (PureRuns Proofs.Try.prog (kf96 Proofs.Try.prog).orc 139 as139 rs139 ((((x0__,()),()),(x0'_,x0'_',x0'_'',()),()),x1,())) (t139 x0__ x0'_ x0'_' x0'_'' x1) :=
  Walks.ok (fun _ _ _=>PureRuns.of) (wk139 x0__ x0'_ x0'_' x0'_'' x1) (by kernel_rfl)
theorem ok139:PureOk Proofs.Try.prog 139 p139:=qab kf96_ok.base (T:=fun (d:Tys.data as139)=>t139 d.1.1.1.1 d.1.2.1.1 d.1.2.1.2.1 d.1.2.1.2.2.1 d.2.1) (by kernel_rfl) (fun (d:Tys.data as139)=>ok139_t d.1.1.1.1 d.1.2.1.1 d.1.2.1.2.1 d.1.2.1.2.2.1 d.2.1)
def kf139 (P:Go.Program):Known:=(kf96 P).func 139 p139
theorem kf139_ok:KnownOk Proofs.Try.prog (kf139 Proofs.Try.prog):=kf96_ok.func ok139
abbrev as140:List Ty:=[(.int .i64),(.int .i64)]
abbrev rs140:List Ty:=[(.int .i64),(.int .i64)]
def t140 (x0:Int) (x1:Int):Tr (Tys.data rs140) :=
  Tr.test ((x1 == (0:Int):Bool))
    (Tr.stop)
    (Tr.test (!leF (0:Int) (Int.tmod x0 x1))
      (Tr.fin (((Go.IntKind.wrap Go.IntKind.i64 (Int.tdiv (wrap64 (x0 - wrap64 (Int.tmod x0 x1 + x1))) x1):Int),((wrap64 (Int.tmod x0 x1 + x1):Int),()))))
      (Tr.fin (((Go.IntKind.wrap Go.IntKind.i64 (Int.tdiv (wrap64 (x0 - Int.tmod x0 x1)) x1):Int),((Int.tmod x0 x1:Int),())))))
def f140 (d:Tys.data as140):Option (Tys.data rs140):=(t140 d.1 d.2.1).val
def g140 (d:Tys.data as140):Tys.data rs140:=(f140 d).getD (Tys.dflt rs140)
def p140:PureC:=pcOf as140 rs140 f140 g140
theorem wk140 (x0:Int) (x1:Int):Walks (runPure (kf139 Proofs.Try.prog).orc Proofs.Try.prog 400 140 as140 rs140 (x0,x1,())) (t140 x0 x1) [(bl 2 2,[4,2,4]),(bl 2 0,[4,2,4])] :=
  ⟨by kernel_rfl,by kernel_rfl,trivial⟩
theorem ok140_t (x0:Int) (x1:Int):TrOk (PureRuns Proofs.Try.prog (kf139 Proofs.Try.prog).orc 140 as140 rs140 (x0,x1,())) (t140 x0 x1) :=
  Walks.ok (fun _ _ _=>PureRuns.of) (wk140 x0 x1) (by kernel_rfl)
theorem ok140:PureOk Proofs.Try.prog 140 p140:=qab kf139_ok.base (T:=fun (d:Tys.data as140)=>t140 d.1 d.2.1) (by kernel_rfl) (fun (d:Tys.data as140)=>ok140_t d.1 d.2.1)
def kf140 (P:Go.Program):Known:=(kf139 P).func 140 p140
theorem kf140_ok:KnownOk Proofs.Try.prog (kf140 Proofs.Try.prog):=kf139_ok.func ok140
abbrev as130:List Ty:=[(.pair (.pair (.int .i64) (.pair (.int .i64) (.pair .bool .unit))) (.pair (.pair (.int .i64) (.pair .bool .unit)) (.pair (.int .i64) .unit))),(.int .i64)]
abbrev rs130:List Ty:=[(.pair (.pair (.int .i64) (.pair (.int .i64) (.pair .bool .unit))) (.pair (.pair (.int .i64) (.pair .bool .unit)) (.pair (.int .i64) .unit)))]
def t130 (x0_:Int) (x0_':Int) (x0_'':Bool) (x0'_:Int) (x0'_':Bool) (x0'':Int) (x1:Int):Tr (Tys.data rs130) :=
  Tr.test (Option.isSome (f127 (((x0_,(x0_',(x0_'',()))),((x0'_,(x0'_',())),(x1,()))),())))
    (Tr.test (x0'_')
      (Tr.fin ((((x0_,(x0_',(x0_'',()))),((x0'_,(x0'_',())),(x1,()))),())))
      (let r0:=g127 (((x0_,(x0_',(x0_'',()))),((x0'_,(x0'_',())),(x1,()))),());
      Tr.test (Option.isSome (f126 (x0_',(([r0.1]:List Int),()))))
        (let r1:=g126 (x0_',(([r0.1]:List Int),()));
        Tr.test ((!r1.1:Bool))
          (Tr.fin ((((x0_,(x0_',(x0_'',()))),((x0'_,(x0'_',())),(x1,()))),())))
          (Tr.test (x0_'')
            (Tr.fin ((((x0_,(x0_',(x0_'',()))),(((0:Int),((true:Bool),())),(x1,()))),())))
            (Tr.test ((!leF r0.1 0:Bool))
              (Tr.fin ((((x0_,(x0_',(x0_'',()))),(((wrap64 (x1 - x0_'):Int),(x0'_',())),(x1,()))),())))
              (Tr.fin ((((x0_,(x0_',(x0_'',()))),(((wrap64 (x1 + x0_'):Int),(x0'_',())),(x1,()))),()))))))
        (Tr.stop)))
    (Tr.stop)
def f130 (d:Tys.data as130):Option (Tys.data rs130):=(t130 d.1.1.1 d.1.1.2.1 d.1.1.2.2.1 d.1.2.1.1 d.1.2.1.2.1 d.1.2.2.1 d.2.1).val
def g130 (d:Tys.data as130):Tys.data rs130:=(f130 d).getD (Tys.dflt rs130)
def p130:PureC:=pcOf as130 rs130 f130 g130
theorem wk130 (x0_:Int) (x0_':Int) (x0_'':Bool) (x0'_:Int) (x0'_':Bool) (x0'':Int) (x1:Int):Walks (runPure (kf140 Proofs.Try.prog).orc Proofs.Try.prog 400 130 as130 rs130 (((x0_,x0_',x0_'',()),(x0'_,x0'_',()),x0'',()),x1,())) (t130 x0_ x0_' x0_'' x0'_ x0'_' x0'' x1) [(bl 2 3,[1,2,2,2,2,2,2,2,2,4]),(bl 4 13,[2,6,6,4,6,6,6,6,6,6,8]),(bl 5 21,[2,4,8,8,6,8,8,8,8,8,8,10]),(bl 6 37,[2,4,6,10,10,8,10,10,10,10,10,10,12]),(bl 6 5,[2,4,6,10,10,8,10,10,10,10,10,10,12])] :=
  ⟨by kernel_rfl,by kernel_rfl,by kernel_rfl,by kernel_rfl,by kernel_rfl,trivial⟩
theorem ok130_t (x0_:Int) (x0_':Int) (x0_'':Bool) (x0'_:Int) (x0'_':Bool) (x0'':Int) (x1:Int):TrOk (PureRuns Proofs.Try.prog (kf140 Proofs.Try.prog).orc 130 as130 rs130 (((x0_,x0_',x0_'',()),(x0'_,x0'_',()),x0'',()),x1,())) (t130 x0_ x0_' x0_'' x0'_ x0'_' x0'' x1) :=
  Walks.ok (fun _ _ _=>PureRuns.of) (wk130 x0_ x0_' x0_'' x0'_ x0'_' x0'' x1) (by kernel_rfl)
theorem ok130:PureOk Proofs.Try.prog 130 p130:=qab kf140_ok.base (T:=fun (d:Tys.data as130)=>t130 d.1.1.1 d.1.1.2.1 d.1.1.2.2.1 d.1.2.1.1 d.1.2.1.2.1 d.1.2.2.1 d.2.1) (by kernel_rfl) (fun (d:Tys.data as130)=>ok130_t d.1.1.1 d.1.1.2.1 d.1.1.2.2.1 d.1.2.1.1 d.1.2.1.2.1 d.1.2.2.1 d.2.1)
def kf130 (P:Go.Program):Known:=(kf140 P).func 130 p130
theorem kf130_ok:KnownOk Proofs.Try.prog (kf130 Proofs.Try.prog):=kf140_ok.func ok130
theorem sc100_0:qaZ Proofs.Try.prog 100 0 = true:=qdC (by kernel_rfl)
abbrev sh129_0_1 (P:Go.Program):Sh:={ n:=28,slots:=[0,1,7,8,9],pats:=[.yld 0,.ptr 1 3 0,.ty (.slice (.pair (.int .i64) (.pair .bool .unit))),.ty (.int .i64),.ty (.int .i64)],boxes:=[.lp (lpOf P 100 0 .ready none 27 [3,5] 2) [.ptr 3 1 0,.ptr 4 3 0],.row [.ty (.slice (.pair (.int .i64) (.pair (.int .i64) (.pair .bool .unit)))),.ty (.int .i64),.ty (.slice (.pair (.int .i64) (.pair .bool .unit)))],.dfr,.row [.ty (.int .i64)],.row [.ty (.slice (.pair (.int .i64) (.pair (.int .i64) (.pair .bool .unit)))),.ty (.int .i64),.acc (.pair (.int .i64) (.pair .bool .unit))]] }
abbrev shb129_0_1 (P:Go.Program):Sh:={ n:=28,slots:=[],pats:=[],boxes:=[.lp (lpOf P 100 0 .ready none 27 [3,5] 2) [.ptr 3 1 0,.ptr 4 3 0],.row [.ty (.slice (.pair (.int .i64) (.pair (.int .i64) (.pair .bool .unit)))),.ty (.int .i64),.ty (.slice (.pair (.int .i64) (.pair .bool .unit)))],.dfr,.row [.ty (.int .i64)],.row [.ty (.slice (.pair (.int .i64) (.pair (.int .i64) (.pair .bool .unit)))),.ty (.int .i64),.acc (.pair (.int .i64) (.pair .bool .unit))]] }
abbrev shr129_0_1 (P:Go.Program):Sh:={ n:=28,slots:=[],pats:=[],boxes:=[.lp (lpOf P 100 0 .ready none 27 [3,5] 2) [.ptr 3 1 0,.ptr 4 3 0],.row [.ty (.slice (.pair (.int .i64) (.pair (.int .i64) (.pair .bool .unit)))),.ty (.int .i64),.ty (.slice (.pair (.int .i64) (.pair .bool .unit)))],.dfr,.row [.ty (.int .i64)],.row [.ty (.slice (.pair (.int .i64) (.pair (.int .i64) (.pair .bool .unit)))),.ty (.int .i64),.acc (.pair (.int .i64) (.pair .bool .unit))]] }
abbrev dt129_0_1:Type:=(List (Int×Bool×PUnit)×Int×Int×PUnit)×PUnit×(List (Int×Int×Bool×PUnit)×Int×List (Int×Bool×PUnit)×PUnit)×(Int×PUnit)×(List (Int×Int×Bool×PUnit)×Int×List (Int×Bool×PUnit)×PUnit)×PUnit
abbrev db129_0_1:Type:=PUnit×PUnit×(List (Int×Int×Bool×PUnit)×Int×List (Int×Bool×PUnit)×PUnit)×(Int×PUnit)×(List (Int×Int×Bool×PUnit)×Int×List (Int×Bool×PUnit)×PUnit)×PUnit
abbrev dr129_0_1:Type:=PUnit×PUnit×(List (Int×Int×Bool×PUnit)×Int×List (Int×Bool×PUnit)×PUnit)×(Int×PUnit)×(List (Int×Int×Bool×PUnit)×Int×List (Int×Bool×PUnit)×PUnit)×PUnit
def t129_0_1 (x2:(List (Int×(Bool×Unit)))) (x3:Int) (x4:Int) (b1_0:(List (Int×(Int×(Bool×Unit))))) (b1_1:Int) (b1_2:(List (Int×(Bool×Unit)))) (b3_0:Int) (b4_0:(List (Int×(Int×(Bool×Unit))))) (b4_1:Int) (b4_2:(List (Int×(Bool×Unit)))):Tr (Out dt129_0_1 db129_0_1 dr129_0_1) :=
  Tr.test ((!leF x3 x4:Bool))
    (Tr.test (decide ((0:Int) ≤ x4) && decide (x4 < (↑(List.length x2):Int)))
      (Tr.test ((decide ((0:Int) ≤ x4) && decide (x4 < (↑(List.length b1_0):Int)):Bool))
        (Tr.test (Option.isSome (f130 (((((List.getD b1_0 (Int.toNat x4) ((0:Int),(0:Int),false,())).1:Int),(((List.getD b1_0 (Int.toNat x4) ((0:Int),(0:Int),false,())).2.1:Int),(((List.getD b1_0 (Int.toNat x4) ((0:Int),(0:Int),false,())).2.2.1:Bool),()))),((((List.getD x2 (Int.toNat x4) ((0:Int),false,())).1:Int),(((List.getD x2 (Int.toNat x4) ((0:Int),false,())).2.1:Bool),())),(b1_1,()))),(b3_0,()))))
          (Tr.test ((Nat.ble (((2:Nat) * (List.length b4_2 + (1:Nat)) + (192:Nat)) * (16:Nat)) (281474976710656:Nat) && Nat.ble (List.length b4_2 + (1:Nat)) (281474976710656:Nat):Bool))
            (let r0:=g130 (((((List.getD b1_0 (Int.toNat x4) ((0:Int),(0:Int),false,())).1:Int),(((List.getD b1_0 (Int.toNat x4) ((0:Int),(0:Int),false,())).2.1:Int),(((List.getD b1_0 (Int.toNat x4) ((0:Int),(0:Int),false,())).2.2.1:Bool),()))),((((List.getD x2 (Int.toNat x4) ((0:Int),false,())).1:Int),(((List.getD x2 (Int.toNat x4) ((0:Int),false,())).2.1:Bool),())),(b1_1,()))),(b3_0,()));
            Tr.fin (.again ((x2,(x3,((wrap64 (x4 + (1:Int)):Int),()))),((),((b1_0,(b1_1,(b1_2,()))),((b3_0,()),((b4_0,(b4_1,((b4_2++[(r0.1.2.1.1,r0.1.2.1.2.1,())]:List (Int×Bool×PUnit)),()))),())))))))
            (Tr.stop))
          (Tr.stop))
        (Tr.stop))
      (Tr.stop))
    (Tr.fin (.brk ((),((),((b1_0,(b1_1,(b1_2,()))),((b3_0,()),((b4_0,(b4_1,(b4_2,()))),())))))))
def s129_0_1 (d:dt129_0_1):Option (Out dt129_0_1 db129_0_1 dr129_0_1):=(t129_0_1 d.1.1 d.1.2.1 d.1.2.2.1 d.2.2.1.1 d.2.2.1.2.1 d.2.2.1.2.2.1 d.2.2.2.1.1 d.2.2.2.2.1.1 d.2.2.2.2.1.2.1 d.2.2.2.2.1.2.2.1).val
def l129_0_1 (d:dt129_0_1):Option (db129_0_1 ⊕ dr129_0_1):=itr s129_0_1 rounds d
def b129_0_1 (d:dt129_0_1):db129_0_1:=outB (((),((),((([]:List (Int×Int×Bool×PUnit)),((0:Int),(([]:List (Int×Bool×PUnit)),()))),(((0:Int),()),((([]:List (Int×Int×Bool×PUnit)),((0:Int),(([]:List (Int×Bool×PUnit)),()))),())))))) (l129_0_1 d)
def lc129_0_1 (P:Go.Program):LoopC:=lcB (sh129_0_1 P) (shb129_0_1 P) (shr129_0_1 P) l129_0_1 b129_0_1
theorem e129_0_1_0 (x2:(List (Int×(Bool×Unit)))) (x3:Int) (x4:Int) (b1_0:(List (Int×(Int×(Bool×Unit))))) (b1_1:Int) (b1_2:(List (Int×(Bool×Unit)))) (b3_0:Int) (b4_0:(List (Int×(Int×(Bool×Unit))))) (b4_1:Int) (b4_2:(List (Int×(Bool×Unit)))):qal (kf130 Proofs.Try.prog).orc Proofs.Try.prog 400 129 0 (sh129_0_1 Proofs.Try.prog) (shb129_0_1 Proofs.Try.prog) (shr129_0_1 Proofs.Try.prog) ((x2,x3,x4,()),(),(b1_0,b1_1,b1_2,()),(b3_0,()),(b4_0,b4_1,b4_2,()),()) [tt,tt,tt,tt,tt,ff] =
    (let r0:=g130 (((((List.getD b1_0 (Int.toNat x4) ((0:Int),(0:Int),false,())).1:Int),(((List.getD b1_0 (Int.toNat x4) ((0:Int),(0:Int),false,())).2.1:Int),((List.getD b1_0 (Int.toNat x4) ((0:Int),(0:Int),false,())).2.2.1,()))),((((List.getD x2 (Int.toNat x4) ((0:Int),false,())).1:Int),((List.getD x2 (Int.toNat x4) ((0:Int),false,())).2.1,())),(b1_1,()))),(b3_0,())); some (.again ((x2,(x3,((wrap64 (x4 + (1:Int)):Int),()))),((),((b1_0,(b1_1,(b1_2,()))),((b3_0,()),((b4_0,(b4_1,((b4_2++[(r0.1.2.1.1,r0.1.2.1.2.1,())]:List (Int×Bool×PUnit)),()))),()))))),[(qaZ Proofs.Try.prog (nat_lit 100) (nat_lit 0),true),(false,false),(Nat.ble (((2:Nat) * (List.length b4_2 + (1:Nat)) + (192:Nat)) * (16:Nat)) (281474976710656:Nat) && Nat.ble (List.length b4_2 + (1:Nat)) (281474976710656:Nat),true),(Option.isSome (f130 (((((List.getD b1_0 (Int.toNat x4) ((0:Int),(0:Int),false,())).1:Int),(((List.getD b1_0 (Int.toNat x4) ((0:Int),(0:Int),false,())).2.1:Int),((List.getD b1_0 (Int.toNat x4) ((0:Int),(0:Int),false,())).2.2.1,()))),((((List.getD x2 (Int.toNat x4) ((0:Int),false,())).1:Int),((List.getD x2 (Int.toNat x4) ((0:Int),false,())).2.1,())),(b1_1,()))),(b3_0,()))),true),(decide ((0:Int) ≤ x4) && decide (x4 < (↑(List.length b1_0):Int)),true),(decide ((0:Int) ≤ x4) && decide (x4 < (↑(List.length x2):Int)),true),(!leF x3 x4,true)])):=by kernel_rfl
theorem e129_0_1_4 (x2:(List (Int×(Bool×Unit)))) (x3:Int) (x4:Int) (b1_0:(List (Int×(Int×(Bool×Unit))))) (b1_1:Int) (b1_2:(List (Int×(Bool×Unit)))) (b3_0:Int) (b4_0:(List (Int×(Int×(Bool×Unit))))) (b4_1:Int) (b4_2:(List (Int×(Bool×Unit)))):qal (kf130 Proofs.Try.prog).orc Proofs.Try.prog 400 129 0 (sh129_0_1 Proofs.Try.prog) (shb129_0_1 Proofs.Try.prog) (shr129_0_1 Proofs.Try.prog) ((x2,x3,x4,()),(),(b1_0,b1_1,b1_2,()),(b3_0,()),(b4_0,b4_1,b4_2,()),()) [ff] =
    (some (.brk ((),((),((b1_0,(b1_1,(b1_2,()))),((b3_0,()),((b4_0,(b4_1,(b4_2,()))),()))))),[(qaZ Proofs.Try.prog (nat_lit 100) (nat_lit 0),true),(!leF x3 x4,false)])):=by kernel_rfl
theorem ok129_0_1_t (x2:(List (Int×(Bool×Unit)))) (x3:Int) (x4:Int) (b1_0:(List (Int×(Int×(Bool×Unit))))) (b1_1:Int) (b1_2:(List (Int×(Bool×Unit)))) (b3_0:Int) (b4_0:(List (Int×(Int×(Bool×Unit))))) (b4_1:Int) (b4_2:(List (Int×(Bool×Unit)))):TrOk (BodyRuns Proofs.Try.prog (kf130 Proofs.Try.prog).orc 129 0 (sh129_0_1 Proofs.Try.prog) (shb129_0_1 Proofs.Try.prog) (shr129_0_1 Proofs.Try.prog) ((x2,x3,x4,()),(),(b1_0,b1_1,b1_2,()),(b3_0,()),(b4_0,b4_1,b4_2,()),())) (t129_0_1 x2 x3 x4 b1_0 b1_1 b1_2 b3_0 b4_0 b4_1 b4_2) :=
  TrOk.ofTest (fun h0=>TrOk.ofTest (fun h1=>TrOk.ofTest (fun h2=>TrOk.ofTest (fun h3=>TrOk.ofTest (fun h4=>TrOk.ofFin (BodyRuns.of (e129_0_1_0 x2 x3 x4 b1_0 b1_1 b1_2 b3_0 b4_0 b4_1 b4_2) (ac (sc100_0) (ac rfl (ac h4 (ac h3 (ac h2 (ac h1 (ac h0 All.nil))))))))) (fun h4=>TrOk.ofStop)) (fun h3=>TrOk.ofStop)) (fun h2=>TrOk.ofStop)) (fun h1=>TrOk.ofStop)) (fun h0=>TrOk.ofFin (BodyRuns.of (e129_0_1_4 x2 x3 x4 b1_0 b1_1 b1_2 b3_0 b4_0 b4_1 b4_2) (ac (sc100_0) (ac h0 All.nil))))
theorem ok129_0_1:qau Proofs.Try.prog 129 0 (lc129_0_1 Proofs.Try.prog):=qay (sh:=(sh129_0_1 Proofs.Try.prog)) (shB:=(shb129_0_1 Proofs.Try.prog)) (shR:=(shr129_0_1 Proofs.Try.prog)) kf130_ok.base (T:=fun (d:dt129_0_1)=>t129_0_1 d.1.1 d.1.2.1 d.1.2.2.1 d.2.2.1.1 d.2.2.1.2.1 d.2.2.1.2.2.1 d.2.2.2.1.1 d.2.2.2.2.1.1 d.2.2.2.2.1.2.1 d.2.2.2.2.1.2.2.1) (by kernel_rfl) rfl (fun (d:dt129_0_1)=>ok129_0_1_t d.1.1 d.1.2.1 d.1.2.2.1 d.2.2.1.1 d.2.2.1.2.1 d.2.2.1.2.2.1 d.2.2.2.1.1 d.2.2.2.2.1.1 d.2.2.2.2.1.2.1 d.2.2.2.2.1.2.2.1) (fun _=>rfl)
def kl129_0_1 (P:Go.Program):Known:=(kf130 P).loop 129 0 (lc129_0_1 P)
theorem kl129_0_1_ok:KnownOk Proofs.Try.prog (kl129_0_1 Proofs.Try.prog):=kf130_ok.loop ok129_0_1
end Go.Vm.Mo
