import Derived.Test.YtklljhgfniodaaaA4
import Derived.KernelRfl
import Derived.Test.YtklljhgfniodaaaProg
set_option linter.unusedVariables false
set_option linter.unusedSimpArgs false

namespace Go.Vm.Mo
open Go
set_option linter.unusedVariables false

def kn0 (_:Go.Program):Known:=⟨[],[]⟩

abbrev tt:Bool:=true
abbrev ff:Bool:=false
theorem ac {b d:Bool} {r:List (Bool×Bool)} (h:b = d) (t:All r):All ((b, d) :: r):=All.cons h t

theorem plainP:Plain Go.Proofs.Try.prog:=by
  have h : (Go.Proofs.Try.prog.funcs.toList.all fun fn => !(fn.body.isSome && fn.name == "runtime.NumGoroutine")) = true := by kernel_rfl
  intro f fn hf hb
  have hm:fn ∈ Go.Proofs.Try.prog.funcs.toList:=by
    have:=Array.getElem?_eq_some_iff.1 hf
    obtain ⟨hlt,rfl⟩:=this
    simp
  have:=List.all_eq_true.1 h fn hm
  rw [hb] at this
  simpa using this

theorem kn0_ok:KnownOk Go.Proofs.Try.prog (kn0 Go.Proofs.Try.prog):=⟨plainP,by kernel_rfl,(fun _ h=>by cases h),(fun _ h=>by cases h)⟩

/-! ductility/ductilitylaw06.Frame -/

abbrev as42:List Ty:=[]
abbrev rs42:List Ty:=[(.pair (.slice (.int .i64)) (.pair (.slice (.int .i64)) .unit))]

def t42 :Tr (Tys.data rs42) :=
  Tr.fin (((([(1:Int),(1:Int)]:List Int),(([(2:Int),(1:Int)]:List Int),())),()))

def f42 (d:Tys.data as42):Option (Tys.data rs42):=(t42 ).val
def g42 (d:Tys.data as42):Tys.data rs42:=(f42 d).getD (Tys.dflt rs42)
def p42:PureC:=pcOf as42 rs42 f42 g42

theorem wk42 :Walks (runPure (kn0 Go.Proofs.Try.prog).orc Go.Proofs.Try.prog 400 42 as42 rs42 ()) (t42 ) [([],[1,1])] :=
  ⟨by kernel_rfl,trivial⟩

theorem ok42_t :TrOk (PureRuns Go.Proofs.Try.prog (kn0 Go.Proofs.Try.prog).orc 42 as42 rs42 ()) (t42 ) :=
  Walks.ok (fun _ _ _=>PureRuns.of) (wk42 ) (by kernel_rfl)

theorem ok42:PureOk Go.Proofs.Try.prog 42 p42:=pureOk_of kn0_ok.base (T:=fun (d:Tys.data as42)=>t42 ) (by kernel_rfl) (fun (d:Tys.data as42)=>ok42_t )
def kf42 (P:Go.Program):Known:=(kn0 P).func 42 p42
theorem kf42_ok:KnownOk Go.Proofs.Try.prog (kf42 Go.Proofs.Try.prog):=kn0_ok.func ok42

/-! ductility/modal.when -/

abbrev as52:List Ty:=[.bool,(.int .i64)]
abbrev rs52:List Ty:=[(.int .i64)]

def t52 (x0:Bool) (x1:Int):Tr (Tys.data rs52) :=
  Tr.test (x0)
    (Tr.fin ((x1,())))
    (Tr.fin (((0:Int),())))

def f52 (d:Tys.data as52):Option (Tys.data rs52):=(t52 d.1 d.2.1).val
def g52 (d:Tys.data as52):Tys.data rs52:=(f52 d).getD (Tys.dflt rs52)
def p52:PureC:=pcOf as52 rs52 f52 g52

theorem wk52 (x0:Bool) (x1:Int):Walks (runPure (kf42 Go.Proofs.Try.prog).orc Go.Proofs.Try.prog 400 52 as52 rs52 (x0,x1,())) (t52 x0 x1) [([tt],[2]),([ff],[2])] :=
  ⟨by kernel_rfl,by kernel_rfl,trivial⟩

theorem ok52_t (x0:Bool) (x1:Int):TrOk (PureRuns Go.Proofs.Try.prog (kf42 Go.Proofs.Try.prog).orc 52 as52 rs52 (x0,x1,())) (t52 x0 x1) :=
  Walks.ok (fun _ _ _=>PureRuns.of) (wk52 x0 x1) (by kernel_rfl)

theorem ok52:PureOk Go.Proofs.Try.prog 52 p52:=pureOk_of kf42_ok.base (T:=fun (d:Tys.data as52)=>t52 d.1 d.2.1) (by kernel_rfl) (fun (d:Tys.data as52)=>ok52_t d.1 d.2.1)
def kf52 (P:Go.Program):Known:=(kf42 P).func 52 p52
theorem kf52_ok:KnownOk Go.Proofs.Try.prog (kf52 Go.Proofs.Try.prog):=kf42_ok.func ok52

/-! loop 0 of ductility/modal.firstOf -/

abbrev sh72_0:Sh:={ n:=15,slots:=[5,6,7],pats:=[.ty (.slice (.int .i64)),.ty (.int .i64),.ty (.int .i64)],boxes:=[] }
abbrev shb72_0:Sh:={ n:=15,slots:=[],pats:=[],boxes:=[] }
abbrev shr72_0:Sh:={ n:=15,slots:=[2],pats:=[.ty (.int .i64)],boxes:=[] }

def t72_0 (x0:(List Int)) (x1:Int) (x2:Int):Tr (Out sh72_0.data shb72_0.data shr72_0.data) :=
  Tr.test ((!leF x1 x2:Bool))
    (Tr.test (decide ((0:Int) ≤ x2) && decide (x2 < (↑(List.length x0):Int)))
      (Tr.test ((!eqF (List.getD x0 (Int.toNat x2) (0:Int)) (0:Int):Bool))
        (Tr.fin (.ret (((List.getD x0 (Int.toNat x2) (0:Int):Int),()),())))
        (Tr.fin (.again ((x0,(x1,((wrap64 (x2 + (1:Int)):Int),()))),()))))
      (Tr.stop))
    (Tr.fin (.brk ((),())))

def s72_0 (d:sh72_0.data):Option (Out sh72_0.data shb72_0.data shr72_0.data):=(t72_0 d.1.1 d.1.2.1 d.1.2.2.1).val
def l72_0 (d:sh72_0.data):Option (shb72_0.data ⊕ shr72_0.data):=itr s72_0 rounds d
def b72_0 (d:sh72_0.data):shb72_0.data:=outB shb72_0.dflt (l72_0 d)
def r72_0 (d:sh72_0.data):shr72_0.data:=outR shr72_0.dflt (l72_0 d)
def lc72_0:LoopC:=lcOf sh72_0 shb72_0 shr72_0 l72_0 b72_0 r72_0

theorem wk72_0 (x0:(List Int)) (x1:Int) (x2:Int):Walks (runBody (kf52 Go.Proofs.Try.prog).orc Go.Proofs.Try.prog 400 72 0 sh72_0 shb72_0 shr72_0 ((x0,x1,x2,()),())) (t72_0 x0 x1 x2) [([true,true,true],[2,4,6]),([true,true,false],[2,4,6]),([ff],[2])] :=
  ⟨by kernel_rfl,by kernel_rfl,by kernel_rfl,trivial⟩

theorem ok72_0_t (x0:(List Int)) (x1:Int) (x2:Int):TrOk (BodyRuns Go.Proofs.Try.prog (kf52 Go.Proofs.Try.prog).orc 72 0 sh72_0 shb72_0 shr72_0 ((x0,x1,x2,()),())) (t72_0 x0 x1 x2) :=
  Walks.ok (fun _ _ _=>BodyRuns.of) (wk72_0 x0 x1 x2) (by kernel_rfl)

theorem ok72_0:LoopOk Go.Proofs.Try.prog 72 0 lc72_0:=loopOk_of (sh:=sh72_0) (shB:=shb72_0) (shR:=shr72_0) kf52_ok.base (T:=fun (d:sh72_0.data)=>t72_0 d.1.1 d.1.2.1 d.1.2.2.1) (by kernel_rfl) rfl (fun (d:sh72_0.data)=>ok72_0_t d.1.1 d.1.2.1 d.1.2.2.1) (fun _=>rfl)
def kl72_0 (P:Go.Program):Known:=(kf52 P).loop 72 0 lc72_0
theorem kl72_0_ok:KnownOk Go.Proofs.Try.prog (kl72_0 Go.Proofs.Try.prog):=kf52_ok.loop ok72_0

/-! ductility/modal.firstOf -/

abbrev as72:List Ty:=[(.slice (.int .i64))]
abbrev rs72:List Ty:=[(.int .i64)]

def t72 (x0:(List Int)):Tr (Tys.data rs72) :=
  Tr.test (Option.isSome (l72_0 ((x0,((↑(List.length x0):Int),((0:Int),()))),())))
    (Tr.test (isRet (l72_0 ((x0,((↑(List.length x0):Int),((0:Int),()))),())))
      (let r0:=r72_0 ((x0,((↑(List.length x0):Int),((0:Int),()))),());
      Tr.fin ((r0.1.1,())))
      (Tr.fin (((0:Int),()))))
    (Tr.stop)

def f72 (d:Tys.data as72):Option (Tys.data rs72):=(t72 d.1).val
def g72 (d:Tys.data as72):Tys.data rs72:=(f72 d).getD (Tys.dflt rs72)
def p72:PureC:=pcOf as72 rs72 f72 g72

theorem wk72 (x0:(List Int)):Walks (runPure (kl72_0 Go.Proofs.Try.prog).orc Go.Proofs.Try.prog 400 72 as72 rs72 (x0,())) (t72 x0) [([true,true],[2,4]),([true,false],[2,4])] :=
  ⟨by kernel_rfl,by kernel_rfl,trivial⟩

theorem ok72_t (x0:(List Int)):TrOk (PureRuns Go.Proofs.Try.prog (kl72_0 Go.Proofs.Try.prog).orc 72 as72 rs72 (x0,())) (t72 x0) :=
  Walks.ok (fun _ _ _=>PureRuns.of) (wk72 x0) (by kernel_rfl)

theorem ok72:PureOk Go.Proofs.Try.prog 72 p72:=pureOk_of kl72_0_ok.base (T:=fun (d:Tys.data as72)=>t72 d.1) (by kernel_rfl) (fun (d:Tys.data as72)=>ok72_t d.1)
def kf72 (P:Go.Program):Known:=(kl72_0 P).func 72 p72
theorem kf72_ok:KnownOk Go.Proofs.Try.prog (kf72 Go.Proofs.Try.prog):=kl72_0_ok.func ok72

/-! loop 0 of ductility/modal.areWithin -/

abbrev sh51_0:Sh:={ n:=24,slots:=[0,1,9,10,11],pats:=[.ty (.int .i64),.ty (.int .i64),.ty (.slice (.int .i64)),.ty (.int .i64),.ty (.int .i64)],boxes:=[] }
abbrev shb51_0:Sh:={ n:=24,slots:=[],pats:=[],boxes:=[] }
abbrev shr51_0:Sh:={ n:=24,slots:=[6],pats:=[.ty .bool],boxes:=[] }

def t51_0 (x0:Int) (x1:Int) (x2:(List Int)) (x3:Int) (x4:Int):Tr (Out sh51_0.data shb51_0.data shr51_0.data) :=
  Tr.test ((!leF x3 x4:Bool))
    (Tr.test (decide ((0:Int) ≤ x4) && decide (x4 < (↑(List.length x2):Int)))
      (Tr.test ((!leF x0 (List.getD x2 (Int.toNat x4) (0:Int)):Bool))
        (Tr.fin (.ret (((false:Bool),()),())))
        (Tr.test ((!leF (List.getD x2 (Int.toNat x4) (0:Int)) x1:Bool))
          (Tr.fin (.ret (((false:Bool),()),())))
          (Tr.fin (.again ((x0,(x1,(x2,(x3,((wrap64 (x4 + (1:Int)):Int),()))))),())))))
      (Tr.stop))
    (Tr.fin (.brk ((),())))

def s51_0 (d:sh51_0.data):Option (Out sh51_0.data shb51_0.data shr51_0.data):=(t51_0 d.1.1 d.1.2.1 d.1.2.2.1 d.1.2.2.2.1 d.1.2.2.2.2.1).val
def l51_0 (d:sh51_0.data):Option (shb51_0.data ⊕ shr51_0.data):=itr s51_0 rounds d
def b51_0 (d:sh51_0.data):shb51_0.data:=outB shb51_0.dflt (l51_0 d)
def r51_0 (d:sh51_0.data):shr51_0.data:=outR shr51_0.dflt (l51_0 d)
def lc51_0:LoopC:=lcOf sh51_0 shb51_0 shr51_0 l51_0 b51_0 r51_0

theorem wk51_0 (x0:Int) (x1:Int) (x2:(List Int)) (x3:Int) (x4:Int):Walks (runBody (kf72 Go.Proofs.Try.prog).orc Go.Proofs.Try.prog 400 51 0 sh51_0 shb51_0 shr51_0 ((x0,x1,x2,x3,x4,()),())) (t51_0 x0 x1 x2 x3 x4) [([true,true,true],[1,2,2,2,2,4,6]),([true,true,false,true],[2,4,4,4,4,6,8]),([true,true,false,false],[2,4,4,4,4,6,8]),([ff],[2])] :=
  ⟨by kernel_rfl,by kernel_rfl,by kernel_rfl,by kernel_rfl,trivial⟩

theorem ok51_0_t (x0:Int) (x1:Int) (x2:(List Int)) (x3:Int) (x4:Int):TrOk (BodyRuns Go.Proofs.Try.prog (kf72 Go.Proofs.Try.prog).orc 51 0 sh51_0 shb51_0 shr51_0 ((x0,x1,x2,x3,x4,()),())) (t51_0 x0 x1 x2 x3 x4) :=
  Walks.ok (fun _ _ _=>BodyRuns.of) (wk51_0 x0 x1 x2 x3 x4) (by kernel_rfl)

theorem ok51_0:LoopOk Go.Proofs.Try.prog 51 0 lc51_0:=loopOk_of (sh:=sh51_0) (shB:=shb51_0) (shR:=shr51_0) kf72_ok.base (T:=fun (d:sh51_0.data)=>t51_0 d.1.1 d.1.2.1 d.1.2.2.1 d.1.2.2.2.1 d.1.2.2.2.2.1) (by kernel_rfl) rfl (fun (d:sh51_0.data)=>ok51_0_t d.1.1 d.1.2.1 d.1.2.2.1 d.1.2.2.2.1 d.1.2.2.2.2.1) (fun _=>rfl)
def kl51_0 (P:Go.Program):Known:=(kf72 P).loop 51 0 lc51_0
theorem kl51_0_ok:KnownOk Go.Proofs.Try.prog (kl51_0 Go.Proofs.Try.prog):=kf72_ok.loop ok51_0

/-! ductility/modal.areWithin -/

abbrev as51:List Ty:=[(.int .i64),(.int .i64),(.slice (.int .i64))]
abbrev rs51:List Ty:=[.bool]

def t51 (x0:Int) (x1:Int) (x2:(List Int)):Tr (Tys.data rs51) :=
  Tr.test (Option.isSome (l51_0 ((x0,(x1,(x2,((↑(List.length x2):Int),((0:Int),()))))),())))
    (Tr.test (isRet (l51_0 ((x0,(x1,(x2,((↑(List.length x2):Int),((0:Int),()))))),())))
      (let r0:=r51_0 ((x0,(x1,(x2,((↑(List.length x2):Int),((0:Int),()))))),());
      Tr.fin ((r0.1.1,())))
      (Tr.fin (((true:Bool),()))))
    (Tr.stop)

def f51 (d:Tys.data as51):Option (Tys.data rs51):=(t51 d.1 d.2.1 d.2.2.1).val
def g51 (d:Tys.data as51):Tys.data rs51:=(f51 d).getD (Tys.dflt rs51)
def p51:PureC:=pcOf as51 rs51 f51 g51

theorem wk51 (x0:Int) (x1:Int) (x2:(List Int)):Walks (runPure (kl51_0 Go.Proofs.Try.prog).orc Go.Proofs.Try.prog 400 51 as51 rs51 (x0,x1,x2,())) (t51 x0 x1 x2) [([true,true],[2,4]),([true,false],[2,4])] :=
  ⟨by kernel_rfl,by kernel_rfl,trivial⟩

theorem ok51_t (x0:Int) (x1:Int) (x2:(List Int)):TrOk (PureRuns Go.Proofs.Try.prog (kl51_0 Go.Proofs.Try.prog).orc 51 as51 rs51 (x0,x1,x2,())) (t51 x0 x1 x2) :=
  Walks.ok (fun _ _ _=>PureRuns.of) (wk51 x0 x1 x2) (by kernel_rfl)

theorem ok51:PureOk Go.Proofs.Try.prog 51 p51:=pureOk_of kl51_0_ok.base (T:=fun (d:Tys.data as51)=>t51 d.1 d.2.1 d.2.2.1) (by kernel_rfl) (fun (d:Tys.data as51)=>ok51_t d.1 d.2.1 d.2.2.1)
def kf51 (P:Go.Program):Known:=(kl51_0 P).func 51 p51
theorem kf51_ok:KnownOk Go.Proofs.Try.prog (kf51 Go.Proofs.Try.prog):=kl51_0_ok.func ok51

/-! loop 0 of ductility/modal.checkItems[int] -/

abbrev sh108_0:Sh:={ n:=25,slots:=[1,9,10,11],pats:=[.fn 109 [(0,2)],.ty (.slice (.int .i64)),.ty (.int .i64),.ty (.int .i64)],boxes:=[.row [.ty (.slice (.int .i64)),.ty (.slice (.int .i64))]] }
abbrev shb108_0:Sh:={ n:=25,slots:=[],pats:=[],boxes:=[.row [.ty (.slice (.int .i64)),.ty (.slice (.int .i64))]] }
abbrev shr108_0:Sh:={ n:=25,slots:=[4,5],pats:=[.ty (.int .i64),.ty (.int .i64)],boxes:=[.row [.ty (.slice (.int .i64)),.ty (.slice (.int .i64))]] }

def t108_0 (x1:(List Int)) (x2:Int) (x3:Int) (b0_0:(List Int)) (b0_1:(List Int)):Tr (Out sh108_0.data shb108_0.data shr108_0.data) :=
  Tr.test ((!leF x2 x3:Bool))
    (Tr.test (decide ((0:Int) ≤ x3) && decide (x3 < (↑(List.length x1):Int)))
      (Tr.test (Option.isSome (f51 ((1:Int),((10:Int),(([List.getD x1 (Int.toNat x3) (0:Int)]:List Int),())))))
        (let r0:=g51 ((1:Int),((10:Int),(([List.getD x1 (Int.toNat x3) (0:Int)]:List Int),())));
        Tr.test ((!r0.1:Bool))
          (Tr.test (Option.isSome (f52 ((true:Bool),((2:Int),()))))
            (let r2:=g52 ((true:Bool),((2:Int),()));
            Tr.test ((!eqF r2.1 0:Bool))
              (Tr.fin (.ret ((x3,(r2.1,())),((b0_0,(b0_1,())),()))))
              (Tr.fin (.again ((x1,(x2,((wrap64 (x3 + (1:Int)):Int),()))),((b0_0,(b0_1,())),())))))
            (Tr.stop))
          (Tr.test ((decide ((0:Int) ≤ x3) && decide (x3 < (↑(List.length b0_1):Int)):Bool))
            (Tr.test (Option.isSome (f51 ((1:Int),((20:Int),(([List.getD b0_1 (Int.toNat x3) (0:Int)]:List Int),())))))
              (let r1:=g51 ((1:Int),((20:Int),(([List.getD b0_1 (Int.toNat x3) (0:Int)]:List Int),())));
              Tr.test (Option.isSome (f52 ((!r1.1:Bool),((2:Int),()))))
                (let r3:=g52 ((!r1.1:Bool),((2:Int),()));
                Tr.test ((!eqF r3.1 0:Bool))
                  (Tr.fin (.ret ((x3,(r3.1,())),((b0_0,(b0_1,())),()))))
                  (Tr.fin (.again ((x1,(x2,((wrap64 (x3 + (1:Int)):Int),()))),((b0_0,(b0_1,())),())))))
                (Tr.stop))
              (Tr.stop))
            (Tr.stop)))
        (Tr.stop))
      (Tr.stop))
    (Tr.fin (.brk ((),((b0_0,(b0_1,())),()))))

def s108_0 (d:sh108_0.data):Option (Out sh108_0.data shb108_0.data shr108_0.data):=(t108_0 d.1.1 d.1.2.1 d.1.2.2.1 d.2.1.1 d.2.1.2.1).val
def l108_0 (d:sh108_0.data):Option (shb108_0.data ⊕ shr108_0.data):=itr s108_0 rounds d
def b108_0 (d:sh108_0.data):shb108_0.data:=outB shb108_0.dflt (l108_0 d)
def r108_0 (d:sh108_0.data):shr108_0.data:=outR shr108_0.dflt (l108_0 d)
def lc108_0:LoopC:=lcOf sh108_0 shb108_0 shr108_0 l108_0 b108_0 r108_0

theorem wk108_0 (x1:(List Int)) (x2:Int) (x3:Int) (b0_0:(List Int)) (b0_1:(List Int)):Walks (runBody (kf51 Go.Proofs.Try.prog).orc Go.Proofs.Try.prog 400 108 0 sh108_0 shb108_0 shr108_0 ((x1,x2,x3,()),(b0_0,b0_1,()),())) (t108_0 x1 x2 x3 b0_0 b0_1) [([true,true,true,true,true,true],[2,4,6,6,6,6,6,6,6,6,6,8,1,10,12]),([true,true,true,true,true,false],[2,4,6,6,6,6,6,6,6,6,6,8,1,10,12]),([true,true,true,false,true,true,true,true],[2,4,10,10,6,1,10,10,10,8,10,10,10,10,12,1,14,16]),([true,true,true,false,true,true,true,false],[2,4,10,10,6,1,10,10,10,8,10,10,10,10,12,1,14,16]),([ff],[2])] :=
  ⟨by kernel_rfl,by kernel_rfl,by kernel_rfl,by kernel_rfl,by kernel_rfl,trivial⟩

theorem ok108_0_t (x1:(List Int)) (x2:Int) (x3:Int) (b0_0:(List Int)) (b0_1:(List Int)):TrOk (BodyRuns Go.Proofs.Try.prog (kf51 Go.Proofs.Try.prog).orc 108 0 sh108_0 shb108_0 shr108_0 ((x1,x2,x3,()),(b0_0,b0_1,()),())) (t108_0 x1 x2 x3 b0_0 b0_1) :=
  Walks.ok (fun _ _ _=>BodyRuns.of) (wk108_0 x1 x2 x3 b0_0 b0_1) (by kernel_rfl)

theorem ok108_0:LoopOk Go.Proofs.Try.prog 108 0 lc108_0:=loopOk_of (sh:=sh108_0) (shB:=shb108_0) (shR:=shr108_0) kf51_ok.base (T:=fun (d:sh108_0.data)=>t108_0 d.1.1 d.1.2.1 d.1.2.2.1 d.2.1.1 d.2.1.2.1) (by kernel_rfl) rfl (fun (d:sh108_0.data)=>ok108_0_t d.1.1 d.1.2.1 d.1.2.2.1 d.2.1.1 d.2.1.2.1) (fun _=>rfl)
def kl108_0 (P:Go.Program):Known:=(kf51 P).loop 108 0 lc108_0
theorem kl108_0_ok:KnownOk Go.Proofs.Try.prog (kl108_0 Go.Proofs.Try.prog):=kf51_ok.loop ok108_0

/-! ductility/modal.CheckFrame -/

abbrev as78:List Ty:=[(.pair (.slice (.int .i64)) (.pair (.slice (.int .i64)) .unit))]
abbrev rs78:List Ty:=[(.int .i64),(.int .i64)]

def t78 (x0:(List Int)) (x0':(List Int)):Tr (Tys.data rs78) :=
  Tr.test ((eqF (↑(List.length x0):Int) (0:Int):Bool))
    (Tr.test (Option.isSome (f52 (true,((10:Int),()))))
      (Tr.test (Option.isSome (f52 ((!leF (↑(List.length x0):Int) (4:Int):Bool),((8:Int),()))))
        (let r0:=g52 ((true:Bool),((10:Int),()));
        let r1:=g52 ((!leF (↑(List.length x0):Int) (4:Int):Bool),((8:Int),()));
        Tr.test (Option.isSome (f72 (([r0.1,r1.1]:List Int),())))
          (let r2:=g72 (([r0.1,r1.1]:List Int),());
          Tr.test ((!eqF r2.1 0:Bool))
            (Tr.fin (((0:Int),(r2.1,()))))
            (Tr.test (Option.isSome (l108_0 ((x0,((↑(List.length x0):Int),((0:Int),()))),((x0,(x0',())),()))))
              (Tr.test (isRet (l108_0 ((x0,((↑(List.length x0):Int),((0:Int),()))),((x0,(x0',())),()))))
                (let r3:=r108_0 ((x0,((↑(List.length x0):Int),((0:Int),()))),((x0,(x0',())),()));
                Tr.fin ((r3.1.1,(r3.1.2.1,()))))
                (Tr.fin (((0:Int),((0:Int),())))))
              (Tr.stop)))
          (Tr.stop))
        (Tr.stop))
      (Tr.stop))
    (Tr.test (Option.isSome (f52 (!eqF (↑(List.length x0'):Int) (↑(List.length x0):Int),((10:Int),()))))
      (Tr.test (Option.isSome (f52 ((!leF (↑(List.length x0):Int) (4:Int):Bool),((8:Int),()))))
        (let r1:=g52 ((!leF (↑(List.length x0):Int) (4:Int):Bool),((8:Int),()));
        let r5:=g52 ((!eqF (↑(List.length x0'):Int) (↑(List.length x0):Int):Bool),((10:Int),()));
        Tr.test (Option.isSome (f72 (([r5.1,r1.1]:List Int),())))
          (let r6:=g72 (([r5.1,r1.1]:List Int),());
          Tr.test ((!eqF r6.1 0:Bool))
            (Tr.fin (((0:Int),(r6.1,()))))
            (Tr.test (Option.isSome (l108_0 ((x0,((↑(List.length x0):Int),((0:Int),()))),((x0,(x0',())),()))))
              (Tr.test (isRet (l108_0 ((x0,((↑(List.length x0):Int),((0:Int),()))),((x0,(x0',())),()))))
                (let r3:=r108_0 ((x0,((↑(List.length x0):Int),((0:Int),()))),((x0,(x0',())),()));
                Tr.fin ((r3.1.1,(r3.1.2.1,()))))
                (Tr.fin (((0:Int),((0:Int),())))))
              (Tr.stop)))
          (Tr.stop))
        (Tr.stop))
      (Tr.stop))

def f78 (d:Tys.data as78):Option (Tys.data rs78):=(t78 d.1.1 d.1.2.1).val
def g78 (d:Tys.data as78):Tys.data rs78:=(f78 d).getD (Tys.dflt rs78)
def p78:PureC:=pcOf as78 rs78 f78 g78

theorem wk78 (x0:(List Int)) (x0':(List Int)):Walks (runPure (kl108_0 Go.Proofs.Try.prog).orc Go.Proofs.Try.prog 400 78 as78 rs78 ((x0,x0',()),())) (t78 x0 x0') [([true,true,true,true,true],[2,4,1,6,8,10,10,10,10,10,10]),([true,true,true,true,false,true,true],[2,4,6,8,1,10,12,14,14,14,14,14,14]),([true,true,true,true,false,true,false],[2,4,6,8,1,10,12,14,14,14,14,14,14]),([false,true,true,true,true],[2,4,1,6,8,10,10,10,10,10,10]),([false,true,true,true,false,true,true],[2,4,6,8,1,10,12,14,14,14,14,14,14]),([false,true,true,true,false,true,false],[2,4,6,8,1,10,12,14,14,14,14,14,14])] :=
  ⟨by kernel_rfl,by kernel_rfl,by kernel_rfl,by kernel_rfl,by kernel_rfl,by kernel_rfl,trivial⟩

theorem ok78_t (x0:(List Int)) (x0':(List Int)):TrOk (PureRuns Go.Proofs.Try.prog (kl108_0 Go.Proofs.Try.prog).orc 78 as78 rs78 ((x0,x0',()),())) (t78 x0 x0') :=
  Walks.ok (fun _ _ _=>PureRuns.of) (wk78 x0 x0') (by kernel_rfl)

theorem ok78:PureOk Go.Proofs.Try.prog 78 p78:=pureOk_of kl108_0_ok.base (T:=fun (d:Tys.data as78)=>t78 d.1.1 d.1.2.1) (by kernel_rfl) (fun (d:Tys.data as78)=>ok78_t d.1.1 d.1.2.1)
def kf78 (P:Go.Program):Known:=(kl108_0 P).func 78 p78
theorem kf78_ok:KnownOk Go.Proofs.Try.prog (kf78 Go.Proofs.Try.prog):=kl108_0_ok.func ok78

/-! ductility/modal.frameOf -/

abbrev as46:List Ty:=[(.pair (.slice (.int .i64)) (.pair (.slice (.int .i64)) .unit)),(.slice (.int .i64))]
abbrev rs46:List Ty:=[(.pair (.pair (.slice (.int .i64)) (.pair (.slice (.int .i64)) .unit)) .unit),(.int .i64)]

def t46 (x0:(List Int)) (x0':(List Int)) (x1:(List Int)):Tr (Tys.data rs46) :=
  Tr.test (Option.isSome (f78 ((x0,(x0',())),())))
    (Tr.test (Option.isSome (f72 (x1,())))
      (let r0:=g78 ((x0,(x0',())),());
      let r1:=g72 (x1,());
      Tr.test (Option.isSome (f72 (([r0.2.1,r1.1]:List Int),())))
        (let r2:=g72 (([r0.2.1,r1.1]:List Int),());
        Tr.test ((!eqF r2.1 0:Bool))
          (Tr.fin ((((([]:List Int),(([]:List Int),())),()),(r2.1,()))))
          (Tr.fin ((((x0,(x0',())),()),((0:Int),())))))
        (Tr.stop))
      (Tr.stop))
    (Tr.stop)

def f46 (d:Tys.data as46):Option (Tys.data rs46):=(t46 d.1.1 d.1.2.1 d.2.1).val
def g46 (d:Tys.data as46):Tys.data rs46:=(f46 d).getD (Tys.dflt rs46)
def p46:PureC:=pcOf as46 rs46 f46 g46

theorem wk46 (x0:(List Int)) (x0':(List Int)) (x1:(List Int)):Walks (runPure (kf78 Go.Proofs.Try.prog).orc Go.Proofs.Try.prog 400 46 as46 rs46 ((x0,x0',()),x1,())) (t46 x0 x0' x1) [([true,true,true,true],[2,4,1,6,8]),([true,true,true,false],[2,4,1,6,8])] :=
  ⟨by kernel_rfl,by kernel_rfl,trivial⟩

theorem ok46_t (x0:(List Int)) (x0':(List Int)) (x1:(List Int)):TrOk (PureRuns Go.Proofs.Try.prog (kf78 Go.Proofs.Try.prog).orc 46 as46 rs46 ((x0,x0',()),x1,())) (t46 x0 x0' x1) :=
  Walks.ok (fun _ _ _=>PureRuns.of) (wk46 x0 x0' x1) (by kernel_rfl)

theorem ok46:PureOk Go.Proofs.Try.prog 46 p46:=pureOk_of kf78_ok.base (T:=fun (d:Tys.data as46)=>t46 d.1.1 d.1.2.1 d.2.1) (by kernel_rfl) (fun (d:Tys.data as46)=>ok46_t d.1.1 d.1.2.1 d.2.1)
def kf46 (P:Go.Program):Known:=(kf78 P).func 46 p46
theorem kf46_ok:KnownOk Go.Proofs.Try.prog (kf46 Go.Proofs.Try.prog):=kf78_ok.func ok46

/-! (ductility/modal.frame).stiffness -/

abbrev as92:List Ty:=[(.pair (.pair (.slice (.int .i64)) (.pair (.slice (.int .i64)) .unit)) .unit),(.int .i64)]
abbrev rs92:List Ty:=[(.int .i64)]

def t92 (x0_:(List Int)) (x0_':(List Int)) (x1:Int):Tr (Tys.data rs92) :=
  Tr.test ((eqF (wrap64 (x1 + (1:Int))) (↑(List.length x0_'):Int):Bool))
    (Tr.test (decide ((0:Int) ≤ x1) && decide (x1 < (↑(List.length x0_'):Int)))
      (Tr.fin (((List.getD x0_' (Int.toNat x1) (0:Int):Int),())))
      (Tr.stop))
    (Tr.test (decide ((0:Int) ≤ x1) && decide (x1 < (↑(List.length x0_'):Int)))
      (Tr.test ((decide ((0:Int) ≤ wrap64 (x1 + (1:Int))) && decide (wrap64 (x1 + (1:Int)) < (↑(List.length x0_'):Int)):Bool))
        (Tr.fin (((wrap64 (List.getD x0_' (Int.toNat x1) (0:Int) + List.getD x0_' (Int.toNat (wrap64 (x1 + (1:Int)))) (0:Int)):Int),())))
        (Tr.stop))
      (Tr.stop))

def f92 (d:Tys.data as92):Option (Tys.data rs92):=(t92 d.1.1.1 d.1.1.2.1 d.2.1).val
def g92 (d:Tys.data as92):Tys.data rs92:=(f92 d).getD (Tys.dflt rs92)
def p92:PureC:=pcOf as92 rs92 f92 g92

theorem wk92 (x0_:(List Int)) (x0_':(List Int)) (x1:Int):Walks (runPure (kf46 Go.Proofs.Try.prog).orc Go.Proofs.Try.prog 400 92 as92 rs92 (((x0_,x0_',()),()),x1,())) (t92 x0_ x0_' x1) [([true,true],[2,4]),([false,true,true],[2,4,6])] :=
  ⟨by kernel_rfl,by kernel_rfl,trivial⟩

theorem ok92_t (x0_:(List Int)) (x0_':(List Int)) (x1:Int):TrOk (PureRuns Go.Proofs.Try.prog (kf46 Go.Proofs.Try.prog).orc 92 as92 rs92 (((x0_,x0_',()),()),x1,())) (t92 x0_ x0_' x1) :=
  Walks.ok (fun _ _ _=>PureRuns.of) (wk92 x0_ x0_' x1) (by kernel_rfl)

theorem ok92:PureOk Go.Proofs.Try.prog 92 p92:=pureOk_of kf46_ok.base (T:=fun (d:Tys.data as92)=>t92 d.1.1.1 d.1.1.2.1 d.2.1) (by kernel_rfl) (fun (d:Tys.data as92)=>ok92_t d.1.1.1 d.1.1.2.1 d.2.1)
def kf92 (P:Go.Program):Known:=(kf46 P).func 92 p92
theorem kf92_ok:KnownOk Go.Proofs.Try.prog (kf92 Go.Proofs.Try.prog):=kf46_ok.func ok92

/-! (ductility/modal.polynomial).times -/

abbrev as91:List Ty:=[(.pair (.int .i64) (.pair (.int .i64) (.pair (.int .i64) (.pair (.int .i64) (.pair (.int .i64) .unit))))),(.int .i64),(.int .i64)]
abbrev rs91:List Ty:=[(.pair (.int .i64) (.pair (.int .i64) (.pair (.int .i64) (.pair (.int .i64) (.pair (.int .i64) .unit)))))]

def t91 (x0:Int) (x0':Int) (x0'':Int) (x0''':Int) (x0'''':Int) (x1:Int) (x2:Int):Tr (Tys.data rs91) :=
  Tr.fin ((((wrap64 (wrap64 (x1 * x0) + wrap64 (x2 * (0:Int))):Int),((wrap64 (wrap64 (x1 * x0') + wrap64 (x2 * x0)):Int),((wrap64 (wrap64 (x1 * x0'') + wrap64 (x2 * x0')):Int),((wrap64 (wrap64 (x1 * x0''') + wrap64 (x2 * x0'')):Int),((wrap64 (wrap64 (x1 * x0'''') + wrap64 (x2 * x0''')):Int),()))))),()))

def f91 (d:Tys.data as91):Option (Tys.data rs91):=(t91 d.1.1 d.1.2.1 d.1.2.2.1 d.1.2.2.2.1 d.1.2.2.2.2.1 d.2.1 d.2.2.1).val
def g91 (d:Tys.data as91):Tys.data rs91:=(f91 d).getD (Tys.dflt rs91)
def p91:PureC:=pcOf as91 rs91 f91 g91

theorem wk91 (x0:Int) (x0':Int) (x0'':Int) (x0''':Int) (x0'''':Int) (x1:Int) (x2:Int):Walks (runPure (kf92 Go.Proofs.Try.prog).orc Go.Proofs.Try.prog 400 91 as91 rs91 ((x0,x0',x0'',x0''',x0'''',()),x1,x2,())) (t91 x0 x0' x0'' x0''' x0'''' x1 x2) [([],[0,1,1,1,1,1,1,1,1,1,1,1,1,1,1,1])] :=
  ⟨by kernel_rfl,trivial⟩

theorem ok91_t (x0:Int) (x0':Int) (x0'':Int) (x0''':Int) (x0'''':Int) (x1:Int) (x2:Int):TrOk (PureRuns Go.Proofs.Try.prog (kf92 Go.Proofs.Try.prog).orc 91 as91 rs91 ((x0,x0',x0'',x0''',x0'''',()),x1,x2,())) (t91 x0 x0' x0'' x0''' x0'''' x1 x2) :=
  Walks.ok (fun _ _ _=>PureRuns.of) (wk91 x0 x0' x0'' x0''' x0'''' x1 x2) (by kernel_rfl)

theorem ok91:PureOk Go.Proofs.Try.prog 91 p91:=pureOk_of kf92_ok.base (T:=fun (d:Tys.data as91)=>t91 d.1.1 d.1.2.1 d.1.2.2.1 d.1.2.2.2.1 d.1.2.2.2.2.1 d.2.1 d.2.2.1) (by kernel_rfl) (fun (d:Tys.data as91)=>ok91_t d.1.1 d.1.2.1 d.1.2.2.1 d.1.2.2.2.1 d.1.2.2.2.2.1 d.2.1 d.2.2.1)
def kf91 (P:Go.Program):Known:=(kf92 P).func 91 p91
theorem kf91_ok:KnownOk Go.Proofs.Try.prog (kf91 Go.Proofs.Try.prog):=kf92_ok.func ok91

/-! (ductility/modal.polynomial).minus -/

abbrev as93:List Ty:=[(.pair (.int .i64) (.pair (.int .i64) (.pair (.int .i64) (.pair (.int .i64) (.pair (.int .i64) .unit))))),(.pair (.int .i64) (.pair (.int .i64) (.pair (.int .i64) (.pair (.int .i64) (.pair (.int .i64) .unit)))))]
abbrev rs93:List Ty:=[(.pair (.int .i64) (.pair (.int .i64) (.pair (.int .i64) (.pair (.int .i64) (.pair (.int .i64) .unit)))))]

def t93 (x0:Int) (x0':Int) (x0'':Int) (x0''':Int) (x0'''':Int) (x1:Int) (x1':Int) (x1'':Int) (x1''':Int) (x1'''':Int):Tr (Tys.data rs93) :=
  Tr.fin ((((wrap64 (x0 - x1):Int),((wrap64 (x0' - x1'):Int),((wrap64 (x0'' - x1''):Int),((wrap64 (x0''' - x1'''):Int),((wrap64 (x0'''' - x1''''):Int),()))))),()))

def f93 (d:Tys.data as93):Option (Tys.data rs93):=(t93 d.1.1 d.1.2.1 d.1.2.2.1 d.1.2.2.2.1 d.1.2.2.2.2.1 d.2.1.1 d.2.1.2.1 d.2.1.2.2.1 d.2.1.2.2.2.1 d.2.1.2.2.2.2.1).val
def g93 (d:Tys.data as93):Tys.data rs93:=(f93 d).getD (Tys.dflt rs93)
def p93:PureC:=pcOf as93 rs93 f93 g93

theorem wk93 (x0:Int) (x0':Int) (x0'':Int) (x0''':Int) (x0'''':Int) (x1:Int) (x1':Int) (x1'':Int) (x1''':Int) (x1'''':Int):Walks (runPure (kf91 Go.Proofs.Try.prog).orc Go.Proofs.Try.prog 400 93 as93 rs93 ((x0,x0',x0'',x0''',x0'''',()),(x1,x1',x1'',x1''',x1'''',()),())) (t93 x0 x0' x0'' x0''' x0'''' x1 x1' x1'' x1''' x1'''') [([],[0,1,1,1,1,1,1,1,1,1,1,1,1,1,1,1,1,1,1,1,1])] :=
  ⟨by kernel_rfl,trivial⟩

theorem ok93_t (x0:Int) (x0':Int) (x0'':Int) (x0''':Int) (x0'''':Int) (x1:Int) (x1':Int) (x1'':Int) (x1''':Int) (x1'''':Int):TrOk (PureRuns Go.Proofs.Try.prog (kf91 Go.Proofs.Try.prog).orc 93 as93 rs93 ((x0,x0',x0'',x0''',x0'''',()),(x1,x1',x1'',x1''',x1'''',()),())) (t93 x0 x0' x0'' x0''' x0'''' x1 x1' x1'' x1''' x1'''') :=
  Walks.ok (fun _ _ _=>PureRuns.of) (wk93 x0 x0' x0'' x0''' x0'''' x1 x1' x1'' x1''' x1'''') (by kernel_rfl)

theorem ok93:PureOk Go.Proofs.Try.prog 93 p93:=pureOk_of kf91_ok.base (T:=fun (d:Tys.data as93)=>t93 d.1.1 d.1.2.1 d.1.2.2.1 d.1.2.2.2.1 d.1.2.2.2.2.1 d.2.1.1 d.2.1.2.1 d.2.1.2.2.1 d.2.1.2.2.2.1 d.2.1.2.2.2.2.1) (by kernel_rfl) (fun (d:Tys.data as93)=>ok93_t d.1.1 d.1.2.1 d.1.2.2.1 d.1.2.2.2.1 d.1.2.2.2.2.1 d.2.1.1 d.2.1.2.1 d.2.1.2.2.1 d.2.1.2.2.2.1 d.2.1.2.2.2.2.1)
def kf93 (P:Go.Program):Known:=(kf91 P).func 93 p93
theorem kf93_ok:KnownOk Go.Proofs.Try.prog (kf93 Go.Proofs.Try.prog):=kf91_ok.func ok93

/-! ductility/modal.denError -/

abbrev as53:List Ty:=[(.int .i64)]
abbrev rs53:List Ty:=[(.int .i64)]

def t53 (x0:Int):Tr (Tys.data rs53) :=
  Tr.test (Option.isSome (f51 ((1:Int),((50:Int),(([x0]:List Int),())))))
    (let r0:=g51 ((1:Int),((50:Int),(([x0]:List Int),())));
    Tr.test (Option.isSome (f52 ((!r0.1:Bool),((2:Int),()))))
      (let r1:=g52 ((!r0.1:Bool),((2:Int),()));
      Tr.fin ((r1.1,())))
      (Tr.stop))
    (Tr.stop)

def f53 (d:Tys.data as53):Option (Tys.data rs53):=(t53 d.1).val
def g53 (d:Tys.data as53):Tys.data rs53:=(f53 d).getD (Tys.dflt rs53)
def p53:PureC:=pcOf as53 rs53 f53 g53

theorem wk53 (x0:Int):Walks (runPure (kf93 Go.Proofs.Try.prog).orc Go.Proofs.Try.prog 400 53 as53 rs53 (x0,())) (t53 x0) [([true,true],[2,4,1])] :=
  ⟨by kernel_rfl,trivial⟩

theorem ok53_t (x0:Int):TrOk (PureRuns Go.Proofs.Try.prog (kf93 Go.Proofs.Try.prog).orc 53 as53 rs53 (x0,())) (t53 x0) :=
  Walks.ok (fun _ _ _=>PureRuns.of) (wk53 x0) (by kernel_rfl)

theorem ok53:PureOk Go.Proofs.Try.prog 53 p53:=pureOk_of kf93_ok.base (T:=fun (d:Tys.data as53)=>t53 d.1) (by kernel_rfl) (fun (d:Tys.data as53)=>ok53_t d.1)
def kf53 (P:Go.Program):Known:=(kf93 P).func 53 p53
theorem kf53_ok:KnownOk Go.Proofs.Try.prog (kf53 Go.Proofs.Try.prog):=kf93_ok.func ok53

/-! (ductility/modal.polynomial).at -/

abbrev as111:List Ty:=[(.pair (.int .i64) (.pair (.int .i64) (.pair (.int .i64) (.pair (.int .i64) (.pair (.int .i64) .unit))))),(.pair (.int .i64) (.pair (.int .i64) .unit))]
abbrev rs111:List Ty:=[(.int .i64)]

def t111 (x0:Int) (x0':Int) (x0'':Int) (x0''':Int) (x0'''':Int) (x1:Int) (x1':Int):Tr (Tys.data rs111) :=
  Tr.fin (((wrap64 (wrap64 (wrap64 (wrap64 (wrap64 (wrap64 (wrap64 (wrap64 (wrap64 (wrap64 ((0:Int) * x1) + wrap64 (x0'''' * (1:Int))) * x1) + wrap64 (x0''' * wrap64 ((1:Int) * x1'))) * x1) + wrap64 (x0'' * wrap64 (wrap64 ((1:Int) * x1') * x1'))) * x1) + wrap64 (x0' * wrap64 (wrap64 (wrap64 ((1:Int) * x1') * x1') * x1'))) * x1) + wrap64 (x0 * wrap64 (wrap64 (wrap64 (wrap64 ((1:Int) * x1') * x1') * x1') * x1'))):Int),()))

def f111 (d:Tys.data as111):Option (Tys.data rs111):=(t111 d.1.1 d.1.2.1 d.1.2.2.1 d.1.2.2.2.1 d.1.2.2.2.2.1 d.2.1.1 d.2.1.2.1).val
def g111 (d:Tys.data as111):Tys.data rs111:=(f111 d).getD (Tys.dflt rs111)
def p111:PureC:=pcOf as111 rs111 f111 g111

theorem wk111 (x0:Int) (x0':Int) (x0'':Int) (x0''':Int) (x0'''':Int) (x1:Int) (x1':Int):Walks (runPure (kf53 Go.Proofs.Try.prog).orc Go.Proofs.Try.prog 400 111 as111 rs111 ((x0,x0',x0'',x0''',x0'''',()),(x1,x1',()),())) (t111 x0 x0' x0'' x0''' x0'''' x1 x1') [([],[0,0,1,1,0,1,1,0,1,1,0,1,1,0,1,1])] :=
  ⟨by kernel_rfl,trivial⟩

theorem ok111_t (x0:Int) (x0':Int) (x0'':Int) (x0''':Int) (x0'''':Int) (x1:Int) (x1':Int):TrOk (PureRuns Go.Proofs.Try.prog (kf53 Go.Proofs.Try.prog).orc 111 as111 rs111 ((x0,x0',x0'',x0''',x0'''',()),(x1,x1',()),())) (t111 x0 x0' x0'' x0''' x0'''' x1 x1') :=
  Walks.ok (fun _ _ _=>PureRuns.of) (wk111 x0 x0' x0'' x0''' x0'''' x1 x1') (by kernel_rfl)

theorem ok111:PureOk Go.Proofs.Try.prog 111 p111:=pureOk_of kf53_ok.base (T:=fun (d:Tys.data as111)=>t111 d.1.1 d.1.2.1 d.1.2.2.1 d.1.2.2.2.1 d.1.2.2.2.2.1 d.2.1.1 d.2.1.2.1) (by kernel_rfl) (fun (d:Tys.data as111)=>ok111_t d.1.1 d.1.2.1 d.1.2.2.1 d.1.2.2.2.1 d.1.2.2.2.2.1 d.2.1.1 d.2.1.2.1)
def kf111 (P:Go.Program):Known:=(kf53 P).func 111 p111
theorem kf111_ok:KnownOk Go.Proofs.Try.prog (kf111 Go.Proofs.Try.prog):=kf53_ok.func ok111

theorem sc82_0:sameRf Go.Proofs.Try.prog 82 0 = true:=sameRf_ok (by kernel_rfl)

/-! loop 0 of (ductility/modal.frame).determinants$1 -/

abbrev sh90_0 (P:Go.Program):Sh:={ n:=49,slots:=[0,1,3,4,13,14,15],pats:=[.yld 0,.ptr 1 2 0,.ptr 2 5 0,.ptr 3 5 0,.ty (.slice (.int .i64)),.ty (.int .i64),.ty (.int .i64)],boxes:=[.lp (lpOf P 82 0 .ready none 17 [3,5] 4) [.ptr 5 2 0,.ptr 6 1 0],.row [.ty (.slice (.int .i64)),.ty (.slice (.int .i64))],.row [.ty (.int .i64),.ty (.int .i64),.ty (.int .i64),.ty (.int .i64),.ty (.int .i64)],.row [.ty (.int .i64),.ty (.int .i64),.ty (.int .i64),.ty (.int .i64),.ty (.int .i64)],.dfr,.row [.ty (.int .i64),.ty (.int .i64)],.row [.acc (.int .i64)]] }
abbrev shb90_0 (P:Go.Program):Sh:={ n:=49,slots:=[0,4],pats:=[.yld 0,.ptr 3 5 0],boxes:=[.lp (lpOf P 82 0 .ready none 17 [3,5] 4) [.ptr 5 2 0,.ptr 6 1 0],.row [.ty (.slice (.int .i64)),.ty (.slice (.int .i64))],.row [.ty (.int .i64),.ty (.int .i64),.ty (.int .i64),.ty (.int .i64),.ty (.int .i64)],.row [.ty (.int .i64),.ty (.int .i64),.ty (.int .i64),.ty (.int .i64),.ty (.int .i64)],.dfr,.row [.ty (.int .i64),.ty (.int .i64)],.row [.acc (.int .i64)]] }
abbrev shr90_0 (P:Go.Program):Sh:={ n:=49,slots:=[],pats:=[],boxes:=[.lp (lpOf P 82 0 .ready none 17 [3,5] 4) [.ptr 5 2 0,.ptr 6 1 0],.row [.ty (.slice (.int .i64)),.ty (.slice (.int .i64))],.row [.ty (.int .i64),.ty (.int .i64),.ty (.int .i64),.ty (.int .i64),.ty (.int .i64)],.row [.ty (.int .i64),.ty (.int .i64),.ty (.int .i64),.ty (.int .i64),.ty (.int .i64)],.dfr,.row [.ty (.int .i64),.ty (.int .i64)],.row [.acc (.int .i64)]] }

abbrev dt90_0:Type:=(List Int×Int×Int×PUnit)×PUnit×(List Int×List Int×PUnit)×(Int×Int×Int×Int×Int×PUnit)×(Int×Int×Int×Int×Int×PUnit)×(Int×Int×PUnit)×(List Int×PUnit)×PUnit
abbrev db90_0:Type:=PUnit×PUnit×(List Int×List Int×PUnit)×(Int×Int×Int×Int×Int×PUnit)×(Int×Int×Int×Int×Int×PUnit)×(Int×Int×PUnit)×(List Int×PUnit)×PUnit
abbrev dr90_0:Type:=PUnit×PUnit×(List Int×List Int×PUnit)×(Int×Int×Int×Int×Int×PUnit)×(Int×Int×Int×Int×Int×PUnit)×(Int×Int×PUnit)×(List Int×PUnit)×PUnit

def t90_0 (x4:(List Int)) (x5:Int) (x6:Int) (b1_0:(List Int)) (b1_1:(List Int)) (b2_0:Int) (b2_1:Int) (b2_2:Int) (b2_3:Int) (b2_4:Int) (b3_0:Int) (b3_1:Int) (b3_2:Int) (b3_3:Int) (b3_4:Int) (b5_0:Int) (b5_1:Int) (b6_0:(List Int)):Tr (Out dt90_0 db90_0 dr90_0) :=
  Tr.test ((!leF x5 x6:Bool))
    (Tr.test (decide ((0:Int) ≤ x6) && decide (x6 < (↑(List.length x4):Int)))
      (Tr.test (Option.isSome (f111 ((b3_0,(b3_1,(b3_2,(b3_3,(b3_4,()))))),((b5_0,(b5_1,())),()))))
        (Tr.test ((Nat.ble (((2:Nat) * (List.length b6_0 + (1:Nat)) + (192:Nat)) * (8:Nat)) (281474976710656:Nat) && Nat.ble (List.length b6_0 + (1:Nat)) (281474976710656:Nat):Bool))
          (Tr.test ((decide ((0:Int) ≤ x6) && decide (x6 < (↑(List.length b1_1):Int)):Bool))
            (Tr.test (Option.isSome (f92 (((b1_0,(b1_1,())),()),(x6,()))))
              (let r1:=g92 (((b1_0,(b1_1,())),()),(x6,()));
              Tr.test (Option.isSome (f91 ((b3_0,(b3_1,(b3_2,(b3_3,(b3_4,()))))),(r1.1,((Go.IntKind.wrap Go.IntKind.i64 ((0:Int) - List.getD x4 (Int.toNat x6) (0:Int)):Int),())))))
                (Tr.test (Option.isSome (f91 ((b2_0,(b2_1,(b2_2,(b2_3,(b2_4,()))))),((wrap64 (List.getD b1_1 (Int.toNat x6) (0:Int) * List.getD b1_1 (Int.toNat x6) (0:Int)):Int),((0:Int),())))))
                  (let r2:=g91 ((b3_0,(b3_1,(b3_2,(b3_3,(b3_4,()))))),(r1.1,((Go.IntKind.wrap Go.IntKind.i64 ((0:Int) - List.getD x4 (Int.toNat x6) (0:Int)):Int),())));
                  let r3:=g91 ((b2_0,(b2_1,(b2_2,(b2_3,(b2_4,()))))),((wrap64 (List.getD b1_1 (Int.toNat x6) (0:Int) * List.getD b1_1 (Int.toNat x6) (0:Int)):Int),((0:Int),())));
                  Tr.test (Option.isSome (f93 ((r2.1.1,(r2.1.2.1,(r2.1.2.2.1,(r2.1.2.2.2.1,(r2.1.2.2.2.2.1,()))))),((r3.1.1,(r3.1.2.1,(r3.1.2.2.1,(r3.1.2.2.2.1,(r3.1.2.2.2.2.1,()))))),()))))
                    (let r0:=g111 ((b3_0,(b3_1,(b3_2,(b3_3,(b3_4,()))))),((b5_0,(b5_1,())),()));
                    let r4:=g93 ((r2.1.1,(r2.1.2.1,(r2.1.2.2.1,(r2.1.2.2.2.1,(r2.1.2.2.2.2.1,()))))),((r3.1.1,(r3.1.2.1,(r3.1.2.2.1,(r3.1.2.2.2.1,(r3.1.2.2.2.2.1,()))))),()));
                    Tr.fin (.again ((x4,(x5,((wrap64 (x6 + (1:Int)):Int),()))),((),((b1_0,(b1_1,())),((b3_0,(b3_1,(b3_2,(b3_3,(b3_4,()))))),((r4.1.1,(r4.1.2.1,(r4.1.2.2.1,(r4.1.2.2.2.1,(r4.1.2.2.2.2.1,()))))),((b5_0,(b5_1,())),(((b6_0++[r0.1]:List Int),()),())))))))))
                    (Tr.stop))
                  (Tr.stop))
                (Tr.stop))
              (Tr.stop))
            (Tr.stop))
          (Tr.stop))
        (Tr.stop))
      (Tr.stop))
    (Tr.fin (.brk ((),((),((b1_0,(b1_1,())),((b2_0,(b2_1,(b2_2,(b2_3,(b2_4,()))))),((b3_0,(b3_1,(b3_2,(b3_3,(b3_4,()))))),((b5_0,(b5_1,())),((b6_0,()),())))))))))

def s90_0 (d:dt90_0):Option (Out dt90_0 db90_0 dr90_0):=(t90_0 d.1.1 d.1.2.1 d.1.2.2.1 d.2.2.1.1 d.2.2.1.2.1 d.2.2.2.1.1 d.2.2.2.1.2.1 d.2.2.2.1.2.2.1 d.2.2.2.1.2.2.2.1 d.2.2.2.1.2.2.2.2.1 d.2.2.2.2.1.1 d.2.2.2.2.1.2.1 d.2.2.2.2.1.2.2.1 d.2.2.2.2.1.2.2.2.1 d.2.2.2.2.1.2.2.2.2.1 d.2.2.2.2.2.1.1 d.2.2.2.2.2.1.2.1 d.2.2.2.2.2.2.1.1).val
def l90_0 (d:dt90_0):Option (db90_0 ⊕ dr90_0):=itr s90_0 rounds d
def b90_0 (d:dt90_0):db90_0:=outB (((),((),((([]:List Int),(([]:List Int),())),(((0:Int),((0:Int),((0:Int),((0:Int),((0:Int),()))))),(((0:Int),((0:Int),((0:Int),((0:Int),((0:Int),()))))),(((0:Int),((0:Int),())),((([]:List Int),()),())))))))) (l90_0 d)
def lc90_0 (P:Go.Program):LoopC:=lcB (sh90_0 P) (shb90_0 P) (shr90_0 P) l90_0 b90_0

theorem e90_0_0 (x4:(List Int)) (x5:Int) (x6:Int) (b1_0:(List Int)) (b1_1:(List Int)) (b2_0:Int) (b2_1:Int) (b2_2:Int) (b2_3:Int) (b2_4:Int) (b3_0:Int) (b3_1:Int) (b3_2:Int) (b3_3:Int) (b3_4:Int) (b5_0:Int) (b5_1:Int) (b6_0:(List Int)):runBody (kf111 Go.Proofs.Try.prog).orc Go.Proofs.Try.prog 400 90 0 (sh90_0 Go.Proofs.Try.prog) (shb90_0 Go.Proofs.Try.prog) (shr90_0 Go.Proofs.Try.prog) ((x4,x5,x6,()),(),(b1_0,b1_1,()),(b2_0,b2_1,b2_2,b2_3,b2_4,()),(b3_0,b3_1,b3_2,b3_3,b3_4,()),(b5_0,b5_1,()),(b6_0,()),()) [tt,tt,tt,ff,tt,tt,ff,tt,tt,tt,tt,tt] =
    (let r1:=g92 (((b1_0,(b1_1,())),()),(x6,()));let r2:=g91 ((b3_0,(b3_1,(b3_2,(b3_3,(b3_4,()))))),(r1.1,((Go.IntKind.wrap Go.IntKind.i64 ((0:Int) - List.getD x4 (Int.toNat x6) (0:Int)):Int),())));let r3:=g91 ((b2_0,(b2_1,(b2_2,(b2_3,(b2_4,()))))),((wrap64 (List.getD b1_1 (Int.toNat x6) (0:Int) * List.getD b1_1 (Int.toNat x6) (0:Int)):Int),((0:Int),())));let r0:=g111 ((b3_0,(b3_1,(b3_2,(b3_3,(b3_4,()))))),((b5_0,(b5_1,())),()));let r4:=g93 ((r2.1.1,(r2.1.2.1,(r2.1.2.2.1,(r2.1.2.2.2.1,(r2.1.2.2.2.2.1,()))))),((r3.1.1,(r3.1.2.1,(r3.1.2.2.1,(r3.1.2.2.2.1,(r3.1.2.2.2.2.1,()))))),())); some (.again ((x4,(x5,((wrap64 (x6 + (1:Int)):Int),()))),((),((b1_0,(b1_1,())),((b3_0,(b3_1,(b3_2,(b3_3,(b3_4,()))))),((r4.1.1,(r4.1.2.1,(r4.1.2.2.1,(r4.1.2.2.2.1,(r4.1.2.2.2.2.1,()))))),((b5_0,(b5_1,())),(((b6_0++[r0.1]:List Int),()),()))))))),[(sameRf Go.Proofs.Try.prog (nat_lit 82) (nat_lit 0),true),(Option.isSome (f93 ((r2.1.1,(r2.1.2.1,(r2.1.2.2.1,(r2.1.2.2.2.1,(r2.1.2.2.2.2.1,()))))),((r3.1.1,(r3.1.2.1,(r3.1.2.2.1,(r3.1.2.2.2.1,(r3.1.2.2.2.2.1,()))))),()))),true),(Option.isSome (f91 ((b2_0,(b2_1,(b2_2,(b2_3,(b2_4,()))))),((wrap64 (List.getD b1_1 (Int.toNat x6) (0:Int) * List.getD b1_1 (Int.toNat x6) (0:Int)):Int),((0:Int),())))),true),(Option.isSome (f91 ((b3_0,(b3_1,(b3_2,(b3_3,(b3_4,()))))),(r1.1,((Go.IntKind.wrap Go.IntKind.i64 ((0:Int) - List.getD x4 (Int.toNat x6) (0:Int)):Int),())))),true),(Option.isSome (f92 (((b1_0,(b1_1,())),()),(x6,()))),true),(decide ((0:Int) ≤ x6) && decide (x6 < (↑(List.length b1_1):Int)),true),(false,false),(true,true),(Nat.ble (((2:Nat) * (List.length b6_0 + (1:Nat)) + (192:Nat)) * (8:Nat)) (281474976710656:Nat) && Nat.ble (List.length b6_0 + (1:Nat)) (281474976710656:Nat),true),(false,false),(Option.isSome (f111 ((b3_0,(b3_1,(b3_2,(b3_3,(b3_4,()))))),((b5_0,(b5_1,())),()))),true),(decide ((0:Int) ≤ x6) && decide (x6 < (↑(List.length x4):Int)),true),(!leF x5 x6,true)])):=by kernel_rfl
theorem e90_0_4 (x4:(List Int)) (x5:Int) (x6:Int) (b1_0:(List Int)) (b1_1:(List Int)) (b2_0:Int) (b2_1:Int) (b2_2:Int) (b2_3:Int) (b2_4:Int) (b3_0:Int) (b3_1:Int) (b3_2:Int) (b3_3:Int) (b3_4:Int) (b5_0:Int) (b5_1:Int) (b6_0:(List Int)):runBody (kf111 Go.Proofs.Try.prog).orc Go.Proofs.Try.prog 400 90 0 (sh90_0 Go.Proofs.Try.prog) (shb90_0 Go.Proofs.Try.prog) (shr90_0 Go.Proofs.Try.prog) ((x4,x5,x6,()),(),(b1_0,b1_1,()),(b2_0,b2_1,b2_2,b2_3,b2_4,()),(b3_0,b3_1,b3_2,b3_3,b3_4,()),(b5_0,b5_1,()),(b6_0,()),()) [ff] =
    (some (.brk ((),((),((b1_0,(b1_1,())),((b2_0,(b2_1,(b2_2,(b2_3,(b2_4,()))))),((b3_0,(b3_1,(b3_2,(b3_3,(b3_4,()))))),((b5_0,(b5_1,())),((b6_0,()),()))))))),[(sameRf Go.Proofs.Try.prog (nat_lit 82) (nat_lit 0),true),(!leF x5 x6,false)])):=by kernel_rfl

theorem ok90_0_t (x4:(List Int)) (x5:Int) (x6:Int) (b1_0:(List Int)) (b1_1:(List Int)) (b2_0:Int) (b2_1:Int) (b2_2:Int) (b2_3:Int) (b2_4:Int) (b3_0:Int) (b3_1:Int) (b3_2:Int) (b3_3:Int) (b3_4:Int) (b5_0:Int) (b5_1:Int) (b6_0:(List Int)):TrOk (BodyRuns Go.Proofs.Try.prog (kf111 Go.Proofs.Try.prog).orc 90 0 (sh90_0 Go.Proofs.Try.prog) (shb90_0 Go.Proofs.Try.prog) (shr90_0 Go.Proofs.Try.prog) ((x4,x5,x6,()),(),(b1_0,b1_1,()),(b2_0,b2_1,b2_2,b2_3,b2_4,()),(b3_0,b3_1,b3_2,b3_3,b3_4,()),(b5_0,b5_1,()),(b6_0,()),())) (t90_0 x4 x5 x6 b1_0 b1_1 b2_0 b2_1 b2_2 b2_3 b2_4 b3_0 b3_1 b3_2 b3_3 b3_4 b5_0 b5_1 b6_0) :=
  TrOk.ofTest (fun h0=>TrOk.ofTest (fun h1=>TrOk.ofTest (fun h2=>TrOk.ofTest (fun h4=>TrOk.ofTest (fun h7=>TrOk.ofTest (fun h8=>TrOk.ofTest (fun h9=>TrOk.ofTest (fun h10=>TrOk.ofTest (fun h11=>TrOk.ofFin (BodyRuns.of (e90_0_0 x4 x5 x6 b1_0 b1_1 b2_0 b2_1 b2_2 b2_3 b2_4 b3_0 b3_1 b3_2 b3_3 b3_4 b5_0 b5_1 b6_0) (ac (sc82_0) (ac h11 (ac h10 (ac h9 (ac h8 (ac h7 (ac rfl (ac rfl (ac h4 (ac rfl (ac h2 (ac h1 (ac h0 All.nil))))))))))))))) (fun h11=>TrOk.ofStop)) (fun h10=>TrOk.ofStop)) (fun h9=>TrOk.ofStop)) (fun h8=>TrOk.ofStop)) (fun h7=>TrOk.ofStop)) (fun h4=>TrOk.ofStop)) (fun h2=>TrOk.ofStop)) (fun h1=>TrOk.ofStop)) (fun h0=>TrOk.ofFin (BodyRuns.of (e90_0_4 x4 x5 x6 b1_0 b1_1 b2_0 b2_1 b2_2 b2_3 b2_4 b3_0 b3_1 b3_2 b3_3 b3_4 b5_0 b5_1 b6_0) (ac (sc82_0) (ac h0 All.nil))))

theorem ok90_0:LoopOk Go.Proofs.Try.prog 90 0 (lc90_0 Go.Proofs.Try.prog):=loopOk_ofB (sh:=(sh90_0 Go.Proofs.Try.prog)) (shB:=(shb90_0 Go.Proofs.Try.prog)) (shR:=(shr90_0 Go.Proofs.Try.prog)) kf111_ok.base (T:=fun (d:dt90_0)=>t90_0 d.1.1 d.1.2.1 d.1.2.2.1 d.2.2.1.1 d.2.2.1.2.1 d.2.2.2.1.1 d.2.2.2.1.2.1 d.2.2.2.1.2.2.1 d.2.2.2.1.2.2.2.1 d.2.2.2.1.2.2.2.2.1 d.2.2.2.2.1.1 d.2.2.2.2.1.2.1 d.2.2.2.2.1.2.2.1 d.2.2.2.2.1.2.2.2.1 d.2.2.2.2.1.2.2.2.2.1 d.2.2.2.2.2.1.1 d.2.2.2.2.2.1.2.1 d.2.2.2.2.2.2.1.1) (by kernel_rfl) rfl (fun (d:dt90_0)=>ok90_0_t d.1.1 d.1.2.1 d.1.2.2.1 d.2.2.1.1 d.2.2.1.2.1 d.2.2.2.1.1 d.2.2.2.1.2.1 d.2.2.2.1.2.2.1 d.2.2.2.1.2.2.2.1 d.2.2.2.1.2.2.2.2.1 d.2.2.2.2.1.1 d.2.2.2.2.1.2.1 d.2.2.2.2.1.2.2.1 d.2.2.2.2.1.2.2.2.1 d.2.2.2.2.1.2.2.2.2.1 d.2.2.2.2.2.1.1 d.2.2.2.2.2.1.2.1 d.2.2.2.2.2.2.1.1) (fun _=>rfl)
def kl90_0 (P:Go.Program):Known:=(kf111 P).loop 90 0 (lc90_0 P)
theorem kl90_0_ok:KnownOk Go.Proofs.Try.prog (kl90_0 Go.Proofs.Try.prog):=kf111_ok.loop ok90_0

/-! (ductility/modal.frame).valuesAt -/

abbrev as82:List Ty:=[(.pair (.pair (.slice (.int .i64)) (.pair (.slice (.int .i64)) .unit)) .unit),(.pair (.int .i64) (.pair (.int .i64) .unit))]
abbrev rs82:List Ty:=[(.slice (.int .i64))]

def t82 (x0_:(List Int)) (x0_':(List Int)) (x1:Int) (x1':Int):Tr (Tys.data rs82) :=
  Tr.test (isBrk (l90_0 ((x0_,((↑(List.length x0_):Int),((0:Int),()))),((),((x0_,(x0_',())),(((0:Int),((0:Int),((0:Int),((0:Int),((0:Int),()))))),(((1:Int),((0:Int),((0:Int),((0:Int),((0:Int),()))))),((x1,(x1',())),((([]:List Int),()),())))))))))
    (let r0:=b90_0 ((x0_,((↑(List.length x0_):Int),((0:Int),()))),((),((x0_,(x0_',())),(((0:Int),((0:Int),((0:Int),((0:Int),((0:Int),()))))),(((1:Int),((0:Int),((0:Int),((0:Int),((0:Int),()))))),((x1,(x1',())),((([]:List Int),()),())))))));
    Tr.test (Option.isSome (f111 ((r0.2.2.2.2.1.1,(r0.2.2.2.2.1.2.1,(r0.2.2.2.2.1.2.2.1,(r0.2.2.2.2.1.2.2.2.1,(r0.2.2.2.2.1.2.2.2.2.1,()))))),((r0.2.2.2.2.2.1.1,(r0.2.2.2.2.2.1.2.1,())),()))))
      (Tr.test ((Nat.ble (((2:Nat) * (List.length r0.2.2.2.2.2.2.1.1 + (1:Nat)) + (192:Nat)) * (8:Nat)) (281474976710656:Nat) && Nat.ble (List.length r0.2.2.2.2.2.2.1.1 + (1:Nat)) (281474976710656:Nat):Bool))
        (let r1:=g111 ((r0.2.2.2.2.1.1,(r0.2.2.2.2.1.2.1,(r0.2.2.2.2.1.2.2.1,(r0.2.2.2.2.1.2.2.2.1,(r0.2.2.2.2.1.2.2.2.2.1,()))))),((r0.2.2.2.2.2.1.1,(r0.2.2.2.2.2.1.2.1,())),()));
        Tr.fin (((r0.2.2.2.2.2.2.1.1++[r1.1]:List Int),())))
        (Tr.stop))
      (Tr.stop))
    (Tr.stop)

def f82 (d:Tys.data as82):Option (Tys.data rs82):=(t82 d.1.1.1 d.1.1.2.1 d.2.1.1 d.2.1.2.1).val
def g82 (d:Tys.data as82):Tys.data rs82:=(f82 d).getD (Tys.dflt rs82)
def p82:PureC:=pcOf as82 rs82 f82 g82

theorem e82_0 (x0_:(List Int)) (x0_':(List Int)) (x1:Int) (x1':Int):runPure (kl90_0 Go.Proofs.Try.prog).orc Go.Proofs.Try.prog 400 82 as82 rs82 (((x0_,x0_',()),()),(x1,x1',()),()) [tt,tt,tt,tt,ff,tt,tt] =
    (let r0:=b90_0 ((x0_,((↑(List.length x0_):Int),((0:Int),()))),((),((x0_,(x0_',())),(((0:Int),((0:Int),((0:Int),((0:Int),((0:Int),()))))),(((1:Int),((0:Int),((0:Int),((0:Int),((0:Int),()))))),((x1,(x1',())),((([]:List Int),()),())))))));let r1:=g111 ((r0.2.2.2.2.1.1,(r0.2.2.2.2.1.2.1,(r0.2.2.2.2.1.2.2.1,(r0.2.2.2.2.1.2.2.2.1,(r0.2.2.2.2.1.2.2.2.2.1,()))))),((r0.2.2.2.2.2.1.1,(r0.2.2.2.2.2.1.2.1,())),())); some (((r0.2.2.2.2.2.2.1.1++[r1.1]:List Int),()),[(true,true),(Nat.ble (((2:Nat) * (List.length r0.2.2.2.2.2.2.1.1 + (1:Nat)) + (192:Nat)) * (8:Nat)) (281474976710656:Nat) && Nat.ble (List.length r0.2.2.2.2.2.2.1.1 + (1:Nat)) (281474976710656:Nat),true),(false,false),(Option.isSome (f111 ((r0.2.2.2.2.1.1,(r0.2.2.2.2.1.2.1,(r0.2.2.2.2.1.2.2.1,(r0.2.2.2.2.1.2.2.2.1,(r0.2.2.2.2.1.2.2.2.2.1,()))))),((r0.2.2.2.2.2.1.1,(r0.2.2.2.2.2.1.2.1,())),()))),true),(true,true),(isBrk (l90_0 ((x0_,((↑(List.length x0_):Int),((0:Int),()))),((),((x0_,(x0_',())),(((0:Int),((0:Int),((0:Int),((0:Int),((0:Int),()))))),(((1:Int),((0:Int),((0:Int),((0:Int),((0:Int),()))))),((x1,(x1',())),((([]:List Int),()),())))))))),true),(sameRf Go.Proofs.Try.prog (nat_lit 82) (nat_lit 0),true)])):=by kernel_rfl

theorem ok82_t (x0_:(List Int)) (x0_':(List Int)) (x1:Int) (x1':Int):TrOk (PureRuns Go.Proofs.Try.prog (kl90_0 Go.Proofs.Try.prog).orc 82 as82 rs82 (((x0_,x0_',()),()),(x1,x1',()),())) (t82 x0_ x0_' x1 x1') :=
  TrOk.ofTest (fun h1=>TrOk.ofTest (fun h3=>TrOk.ofTest (fun h5=>TrOk.ofFin (PureRuns.of (e82_0 x0_ x0_' x1 x1') (ac rfl (ac h5 (ac rfl (ac h3 (ac rfl (ac h1 (ac (sc82_0) All.nil))))))))) (fun h5=>TrOk.ofStop)) (fun h3=>TrOk.ofStop)) (fun h1=>TrOk.ofStop)

theorem ok82:PureOk Go.Proofs.Try.prog 82 p82:=pureOk_of kl90_0_ok.base (T:=fun (d:Tys.data as82)=>t82 d.1.1.1 d.1.1.2.1 d.2.1.1 d.2.1.2.1) (by kernel_rfl) (fun (d:Tys.data as82)=>ok82_t d.1.1.1 d.1.1.2.1 d.2.1.1 d.2.1.2.1)
def kf82 (P:Go.Program):Known:=(kl90_0 P).func 82 p82
theorem kf82_ok:KnownOk Go.Proofs.Try.prog (kf82 Go.Proofs.Try.prog):=kl90_0_ok.func ok82

/-! ductility/modal.signOf -/

abbrev as110:List Ty:=[(.int .i64)]
abbrev rs110:List Ty:=[(.int .i64)]

def t110 (x0:Int):Tr (Tys.data rs110) :=
  Tr.test ((!leF (0:Int) x0:Bool))
    (Tr.fin (((-1:Int),())))
    (Tr.test (!leF x0 0)
      (Tr.fin (((1:Int),())))
      (Tr.fin (((0:Int),()))))

def f110 (d:Tys.data as110):Option (Tys.data rs110):=(t110 d.1).val
def g110 (d:Tys.data as110):Tys.data rs110:=(f110 d).getD (Tys.dflt rs110)
def p110:PureC:=pcOf as110 rs110 f110 g110

theorem wk110 (x0:Int):Walks (runPure (kf82 Go.Proofs.Try.prog).orc Go.Proofs.Try.prog 400 110 as110 rs110 (x0,())) (t110 x0) [([tt],[2]),([false,true],[2,4]),([false,false],[2,4])] :=
  ⟨by kernel_rfl,by kernel_rfl,by kernel_rfl,trivial⟩

theorem ok110_t (x0:Int):TrOk (PureRuns Go.Proofs.Try.prog (kf82 Go.Proofs.Try.prog).orc 110 as110 rs110 (x0,())) (t110 x0) :=
  Walks.ok (fun _ _ _=>PureRuns.of) (wk110 x0) (by kernel_rfl)

theorem ok110:PureOk Go.Proofs.Try.prog 110 p110:=pureOk_of kf82_ok.base (T:=fun (d:Tys.data as110)=>t110 d.1) (by kernel_rfl) (fun (d:Tys.data as110)=>ok110_t d.1)
def kf110 (P:Go.Program):Known:=(kf82 P).func 110 p110
theorem kf110_ok:KnownOk Go.Proofs.Try.prog (kf110 Go.Proofs.Try.prog):=kf82_ok.func ok110

/-! loop 0 of ductility/modal.changesIn -/

abbrev sh81_0:Sh:={ n:=27,slots:=[3,4,8,9,10],pats:=[.ty (.int .i64),.ty (.int .i64),.ty (.slice (.int .i64)),.ty (.int .i64),.ty (.int .i64)],boxes:=[] }
abbrev shb81_0:Sh:={ n:=27,slots:=[3],pats:=[.ty (.int .i64)],boxes:=[] }
abbrev shr81_0:Sh:={ n:=27,slots:=[],pats:=[],boxes:=[] }

def t81_0 (x0:Int) (x1:Int) (x2:(List Int)) (x3:Int) (x4:Int):Tr (Out sh81_0.data shb81_0.data shr81_0.data) :=
  Tr.test ((!leF x3 x4:Bool))
    (Tr.test (decide ((0:Int) ≤ x4) && decide (x4 < (↑(List.length x2):Int)))
      (Tr.test (Option.isSome (f110 ((List.getD x2 (Int.toNat x4) (0:Int):Int),())))
        (let r0:=g110 ((List.getD x2 (Int.toNat x4) (0:Int):Int),());
        Tr.test ((!leF (0:Int) (wrap64 (r0.1 * x1)):Bool))
          (Tr.test ((!eqF r0.1 0:Bool))
            (Tr.fin (.again (((wrap64 (x0 + (1:Int)):Int),(r0.1,(x2,(x3,((wrap64 (x4 + (1:Int)):Int),()))))),())))
            (Tr.fin (.again (((wrap64 (x0 + (1:Int)):Int),(x1,(x2,(x3,((wrap64 (x4 + (1:Int)):Int),()))))),()))))
          (Tr.test ((!eqF r0.1 0:Bool))
            (Tr.fin (.again ((x0,(r0.1,(x2,(x3,((wrap64 (x4 + (1:Int)):Int),()))))),())))
            (Tr.fin (.again ((x0,(x1,(x2,(x3,((wrap64 (x4 + (1:Int)):Int),()))))),())))))
        (Tr.stop))
      (Tr.stop))
    (Tr.fin (.brk ((x0,()),())))

def s81_0 (d:sh81_0.data):Option (Out sh81_0.data shb81_0.data shr81_0.data):=(t81_0 d.1.1 d.1.2.1 d.1.2.2.1 d.1.2.2.2.1 d.1.2.2.2.2.1).val
def l81_0 (d:sh81_0.data):Option (shb81_0.data ⊕ shr81_0.data):=itr s81_0 rounds d
def b81_0 (d:sh81_0.data):shb81_0.data:=outB shb81_0.dflt (l81_0 d)
def lc81_0:LoopC:=lcB sh81_0 shb81_0 shr81_0 l81_0 b81_0

theorem wk81_0 (x0:Int) (x1:Int) (x2:(List Int)) (x3:Int) (x4:Int):Walks (runBody (kf110 Go.Proofs.Try.prog).orc Go.Proofs.Try.prog 400 81 0 sh81_0 shb81_0 shr81_0 ((x0,x1,x2,x3,x4,()),())) (t81_0 x0 x1 x2 x3 x4) [([true,true,true,true,true],[2,4,6,8,10]),([true,true,true,true,false],[2,4,6,8,10]),([true,true,true,false,true],[2,4,6,8,10]),([true,true,true,false,false],[2,4,6,8,10]),([ff],[2])] :=
  ⟨by kernel_rfl,by kernel_rfl,by kernel_rfl,by kernel_rfl,by kernel_rfl,trivial⟩

theorem ok81_0_t (x0:Int) (x1:Int) (x2:(List Int)) (x3:Int) (x4:Int):TrOk (BodyRuns Go.Proofs.Try.prog (kf110 Go.Proofs.Try.prog).orc 81 0 sh81_0 shb81_0 shr81_0 ((x0,x1,x2,x3,x4,()),())) (t81_0 x0 x1 x2 x3 x4) :=
  Walks.ok (fun _ _ _=>BodyRuns.of) (wk81_0 x0 x1 x2 x3 x4) (by kernel_rfl)

theorem ok81_0:LoopOk Go.Proofs.Try.prog 81 0 lc81_0:=loopOk_ofB (sh:=sh81_0) (shB:=shb81_0) (shR:=shr81_0) kf110_ok.base (T:=fun (d:sh81_0.data)=>t81_0 d.1.1 d.1.2.1 d.1.2.2.1 d.1.2.2.2.1 d.1.2.2.2.2.1) (by kernel_rfl) rfl (fun (d:sh81_0.data)=>ok81_0_t d.1.1 d.1.2.1 d.1.2.2.1 d.1.2.2.2.1 d.1.2.2.2.2.1) (fun _=>rfl)
def kl81_0 (P:Go.Program):Known:=(kf110 P).loop 81 0 lc81_0
theorem kl81_0_ok:KnownOk Go.Proofs.Try.prog (kl81_0 Go.Proofs.Try.prog):=kf110_ok.loop ok81_0

/-! ductility/modal.changesIn -/

abbrev as81:List Ty:=[(.slice (.int .i64))]
abbrev rs81:List Ty:=[(.int .i64)]

def t81 (x0:(List Int)):Tr (Tys.data rs81) :=
  Tr.test (isBrk (l81_0 (((0:Int),((0:Int),(x0,((↑(List.length x0):Int),((0:Int),()))))),())))
    (let r0:=b81_0 (((0:Int),((0:Int),(x0,((↑(List.length x0):Int),((0:Int),()))))),());
    Tr.fin ((r0.1.1,())))
    (Tr.stop)

def f81 (d:Tys.data as81):Option (Tys.data rs81):=(t81 d.1).val
def g81 (d:Tys.data as81):Tys.data rs81:=(f81 d).getD (Tys.dflt rs81)
def p81:PureC:=pcOf as81 rs81 f81 g81

theorem wk81 (x0:(List Int)):Walks (runPure (kl81_0 Go.Proofs.Try.prog).orc Go.Proofs.Try.prog 400 81 as81 rs81 (x0,())) (t81 x0) [([tt],[1,2])] :=
  ⟨by kernel_rfl,trivial⟩

theorem ok81_t (x0:(List Int)):TrOk (PureRuns Go.Proofs.Try.prog (kl81_0 Go.Proofs.Try.prog).orc 81 as81 rs81 (x0,())) (t81 x0) :=
  Walks.ok (fun _ _ _=>PureRuns.of) (wk81 x0) (by kernel_rfl)

theorem ok81:PureOk Go.Proofs.Try.prog 81 p81:=pureOk_of kl81_0_ok.base (T:=fun (d:Tys.data as81)=>t81 d.1) (by kernel_rfl) (fun (d:Tys.data as81)=>ok81_t d.1)
def kf81 (P:Go.Program):Known:=(kl81_0 P).func 81 p81
theorem kf81_ok:KnownOk Go.Proofs.Try.prog (kf81 Go.Proofs.Try.prog):=kl81_0_ok.func ok81

/-! (ductility/modal.frame).countBelow -/

abbrev as48:List Ty:=[(.pair (.pair (.slice (.int .i64)) (.pair (.slice (.int .i64)) .unit)) .unit),(.pair (.int .i64) (.pair (.int .i64) .unit))]
abbrev rs48:List Ty:=[(.int .i64)]

def t48 (x0_:(List Int)) (x0_':(List Int)) (x1:Int) (x1':Int):Tr (Tys.data rs48) :=
  Tr.test (Option.isSome (f82 (((x0_,(x0_',())),()),((x1,(x1',())),()))))
    (let r0:=g82 (((x0_,(x0_',())),()),((x1,(x1',())),()));
    Tr.test (Option.isSome (f81 (r0.1,())))
      (let r1:=g81 (r0.1,());
      Tr.fin ((r1.1,())))
      (Tr.stop))
    (Tr.stop)

def f48 (d:Tys.data as48):Option (Tys.data rs48):=(t48 d.1.1.1 d.1.1.2.1 d.2.1.1 d.2.1.2.1).val
def g48 (d:Tys.data as48):Tys.data rs48:=(f48 d).getD (Tys.dflt rs48)
def p48:PureC:=pcOf as48 rs48 f48 g48

theorem wk48 (x0_:(List Int)) (x0_':(List Int)) (x1:Int) (x1':Int):Walks (runPure (kf81 Go.Proofs.Try.prog).orc Go.Proofs.Try.prog 400 48 as48 rs48 (((x0_,x0_',()),()),(x1,x1',()),())) (t48 x0_ x0_' x1 x1') [([true,true],[2,4])] :=
  ⟨by kernel_rfl,trivial⟩

theorem ok48_t (x0_:(List Int)) (x0_':(List Int)) (x1:Int) (x1':Int):TrOk (PureRuns Go.Proofs.Try.prog (kf81 Go.Proofs.Try.prog).orc 48 as48 rs48 (((x0_,x0_',()),()),(x1,x1',()),())) (t48 x0_ x0_' x1 x1') :=
  Walks.ok (fun _ _ _=>PureRuns.of) (wk48 x0_ x0_' x1 x1') (by kernel_rfl)

theorem ok48:PureOk Go.Proofs.Try.prog 48 p48:=pureOk_of kf81_ok.base (T:=fun (d:Tys.data as48)=>t48 d.1.1.1 d.1.1.2.1 d.2.1.1 d.2.1.2.1) (by kernel_rfl) (fun (d:Tys.data as48)=>ok48_t d.1.1.1 d.1.1.2.1 d.2.1.1 d.2.1.2.1)
def kf48 (P:Go.Program):Known:=(kf81 P).func 48 p48
theorem kf48_ok:KnownOk Go.Proofs.Try.prog (kf48 Go.Proofs.Try.prog):=kf81_ok.func ok48

/-! (ductility/modal.frame).isMode -/

abbrev as50:List Ty:=[(.pair (.pair (.slice (.int .i64)) (.pair (.slice (.int .i64)) .unit)) .unit),(.pair (.int .i64) (.pair (.int .i64) .unit))]
abbrev rs50:List Ty:=[.bool]

def t50 (x0_:(List Int)) (x0_':(List Int)) (x1:Int) (x1':Int):Tr (Tys.data rs50) :=
  Tr.test (Option.isSome (f82 (((x0_,(x0_',())),()),((x1,(x1',())),()))))
    (let r0:=g82 (((x0_,(x0_',())),()),((x1,(x1',())),()));
    Tr.test ((decide ((0:Int) ≤ wrap64 ((↑(List.length r0.1):Int) - (1:Int))) && decide (wrap64 ((↑(List.length r0.1):Int) - (1:Int)) < (↑(List.length r0.1):Int)):Bool))
      (Tr.fin (((eqF (List.getD r0.1 (Int.toNat (wrap64 ((↑(List.length r0.1):Int) - (1:Int)))) (0:Int)) (0:Int):Bool),())))
      (Tr.stop))
    (Tr.stop)

def f50 (d:Tys.data as50):Option (Tys.data rs50):=(t50 d.1.1.1 d.1.1.2.1 d.2.1.1 d.2.1.2.1).val
def g50 (d:Tys.data as50):Tys.data rs50:=(f50 d).getD (Tys.dflt rs50)
def p50:PureC:=pcOf as50 rs50 f50 g50

theorem wk50 (x0_:(List Int)) (x0_':(List Int)) (x1:Int) (x1':Int):Walks (runPure (kf48 Go.Proofs.Try.prog).orc Go.Proofs.Try.prog 400 50 as50 rs50 (((x0_,x0_',()),()),(x1,x1',()),())) (t50 x0_ x0_' x1 x1') [([true,true],[2,4])] :=
  ⟨by kernel_rfl,trivial⟩

theorem ok50_t (x0_:(List Int)) (x0_':(List Int)) (x1:Int) (x1':Int):TrOk (PureRuns Go.Proofs.Try.prog (kf48 Go.Proofs.Try.prog).orc 50 as50 rs50 (((x0_,x0_',()),()),(x1,x1',()),())) (t50 x0_ x0_' x1 x1') :=
  Walks.ok (fun _ _ _=>PureRuns.of) (wk50 x0_ x0_' x1 x1') (by kernel_rfl)

theorem ok50:PureOk Go.Proofs.Try.prog 50 p50:=pureOk_of kf48_ok.base (T:=fun (d:Tys.data as50)=>t50 d.1.1.1 d.1.1.2.1 d.2.1.1 d.2.1.2.1) (by kernel_rfl) (fun (d:Tys.data as50)=>ok50_t d.1.1.1 d.1.1.2.1 d.2.1.1 d.2.1.2.1)
def kf50 (P:Go.Program):Known:=(kf48 P).func 50 p50
theorem kf50_ok:KnownOk Go.Proofs.Try.prog (kf50 Go.Proofs.Try.prog):=kf48_ok.func ok50

/-! (ductility/modal.frame).countUpTo -/

abbrev as86:List Ty:=[(.pair (.pair (.slice (.int .i64)) (.pair (.slice (.int .i64)) .unit)) .unit),(.pair (.int .i64) (.pair (.int .i64) .unit))]
abbrev rs86:List Ty:=[(.int .i64)]

def t86 (x0_:(List Int)) (x0_':(List Int)) (x1:Int) (x1':Int):Tr (Tys.data rs86) :=
  Tr.test (Option.isSome (f50 (((x0_,(x0_',())),()),((x1,(x1',())),()))))
    (let r0:=g50 (((x0_,(x0_',())),()),((x1,(x1',())),()));
    Tr.test (r0.1)
      (Tr.test (Option.isSome (f48 (((x0_,(x0_',())),()),((x1,(x1',())),()))))
        (let r1:=g48 (((x0_,(x0_',())),()),((x1,(x1',())),()));
        Tr.fin (((wrap64 (r1.1 + (1:Int)):Int),())))
        (Tr.stop))
      (Tr.test (Option.isSome (f48 (((x0_,(x0_',())),()),((x1,(x1',())),()))))
        (let r1:=g48 (((x0_,(x0_',())),()),((x1,(x1',())),()));
        Tr.fin ((r1.1,())))
        (Tr.stop)))
    (Tr.stop)

def f86 (d:Tys.data as86):Option (Tys.data rs86):=(t86 d.1.1.1 d.1.1.2.1 d.2.1.1 d.2.1.2.1).val
def g86 (d:Tys.data as86):Tys.data rs86:=(f86 d).getD (Tys.dflt rs86)
def p86:PureC:=pcOf as86 rs86 f86 g86

theorem wk86 (x0_:(List Int)) (x0_':(List Int)) (x1:Int) (x1':Int):Walks (runPure (kf50 Go.Proofs.Try.prog).orc Go.Proofs.Try.prog 400 86 as86 rs86 (((x0_,x0_',()),()),(x1,x1',()),())) (t86 x0_ x0_' x1 x1') [([true,true,true],[2,4,6]),([true,false,true],[2,4,6])] :=
  ⟨by kernel_rfl,by kernel_rfl,trivial⟩

theorem ok86_t (x0_:(List Int)) (x0_':(List Int)) (x1:Int) (x1':Int):TrOk (PureRuns Go.Proofs.Try.prog (kf50 Go.Proofs.Try.prog).orc 86 as86 rs86 (((x0_,x0_',()),()),(x1,x1',()),())) (t86 x0_ x0_' x1 x1') :=
  Walks.ok (fun _ _ _=>PureRuns.of) (wk86 x0_ x0_' x1 x1') (by kernel_rfl)

theorem ok86:PureOk Go.Proofs.Try.prog 86 p86:=pureOk_of kf50_ok.base (T:=fun (d:Tys.data as86)=>t86 d.1.1.1 d.1.1.2.1 d.2.1.1 d.2.1.2.1) (by kernel_rfl) (fun (d:Tys.data as86)=>ok86_t d.1.1.1 d.1.1.2.1 d.2.1.1 d.2.1.2.1)
def kf86 (P:Go.Program):Known:=(kf50 P).func 86 p86
theorem kf86_ok:KnownOk Go.Proofs.Try.prog (kf86 Go.Proofs.Try.prog):=kf50_ok.func ok86

/-! loop 0 of sort.Search -/

abbrev sh83_0:Sh:={ n:=26,slots:=[1,5,6],pats:=[.fn 84 [(0,2),(1,1),(2,1)],.ty (.int .i64),.ty (.int .i64)],boxes:=[.row [.ty (.slice (.int .i64)),.ty (.slice (.int .i64))],.row [.ty (.int .i64)],.row [.ty (.int .i64)]] }
abbrev shb83_0:Sh:={ n:=26,slots:=[5],pats:=[.ty (.int .i64)],boxes:=[.row [.ty (.slice (.int .i64)),.ty (.slice (.int .i64))],.row [.ty (.int .i64)],.row [.ty (.int .i64)]] }
abbrev shr83_0:Sh:={ n:=26,slots:=[],pats:=[],boxes:=[.row [.ty (.slice (.int .i64)),.ty (.slice (.int .i64))],.row [.ty (.int .i64)],.row [.ty (.int .i64)]] }

def t83_0 (x1:Int) (x2:Int) (b0_0:(List Int)) (b0_1:(List Int)) (b1_0:Int) (b2_0:Int):Tr (Out sh83_0.data shb83_0.data shr83_0.data) :=
  Tr.test ((!leF x2 x1:Bool))
    (Tr.test (Option.isSome (f48 (((b0_0,(b0_1,())),()),(((Go.IntKind.wrap Go.IntKind.i64 (Int.fdiv (Go.IntKind.wrap Go.IntKind.u64 (wrap64 (x1 + x2))) (2:Int)):Int),(b1_0,())),()))))
      (let r0:=g48 (((b0_0,(b0_1,())),()),(((Go.IntKind.wrap Go.IntKind.i64 (Int.fdiv (Go.IntKind.wrap Go.IntKind.u64 (wrap64 (x1 + x2))) (2:Int)):Int),(b1_0,())),()));
      Tr.test ((!!leF r0.1 b2_0:Bool))
        (Tr.fin (.again (((wrap64 (Go.IntKind.wrap Go.IntKind.i64 (Int.fdiv (Go.IntKind.wrap Go.IntKind.u64 (wrap64 (x1 + x2))) (2:Int)) + (1:Int)):Int),(x2,())),((b0_0,(b0_1,())),((b1_0,()),((b2_0,()),()))))))
        (Tr.fin (.again ((x1,((Go.IntKind.wrap Go.IntKind.i64 (Int.fdiv (Go.IntKind.wrap Go.IntKind.u64 (wrap64 (x1 + x2))) (2:Int)):Int),())),((b0_0,(b0_1,())),((b1_0,()),((b2_0,()),())))))))
      (Tr.stop))
    (Tr.fin (.brk ((x1,()),((b0_0,(b0_1,())),((b1_0,()),((b2_0,()),()))))))

def s83_0 (d:sh83_0.data):Option (Out sh83_0.data shb83_0.data shr83_0.data):=(t83_0 d.1.1 d.1.2.1 d.2.1.1 d.2.1.2.1 d.2.2.1.1 d.2.2.2.1.1).val
def l83_0 (d:sh83_0.data):Option (shb83_0.data ⊕ shr83_0.data):=itr s83_0 rounds d
def b83_0 (d:sh83_0.data):shb83_0.data:=outB shb83_0.dflt (l83_0 d)
def lc83_0:LoopC:=lcB sh83_0 shb83_0 shr83_0 l83_0 b83_0

theorem wk83_0 (x1:Int) (x2:Int) (b0_0:(List Int)) (b0_1:(List Int)) (b1_0:Int) (b2_0:Int):Walks (runBody (kf86 Go.Proofs.Try.prog).orc Go.Proofs.Try.prog 400 83 0 sh83_0 shb83_0 shr83_0 ((x1,x2,()),(b0_0,b0_1,()),(b1_0,()),(b2_0,()),())) (t83_0 x1 x2 b0_0 b0_1 b1_0 b2_0) [([true,true,true],[2,4,6]),([true,true,false],[2,4,6]),([ff],[2])] :=
  ⟨by kernel_rfl,by kernel_rfl,by kernel_rfl,trivial⟩

theorem ok83_0_t (x1:Int) (x2:Int) (b0_0:(List Int)) (b0_1:(List Int)) (b1_0:Int) (b2_0:Int):TrOk (BodyRuns Go.Proofs.Try.prog (kf86 Go.Proofs.Try.prog).orc 83 0 sh83_0 shb83_0 shr83_0 ((x1,x2,()),(b0_0,b0_1,()),(b1_0,()),(b2_0,()),())) (t83_0 x1 x2 b0_0 b0_1 b1_0 b2_0) :=
  Walks.ok (fun _ _ _=>BodyRuns.of) (wk83_0 x1 x2 b0_0 b0_1 b1_0 b2_0) (by kernel_rfl)

theorem ok83_0:LoopOk Go.Proofs.Try.prog 83 0 lc83_0:=loopOk_ofB (sh:=sh83_0) (shB:=shb83_0) (shR:=shr83_0) kf86_ok.base (T:=fun (d:sh83_0.data)=>t83_0 d.1.1 d.1.2.1 d.2.1.1 d.2.1.2.1 d.2.2.1.1 d.2.2.2.1.1) (by kernel_rfl) rfl (fun (d:sh83_0.data)=>ok83_0_t d.1.1 d.1.2.1 d.2.1.1 d.2.1.2.1 d.2.2.1.1 d.2.2.2.1.1) (fun _=>rfl)
def kl83_0 (P:Go.Program):Known:=(kf86 P).loop 83 0 lc83_0
theorem kl83_0_ok:KnownOk Go.Proofs.Try.prog (kl83_0 Go.Proofs.Try.prog):=kf86_ok.loop ok83_0

/-! loop 0 of sort.Search -/

abbrev sh83_0_1:Sh:={ n:=26,slots:=[1,5,6],pats:=[.fn 85 [(0,2),(1,1),(2,1)],.ty (.int .i64),.ty (.int .i64)],boxes:=[.row [.ty (.slice (.int .i64)),.ty (.slice (.int .i64))],.row [.ty (.int .i64)],.row [.ty (.int .i64)]] }
abbrev shb83_0_1:Sh:={ n:=26,slots:=[5],pats:=[.ty (.int .i64)],boxes:=[.row [.ty (.slice (.int .i64)),.ty (.slice (.int .i64))],.row [.ty (.int .i64)],.row [.ty (.int .i64)]] }
abbrev shr83_0_1:Sh:={ n:=26,slots:=[],pats:=[],boxes:=[.row [.ty (.slice (.int .i64)),.ty (.slice (.int .i64))],.row [.ty (.int .i64)],.row [.ty (.int .i64)]] }

def t83_0_1 (x1:Int) (x2:Int) (b0_0:(List Int)) (b0_1:(List Int)) (b1_0:Int) (b2_0:Int):Tr (Out sh83_0_1.data shb83_0_1.data shr83_0_1.data) :=
  Tr.test ((!leF x2 x1:Bool))
    (Tr.test (Option.isSome (f86 (((b0_0,(b0_1,())),()),(((Go.IntKind.wrap Go.IntKind.i64 (Int.fdiv (Go.IntKind.wrap Go.IntKind.u64 (wrap64 (x1 + x2))) (2:Int)):Int),(b1_0,())),()))))
      (let r0:=g86 (((b0_0,(b0_1,())),()),(((Go.IntKind.wrap Go.IntKind.i64 (Int.fdiv (Go.IntKind.wrap Go.IntKind.u64 (wrap64 (x1 + x2))) (2:Int)):Int),(b1_0,())),()));
      Tr.test ((!!leF r0.1 b2_0:Bool))
        (Tr.fin (.again (((wrap64 (Go.IntKind.wrap Go.IntKind.i64 (Int.fdiv (Go.IntKind.wrap Go.IntKind.u64 (wrap64 (x1 + x2))) (2:Int)) + (1:Int)):Int),(x2,())),((b0_0,(b0_1,())),((b1_0,()),((b2_0,()),()))))))
        (Tr.fin (.again ((x1,((Go.IntKind.wrap Go.IntKind.i64 (Int.fdiv (Go.IntKind.wrap Go.IntKind.u64 (wrap64 (x1 + x2))) (2:Int)):Int),())),((b0_0,(b0_1,())),((b1_0,()),((b2_0,()),())))))))
      (Tr.stop))
    (Tr.fin (.brk ((x1,()),((b0_0,(b0_1,())),((b1_0,()),((b2_0,()),()))))))

def s83_0_1 (d:sh83_0_1.data):Option (Out sh83_0_1.data shb83_0_1.data shr83_0_1.data):=(t83_0_1 d.1.1 d.1.2.1 d.2.1.1 d.2.1.2.1 d.2.2.1.1 d.2.2.2.1.1).val
def l83_0_1 (d:sh83_0_1.data):Option (shb83_0_1.data ⊕ shr83_0_1.data):=itr s83_0_1 rounds d
def b83_0_1 (d:sh83_0_1.data):shb83_0_1.data:=outB shb83_0_1.dflt (l83_0_1 d)
def lc83_0_1:LoopC:=lcB sh83_0_1 shb83_0_1 shr83_0_1 l83_0_1 b83_0_1

theorem wk83_0_1 (x1:Int) (x2:Int) (b0_0:(List Int)) (b0_1:(List Int)) (b1_0:Int) (b2_0:Int):Walks (runBody (kl83_0 Go.Proofs.Try.prog).orc Go.Proofs.Try.prog 400 83 0 sh83_0_1 shb83_0_1 shr83_0_1 ((x1,x2,()),(b0_0,b0_1,()),(b1_0,()),(b2_0,()),())) (t83_0_1 x1 x2 b0_0 b0_1 b1_0 b2_0) [([true,true,true],[2,4,6]),([true,true,false],[2,4,6]),([ff],[2])] :=
  ⟨by kernel_rfl,by kernel_rfl,by kernel_rfl,trivial⟩

theorem ok83_0_1_t (x1:Int) (x2:Int) (b0_0:(List Int)) (b0_1:(List Int)) (b1_0:Int) (b2_0:Int):TrOk (BodyRuns Go.Proofs.Try.prog (kl83_0 Go.Proofs.Try.prog).orc 83 0 sh83_0_1 shb83_0_1 shr83_0_1 ((x1,x2,()),(b0_0,b0_1,()),(b1_0,()),(b2_0,()),())) (t83_0_1 x1 x2 b0_0 b0_1 b1_0 b2_0) :=
  Walks.ok (fun _ _ _=>BodyRuns.of) (wk83_0_1 x1 x2 b0_0 b0_1 b1_0 b2_0) (by kernel_rfl)

theorem ok83_0_1:LoopOk Go.Proofs.Try.prog 83 0 lc83_0_1:=loopOk_ofB (sh:=sh83_0_1) (shB:=shb83_0_1) (shR:=shr83_0_1) kl83_0_ok.base (T:=fun (d:sh83_0_1.data)=>t83_0_1 d.1.1 d.1.2.1 d.2.1.1 d.2.1.2.1 d.2.2.1.1 d.2.2.2.1.1) (by kernel_rfl) rfl (fun (d:sh83_0_1.data)=>ok83_0_1_t d.1.1 d.1.2.1 d.2.1.1 d.2.1.2.1 d.2.2.1.1 d.2.2.2.1.1) (fun _=>rfl)
def kl83_0_1 (P:Go.Program):Known:=(kl83_0 P).loop 83 0 lc83_0_1
theorem kl83_0_1_ok:KnownOk Go.Proofs.Try.prog (kl83_0_1 Go.Proofs.Try.prog):=kl83_0_ok.loop ok83_0_1

/-! (ductility/modal.frame).enclosure -/

abbrev as54:List Ty:=[(.pair (.pair (.slice (.int .i64)) (.pair (.slice (.int .i64)) .unit)) .unit),(.int .i64),(.int .i64)]
abbrev rs54:List Ty:=[(.pair (.int .i64) (.pair (.int .i64) .unit))]

def t54 (x0_:(List Int)) (x0_':(List Int)) (x1:Int) (x2:Int):Tr (Tys.data rs54) :=
  Tr.test (isBrk (l83_0 (((0:Int),((4001:Int),())),((x0_,(x0_',())),((x2,()),((x1,()),()))))))
    (let r0:=b83_0 (((0:Int),((4001:Int),())),((x0_,(x0_',())),((x2,()),((x1,()),()))));
    Tr.test (isBrk (l83_0_1 (((0:Int),((4000:Int),())),((r0.2.1.1,(r0.2.1.2.1,())),((r0.2.2.1.1,()),((r0.2.2.2.1.1,()),()))))))
      (let r1:=b83_0_1 (((0:Int),((4000:Int),())),((r0.2.1.1,(r0.2.1.2.1,())),((r0.2.2.1.1,()),((r0.2.2.2.1.1,()),()))));
      Tr.fin ((((wrap64 (r0.1.1 - (1:Int)):Int),(r1.1.1,())),())))
      (Tr.stop))
    (Tr.stop)

def f54 (d:Tys.data as54):Option (Tys.data rs54):=(t54 d.1.1.1 d.1.1.2.1 d.2.1 d.2.2.1).val
def g54 (d:Tys.data as54):Tys.data rs54:=(f54 d).getD (Tys.dflt rs54)
def p54:PureC:=pcOf as54 rs54 f54 g54

theorem wk54 (x0_:(List Int)) (x0_':(List Int)) (x1:Int) (x2:Int):Walks (runPure (kl83_0_1 Go.Proofs.Try.prog).orc Go.Proofs.Try.prog 400 54 as54 rs54 (((x0_,x0_',()),()),x1,x2,())) (t54 x0_ x0_' x1 x2) [([true,true],[1,2,1,4])] :=
  ⟨by kernel_rfl,trivial⟩

theorem ok54_t (x0_:(List Int)) (x0_':(List Int)) (x1:Int) (x2:Int):TrOk (PureRuns Go.Proofs.Try.prog (kl83_0_1 Go.Proofs.Try.prog).orc 54 as54 rs54 (((x0_,x0_',()),()),x1,x2,())) (t54 x0_ x0_' x1 x2) :=
  Walks.ok (fun _ _ _=>PureRuns.of) (wk54 x0_ x0_' x1 x2) (by kernel_rfl)

theorem ok54:PureOk Go.Proofs.Try.prog 54 p54:=pureOk_of kl83_0_1_ok.base (T:=fun (d:Tys.data as54)=>t54 d.1.1.1 d.1.1.2.1 d.2.1 d.2.2.1) (by kernel_rfl) (fun (d:Tys.data as54)=>ok54_t d.1.1.1 d.1.1.2.1 d.2.1 d.2.2.1)
def kf54 (P:Go.Program):Known:=(kl83_0_1 P).func 54 p54
theorem kf54_ok:KnownOk Go.Proofs.Try.prog (kf54 Go.Proofs.Try.prog):=kl83_0_1_ok.func ok54

/-! ductility/modal.EnclosureOf -/

abbrev as13:List Ty:=[(.pair (.slice (.int .i64)) (.pair (.slice (.int .i64)) .unit)),(.int .i64),(.int .i64)]
abbrev rs13:List Ty:=[(.pair (.int .i64) (.pair (.int .i64) .unit)),(.int .i64)]

def t13 (x0:(List Int)) (x0':(List Int)) (x1:Int) (x2:Int):Tr (Tys.data rs13) :=
  Tr.test (Option.isSome (f51 ((0:Int),((wrap64 ((↑(List.length x0):Int) - (1:Int)):Int),(([x1]:List Int),())))))
    (let r0:=g51 ((0:Int),((wrap64 ((↑(List.length x0):Int) - (1:Int)):Int),(([x1]:List Int),())));
    Tr.test (Option.isSome (f52 ((!r0.1:Bool),((6:Int),()))))
      (Tr.test (Option.isSome (f53 (x2,())))
        (Tr.test (Option.isSome (f78 ((x0,(x0',())),())))
          (let r1:=g52 ((!r0.1:Bool),((6:Int),()));
          let r2:=g53 (x2,());
          Tr.test (Option.isSome (f72 (([r1.1,r2.1]:List Int),())))
            (let r3:=g78 ((x0,(x0',())),());
            let r4:=g72 (([r1.1,r2.1]:List Int),());
            Tr.test (Option.isSome (f72 (([r3.2.1,r4.1]:List Int),())))
              (let r5:=g72 (([r3.2.1,r4.1]:List Int),());
              Tr.test ((!eqF r5.1 0:Bool))
                (Tr.fin ((((0:Int),((0:Int),())),(r5.1,()))))
                (Tr.test (Option.isSome (f54 (((x0,(x0',())),()),(x1,(x2,())))))
                  (let r6:=g54 (((x0,(x0',())),()),(x1,(x2,())));
                  Tr.fin (((r6.1.1,(r6.1.2.1,())),((0:Int),()))))
                  (Tr.stop)))
              (Tr.stop))
            (Tr.stop))
          (Tr.stop))
        (Tr.stop))
      (Tr.stop))
    (Tr.stop)

def f13 (d:Tys.data as13):Option (Tys.data rs13):=(t13 d.1.1 d.1.2.1 d.2.1 d.2.2.1).val
def g13 (d:Tys.data as13):Tys.data rs13:=(f13 d).getD (Tys.dflt rs13)
def p13:PureC:=pcOf as13 rs13 f13 g13

theorem wk13 (x0:(List Int)) (x0':(List Int)) (x1:Int) (x2:Int):Walks (runPure (kf54 Go.Proofs.Try.prog).orc Go.Proofs.Try.prog 400 13 as13 rs13 ((x0,x0',()),x1,x2,())) (t13 x0 x0' x1 x2) [([true,true,true,true,true,true,true],[2,2,4,1,6,1,8,10,12,14,1]),([true,true,true,true,true,true,false,true],[2,0,4,6,1,8,1,10,12,14,16,1])] :=
  ⟨by kernel_rfl,by kernel_rfl,trivial⟩

theorem ok13_t (x0:(List Int)) (x0':(List Int)) (x1:Int) (x2:Int):TrOk (PureRuns Go.Proofs.Try.prog (kf54 Go.Proofs.Try.prog).orc 13 as13 rs13 ((x0,x0',()),x1,x2,())) (t13 x0 x0' x1 x2) :=
  Walks.ok (fun _ _ _=>PureRuns.of) (wk13 x0 x0' x1 x2) (by kernel_rfl)

theorem ok13:PureOk Go.Proofs.Try.prog 13 p13:=pureOk_of kf54_ok.base (T:=fun (d:Tys.data as13)=>t13 d.1.1 d.1.2.1 d.2.1 d.2.2.1) (by kernel_rfl) (fun (d:Tys.data as13)=>ok13_t d.1.1 d.1.2.1 d.2.1 d.2.2.1)
def kf13 (P:Go.Program):Known:=(kf54 P).func 13 p13
theorem kf13_ok:KnownOk Go.Proofs.Try.prog (kf13 Go.Proofs.Try.prog):=kf54_ok.func ok13

/-! ductility/ductilitylaw06.Decay -/

abbrev as44:List Ty:=[]
abbrev rs44:List Ty:=[(.pair (.slice (.int .i64)) (.pair (.int .i64) .unit))]

def t44 :Tr (Tys.data rs44) :=
  Tr.fin (((([(-3:Int),(5:Int),(8:Int),(4:Int),(-6:Int),(-2:Int),(3:Int),(5:Int),(-4:Int),(-1:Int),(4:Int)]:List Int),((2:Int),())),()))

def f44 (d:Tys.data as44):Option (Tys.data rs44):=(t44 ).val
def g44 (d:Tys.data as44):Tys.data rs44:=(f44 d).getD (Tys.dflt rs44)
def p44:PureC:=pcOf as44 rs44 f44 g44

theorem wk44 :Walks (runPure (kf13 Go.Proofs.Try.prog).orc Go.Proofs.Try.prog 400 44 as44 rs44 ()) (t44 ) [([],[1])] :=
  ⟨by kernel_rfl,trivial⟩

theorem ok44_t :TrOk (PureRuns Go.Proofs.Try.prog (kf13 Go.Proofs.Try.prog).orc 44 as44 rs44 ()) (t44 ) :=
  Walks.ok (fun _ _ _=>PureRuns.of) (wk44 ) (by kernel_rfl)

theorem ok44:PureOk Go.Proofs.Try.prog 44 p44:=pureOk_of kf13_ok.base (T:=fun (d:Tys.data as44)=>t44 ) (by kernel_rfl) (fun (d:Tys.data as44)=>ok44_t )
def kf44 (P:Go.Program):Known:=(kf13 P).func 44 p44
theorem kf44_ok:KnownOk Go.Proofs.Try.prog (kf44 Go.Proofs.Try.prog):=kf13_ok.func ok44

/-! ductility/modal.countError -/

abbrev as106:List Ty:=[(.int .i64),(.int .i64)]
abbrev rs106:List Ty:=[(.int .i64)]

def t106 (x0:Int) (x1:Int):Tr (Tys.data rs106) :=
  Tr.test (Option.isSome (f52 ((eqF x0 0:Bool),((10:Int),()))))
    (Tr.test (Option.isSome (f52 (!leF x0 x1,((8:Int),()))))
      (let r0:=g52 ((eqF x0 0:Bool),((10:Int),()));
      let r1:=g52 ((!leF x0 x1:Bool),((8:Int),()));
      Tr.test (Option.isSome (f72 (([r0.1,r1.1]:List Int),())))
        (let r2:=g72 (([r0.1,r1.1]:List Int),());
        Tr.fin ((r2.1,())))
        (Tr.stop))
      (Tr.stop))
    (Tr.stop)

def f106 (d:Tys.data as106):Option (Tys.data rs106):=(t106 d.1 d.2.1).val
def g106 (d:Tys.data as106):Tys.data rs106:=(f106 d).getD (Tys.dflt rs106)
def p106:PureC:=pcOf as106 rs106 f106 g106

theorem wk106 (x0:Int) (x1:Int):Walks (runPure (kf44 Go.Proofs.Try.prog).orc Go.Proofs.Try.prog 400 106 as106 rs106 (x0,x1,())) (t106 x0 x1) [([true,true,true],[2,1,4,6])] :=
  ⟨by kernel_rfl,trivial⟩

theorem ok106_t (x0:Int) (x1:Int):TrOk (PureRuns Go.Proofs.Try.prog (kf44 Go.Proofs.Try.prog).orc 106 as106 rs106 (x0,x1,())) (t106 x0 x1) :=
  Walks.ok (fun _ _ _=>PureRuns.of) (wk106 x0 x1) (by kernel_rfl)

theorem ok106:PureOk Go.Proofs.Try.prog 106 p106:=pureOk_of kf44_ok.base (T:=fun (d:Tys.data as106)=>t106 d.1 d.2.1) (by kernel_rfl) (fun (d:Tys.data as106)=>ok106_t d.1 d.2.1)
def kf106 (P:Go.Program):Known:=(kf44 P).func 106 p106
theorem kf106_ok:KnownOk Go.Proofs.Try.prog (kf106 Go.Proofs.Try.prog):=kf44_ok.func ok106

/-! ductility/modal.limitError -/

abbrev as80:List Ty:=[(.int .i64),(.slice (.int .i64))]
abbrev rs80:List Ty:=[(.int .i64)]

def t80 (x0:Int) (x1:(List Int)):Tr (Tys.data rs80) :=
  Tr.test (Option.isSome (f51 ((Go.IntKind.wrap Go.IntKind.i64 ((0:Int) - x0):Int),(x0,(x1,())))))
    (let r0:=g51 ((Go.IntKind.wrap Go.IntKind.i64 ((0:Int) - x0):Int),(x0,(x1,())));
    Tr.test (Option.isSome (f52 ((!r0.1:Bool),((2:Int),()))))
      (let r1:=g52 ((!r0.1:Bool),((2:Int),()));
      Tr.fin ((r1.1,())))
      (Tr.stop))
    (Tr.stop)

def f80 (d:Tys.data as80):Option (Tys.data rs80):=(t80 d.1 d.2.1).val
def g80 (d:Tys.data as80):Tys.data rs80:=(f80 d).getD (Tys.dflt rs80)
def p80:PureC:=pcOf as80 rs80 f80 g80

theorem wk80 (x0:Int) (x1:(List Int)):Walks (runPure (kf106 Go.Proofs.Try.prog).orc Go.Proofs.Try.prog 400 80 as80 rs80 (x0,x1,())) (t80 x0 x1) [([true,true],[2,4])] :=
  ⟨by kernel_rfl,trivial⟩

theorem ok80_t (x0:Int) (x1:(List Int)):TrOk (PureRuns Go.Proofs.Try.prog (kf106 Go.Proofs.Try.prog).orc 80 as80 rs80 (x0,x1,())) (t80 x0 x1) :=
  Walks.ok (fun _ _ _=>PureRuns.of) (wk80 x0 x1) (by kernel_rfl)

theorem ok80:PureOk Go.Proofs.Try.prog 80 p80:=pureOk_of kf106_ok.base (T:=fun (d:Tys.data as80)=>t80 d.1 d.2.1) (by kernel_rfl) (fun (d:Tys.data as80)=>ok80_t d.1 d.2.1)
def kf80 (P:Go.Program):Known:=(kf106 P).func 80 p80
theorem kf80_ok:KnownOk Go.Proofs.Try.prog (kf80 Go.Proofs.Try.prog):=kf106_ok.func ok80

/-! ductility/modal.decayOf -/

abbrev as75:List Ty:=[(.pair (.slice (.int .i64)) (.pair (.int .i64) .unit))]
abbrev rs75:List Ty:=[(.pair (.pair (.slice (.int .i64)) (.pair (.int .i64) .unit)) .unit),(.int .i64)]

def t75 (x0:(List Int)) (x0':Int):Tr (Tys.data rs75) :=
  Tr.test (Option.isSome (f51 ((0:Int),((10000:Int),(([x0']:List Int),())))))
    (Tr.test (Option.isSome (f106 ((↑(List.length x0):Int),((60:Int),()))))
      (Tr.test (Option.isSome (f80 ((10000:Int),(x0,()))))
        (let r0:=g51 ((0:Int),((10000:Int),(([x0']:List Int),())));
        Tr.test (Option.isSome (f52 ((!r0.1:Bool),((2:Int),()))))
          (let r1:=g106 ((↑(List.length x0):Int),((60:Int),()));
          let r2:=g80 ((10000:Int),(x0,()));
          let r3:=g52 ((!r0.1:Bool),((2:Int),()));
          Tr.test (Option.isSome (f72 (([r1.1,r2.1,r3.1]:List Int),())))
            (let r4:=g72 (([r1.1,r2.1,r3.1]:List Int),());
            Tr.test ((!eqF r4.1 0:Bool))
              (Tr.fin ((((([]:List Int),((0:Int),())),()),(r4.1,()))))
              (Tr.fin ((((x0,(x0',())),()),((0:Int),())))))
            (Tr.stop))
          (Tr.stop))
        (Tr.stop))
      (Tr.stop))
    (Tr.stop)

def f75 (d:Tys.data as75):Option (Tys.data rs75):=(t75 d.1.1 d.1.2.1).val
def g75 (d:Tys.data as75):Tys.data rs75:=(f75 d).getD (Tys.dflt rs75)
def p75:PureC:=pcOf as75 rs75 f75 g75

theorem wk75 (x0:(List Int)) (x0':Int):Walks (runPure (kf80 Go.Proofs.Try.prog).orc Go.Proofs.Try.prog 400 75 as75 rs75 ((x0,x0',()),())) (t75 x0 x0') [([true,true,true,true,true,true],[2,4,1,6,8,10,12,1]),([true,true,true,true,true,false],[2,4,1,6,8,10,12,1])] :=
  ⟨by kernel_rfl,by kernel_rfl,trivial⟩

theorem ok75_t (x0:(List Int)) (x0':Int):TrOk (PureRuns Go.Proofs.Try.prog (kf80 Go.Proofs.Try.prog).orc 75 as75 rs75 ((x0,x0',()),())) (t75 x0 x0') :=
  Walks.ok (fun _ _ _=>PureRuns.of) (wk75 x0 x0') (by kernel_rfl)

theorem ok75:PureOk Go.Proofs.Try.prog 75 p75:=pureOk_of kf80_ok.base (T:=fun (d:Tys.data as75)=>t75 d.1.1 d.1.2.1) (by kernel_rfl) (fun (d:Tys.data as75)=>ok75_t d.1.1 d.1.2.1)
def kf75 (P:Go.Program):Known:=(kf80 P).func 75 p75
theorem kf75_ok:KnownOk Go.Proofs.Try.prog (kf75 Go.Proofs.Try.prog):=kf80_ok.func ok75

/-! loop 0 of (ductility/modal.decay).crossings -/

abbrev sh76_0:Sh:={ n:=40,slots:=[1,3,4,9,10,11],pats:=[.ptr 0 2 0,.acc (.pair (.int .i64) (.pair (.int .i64) .unit)),.ty (.int .i64),.ty (.slice (.int .i64)),.ty (.int .i64),.ty (.int .i64)],boxes:=[.row [.ty (.slice (.int .i64)),.ty (.int .i64)]] }
abbrev shb76_0:Sh:={ n:=40,slots:=[3],pats:=[.acc (.pair (.int .i64) (.pair (.int .i64) .unit))],boxes:=[.row [.ty (.slice (.int .i64)),.ty (.int .i64)]] }
abbrev shr76_0:Sh:={ n:=40,slots:=[],pats:=[],boxes:=[.row [.ty (.slice (.int .i64)),.ty (.int .i64)]] }

def t76_0 (x1:(List (Int×(Int×Unit)))) (x2:Int) (x3:(List Int)) (x4:Int) (x5:Int) (b0_0:(List Int)) (b0_1:Int):Tr (Out sh76_0.data shb76_0.data shr76_0.data) :=
  Tr.test ((!leF x4 x5:Bool))
    (Tr.test (decide ((0:Int) ≤ x5) && decide (x5 < (↑(List.length x3):Int)))
      (Tr.test ((!leF (Go.IntKind.wrap Go.IntKind.i64 ((0:Int) - b0_1)) (List.getD x3 (Int.toNat x5) (0:Int)):Bool))
        (Tr.test ((!leF (List.getD x3 (Int.toNat x5) (0:Int)) b0_1:Bool))
          (Tr.test ((!eqF x5 (-1):Bool))
            (Tr.test ((Nat.ble (((2:Nat) * (List.length x1 + (1:Nat)) + (192:Nat)) * (16:Nat)) (281474976710656:Nat) && Nat.ble (List.length x1 + (1:Nat)) (281474976710656:Nat):Bool))
              (Tr.fin (.again (((x1++[(x5,x5,())]:List (Int×Int×PUnit)),((-1:Int),(x3,(x4,((wrap64 (x5 + (1:Int)):Int),()))))),((b0_0,(b0_1,())),()))))
              (Tr.stop))
            (Tr.fin (.again ((x1,(x5,(x3,(x4,((wrap64 (x5 + (1:Int)):Int),()))))),((b0_0,(b0_1,())),())))))
          (Tr.fin (.again ((x1,(x5,(x3,(x4,((wrap64 (x5 + (1:Int)):Int),()))))),((b0_0,(b0_1,())),())))))
        (Tr.test ((!leF (List.getD x3 (Int.toNat x5) (0:Int)) b0_1:Bool))
          (Tr.test ((!eqF x2 (-1):Bool))
            (Tr.test ((Nat.ble (((2:Nat) * (List.length x1 + (1:Nat)) + (192:Nat)) * (16:Nat)) (281474976710656:Nat) && Nat.ble (List.length x1 + (1:Nat)) (281474976710656:Nat):Bool))
              (Tr.fin (.again (((x1++[(x2,x5,())]:List (Int×Int×PUnit)),((-1:Int),(x3,(x4,((wrap64 (x5 + (1:Int)):Int),()))))),((b0_0,(b0_1,())),()))))
              (Tr.stop))
            (Tr.fin (.again ((x1,(x2,(x3,(x4,((wrap64 (x5 + (1:Int)):Int),()))))),((b0_0,(b0_1,())),())))))
          (Tr.fin (.again ((x1,(x2,(x3,(x4,((wrap64 (x5 + (1:Int)):Int),()))))),((b0_0,(b0_1,())),()))))))
      (Tr.stop))
    (Tr.fin (.brk ((x1,()),((b0_0,(b0_1,())),()))))

def s76_0 (d:sh76_0.data):Option (Out sh76_0.data shb76_0.data shr76_0.data):=(t76_0 d.1.1 d.1.2.1 d.1.2.2.1 d.1.2.2.2.1 d.1.2.2.2.2.1 d.2.1.1 d.2.1.2.1).val
def l76_0 (d:sh76_0.data):Option (shb76_0.data ⊕ shr76_0.data):=itr s76_0 rounds d
def b76_0 (d:sh76_0.data):shb76_0.data:=outB shb76_0.dflt (l76_0 d)
def lc76_0:LoopC:=lcB sh76_0 shb76_0 shr76_0 l76_0 b76_0

theorem wk76_0 (x1:(List (Int×(Int×Unit)))) (x2:Int) (x3:(List Int)) (x4:Int) (x5:Int) (b0_0:(List Int)) (b0_1:Int):Walks (runBody (kf75 Go.Proofs.Try.prog).orc Go.Proofs.Try.prog 400 76 0 sh76_0 shb76_0 shr76_0 ((x1,x2,x3,x4,x5,()),(b0_0,b0_1,()),())) (t76_0 x1 x2 x3 x4 x5 b0_0 b0_1) [([true,true,true,true,true,true],[1,2,0,4,6,6,6,8,10,12]),([true,true,true,true,false],[2,4,4,4,6,8,10]),([true,true,true,false],[0,2,2,2,4,6,8]),([true,true,false,true,true,true],[1,2,0,4,6,6,6,8,10,12]),([true,true,false,true,false],[2,4,4,4,6,8,10]),([true,true,false,false],[0,2,2,2,4,6,8]),([ff],[2])] :=
  ⟨by kernel_rfl,by kernel_rfl,by kernel_rfl,by kernel_rfl,by kernel_rfl,by kernel_rfl,by kernel_rfl,trivial⟩

theorem ok76_0_t (x1:(List (Int×(Int×Unit)))) (x2:Int) (x3:(List Int)) (x4:Int) (x5:Int) (b0_0:(List Int)) (b0_1:Int):TrOk (BodyRuns Go.Proofs.Try.prog (kf75 Go.Proofs.Try.prog).orc 76 0 sh76_0 shb76_0 shr76_0 ((x1,x2,x3,x4,x5,()),(b0_0,b0_1,()),())) (t76_0 x1 x2 x3 x4 x5 b0_0 b0_1) :=
  Walks.ok (fun _ _ _=>BodyRuns.of) (wk76_0 x1 x2 x3 x4 x5 b0_0 b0_1) (by kernel_rfl)

theorem ok76_0:LoopOk Go.Proofs.Try.prog 76 0 lc76_0:=loopOk_ofB (sh:=sh76_0) (shB:=shb76_0) (shR:=shr76_0) kf75_ok.base (T:=fun (d:sh76_0.data)=>t76_0 d.1.1 d.1.2.1 d.1.2.2.1 d.1.2.2.2.1 d.1.2.2.2.2.1 d.2.1.1 d.2.1.2.1) (by kernel_rfl) rfl (fun (d:sh76_0.data)=>ok76_0_t d.1.1 d.1.2.1 d.1.2.2.1 d.1.2.2.2.1 d.1.2.2.2.2.1 d.2.1.1 d.2.1.2.1) (fun _=>rfl)
def kl76_0 (P:Go.Program):Known:=(kf75 P).loop 76 0 lc76_0
theorem kl76_0_ok:KnownOk Go.Proofs.Try.prog (kl76_0 Go.Proofs.Try.prog):=kf75_ok.loop ok76_0

/-! (ductility/modal.decay).crossings -/

abbrev as76:List Ty:=[(.pair (.pair (.slice (.int .i64)) (.pair (.int .i64) .unit)) .unit)]
abbrev rs76:List Ty:=[(.slice (.pair (.int .i64) (.pair (.int .i64) .unit)))]

def t76 (x0_:(List Int)) (x0_':Int):Tr (Tys.data rs76) :=
  Tr.test (isBrk (l76_0 ((([]:List (Int×Int×PUnit)),((-1:Int),(x0_,((↑(List.length x0_):Int),((0:Int),()))))),((x0_,(x0_',())),()))))
    (let r0:=b76_0 ((([]:List (Int×Int×PUnit)),((-1:Int),(x0_,((↑(List.length x0_):Int),((0:Int),()))))),((x0_,(x0_',())),()));
    Tr.fin ((r0.1.1,())))
    (Tr.stop)

def f76 (d:Tys.data as76):Option (Tys.data rs76):=(t76 d.1.1.1 d.1.1.2.1).val
def g76 (d:Tys.data as76):Tys.data rs76:=(f76 d).getD (Tys.dflt rs76)
def p76:PureC:=pcOf as76 rs76 f76 g76

theorem wk76 (x0_:(List Int)) (x0_':Int):Walks (runPure (kl76_0 Go.Proofs.Try.prog).orc Go.Proofs.Try.prog 400 76 as76 rs76 (((x0_,x0_',()),()),())) (t76 x0_ x0_') [([tt],[1,2])] :=
  ⟨by kernel_rfl,trivial⟩

theorem ok76_t (x0_:(List Int)) (x0_':Int):TrOk (PureRuns Go.Proofs.Try.prog (kl76_0 Go.Proofs.Try.prog).orc 76 as76 rs76 (((x0_,x0_',()),()),())) (t76 x0_ x0_') :=
  Walks.ok (fun _ _ _=>PureRuns.of) (wk76 x0_ x0_') (by kernel_rfl)

theorem ok76:PureOk Go.Proofs.Try.prog 76 p76:=pureOk_of kl76_0_ok.base (T:=fun (d:Tys.data as76)=>t76 d.1.1.1 d.1.1.2.1) (by kernel_rfl) (fun (d:Tys.data as76)=>ok76_t d.1.1.1 d.1.1.2.1)
def kf76 (P:Go.Program):Known:=(kl76_0 P).func 76 p76
theorem kf76_ok:KnownOk Go.Proofs.Try.prog (kf76 Go.Proofs.Try.prog):=kl76_0_ok.func ok76

/-! loop 2 of ductility/modal.divisorOf -/

abbrev sh107_2:Sh:={ n:=26,slots:=[5,7,9,10,11],pats:=[.ty (.int .i64),.ty (.int .i64),.ty (.slice (.int .i64)),.ty (.int .i64),.ty (.int .i64)],boxes:=[] }
abbrev shb107_2:Sh:={ n:=26,slots:=[5,9,10,11],pats:=[.ty (.int .i64),.ty (.slice (.int .i64)),.ty (.int .i64),.ty (.int .i64)],boxes:=[] }
abbrev shr107_2:Sh:={ n:=26,slots:=[],pats:=[],boxes:=[] }

def t107_2 (x0:Int) (x1:Int) (x2:(List Int)) (x3:Int) (x4:Int):Tr (Out sh107_2.data shb107_2.data shr107_2.data) :=
  Tr.test ((!eqF x1 0:Bool))
    (Tr.test (x1 == (0:Int))
      (Tr.stop)
      (Tr.fin (.again ((x1,((Int.tmod x0 x1:Int),(x2,(x3,(x4,()))))),()))))
    (Tr.fin (.brk ((x0,(x2,(x3,(x4,())))),())))

def s107_2 (d:sh107_2.data):Option (Out sh107_2.data shb107_2.data shr107_2.data):=(t107_2 d.1.1 d.1.2.1 d.1.2.2.1 d.1.2.2.2.1 d.1.2.2.2.2.1).val
def l107_2 (d:sh107_2.data):Option (shb107_2.data ⊕ shr107_2.data):=itr s107_2 rounds d
def b107_2 (d:sh107_2.data):shb107_2.data:=outB shb107_2.dflt (l107_2 d)
def lc107_2:LoopC:=lcB sh107_2 shb107_2 shr107_2 l107_2 b107_2

theorem wk107_2 (x0:Int) (x1:Int) (x2:(List Int)) (x3:Int) (x4:Int):Walks (runBody (kf76 Go.Proofs.Try.prog).orc Go.Proofs.Try.prog 400 107 2 sh107_2 shb107_2 shr107_2 ((x0,x1,x2,x3,x4,()),())) (t107_2 x0 x1 x2 x3 x4) [([true,false],[2,4]),([ff],[2])] :=
  ⟨by kernel_rfl,by kernel_rfl,trivial⟩

theorem ok107_2_t (x0:Int) (x1:Int) (x2:(List Int)) (x3:Int) (x4:Int):TrOk (BodyRuns Go.Proofs.Try.prog (kf76 Go.Proofs.Try.prog).orc 107 2 sh107_2 shb107_2 shr107_2 ((x0,x1,x2,x3,x4,()),())) (t107_2 x0 x1 x2 x3 x4) :=
  Walks.ok (fun _ _ _=>BodyRuns.of) (wk107_2 x0 x1 x2 x3 x4) (by kernel_rfl)

theorem ok107_2:LoopOk Go.Proofs.Try.prog 107 2 lc107_2:=loopOk_ofB (sh:=sh107_2) (shB:=shb107_2) (shR:=shr107_2) kf76_ok.base (T:=fun (d:sh107_2.data)=>t107_2 d.1.1 d.1.2.1 d.1.2.2.1 d.1.2.2.2.1 d.1.2.2.2.2.1) (by kernel_rfl) rfl (fun (d:sh107_2.data)=>ok107_2_t d.1.1 d.1.2.1 d.1.2.2.1 d.1.2.2.2.1 d.1.2.2.2.2.1) (fun _=>rfl)
def kl107_2 (P:Go.Program):Known:=(kf76 P).loop 107 2 lc107_2
theorem kl107_2_ok:KnownOk Go.Proofs.Try.prog (kl107_2 Go.Proofs.Try.prog):=kf76_ok.loop ok107_2

/-! loop 0 of ductility/modal.divisorOf -/

abbrev sh107_0:Sh:={ n:=26,slots:=[5,9,10,11],pats:=[.ty (.int .i64),.ty (.slice (.int .i64)),.ty (.int .i64),.ty (.int .i64)],boxes:=[] }
abbrev shb107_0:Sh:={ n:=26,slots:=[5],pats:=[.ty (.int .i64)],boxes:=[] }
abbrev shr107_0:Sh:={ n:=26,slots:=[],pats:=[],boxes:=[] }

def t107_0 (x0:Int) (x1:(List Int)) (x2:Int) (x3:Int):Tr (Out sh107_0.data shb107_0.data shr107_0.data) :=
  Tr.test ((!leF x2 x3:Bool))
    (Tr.test (decide ((0:Int) ≤ x3) && decide (x3 < (↑(List.length x1):Int)))
      (Tr.test (isBrk (l107_2 ((x0,((List.getD x1 (Int.toNat x3) (0:Int):Int),(x1,(x2,(x3,()))))),())))
        (let r0:=b107_2 ((x0,((List.getD x1 (Int.toNat x3) (0:Int):Int),(x1,(x2,(x3,()))))),());
        Tr.fin (.again ((r0.1.1,(r0.1.2.1,(r0.1.2.2.1,((wrap64 (r0.1.2.2.2.1 + (1:Int)):Int),())))),())))
        (Tr.stop))
      (Tr.stop))
    (Tr.fin (.brk ((x0,()),())))

def s107_0 (d:sh107_0.data):Option (Out sh107_0.data shb107_0.data shr107_0.data):=(t107_0 d.1.1 d.1.2.1 d.1.2.2.1 d.1.2.2.2.1).val
def l107_0 (d:sh107_0.data):Option (shb107_0.data ⊕ shr107_0.data):=itr s107_0 rounds d
def b107_0 (d:sh107_0.data):shb107_0.data:=outB shb107_0.dflt (l107_0 d)
def lc107_0:LoopC:=lcB sh107_0 shb107_0 shr107_0 l107_0 b107_0

theorem wk107_0 (x0:Int) (x1:(List Int)) (x2:Int) (x3:Int):Walks (runBody (kl107_2 Go.Proofs.Try.prog).orc Go.Proofs.Try.prog 400 107 0 sh107_0 shb107_0 shr107_0 ((x0,x1,x2,x3,()),())) (t107_0 x0 x1 x2 x3) [([true,true,true],[1,2,4,6]),([ff],[2])] :=
  ⟨by kernel_rfl,by kernel_rfl,trivial⟩

theorem ok107_0_t (x0:Int) (x1:(List Int)) (x2:Int) (x3:Int):TrOk (BodyRuns Go.Proofs.Try.prog (kl107_2 Go.Proofs.Try.prog).orc 107 0 sh107_0 shb107_0 shr107_0 ((x0,x1,x2,x3,()),())) (t107_0 x0 x1 x2 x3) :=
  Walks.ok (fun _ _ _=>BodyRuns.of) (wk107_0 x0 x1 x2 x3) (by kernel_rfl)

theorem ok107_0:LoopOk Go.Proofs.Try.prog 107 0 lc107_0:=loopOk_ofB (sh:=sh107_0) (shB:=shb107_0) (shR:=shr107_0) kl107_2_ok.base (T:=fun (d:sh107_0.data)=>t107_0 d.1.1 d.1.2.1 d.1.2.2.1 d.1.2.2.2.1) (by kernel_rfl) rfl (fun (d:sh107_0.data)=>ok107_0_t d.1.1 d.1.2.1 d.1.2.2.1 d.1.2.2.2.1) (fun _=>rfl)
def kl107_0 (P:Go.Program):Known:=(kl107_2 P).loop 107 0 lc107_0
theorem kl107_0_ok:KnownOk Go.Proofs.Try.prog (kl107_0 Go.Proofs.Try.prog):=kl107_2_ok.loop ok107_0

/-! ductility/modal.divisorOf -/

abbrev as107:List Ty:=[(.int .i64),(.slice (.int .i64))]
abbrev rs107:List Ty:=[(.int .i64)]

def t107 (x0:Int) (x1:(List Int)):Tr (Tys.data rs107) :=
  Tr.test (isBrk (l107_0 ((x0,(x1,((↑(List.length x1):Int),((0:Int),())))),())))
    (let r0:=b107_0 ((x0,(x1,((↑(List.length x1):Int),((0:Int),())))),());
    Tr.fin (((if r0.1.1 < Go.IntKind.wrap Go.IntKind.i64 ((0:Int) - r0.1.1) then Go.IntKind.wrap Go.IntKind.i64 ((0:Int) - r0.1.1) else r0.1.1:Int),())))
    (Tr.stop)

def f107 (d:Tys.data as107):Option (Tys.data rs107):=(t107 d.1 d.2.1).val
def g107 (d:Tys.data as107):Tys.data rs107:=(f107 d).getD (Tys.dflt rs107)
def p107:PureC:=pcOf as107 rs107 f107 g107

theorem wk107 (x0:Int) (x1:(List Int)):Walks (runPure (kl107_0 Go.Proofs.Try.prog).orc Go.Proofs.Try.prog 400 107 as107 rs107 (x0,x1,())) (t107 x0 x1) [([tt],[1,2])] :=
  ⟨by kernel_rfl,trivial⟩

theorem ok107_t (x0:Int) (x1:(List Int)):TrOk (PureRuns Go.Proofs.Try.prog (kl107_0 Go.Proofs.Try.prog).orc 107 as107 rs107 (x0,x1,())) (t107 x0 x1) :=
  Walks.ok (fun _ _ _=>PureRuns.of) (wk107 x0 x1) (by kernel_rfl)

theorem ok107:PureOk Go.Proofs.Try.prog 107 p107:=pureOk_of kl107_0_ok.base (T:=fun (d:Tys.data as107)=>t107 d.1 d.2.1) (by kernel_rfl) (fun (d:Tys.data as107)=>ok107_t d.1 d.2.1)
def kf107 (P:Go.Program):Known:=(kl107_0 P).func 107 p107
theorem kf107_ok:KnownOk Go.Proofs.Try.prog (kf107 Go.Proofs.Try.prog):=kl107_0_ok.func ok107

/-! ductility/modal.fraction -/

abbrev as77:List Ty:=[(.int .i64),(.int .i64)]
abbrev rs77:List Ty:=[(.pair (.int .i64) (.pair (.int .i64) .unit))]

def t77 (x0:Int) (x1:Int):Tr (Tys.data rs77) :=
  Tr.test (Option.isSome (f107 (x1,(([x0]:List Int),()))))
    (let r0:=g107 (x1,(([x0]:List Int),()));
    Tr.test ((r0.1 == (0:Int):Bool))
      (Tr.stop)
      (Tr.fin ((((Go.IntKind.wrap Go.IntKind.i64 (Int.tdiv x0 r0.1):Int),((Go.IntKind.wrap Go.IntKind.i64 (Int.tdiv x1 r0.1):Int),())),()))))
    (Tr.stop)

def f77 (d:Tys.data as77):Option (Tys.data rs77):=(t77 d.1 d.2.1).val
def g77 (d:Tys.data as77):Tys.data rs77:=(f77 d).getD (Tys.dflt rs77)
def p77:PureC:=pcOf as77 rs77 f77 g77

theorem wk77 (x0:Int) (x1:Int):Walks (runPure (kf107 Go.Proofs.Try.prog).orc Go.Proofs.Try.prog 400 77 as77 rs77 (x0,x1,())) (t77 x0 x1) [([true,false],[2,2,4,1])] :=
  ⟨by kernel_rfl,trivial⟩

theorem ok77_t (x0:Int) (x1:Int):TrOk (PureRuns Go.Proofs.Try.prog (kf107 Go.Proofs.Try.prog).orc 77 as77 rs77 (x0,x1,())) (t77 x0 x1) :=
  Walks.ok (fun _ _ _=>PureRuns.of) (wk77 x0 x1) (by kernel_rfl)

theorem ok77:PureOk Go.Proofs.Try.prog 77 p77:=pureOk_of kf107_ok.base (T:=fun (d:Tys.data as77)=>t77 d.1 d.2.1) (by kernel_rfl) (fun (d:Tys.data as77)=>ok77_t d.1 d.2.1)
def kf77 (P:Go.Program):Known:=(kf107 P).func 77 p77
theorem kf77_ok:KnownOk Go.Proofs.Try.prog (kf77 Go.Proofs.Try.prog):=kf107_ok.func ok77

/-! ductility/modal.PeriodIn -/

abbrev as43:List Ty:=[(.pair (.slice (.int .i64)) (.pair (.int .i64) .unit))]
abbrev rs43:List Ty:=[(.pair (.pair (.int .i64) (.pair (.int .i64) .unit)) (.pair (.pair (.int .i64) (.pair (.int .i64) .unit)) .unit)),(.int .i64)]

def t43 (x0:(List Int)) (x0':Int):Tr (Tys.data rs43) :=
  Tr.test (Option.isSome (f75 ((x0,(x0',())),())))
    (let r0:=g75 ((x0,(x0',())),());
    Tr.test ((!eqF r0.2.1 0:Bool))
      (Tr.fin (((((0:Int),((0:Int),())),(((0:Int),((0:Int),())),())),(r0.2.1,()))))
      (Tr.test (Option.isSome (f76 (((r0.1.1.1,(r0.1.1.2.1,())),()),())))
        (let r1:=g76 (((r0.1.1.1,(r0.1.1.2.1,())),()),());
        Tr.test ((!leF (1:Int) (wrap64 ((↑(List.length r1.1):Int) - (1:Int))):Bool))
          (Tr.fin (((((0:Int),((0:Int),())),(((0:Int),((0:Int),())),())),((12:Int),()))))
          (Tr.test ((true && decide ((0:Int) < (↑(List.length r1.1):Int)):Bool))
            (Tr.test ((decide ((0:Int) ≤ wrap64 ((↑(List.length r1.1):Int) - (1:Int))) && decide (wrap64 ((↑(List.length r1.1):Int) - (1:Int)) < (↑(List.length r1.1):Int)):Bool))
              (Tr.test (Option.isSome (f77 ((wrap64 ((List.getD r1.1 (Int.toNat (wrap64 ((↑(List.length r1.1):Int) - (1:Int)))) ((0:Int),(0:Int),())).1 - (List.getD r1.1 (0:Nat) ((0:Int),(0:Int),())).2.1):Int),((wrap64 ((↑(List.length r1.1):Int) - (1:Int)):Int),()))))
                (Tr.test (Option.isSome (f77 ((wrap64 ((List.getD r1.1 (Int.toNat (wrap64 ((↑(List.length r1.1):Int) - (1:Int)))) ((0:Int),(0:Int),())).2.1 - (List.getD r1.1 (0:Nat) ((0:Int),(0:Int),())).1):Int),((wrap64 ((↑(List.length r1.1):Int) - (1:Int)):Int),()))))
                  (let r2:=g77 ((wrap64 ((List.getD r1.1 (Int.toNat (wrap64 ((↑(List.length r1.1):Int) - (1:Int)))) ((0:Int),(0:Int),())).1 - (List.getD r1.1 (0:Nat) ((0:Int),(0:Int),())).2.1):Int),((wrap64 ((↑(List.length r1.1):Int) - (1:Int)):Int),()));
                  let r3:=g77 ((wrap64 ((List.getD r1.1 (Int.toNat (wrap64 ((↑(List.length r1.1):Int) - (1:Int)))) ((0:Int),(0:Int),())).2.1 - (List.getD r1.1 (0:Nat) ((0:Int),(0:Int),())).1):Int),((wrap64 ((↑(List.length r1.1):Int) - (1:Int)):Int),()));
                  Tr.fin ((((r2.1.1,(r2.1.2.1,())),((r3.1.1,(r3.1.2.1,())),())),((0:Int),()))))
                  (Tr.stop))
                (Tr.stop))
              (Tr.stop))
            (Tr.stop)))
        (Tr.stop)))
    (Tr.stop)

def f43 (d:Tys.data as43):Option (Tys.data rs43):=(t43 d.1.1 d.1.2.1).val
def g43 (d:Tys.data as43):Tys.data rs43:=(f43 d).getD (Tys.dflt rs43)
def p43:PureC:=pcOf as43 rs43 f43 g43

theorem wk43 (x0:(List Int)) (x0':Int):Walks (runPure (kf77 Go.Proofs.Try.prog).orc Go.Proofs.Try.prog 400 43 as43 rs43 ((x0,x0',()),())) (t43 x0 x0') [([true,true],[2,4]),([true,false,true,true],[2,4,6,8]),([true,false,true,false,true,true,true,true],[2,4,6,8,10,12,14,16])] :=
  ⟨by kernel_rfl,by kernel_rfl,by kernel_rfl,trivial⟩

theorem ok43_t (x0:(List Int)) (x0':Int):TrOk (PureRuns Go.Proofs.Try.prog (kf77 Go.Proofs.Try.prog).orc 43 as43 rs43 ((x0,x0',()),())) (t43 x0 x0') :=
  Walks.ok (fun _ _ _=>PureRuns.of) (wk43 x0 x0') (by kernel_rfl)

theorem ok43:PureOk Go.Proofs.Try.prog 43 p43:=pureOk_of kf77_ok.base (T:=fun (d:Tys.data as43)=>t43 d.1.1 d.1.2.1) (by kernel_rfl) (fun (d:Tys.data as43)=>ok43_t d.1.1 d.1.2.1)
def kf43 (P:Go.Program):Known:=(kf77 P).func 43 p43
theorem kf43_ok:KnownOk Go.Proofs.Try.prog (kf43 Go.Proofs.Try.prog):=kf77_ok.func ok43

/-! loop 0 of ductility/modal.checkItems[ductility/api.Range] -/

abbrev sh104_0:Sh:={ n:=25,slots:=[1,9,10,11],pats:=[.fn 117 [(0,1),(1,1)],.ty (.slice (.pair (.int .i64) (.pair (.int .i64) .unit))),.ty (.int .i64),.ty (.int .i64)],boxes:=[.row [.ty (.int .i64)],.row [.ty (.int .i64)]] }
abbrev shb104_0:Sh:={ n:=25,slots:=[],pats:=[],boxes:=[.row [.ty (.int .i64)],.row [.ty (.int .i64)]] }
abbrev shr104_0:Sh:={ n:=25,slots:=[4,5],pats:=[.ty (.int .i64),.ty (.int .i64)],boxes:=[.row [.ty (.int .i64)],.row [.ty (.int .i64)]] }

def t104_0 (x1:(List (Int×(Int×Unit)))) (x2:Int) (x3:Int) (b0_0:Int) (b1_0:Int):Tr (Out sh104_0.data shb104_0.data shr104_0.data) :=
  Tr.test ((!leF x2 x3:Bool))
    (Tr.test (decide ((0:Int) ≤ x3) && decide (x3 < (↑(List.length x1):Int)))
      (Tr.test (Option.isSome (f51 (b0_0,(b1_0,(([(List.getD x1 (Int.toNat x3) ((0:Int),(0:Int),())).1,(List.getD x1 (Int.toNat x3) ((0:Int),(0:Int),())).2.1]:List Int),())))))
        (let r0:=g51 (b0_0,(b1_0,(([(List.getD x1 (Int.toNat x3) ((0:Int),(0:Int),())).1,(List.getD x1 (Int.toNat x3) ((0:Int),(0:Int),())).2.1]:List Int),())));
        Tr.test (Option.isSome (f52 ((!r0.1:Bool),((2:Int),()))))
          (Tr.test (Option.isSome (f52 ((!leF (List.getD x1 (Int.toNat x3) ((0:Int),(0:Int),())).1 (List.getD x1 (Int.toNat x3) ((0:Int),(0:Int),())).2.1:Bool),((9:Int),()))))
            (let r1:=g52 ((!r0.1:Bool),((2:Int),()));
            let r2:=g52 ((!leF (List.getD x1 (Int.toNat x3) ((0:Int),(0:Int),())).1 (List.getD x1 (Int.toNat x3) ((0:Int),(0:Int),())).2.1:Bool),((9:Int),()));
            Tr.test (Option.isSome (f72 (([r1.1,r2.1]:List Int),())))
              (let r3:=g72 (([r1.1,r2.1]:List Int),());
              Tr.test ((!eqF r3.1 0:Bool))
                (Tr.fin (.ret ((x3,(r3.1,())),((b0_0,()),((b1_0,()),())))))
                (Tr.fin (.again ((x1,(x2,((wrap64 (x3 + (1:Int)):Int),()))),((b0_0,()),((b1_0,()),()))))))
              (Tr.stop))
            (Tr.stop))
          (Tr.stop))
        (Tr.stop))
      (Tr.stop))
    (Tr.fin (.brk ((),((b0_0,()),((b1_0,()),())))))

def s104_0 (d:sh104_0.data):Option (Out sh104_0.data shb104_0.data shr104_0.data):=(t104_0 d.1.1 d.1.2.1 d.1.2.2.1 d.2.1.1 d.2.2.1.1).val
def l104_0 (d:sh104_0.data):Option (shb104_0.data ⊕ shr104_0.data):=itr s104_0 rounds d
def b104_0 (d:sh104_0.data):shb104_0.data:=outB shb104_0.dflt (l104_0 d)
def r104_0 (d:sh104_0.data):shr104_0.data:=outR shr104_0.dflt (l104_0 d)
def lc104_0:LoopC:=lcOf sh104_0 shb104_0 shr104_0 l104_0 b104_0 r104_0

theorem wk104_0 (x1:(List (Int×(Int×Unit)))) (x2:Int) (x3:Int) (b0_0:Int) (b1_0:Int):Walks (runBody (kf43 Go.Proofs.Try.prog).orc Go.Proofs.Try.prog 400 104 0 sh104_0 shb104_0 shr104_0 ((x1,x2,x3,()),(b0_0,()),(b1_0,()),())) (t104_0 x1 x2 x3 b0_0 b1_0) [([true,true,true,true,true,true,true],[2,4,1,6,8,10,1,12,14]),([true,true,true,true,true,true,false],[2,4,1,6,8,10,1,12,14]),([ff],[2])] :=
  ⟨by kernel_rfl,by kernel_rfl,by kernel_rfl,trivial⟩

theorem ok104_0_t (x1:(List (Int×(Int×Unit)))) (x2:Int) (x3:Int) (b0_0:Int) (b1_0:Int):TrOk (BodyRuns Go.Proofs.Try.prog (kf43 Go.Proofs.Try.prog).orc 104 0 sh104_0 shb104_0 shr104_0 ((x1,x2,x3,()),(b0_0,()),(b1_0,()),())) (t104_0 x1 x2 x3 b0_0 b1_0) :=
  Walks.ok (fun _ _ _=>BodyRuns.of) (wk104_0 x1 x2 x3 b0_0 b1_0) (by kernel_rfl)

theorem ok104_0:LoopOk Go.Proofs.Try.prog 104 0 lc104_0:=loopOk_of (sh:=sh104_0) (shB:=shb104_0) (shR:=shr104_0) kf43_ok.base (T:=fun (d:sh104_0.data)=>t104_0 d.1.1 d.1.2.1 d.1.2.2.1 d.2.1.1 d.2.2.1.1) (by kernel_rfl) rfl (fun (d:sh104_0.data)=>ok104_0_t d.1.1 d.1.2.1 d.1.2.2.1 d.2.1.1 d.2.2.1.1) (fun _=>rfl)
def kl104_0 (P:Go.Program):Known:=(kf43 P).loop 104 0 lc104_0
theorem kl104_0_ok:KnownOk Go.Proofs.Try.prog (kl104_0 Go.Proofs.Try.prog):=kf43_ok.loop ok104_0

end Go.Vm.Mo
