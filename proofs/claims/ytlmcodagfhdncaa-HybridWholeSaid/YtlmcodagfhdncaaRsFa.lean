import Derived.Test.YtlmcodagfhdncaaA4
import Derived.KernelRfl
import Derived.Test.YtlmcodagfhdncaaProg
set_option linter.unusedVariables false
set_option linter.unusedSimpArgs false

namespace Go.Vm.Mo
open Go
set_option linter.unusedVariables false

def kn0 (_:Go.Program):Known:=⟨[],[]⟩

abbrev tt:Bool:=true
abbrev ff:Bool:=false
theorem ac {b d:Bool} {r:List (Bool×Bool)} (h:b = d) (t:All r):All ((b, d) :: r):=All.cons h t

theorem plainP:Plain Go.Proofs.Try.prog:=by
  have h : (Go.Proofs.Try.prog.funcs.toList.all fun fn => !(fn.body.isSome && fn.name == "runtime.NumGoroutine")) = true := by kernel_rfl
  intro f fn hf hb
  have hm:fn ∈ Go.Proofs.Try.prog.funcs.toList:=by
    have:=Array.getElem?_eq_some_iff.1 hf
    obtain ⟨hlt,rfl⟩:=this
    simp
  have:=List.all_eq_true.1 h fn hm
  rw [hb] at this
  simpa using this

theorem kn0_ok:KnownOk Go.Proofs.Try.prog (kn0 Go.Proofs.Try.prog):=⟨plainP,by kernel_rfl,(fun _ h=>by cases h),(fun _ h=>by cases h)⟩

/-! ductility/ductilitylaw08.Test -/

abbrev as52:List Ty:=[]
abbrev rs52:List Ty:=[(.pair (.int .i64) (.pair (.int .i64) (.pair (.int .i64) (.pair (.int .i64) (.pair (.int .i64) (.pair .bool (.pair (.int .i64) (.pair (.pair (.int .i64) (.pair (.int .i64) .unit)) .unit))))))))]

def t52 :Tr (Tys.data rs52) :=
  Tr.fin ((((4:Int),((1:Int),((2:Int),((2:Int),((1:Int),((false:Bool),((3:Int),(((0:Int),((8:Int),())),())))))))),()))

def f52 (d:Tys.data as52):Option (Tys.data rs52):=(t52 ).val
def g52 (d:Tys.data as52):Tys.data rs52:=(f52 d).getD (Tys.dflt rs52)
def p52:PureC:=pcOf as52 rs52 f52 g52

theorem wk52 :Walks (runPure (kn0 Go.Proofs.Try.prog).orc Go.Proofs.Try.prog 400 52 as52 rs52 ()) (t52 ) [([],[])] :=
  ⟨by kernel_rfl,trivial⟩

theorem ok52_t :TrOk (PureRuns Go.Proofs.Try.prog (kn0 Go.Proofs.Try.prog).orc 52 as52 rs52 ()) (t52 ) :=
  Walks.ok (fun _ _ _=>PureRuns.of) (wk52 ) (by kernel_rfl)

theorem ok52:PureOk Go.Proofs.Try.prog 52 p52:=pureOk_of kn0_ok.base (T:=fun (d:Tys.data as52)=>t52 ) (by kernel_rfl) (fun (d:Tys.data as52)=>ok52_t )
def kf52 (P:Go.Program):Known:=(kn0 P).func 52 p52
theorem kf52_ok:KnownOk Go.Proofs.Try.prog (kf52 Go.Proofs.Try.prog):=kn0_ok.func ok52

/-! ductility/ductilitylaw08.Messages -/

abbrev as53:List Ty:=[]
abbrev rs53:List Ty:=[(.slice (.pair (.int .i64) (.pair (.int .i64) (.pair (.int .i64) .unit))))]

def t53 :Tr (Tys.data rs53) :=
  Tr.fin ((([((0:Int),(0:Int),(10:Int),()),((1:Int),(0:Int),(14:Int),()),((0:Int),(1:Int),(20:Int),()),((1:Int),(1:Int),(29:Int),()),((0:Int),(2:Int),(30:Int),())]:List (Int×Int×Int×PUnit)),()))

def f53 (d:Tys.data as53):Option (Tys.data rs53):=(t53 ).val
def g53 (d:Tys.data as53):Tys.data rs53:=(f53 d).getD (Tys.dflt rs53)
def p53:PureC:=pcOf as53 rs53 f53 g53

theorem wk53 :Walks (runPure (kf52 Go.Proofs.Try.prog).orc Go.Proofs.Try.prog 400 53 as53 rs53 ()) (t53 ) [([],[])] :=
  ⟨by kernel_rfl,trivial⟩

theorem ok53_t :TrOk (PureRuns Go.Proofs.Try.prog (kf52 Go.Proofs.Try.prog).orc 53 as53 rs53 ()) (t53 ) :=
  Walks.ok (fun _ _ _=>PureRuns.of) (wk53 ) (by kernel_rfl)

theorem ok53:PureOk Go.Proofs.Try.prog 53 p53:=pureOk_of kf52_ok.base (T:=fun (d:Tys.data as53)=>t53 ) (by kernel_rfl) (fun (d:Tys.data as53)=>ok53_t )
def kf53 (P:Go.Program):Known:=(kf52 P).func 53 p53
theorem kf53_ok:KnownOk Go.Proofs.Try.prog (kf53 Go.Proofs.Try.prog):=kf52_ok.func ok53

/-! loop 0 of ductility/hybrid.areWithin -/

abbrev sh57_0:Sh:={ n:=24,slots:=[0,1,9,10,11],pats:=[.ty (.int .i64),.ty (.int .i64),.ty (.slice (.int .i64)),.ty (.int .i64),.ty (.int .i64)],boxes:=[] }
abbrev shb57_0:Sh:={ n:=24,slots:=[],pats:=[],boxes:=[] }
abbrev shr57_0:Sh:={ n:=24,slots:=[6],pats:=[.ty .bool],boxes:=[] }

def t57_0 (x0:Int) (x1:Int) (x2:(List Int)) (x3:Int) (x4:Int):Tr (Out sh57_0.data shb57_0.data shr57_0.data) :=
  Tr.test ((!leF x3 x4:Bool))
    (Tr.test (decide ((0:Int) ≤ x4) && decide (x4 < (↑(List.length x2):Int)))
      (Tr.test ((!leF x0 (List.getD x2 (Int.toNat x4) (0:Int)):Bool))
        (Tr.fin (.ret (((false:Bool),()),())))
        (Tr.test ((!leF (List.getD x2 (Int.toNat x4) (0:Int)) x1:Bool))
          (Tr.fin (.ret (((false:Bool),()),())))
          (Tr.fin (.again ((x0,(x1,(x2,(x3,((wrap64 (x4 + (1:Int)):Int),()))))),())))))
      (Tr.stop))
    (Tr.fin (.brk ((),())))

def s57_0 (d:sh57_0.data):Option (Out sh57_0.data shb57_0.data shr57_0.data):=(t57_0 d.1.1 d.1.2.1 d.1.2.2.1 d.1.2.2.2.1 d.1.2.2.2.2.1).val
def l57_0 (d:sh57_0.data):Option (shb57_0.data ⊕ shr57_0.data):=itr s57_0 rounds d
def b57_0 (d:sh57_0.data):shb57_0.data:=outB shb57_0.dflt (l57_0 d)
def r57_0 (d:sh57_0.data):shr57_0.data:=outR shr57_0.dflt (l57_0 d)
def lc57_0:LoopC:=lcOf sh57_0 shb57_0 shr57_0 l57_0 b57_0 r57_0

theorem wk57_0 (x0:Int) (x1:Int) (x2:(List Int)) (x3:Int) (x4:Int):Walks (runBody (kf53 Go.Proofs.Try.prog).orc Go.Proofs.Try.prog 400 57 0 sh57_0 shb57_0 shr57_0 ((x0,x1,x2,x3,x4,()),())) (t57_0 x0 x1 x2 x3 x4) [([true,true,true],[1,2,2,2,2,4,6]),([true,true,false,true],[2,4,4,4,4,6,8]),([true,true,false,false],[2,4,4,4,4,6,8]),([ff],[2])] :=
  ⟨by kernel_rfl,by kernel_rfl,by kernel_rfl,by kernel_rfl,trivial⟩

theorem ok57_0_t (x0:Int) (x1:Int) (x2:(List Int)) (x3:Int) (x4:Int):TrOk (BodyRuns Go.Proofs.Try.prog (kf53 Go.Proofs.Try.prog).orc 57 0 sh57_0 shb57_0 shr57_0 ((x0,x1,x2,x3,x4,()),())) (t57_0 x0 x1 x2 x3 x4) :=
  Walks.ok (fun _ _ _=>BodyRuns.of) (wk57_0 x0 x1 x2 x3 x4) (by kernel_rfl)

theorem ok57_0:LoopOk Go.Proofs.Try.prog 57 0 lc57_0:=loopOk_of (sh:=sh57_0) (shB:=shb57_0) (shR:=shr57_0) kf53_ok.base (T:=fun (d:sh57_0.data)=>t57_0 d.1.1 d.1.2.1 d.1.2.2.1 d.1.2.2.2.1 d.1.2.2.2.2.1) (by kernel_rfl) rfl (fun (d:sh57_0.data)=>ok57_0_t d.1.1 d.1.2.1 d.1.2.2.1 d.1.2.2.2.1 d.1.2.2.2.2.1) (fun _=>rfl)
def kl57_0 (P:Go.Program):Known:=(kf53 P).loop 57 0 lc57_0
theorem kl57_0_ok:KnownOk Go.Proofs.Try.prog (kl57_0 Go.Proofs.Try.prog):=kf53_ok.loop ok57_0

/-! ductility/hybrid.areWithin -/

abbrev as57:List Ty:=[(.int .i64),(.int .i64),(.slice (.int .i64))]
abbrev rs57:List Ty:=[.bool]

def t57 (x0:Int) (x1:Int) (x2:(List Int)):Tr (Tys.data rs57) :=
  Tr.test (Option.isSome (l57_0 ((x0,(x1,(x2,((↑(List.length x2):Int),((0:Int),()))))),())))
    (Tr.test (isRet (l57_0 ((x0,(x1,(x2,((↑(List.length x2):Int),((0:Int),()))))),())))
      (let r0:=r57_0 ((x0,(x1,(x2,((↑(List.length x2):Int),((0:Int),()))))),());
      Tr.fin ((r0.1.1,())))
      (Tr.fin (((true:Bool),()))))
    (Tr.stop)

def f57 (d:Tys.data as57):Option (Tys.data rs57):=(t57 d.1 d.2.1 d.2.2.1).val
def g57 (d:Tys.data as57):Tys.data rs57:=(f57 d).getD (Tys.dflt rs57)
def p57:PureC:=pcOf as57 rs57 f57 g57

theorem wk57 (x0:Int) (x1:Int) (x2:(List Int)):Walks (runPure (kl57_0 Go.Proofs.Try.prog).orc Go.Proofs.Try.prog 400 57 as57 rs57 (x0,x1,x2,())) (t57 x0 x1 x2) [([true,true],[2,4]),([true,false],[2,4])] :=
  ⟨by kernel_rfl,by kernel_rfl,trivial⟩

theorem ok57_t (x0:Int) (x1:Int) (x2:(List Int)):TrOk (PureRuns Go.Proofs.Try.prog (kl57_0 Go.Proofs.Try.prog).orc 57 as57 rs57 (x0,x1,x2,())) (t57 x0 x1 x2) :=
  Walks.ok (fun _ _ _=>PureRuns.of) (wk57 x0 x1 x2) (by kernel_rfl)

theorem ok57:PureOk Go.Proofs.Try.prog 57 p57:=pureOk_of kl57_0_ok.base (T:=fun (d:Tys.data as57)=>t57 d.1 d.2.1 d.2.2.1) (by kernel_rfl) (fun (d:Tys.data as57)=>ok57_t d.1 d.2.1 d.2.2.1)
def kf57 (P:Go.Program):Known:=(kl57_0 P).func 57 p57
theorem kf57_ok:KnownOk Go.Proofs.Try.prog (kf57 Go.Proofs.Try.prog):=kl57_0_ok.func ok57

/-! ductility/hybrid.when -/

abbrev as60:List Ty:=[.bool,(.int .i64)]
abbrev rs60:List Ty:=[(.int .i64)]

def t60 (x0:Bool) (x1:Int):Tr (Tys.data rs60) :=
  Tr.test (x0)
    (Tr.fin ((x1,())))
    (Tr.fin (((0:Int),())))

def f60 (d:Tys.data as60):Option (Tys.data rs60):=(t60 d.1 d.2.1).val
def g60 (d:Tys.data as60):Tys.data rs60:=(f60 d).getD (Tys.dflt rs60)
def p60:PureC:=pcOf as60 rs60 f60 g60

theorem wk60 (x0:Bool) (x1:Int):Walks (runPure (kf57 Go.Proofs.Try.prog).orc Go.Proofs.Try.prog 400 60 as60 rs60 (x0,x1,())) (t60 x0 x1) [([tt],[2]),([ff],[2])] :=
  ⟨by kernel_rfl,by kernel_rfl,trivial⟩

theorem ok60_t (x0:Bool) (x1:Int):TrOk (PureRuns Go.Proofs.Try.prog (kf57 Go.Proofs.Try.prog).orc 60 as60 rs60 (x0,x1,())) (t60 x0 x1) :=
  Walks.ok (fun _ _ _=>PureRuns.of) (wk60 x0 x1) (by kernel_rfl)

theorem ok60:PureOk Go.Proofs.Try.prog 60 p60:=pureOk_of kf57_ok.base (T:=fun (d:Tys.data as60)=>t60 d.1 d.2.1) (by kernel_rfl) (fun (d:Tys.data as60)=>ok60_t d.1 d.2.1)
def kf60 (P:Go.Program):Known:=(kf57 P).func 60 p60
theorem kf60_ok:KnownOk Go.Proofs.Try.prog (kf60 Go.Proofs.Try.prog):=kf57_ok.func ok60

/-! loop 0 of ductility/hybrid.firstOf -/

abbrev sh59_0:Sh:={ n:=15,slots:=[5,6,7],pats:=[.ty (.slice (.int .i64)),.ty (.int .i64),.ty (.int .i64)],boxes:=[] }
abbrev shb59_0:Sh:={ n:=15,slots:=[],pats:=[],boxes:=[] }
abbrev shr59_0:Sh:={ n:=15,slots:=[2],pats:=[.ty (.int .i64)],boxes:=[] }

def t59_0 (x0:(List Int)) (x1:Int) (x2:Int):Tr (Out sh59_0.data shb59_0.data shr59_0.data) :=
  Tr.test ((!leF x1 x2:Bool))
    (Tr.test (decide ((0:Int) ≤ x2) && decide (x2 < (↑(List.length x0):Int)))
      (Tr.test ((!eqF (List.getD x0 (Int.toNat x2) (0:Int)) (0:Int):Bool))
        (Tr.fin (.ret (((List.getD x0 (Int.toNat x2) (0:Int):Int),()),())))
        (Tr.fin (.again ((x0,(x1,((wrap64 (x2 + (1:Int)):Int),()))),()))))
      (Tr.stop))
    (Tr.fin (.brk ((),())))

def s59_0 (d:sh59_0.data):Option (Out sh59_0.data shb59_0.data shr59_0.data):=(t59_0 d.1.1 d.1.2.1 d.1.2.2.1).val
def l59_0 (d:sh59_0.data):Option (shb59_0.data ⊕ shr59_0.data):=itr s59_0 rounds d
def b59_0 (d:sh59_0.data):shb59_0.data:=outB shb59_0.dflt (l59_0 d)
def r59_0 (d:sh59_0.data):shr59_0.data:=outR shr59_0.dflt (l59_0 d)
def lc59_0:LoopC:=lcOf sh59_0 shb59_0 shr59_0 l59_0 b59_0 r59_0

theorem wk59_0 (x0:(List Int)) (x1:Int) (x2:Int):Walks (runBody (kf60 Go.Proofs.Try.prog).orc Go.Proofs.Try.prog 400 59 0 sh59_0 shb59_0 shr59_0 ((x0,x1,x2,()),())) (t59_0 x0 x1 x2) [([true,true,true],[2,4,6]),([true,true,false],[2,4,6]),([ff],[2])] :=
  ⟨by kernel_rfl,by kernel_rfl,by kernel_rfl,trivial⟩

theorem ok59_0_t (x0:(List Int)) (x1:Int) (x2:Int):TrOk (BodyRuns Go.Proofs.Try.prog (kf60 Go.Proofs.Try.prog).orc 59 0 sh59_0 shb59_0 shr59_0 ((x0,x1,x2,()),())) (t59_0 x0 x1 x2) :=
  Walks.ok (fun _ _ _=>BodyRuns.of) (wk59_0 x0 x1 x2) (by kernel_rfl)

theorem ok59_0:LoopOk Go.Proofs.Try.prog 59 0 lc59_0:=loopOk_of (sh:=sh59_0) (shB:=shb59_0) (shR:=shr59_0) kf60_ok.base (T:=fun (d:sh59_0.data)=>t59_0 d.1.1 d.1.2.1 d.1.2.2.1) (by kernel_rfl) rfl (fun (d:sh59_0.data)=>ok59_0_t d.1.1 d.1.2.1 d.1.2.2.1) (fun _=>rfl)
def kl59_0 (P:Go.Program):Known:=(kf60 P).loop 59 0 lc59_0
theorem kl59_0_ok:KnownOk Go.Proofs.Try.prog (kl59_0 Go.Proofs.Try.prog):=kf60_ok.loop ok59_0

/-! ductility/hybrid.firstOf -/

abbrev as59:List Ty:=[(.slice (.int .i64))]
abbrev rs59:List Ty:=[(.int .i64)]

def t59 (x0:(List Int)):Tr (Tys.data rs59) :=
  Tr.test (Option.isSome (l59_0 ((x0,((↑(List.length x0):Int),((0:Int),()))),())))
    (Tr.test (isRet (l59_0 ((x0,((↑(List.length x0):Int),((0:Int),()))),())))
      (let r0:=r59_0 ((x0,((↑(List.length x0):Int),((0:Int),()))),());
      Tr.fin ((r0.1.1,())))
      (Tr.fin (((0:Int),()))))
    (Tr.stop)

def f59 (d:Tys.data as59):Option (Tys.data rs59):=(t59 d.1).val
def g59 (d:Tys.data as59):Tys.data rs59:=(f59 d).getD (Tys.dflt rs59)
def p59:PureC:=pcOf as59 rs59 f59 g59

theorem wk59 (x0:(List Int)):Walks (runPure (kl59_0 Go.Proofs.Try.prog).orc Go.Proofs.Try.prog 400 59 as59 rs59 (x0,())) (t59 x0) [([true,true],[2,4]),([true,false],[2,4])] :=
  ⟨by kernel_rfl,by kernel_rfl,trivial⟩

theorem ok59_t (x0:(List Int)):TrOk (PureRuns Go.Proofs.Try.prog (kl59_0 Go.Proofs.Try.prog).orc 59 as59 rs59 (x0,())) (t59 x0) :=
  Walks.ok (fun _ _ _=>PureRuns.of) (wk59 x0) (by kernel_rfl)

theorem ok59:PureOk Go.Proofs.Try.prog 59 p59:=pureOk_of kl59_0_ok.base (T:=fun (d:Tys.data as59)=>t59 d.1) (by kernel_rfl) (fun (d:Tys.data as59)=>ok59_t d.1)
def kf59 (P:Go.Program):Known:=(kl59_0 P).func 59 p59
theorem kf59_ok:KnownOk Go.Proofs.Try.prog (kf59 Go.Proofs.Try.prog):=kl59_0_ok.func ok59

/-! loop 0 of ductility/hybrid.checkItems[ductility/api.HybridMessage] -/

abbrev sh83_0:Sh:={ n:=25,slots:=[1,9,10,11],pats:=[.fn 84 [(0,1)],.ty (.slice (.pair (.int .i64) (.pair (.int .i64) (.pair (.int .i64) .unit)))),.ty (.int .i64),.ty (.int .i64)],boxes:=[.row [.ty (.slice (.pair (.int .i64) (.pair (.int .i64) (.pair (.int .i64) .unit))))]] }
abbrev shb83_0:Sh:={ n:=25,slots:=[],pats:=[],boxes:=[.row [.ty (.slice (.pair (.int .i64) (.pair (.int .i64) (.pair (.int .i64) .unit))))]] }
abbrev shr83_0:Sh:={ n:=25,slots:=[4,5],pats:=[.ty (.int .i64),.ty (.int .i64)],boxes:=[.row [.ty (.slice (.pair (.int .i64) (.pair (.int .i64) (.pair (.int .i64) .unit))))]] }

def t83_0 (x1:(List (Int×(Int×(Int×Unit))))) (x2:Int) (x3:Int) (b0_0:(List (Int×(Int×(Int×Unit))))):Tr (Out sh83_0.data shb83_0.data shr83_0.data) :=
  Tr.test ((!leF x2 x3:Bool))
    (Tr.test (decide ((0:Int) ≤ x3) && decide (x3 < (↑(List.length x1):Int)))
      (Tr.test (Option.isSome (f57 ((0:Int),((60:Int),(([(List.getD x1 (Int.toNat x3) ((0:Int),(0:Int),(0:Int),())).2.1]:List Int),())))))
        (let r0:=g57 ((0:Int),((60:Int),(([(List.getD x1 (Int.toNat x3) ((0:Int),(0:Int),(0:Int),())).2.1]:List Int),())));
        Tr.test ((!r0.1:Bool))
          (Tr.test ((eqF (List.getD x1 (Int.toNat x3) ((0:Int),(0:Int),(0:Int),())).1 (Int.tmod x3 (2:Int)):Bool))
            (Tr.test (Option.isSome (f57 ((0:Int),((1:Int),(([(List.getD x1 (Int.toNat x3) ((0:Int),(0:Int),(0:Int),())).1]:List Int),())))))
              (let r1:=g57 ((0:Int),((1:Int),(([(List.getD x1 (Int.toNat x3) ((0:Int),(0:Int),(0:Int),())).1]:List Int),())));
              Tr.test (Option.isSome (f60 ((!r1.1:Bool),((15:Int),()))))
                (Tr.test (Option.isSome (f60 ((true:Bool),((2:Int),()))))
                  (Tr.test ((!leF x3 0:Bool))
                    (Tr.test ((decide ((0:Int) ≤ wrap64 (x3 - (1:Int))) && decide (wrap64 (x3 - (1:Int)) < (↑(List.length b0_0):Int)):Bool))
                      (Tr.test (Option.isSome (f60 ((!leF (List.getD b0_0 (Int.toNat (wrap64 (x3 - (1:Int)))) ((0:Int),(0:Int),(0:Int),())).2.2.1 (List.getD x1 (Int.toNat x3) ((0:Int),(0:Int),(0:Int),())).2.2.1:Bool),((9:Int),()))))
                        (Tr.test (Option.isSome (f60 ((!eqF (List.getD x1 (Int.toNat x3) ((0:Int),(0:Int),(0:Int),())).2.1 (Go.IntKind.wrap Go.IntKind.i64 (Int.tdiv x3 (2:Int))):Bool),((14:Int),()))))
                          (let r2:=g60 ((!r1.1:Bool),((15:Int),()));
                          let r3:=g60 ((true:Bool),((2:Int),()));
                          let r4:=g60 ((!leF (List.getD b0_0 (Int.toNat (wrap64 (x3 - (1:Int)))) ((0:Int),(0:Int),(0:Int),())).2.2.1 (List.getD x1 (Int.toNat x3) ((0:Int),(0:Int),(0:Int),())).2.2.1:Bool),((9:Int),()));
                          let r5:=g60 ((!eqF (List.getD x1 (Int.toNat x3) ((0:Int),(0:Int),(0:Int),())).2.1 (Go.IntKind.wrap Go.IntKind.i64 (Int.tdiv x3 (2:Int))):Bool),((14:Int),()));
                          Tr.test (Option.isSome (f59 (([r2.1,r3.1,r4.1,r5.1]:List Int),())))
                            (let r10:=g59 (([r2.1,r3.1,r4.1,r5.1]:List Int),());
                            Tr.test ((!eqF r10.1 0:Bool))
                              (Tr.fin (.ret ((x3,(r10.1,())),((b0_0,()),()))))
                              (Tr.fin (.again ((x1,(x2,((wrap64 (x3 + (1:Int)):Int),()))),((b0_0,()),())))))
                            (Tr.stop))
                          (Tr.stop))
                        (Tr.stop))
                      (Tr.stop))
                    (Tr.test (Option.isSome (f60 ((false:Bool),((9:Int),()))))
                      (Tr.test (Option.isSome (f60 ((!eqF (List.getD x1 (Int.toNat x3) ((0:Int),(0:Int),(0:Int),())).2.1 (Go.IntKind.wrap Go.IntKind.i64 (Int.tdiv x3 (2:Int))):Bool),((14:Int),()))))
                        (let r2:=g60 ((!r1.1:Bool),((15:Int),()));
                        let r3:=g60 ((true:Bool),((2:Int),()));
                        let r5:=g60 ((!eqF (List.getD x1 (Int.toNat x3) ((0:Int),(0:Int),(0:Int),())).2.1 (Go.IntKind.wrap Go.IntKind.i64 (Int.tdiv x3 (2:Int))):Bool),((14:Int),()));
                        let r6:=g60 ((false:Bool),((9:Int),()));
                        Tr.test (Option.isSome (f59 (([r2.1,r3.1,r6.1,r5.1]:List Int),())))
                          (let r11:=g59 (([r2.1,r3.1,r6.1,r5.1]:List Int),());
                          Tr.test ((!eqF r11.1 0:Bool))
                            (Tr.fin (.ret ((x3,(r11.1,())),((b0_0,()),()))))
                            (Tr.fin (.again ((x1,(x2,((wrap64 (x3 + (1:Int)):Int),()))),((b0_0,()),())))))
                          (Tr.stop))
                        (Tr.stop))
                      (Tr.stop)))
                  (Tr.stop))
                (Tr.stop))
              (Tr.stop))
            (Tr.test (Option.isSome (f57 ((0:Int),((1:Int),(([(List.getD x1 (Int.toNat x3) ((0:Int),(0:Int),(0:Int),())).1]:List Int),())))))
              (let r1:=g57 ((0:Int),((1:Int),(([(List.getD x1 (Int.toNat x3) ((0:Int),(0:Int),(0:Int),())).1]:List Int),())));
              Tr.test (Option.isSome (f60 ((!r1.1:Bool),((15:Int),()))))
                (Tr.test (Option.isSome (f60 ((true:Bool),((2:Int),()))))
                  (Tr.test ((!leF x3 0:Bool))
                    (Tr.test ((decide ((0:Int) ≤ wrap64 (x3 - (1:Int))) && decide (wrap64 (x3 - (1:Int)) < (↑(List.length b0_0):Int)):Bool))
                      (Tr.test (Option.isSome (f60 ((!leF (List.getD b0_0 (Int.toNat (wrap64 (x3 - (1:Int)))) ((0:Int),(0:Int),(0:Int),())).2.2.1 (List.getD x1 (Int.toNat x3) ((0:Int),(0:Int),(0:Int),())).2.2.1:Bool),((9:Int),()))))
                        (Tr.test (Option.isSome (f60 ((true:Bool),((14:Int),()))))
                          (let r2:=g60 ((!r1.1:Bool),((15:Int),()));
                          let r3:=g60 ((true:Bool),((2:Int),()));
                          let r4:=g60 ((!leF (List.getD b0_0 (Int.toNat (wrap64 (x3 - (1:Int)))) ((0:Int),(0:Int),(0:Int),())).2.2.1 (List.getD x1 (Int.toNat x3) ((0:Int),(0:Int),(0:Int),())).2.2.1:Bool),((9:Int),()));
                          let r7:=g60 ((true:Bool),((14:Int),()));
                          Tr.test (Option.isSome (f59 (([r2.1,r3.1,r4.1,r7.1]:List Int),())))
                            (let r12:=g59 (([r2.1,r3.1,r4.1,r7.1]:List Int),());
                            Tr.test ((!eqF r12.1 0:Bool))
                              (Tr.fin (.ret ((x3,(r12.1,())),((b0_0,()),()))))
                              (Tr.fin (.again ((x1,(x2,((wrap64 (x3 + (1:Int)):Int),()))),((b0_0,()),())))))
                            (Tr.stop))
                          (Tr.stop))
                        (Tr.stop))
                      (Tr.stop))
                    (Tr.test (Option.isSome (f60 ((false:Bool),((9:Int),()))))
                      (Tr.test (Option.isSome (f60 ((true:Bool),((14:Int),()))))
                        (let r2:=g60 ((!r1.1:Bool),((15:Int),()));
                        let r3:=g60 ((true:Bool),((2:Int),()));
                        let r6:=g60 ((false:Bool),((9:Int),()));
                        let r7:=g60 ((true:Bool),((14:Int),()));
                        Tr.test (Option.isSome (f59 (([r2.1,r3.1,r6.1,r7.1]:List Int),())))
                          (let r13:=g59 (([r2.1,r3.1,r6.1,r7.1]:List Int),());
                          Tr.test ((!eqF r13.1 0:Bool))
                            (Tr.fin (.ret ((x3,(r13.1,())),((b0_0,()),()))))
                            (Tr.fin (.again ((x1,(x2,((wrap64 (x3 + (1:Int)):Int),()))),((b0_0,()),())))))
                          (Tr.stop))
                        (Tr.stop))
                      (Tr.stop)))
                  (Tr.stop))
                (Tr.stop))
              (Tr.stop)))
          (Tr.test (Option.isSome (f57 ((0:Int),((1000000000000:Int),(([(List.getD x1 (Int.toNat x3) ((0:Int),(0:Int),(0:Int),())).2.2.1]:List Int),())))))
            (Tr.test ((eqF (List.getD x1 (Int.toNat x3) ((0:Int),(0:Int),(0:Int),())).1 (Int.tmod x3 (2:Int)):Bool))
              (Tr.test (Option.isSome (f57 ((0:Int),((1:Int),(([(List.getD x1 (Int.toNat x3) ((0:Int),(0:Int),(0:Int),())).1]:List Int),())))))
                (let r1:=g57 ((0:Int),((1:Int),(([(List.getD x1 (Int.toNat x3) ((0:Int),(0:Int),(0:Int),())).1]:List Int),())));
                Tr.test (Option.isSome (f60 ((!r1.1:Bool),((15:Int),()))))
                  (let r8:=g57 ((0:Int),((1000000000000:Int),(([(List.getD x1 (Int.toNat x3) ((0:Int),(0:Int),(0:Int),())).2.2.1]:List Int),())));
                  Tr.test (Option.isSome (f60 ((!r8.1:Bool),((2:Int),()))))
                    (Tr.test ((!leF x3 0:Bool))
                      (Tr.test ((decide ((0:Int) ≤ wrap64 (x3 - (1:Int))) && decide (wrap64 (x3 - (1:Int)) < (↑(List.length b0_0):Int)):Bool))
                        (Tr.test (Option.isSome (f60 ((!leF (List.getD b0_0 (Int.toNat (wrap64 (x3 - (1:Int)))) ((0:Int),(0:Int),(0:Int),())).2.2.1 (List.getD x1 (Int.toNat x3) ((0:Int),(0:Int),(0:Int),())).2.2.1:Bool),((9:Int),()))))
                          (Tr.test (Option.isSome (f60 ((!eqF (List.getD x1 (Int.toNat x3) ((0:Int),(0:Int),(0:Int),())).2.1 (Go.IntKind.wrap Go.IntKind.i64 (Int.tdiv x3 (2:Int))):Bool),((14:Int),()))))
                            (let r2:=g60 ((!r1.1:Bool),((15:Int),()));
                            let r4:=g60 ((!leF (List.getD b0_0 (Int.toNat (wrap64 (x3 - (1:Int)))) ((0:Int),(0:Int),(0:Int),())).2.2.1 (List.getD x1 (Int.toNat x3) ((0:Int),(0:Int),(0:Int),())).2.2.1:Bool),((9:Int),()));
                            let r5:=g60 ((!eqF (List.getD x1 (Int.toNat x3) ((0:Int),(0:Int),(0:Int),())).2.1 (Go.IntKind.wrap Go.IntKind.i64 (Int.tdiv x3 (2:Int))):Bool),((14:Int),()));
                            let r9:=g60 ((!r8.1:Bool),((2:Int),()));
                            Tr.test (Option.isSome (f59 (([r2.1,r9.1,r4.1,r5.1]:List Int),())))
                              (let r14:=g59 (([r2.1,r9.1,r4.1,r5.1]:List Int),());
                              Tr.test ((!eqF r14.1 0:Bool))
                                (Tr.fin (.ret ((x3,(r14.1,())),((b0_0,()),()))))
                                (Tr.fin (.again ((x1,(x2,((wrap64 (x3 + (1:Int)):Int),()))),((b0_0,()),())))))
                              (Tr.stop))
                            (Tr.stop))
                          (Tr.stop))
                        (Tr.stop))
                      (Tr.test (Option.isSome (f60 ((false:Bool),((9:Int),()))))
                        (Tr.test (Option.isSome (f60 ((!eqF (List.getD x1 (Int.toNat x3) ((0:Int),(0:Int),(0:Int),())).2.1 (Go.IntKind.wrap Go.IntKind.i64 (Int.tdiv x3 (2:Int))):Bool),((14:Int),()))))
                          (let r2:=g60 ((!r1.1:Bool),((15:Int),()));
                          let r5:=g60 ((!eqF (List.getD x1 (Int.toNat x3) ((0:Int),(0:Int),(0:Int),())).2.1 (Go.IntKind.wrap Go.IntKind.i64 (Int.tdiv x3 (2:Int))):Bool),((14:Int),()));
                          let r6:=g60 ((false:Bool),((9:Int),()));
                          let r9:=g60 ((!r8.1:Bool),((2:Int),()));
                          Tr.test (Option.isSome (f59 (([r2.1,r9.1,r6.1,r5.1]:List Int),())))
                            (let r15:=g59 (([r2.1,r9.1,r6.1,r5.1]:List Int),());
                            Tr.test ((!eqF r15.1 0:Bool))
                              (Tr.fin (.ret ((x3,(r15.1,())),((b0_0,()),()))))
                              (Tr.fin (.again ((x1,(x2,((wrap64 (x3 + (1:Int)):Int),()))),((b0_0,()),())))))
                            (Tr.stop))
                          (Tr.stop))
                        (Tr.stop)))
                    (Tr.stop))
                  (Tr.stop))
                (Tr.stop))
              (Tr.test (Option.isSome (f57 ((0:Int),((1:Int),(([(List.getD x1 (Int.toNat x3) ((0:Int),(0:Int),(0:Int),())).1]:List Int),())))))
                (let r1:=g57 ((0:Int),((1:Int),(([(List.getD x1 (Int.toNat x3) ((0:Int),(0:Int),(0:Int),())).1]:List Int),())));
                Tr.test (Option.isSome (f60 ((!r1.1:Bool),((15:Int),()))))
                  (let r8:=g57 ((0:Int),((1000000000000:Int),(([(List.getD x1 (Int.toNat x3) ((0:Int),(0:Int),(0:Int),())).2.2.1]:List Int),())));
                  Tr.test (Option.isSome (f60 ((!r8.1:Bool),((2:Int),()))))
                    (Tr.test ((!leF x3 0:Bool))
                      (Tr.test ((decide ((0:Int) ≤ wrap64 (x3 - (1:Int))) && decide (wrap64 (x3 - (1:Int)) < (↑(List.length b0_0):Int)):Bool))
                        (Tr.test (Option.isSome (f60 ((!leF (List.getD b0_0 (Int.toNat (wrap64 (x3 - (1:Int)))) ((0:Int),(0:Int),(0:Int),())).2.2.1 (List.getD x1 (Int.toNat x3) ((0:Int),(0:Int),(0:Int),())).2.2.1:Bool),((9:Int),()))))
                          (Tr.test (Option.isSome (f60 ((true:Bool),((14:Int),()))))
                            (let r2:=g60 ((!r1.1:Bool),((15:Int),()));
                            let r4:=g60 ((!leF (List.getD b0_0 (Int.toNat (wrap64 (x3 - (1:Int)))) ((0:Int),(0:Int),(0:Int),())).2.2.1 (List.getD x1 (Int.toNat x3) ((0:Int),(0:Int),(0:Int),())).2.2.1:Bool),((9:Int),()));
                            let r7:=g60 ((true:Bool),((14:Int),()));
                            let r9:=g60 ((!r8.1:Bool),((2:Int),()));
                            Tr.test (Option.isSome (f59 (([r2.1,r9.1,r4.1,r7.1]:List Int),())))
                              (let r16:=g59 (([r2.1,r9.1,r4.1,r7.1]:List Int),());
                              Tr.test ((!eqF r16.1 0:Bool))
                                (Tr.fin (.ret ((x3,(r16.1,())),((b0_0,()),()))))
                                (Tr.fin (.again ((x1,(x2,((wrap64 (x3 + (1:Int)):Int),()))),((b0_0,()),())))))
                              (Tr.stop))
                            (Tr.stop))
                          (Tr.stop))
                        (Tr.stop))
                      (Tr.test (Option.isSome (f60 ((false:Bool),((9:Int),()))))
                        (Tr.test (Option.isSome (f60 ((true:Bool),((14:Int),()))))
                          (let r2:=g60 ((!r1.1:Bool),((15:Int),()));
                          let r6:=g60 ((false:Bool),((9:Int),()));
                          let r7:=g60 ((true:Bool),((14:Int),()));
                          let r9:=g60 ((!r8.1:Bool),((2:Int),()));
                          Tr.test (Option.isSome (f59 (([r2.1,r9.1,r6.1,r7.1]:List Int),())))
                            (let r17:=g59 (([r2.1,r9.1,r6.1,r7.1]:List Int),());
                            Tr.test ((!eqF r17.1 0:Bool))
                              (Tr.fin (.ret ((x3,(r17.1,())),((b0_0,()),()))))
                              (Tr.fin (.again ((x1,(x2,((wrap64 (x3 + (1:Int)):Int),()))),((b0_0,()),())))))
                            (Tr.stop))
                          (Tr.stop))
                        (Tr.stop)))
                    (Tr.stop))
                  (Tr.stop))
                (Tr.stop)))
            (Tr.stop)))
        (Tr.stop))
      (Tr.stop))
    (Tr.fin (.brk ((),((b0_0,()),()))))

def s83_0 (d:sh83_0.data):Option (Out sh83_0.data shb83_0.data shr83_0.data):=(t83_0 d.1.1 d.1.2.1 d.1.2.2.1 d.2.1.1).val
def l83_0 (d:sh83_0.data):Option (shb83_0.data ⊕ shr83_0.data):=itr s83_0 rounds d
def b83_0 (d:sh83_0.data):shb83_0.data:=outB shb83_0.dflt (l83_0 d)
def r83_0 (d:sh83_0.data):shr83_0.data:=outR shr83_0.dflt (l83_0 d)
def lc83_0:LoopC:=lcOf sh83_0 shb83_0 shr83_0 l83_0 b83_0 r83_0

theorem wk83_0 (x1:(List (Int×(Int×(Int×Unit))))) (x2:Int) (x3:Int) (b0_0:(List (Int×(Int×(Int×Unit))))):Walks (runBody (kf59 Go.Proofs.Try.prog).orc Go.Proofs.Try.prog 400 83 0 sh83_0 shb83_0 shr83_0 ((x1,x2,x3,()),(b0_0,()),())) (t83_0 x1 x2 x3 b0_0) [([true,true,true,true,true,true,true,true,true,true,true,true,true,true],[2,4,6,8,12,12,12,12,10,12,12,12,12,12,12,14,16,18,20,20,0,20,20,20,20,0,22,22,22,22,22,22,24,26,28]),([true,true,true,true,true,true,true,true,true,true,true,true,true,false],[2,4,6,8,12,12,12,12,10,12,12,12,12,12,12,14,16,18,20,20,0,20,20,20,20,0,22,22,22,22,22,22,24,26,28]),([true,true,true,true,true,true,true,true,false,true,true,true,true],[2,4,6,8,10,10,10,10,10,10,10,10,10,10,12,14,16,18,18,0,18,18,18,18,0,20,20,20,20,20,20,22,24,26]),([true,true,true,true,true,true,true,true,false,true,true,true,false],[2,4,6,8,10,10,10,10,10,10,10,10,10,10,12,14,16,18,18,0,18,18,18,18,0,20,20,20,20,20,20,22,24,26]),([true,true,true,true,false,true,true,true,true,true,true,true,true,true],[2,4,6,8,12,12,12,12,10,12,12,12,12,12,12,14,16,18,20,20,20,20,20,20,0,22,22,22,22,22,22,24,26,28]),([true,true,true,true,false,true,true,true,true,true,true,true,true,false],[2,4,6,8,12,12,12,12,10,12,12,12,12,12,12,14,16,18,20,20,20,20,20,20,0,22,22,22,22,22,22,24,26,28]),([true,true,true,true,false,true,true,true,false,true,true,true,true],[2,4,6,8,10,10,10,10,10,10,10,10,10,10,12,14,16,18,18,18,18,18,18,0,20,20,20,20,20,20,22,24,26]),([true,true,true,true,false,true,true,true,false,true,true,true,false],[2,4,6,8,10,10,10,10,10,10,10,10,10,10,12,14,16,18,18,18,18,18,18,0,20,20,20,20,20,20,22,24,26]),([true,true,true,false,true,true,true,true,true,true,true,true,true,true,true],[2,4,6,8,12,12,12,12,10,12,12,12,12,12,12,14,16,18,20,20,0,20,20,20,20,0,24,24,22,24,24,24,24,26,28,30]),([true,true,true,false,true,true,true,true,true,true,true,true,true,true,false],[2,4,6,8,12,12,12,12,10,12,12,12,12,12,12,14,16,18,20,20,0,20,20,20,20,0,24,24,22,24,24,24,24,26,28,30]),([true,true,true,false,true,true,true,true,true,false,true,true,true,true],[2,4,6,8,10,10,10,10,10,10,10,10,10,10,12,14,16,18,18,0,18,18,18,18,0,22,22,20,22,22,22,22,24,26,28]),([true,true,true,false,true,true,true,true,true,false,true,true,true,false],[2,4,6,8,10,10,10,10,10,10,10,10,10,10,12,14,16,18,18,0,18,18,18,18,0,22,22,20,22,22,22,22,24,26,28]),([true,true,true,false,true,false,true,true,true,true,true,true,true,true,true],[2,4,6,8,12,12,12,12,10,12,12,12,12,12,12,14,16,18,20,20,20,20,20,20,0,24,24,22,24,24,24,24,26,28,30]),([true,true,true,false,true,false,true,true,true,true,true,true,true,true,false],[2,4,6,8,12,12,12,12,10,12,12,12,12,12,12,14,16,18,20,20,20,20,20,20,0,24,24,22,24,24,24,24,26,28,30]),([true,true,true,false,true,false,true,true,true,false,true,true,true,true],[2,4,6,8,10,10,10,10,10,10,10,10,10,10,12,14,16,18,18,18,18,18,18,0,22,22,20,22,22,22,22,24,26,28]),([true,true,true,false,true,false,true,true,true,false,true,true,true,false],[2,4,6,8,10,10,10,10,10,10,10,10,10,10,12,14,16,18,18,18,18,18,18,0,22,22,20,22,22,22,22,24,26,28]),([ff],[2])] :=
  ⟨by kernel_rfl,by kernel_rfl,by kernel_rfl,by kernel_rfl,by kernel_rfl,by kernel_rfl,by kernel_rfl,by kernel_rfl,by kernel_rfl,by kernel_rfl,by kernel_rfl,by kernel_rfl,by kernel_rfl,by kernel_rfl,by kernel_rfl,by kernel_rfl,by kernel_rfl,trivial⟩

theorem ok83_0_t (x1:(List (Int×(Int×(Int×Unit))))) (x2:Int) (x3:Int) (b0_0:(List (Int×(Int×(Int×Unit))))):TrOk (BodyRuns Go.Proofs.Try.prog (kf59 Go.Proofs.Try.prog).orc 83 0 sh83_0 shb83_0 shr83_0 ((x1,x2,x3,()),(b0_0,()),())) (t83_0 x1 x2 x3 b0_0) :=
  Walks.ok (fun _ _ _=>BodyRuns.of) (wk83_0 x1 x2 x3 b0_0) (by kernel_rfl)

theorem ok83_0:LoopOk Go.Proofs.Try.prog 83 0 lc83_0:=loopOk_of (sh:=sh83_0) (shB:=shb83_0) (shR:=shr83_0) kf59_ok.base (T:=fun (d:sh83_0.data)=>t83_0 d.1.1 d.1.2.1 d.1.2.2.1 d.2.1.1) (by kernel_rfl) rfl (fun (d:sh83_0.data)=>ok83_0_t d.1.1 d.1.2.1 d.1.2.2.1 d.2.1.1) (fun _=>rfl)
def kl83_0 (P:Go.Program):Known:=(kf59 P).loop 83 0 lc83_0
theorem kl83_0_ok:KnownOk Go.Proofs.Try.prog (kl83_0 Go.Proofs.Try.prog):=kf59_ok.loop ok83_0

/-! ductility/hybrid.CheckMessages -/

abbrev as40:List Ty:=[(.slice (.pair (.int .i64) (.pair (.int .i64) (.pair (.int .i64) .unit))))]
abbrev rs40:List Ty:=[(.int .i64),(.int .i64)]

def t40 (x0:(List (Int×(Int×(Int×Unit))))):Tr (Tys.data rs40) :=
  Tr.test ((!leF (↑(List.length x0):Int) (60:Int):Bool))
    (Tr.fin (((0:Int),((8:Int),()))))
    (Tr.test (Option.isSome (l83_0 ((x0,((↑(List.length x0):Int),((0:Int),()))),((x0,()),()))))
      (Tr.test (isRet (l83_0 ((x0,((↑(List.length x0):Int),((0:Int),()))),((x0,()),()))))
        (let r0:=r83_0 ((x0,((↑(List.length x0):Int),((0:Int),()))),((x0,()),()));
        Tr.fin ((r0.1.1,(r0.1.2.1,()))))
        (Tr.fin (((0:Int),((0:Int),())))))
      (Tr.stop))

def f40 (d:Tys.data as40):Option (Tys.data rs40):=(t40 d.1).val
def g40 (d:Tys.data as40):Tys.data rs40:=(f40 d).getD (Tys.dflt rs40)
def p40:PureC:=pcOf as40 rs40 f40 g40

theorem wk40 (x0:(List (Int×(Int×(Int×Unit))))):Walks (runPure (kl83_0 Go.Proofs.Try.prog).orc Go.Proofs.Try.prog 400 40 as40 rs40 (x0,())) (t40 x0) [([tt],[2]),([false,true,true],[2,4,6]),([false,true,false],[2,4,6])] :=
  ⟨by kernel_rfl,by kernel_rfl,by kernel_rfl,trivial⟩

theorem ok40_t (x0:(List (Int×(Int×(Int×Unit))))):TrOk (PureRuns Go.Proofs.Try.prog (kl83_0 Go.Proofs.Try.prog).orc 40 as40 rs40 (x0,())) (t40 x0) :=
  Walks.ok (fun _ _ _=>PureRuns.of) (wk40 x0) (by kernel_rfl)

theorem ok40:PureOk Go.Proofs.Try.prog 40 p40:=pureOk_of kl83_0_ok.base (T:=fun (d:Tys.data as40)=>t40 d.1) (by kernel_rfl) (fun (d:Tys.data as40)=>ok40_t d.1)
def kf40 (P:Go.Program):Known:=(kl83_0 P).func 40 p40
theorem kf40_ok:KnownOk Go.Proofs.Try.prog (kf40 Go.Proofs.Try.prog):=kl83_0_ok.func ok40

/-! ductility/hybrid.clockError -/

abbrev as103:List Ty:=[(.pair (.int .i64) (.pair (.int .i64) .unit))]
abbrev rs103:List Ty:=[(.int .i64)]

def t103 (x0:Int) (x0':Int):Tr (Tys.data rs103) :=
  Tr.test (Option.isSome (f57 ((0:Int),((100000:Int),(([x0]:List Int),())))))
    (let r0:=g57 ((0:Int),((100000:Int),(([x0]:List Int),())));
    Tr.test (r0.1)
      (Tr.test (Option.isSome (f57 ((0:Int),((1000000000000:Int),(([x0']:List Int),())))))
        (let r1:=g57 ((0:Int),((1000000000000:Int),(([x0']:List Int),())));
        Tr.test (Option.isSome (f60 ((!r1.1:Bool),((2:Int),()))))
          (let r2:=g60 ((!r1.1:Bool),((2:Int),()));
          Tr.fin ((r2.1,())))
          (Tr.stop))
        (Tr.stop))
      (Tr.test (Option.isSome (f60 ((true:Bool),((2:Int),()))))
        (let r3:=g60 ((true:Bool),((2:Int),()));
        Tr.fin ((r3.1,())))
        (Tr.stop)))
    (Tr.stop)

def f103 (d:Tys.data as103):Option (Tys.data rs103):=(t103 d.1.1 d.1.2.1).val
def g103 (d:Tys.data as103):Tys.data rs103:=(f103 d).getD (Tys.dflt rs103)
def p103:PureC:=pcOf as103 rs103 f103 g103

theorem wk103 (x0:Int) (x0':Int):Walks (runPure (kf40 Go.Proofs.Try.prog).orc Go.Proofs.Try.prog 400 103 as103 rs103 ((x0,x0',()),())) (t103 x0 x0') [([true,true,true,true],[2,6,4,6,6,6,6,8]),([true,false,true],[2,4,4,4,4,4,6])] :=
  ⟨by kernel_rfl,by kernel_rfl,trivial⟩

theorem ok103_t (x0:Int) (x0':Int):TrOk (PureRuns Go.Proofs.Try.prog (kf40 Go.Proofs.Try.prog).orc 103 as103 rs103 ((x0,x0',()),())) (t103 x0 x0') :=
  Walks.ok (fun _ _ _=>PureRuns.of) (wk103 x0 x0') (by kernel_rfl)

theorem ok103:PureOk Go.Proofs.Try.prog 103 p103:=pureOk_of kf40_ok.base (T:=fun (d:Tys.data as103)=>t103 d.1.1 d.1.2.1) (by kernel_rfl) (fun (d:Tys.data as103)=>ok103_t d.1.1 d.1.2.1)
def kf103 (P:Go.Program):Known:=(kf40 P).func 103 p103
theorem kf103_ok:KnownOk Go.Proofs.Try.prog (kf103 Go.Proofs.Try.prog):=kf40_ok.func ok103

/-! ductility/hybrid.exchangeOf -/

abbrev as85:List Ty:=[(.slice (.pair (.int .i64) (.pair (.int .i64) (.pair (.int .i64) .unit)))),(.pair (.int .i64) (.pair (.int .i64) .unit))]
abbrev rs85:List Ty:=[(.pair (.pair (.int .i64) (.pair (.int .i64) .unit)) (.pair (.slice (.pair (.int .i64) (.pair (.int .i64) (.pair (.int .i64) .unit)))) .unit)),(.int .i64)]

def t85 (x0:(List (Int×(Int×(Int×Unit))))) (x1:Int) (x1':Int):Tr (Tys.data rs85) :=
  Tr.test (Option.isSome (f40 (x0,())))
    (Tr.test (!leF (↑(List.length x0):Int) (0:Int))
      (Tr.test ((decide ((0:Int) ≤ wrap64 ((↑(List.length x0):Int) - (1:Int))) && decide (wrap64 ((↑(List.length x0):Int) - (1:Int)) < (↑(List.length x0):Int)):Bool))
        (Tr.test (Option.isSome (f103 ((x1,(x1',())),())))
          (Tr.test (Option.isSome (f60 ((!leF (List.getD x0 (Int.toNat (wrap64 ((↑(List.length x0):Int) - (1:Int)))) ((0:Int),(0:Int),(0:Int),())).2.2.1 x1':Bool),((22:Int),()))))
            (let r0:=g40 (x0,());
            let r1:=g103 ((x1,(x1',())),());
            let r2:=g60 ((!leF (List.getD x0 (Int.toNat (wrap64 ((↑(List.length x0):Int) - (1:Int)))) ((0:Int),(0:Int),(0:Int),())).2.2.1 x1':Bool),((22:Int),()));
            Tr.test (Option.isSome (f59 (([r0.2.1,r1.1,r2.1]:List Int),())))
              (let r3:=g59 (([r0.2.1,r1.1,r2.1]:List Int),());
              Tr.test ((!eqF r3.1 0:Bool))
                (Tr.fin (((((0:Int),((0:Int),())),(([]:List (Int×Int×Int×PUnit)),())),(r3.1,()))))
                (Tr.fin ((((x1,(x1',())),(x0,())),((0:Int),())))))
              (Tr.stop))
            (Tr.stop))
          (Tr.stop))
        (Tr.stop))
      (Tr.test (Option.isSome (f103 ((x1,(x1',())),())))
        (Tr.test (Option.isSome (f60 ((false:Bool),((22:Int),()))))
          (let r0:=g40 (x0,());
          let r1:=g103 ((x1,(x1',())),());
          let r4:=g60 ((false:Bool),((22:Int),()));
          Tr.test (Option.isSome (f59 (([r0.2.1,r1.1,r4.1]:List Int),())))
            (let r5:=g59 (([r0.2.1,r1.1,r4.1]:List Int),());
            Tr.test ((!eqF r5.1 0:Bool))
              (Tr.fin (((((0:Int),((0:Int),())),(([]:List (Int×Int×Int×PUnit)),())),(r5.1,()))))
              (Tr.fin ((((x1,(x1',())),(x0,())),((0:Int),())))))
            (Tr.stop))
          (Tr.stop))
        (Tr.stop)))
    (Tr.stop)

def f85 (d:Tys.data as85):Option (Tys.data rs85):=(t85 d.1 d.2.1.1 d.2.1.2.1).val
def g85 (d:Tys.data as85):Tys.data rs85:=(f85 d).getD (Tys.dflt rs85)
def p85:PureC:=pcOf as85 rs85 f85 g85

theorem wk85 (x0:(List (Int×(Int×(Int×Unit))))) (x1:Int) (x1':Int):Walks (runPure (kf103 Go.Proofs.Try.prog).orc Go.Proofs.Try.prog 400 85 as85 rs85 (x0,(x1,x1',()),())) (t85 x0 x1 x1') [([true,true,true,true,true,true,true],[2,4,6,8,12,12,12,12,10,12,12,12,12,12,12,12,14]),([true,true,true,true,true,true,false],[2,4,6,8,12,12,12,12,10,12,12,12,12,12,12,12,14]),([true,false,true,true,true,true],[2,4,6,8,10,10,10,10,10,10,10,10,10,10,10,12]),([true,false,true,true,true,false],[2,4,6,8,10,10,10,10,10,10,10,10,10,10,10,12])] :=
  ⟨by kernel_rfl,by kernel_rfl,by kernel_rfl,by kernel_rfl,trivial⟩

theorem ok85_t (x0:(List (Int×(Int×(Int×Unit))))) (x1:Int) (x1':Int):TrOk (PureRuns Go.Proofs.Try.prog (kf103 Go.Proofs.Try.prog).orc 85 as85 rs85 (x0,(x1,x1',()),())) (t85 x0 x1 x1') :=
  Walks.ok (fun _ _ _=>PureRuns.of) (wk85 x0 x1 x1') (by kernel_rfl)

theorem ok85:PureOk Go.Proofs.Try.prog 85 p85:=pureOk_of kf103_ok.base (T:=fun (d:Tys.data as85)=>t85 d.1 d.2.1.1 d.2.1.2.1) (by kernel_rfl) (fun (d:Tys.data as85)=>ok85_t d.1 d.2.1.1 d.2.1.2.1)
def kf85 (P:Go.Program):Known:=(kf103 P).func 85 p85
theorem kf85_ok:KnownOk Go.Proofs.Try.prog (kf85 Go.Proofs.Try.prog):=kf103_ok.func ok85

/-! (ductility/hybrid.exchange).isLate -/

abbrev as87:List Ty:=[(.pair (.pair (.int .i64) (.pair (.int .i64) .unit)) (.pair (.slice (.pair (.int .i64) (.pair (.int .i64) (.pair (.int .i64) .unit)))) .unit)),(.pair (.int .i64) (.pair (.int .i64) (.pair .bool .unit)))]
abbrev rs87:List Ty:=[.bool]

def t87 (x0_:Int) (x0_':Int) (x0':(List (Int×(Int×(Int×Unit))))) (x1:Int) (x1':Int) (x1'':Bool):Tr (Tys.data rs87) :=
  Tr.fin (((!leF (wrap64 (x1' - x1)) x0_:Bool),()))

def f87 (d:Tys.data as87):Option (Tys.data rs87):=(t87 d.1.1.1 d.1.1.2.1 d.1.2.1 d.2.1.1 d.2.1.2.1 d.2.1.2.2.1).val
def g87 (d:Tys.data as87):Tys.data rs87:=(f87 d).getD (Tys.dflt rs87)
def p87:PureC:=pcOf as87 rs87 f87 g87

theorem wk87 (x0_:Int) (x0_':Int) (x0':(List (Int×(Int×(Int×Unit))))) (x1:Int) (x1':Int) (x1'':Bool):Walks (runPure (kf85 Go.Proofs.Try.prog).orc Go.Proofs.Try.prog 400 87 as87 rs87 (((x0_,x0_',()),x0',()),(x1,x1',x1'',()),())) (t87 x0_ x0_' x0' x1 x1' x1'') [([],[])] :=
  ⟨by kernel_rfl,trivial⟩

theorem ok87_t (x0_:Int) (x0_':Int) (x0':(List (Int×(Int×(Int×Unit))))) (x1:Int) (x1':Int) (x1'':Bool):TrOk (PureRuns Go.Proofs.Try.prog (kf85 Go.Proofs.Try.prog).orc 87 as87 rs87 (((x0_,x0_',()),x0',()),(x1,x1',x1'',()),())) (t87 x0_ x0_' x0' x1 x1' x1'') :=
  Walks.ok (fun _ _ _=>PureRuns.of) (wk87 x0_ x0_' x0' x1 x1' x1'') (by kernel_rfl)

theorem ok87:PureOk Go.Proofs.Try.prog 87 p87:=pureOk_of kf85_ok.base (T:=fun (d:Tys.data as87)=>t87 d.1.1.1 d.1.1.2.1 d.1.2.1 d.2.1.1 d.2.1.2.1 d.2.1.2.2.1) (by kernel_rfl) (fun (d:Tys.data as87)=>ok87_t d.1.1.1 d.1.1.2.1 d.1.2.1 d.2.1.1 d.2.1.2.1 d.2.1.2.2.1)
def kf87 (P:Go.Program):Known:=(kf85 P).func 87 p87
theorem kf87_ok:KnownOk Go.Proofs.Try.prog (kf87 Go.Proofs.Try.prog):=kf85_ok.func ok87

theorem sc42_0:sameRf Go.Proofs.Try.prog 42 0 = true:=sameRf_ok (by kernel_rfl)

/-! loop 0 of (ductility/hybrid.exchange).waits$1 -/

abbrev sh104_0 (P:Go.Program):Sh:={ n:=47,slots:=[0,1,8,9,10],pats:=[.yld 0,.ptr 1 3 0,.ty (.slice (.pair (.int .i64) (.pair (.int .i64) (.pair (.int .i64) .unit)))),.ty (.int .i64),.ty (.int .i64)],boxes:=[.lp (lpOf P 42 0 .ready none 32 [6,8] 2) [.ptr 3 3 0,.ptr 4 1 0],.row [.ty (.int .i64),.ty (.int .i64),.ty (.slice (.pair (.int .i64) (.pair (.int .i64) (.pair (.int .i64) .unit))))],.dfr,.row [.ty (.int .i64),.ty (.int .i64),.ty (.slice (.pair (.int .i64) (.pair (.int .i64) (.pair (.int .i64) .unit))))],.row [.acc (.int .i64)]] }
abbrev shb104_0 (P:Go.Program):Sh:={ n:=47,slots:=[],pats:=[],boxes:=[.lp (lpOf P 42 0 .ready none 32 [6,8] 2) [.ptr 3 3 0,.ptr 4 1 0],.row [.ty (.int .i64),.ty (.int .i64),.ty (.slice (.pair (.int .i64) (.pair (.int .i64) (.pair (.int .i64) .unit))))],.dfr,.row [.ty (.int .i64),.ty (.int .i64),.ty (.slice (.pair (.int .i64) (.pair (.int .i64) (.pair (.int .i64) .unit))))],.row [.acc (.int .i64)]] }
abbrev shr104_0 (P:Go.Program):Sh:={ n:=47,slots:=[],pats:=[],boxes:=[.lp (lpOf P 42 0 .ready none 32 [6,8] 2) [.ptr 3 3 0,.ptr 4 1 0],.row [.ty (.int .i64),.ty (.int .i64),.ty (.slice (.pair (.int .i64) (.pair (.int .i64) (.pair (.int .i64) .unit))))],.dfr,.row [.ty (.int .i64),.ty (.int .i64),.ty (.slice (.pair (.int .i64) (.pair (.int .i64) (.pair (.int .i64) .unit))))],.row [.acc (.int .i64)]] }

abbrev dt104_0:Type:=(List (Int×Int×Int×PUnit)×Int×Int×PUnit)×PUnit×(Int×Int×List (Int×Int×Int×PUnit)×PUnit)×(Int×Int×List (Int×Int×Int×PUnit)×PUnit)×(List Int×PUnit)×PUnit
abbrev db104_0:Type:=PUnit×PUnit×(Int×Int×List (Int×Int×Int×PUnit)×PUnit)×(Int×Int×List (Int×Int×Int×PUnit)×PUnit)×(List Int×PUnit)×PUnit
abbrev dr104_0:Type:=PUnit×PUnit×(Int×Int×List (Int×Int×Int×PUnit)×PUnit)×(Int×Int×List (Int×Int×Int×PUnit)×PUnit)×(List Int×PUnit)×PUnit

def t104_0 (x2:(List (Int×(Int×(Int×Unit))))) (x3:Int) (x4:Int) (b1_0:Int) (b1_1:Int) (b1_2:(List (Int×(Int×(Int×Unit))))) (b3_0:Int) (b3_1:Int) (b3_2:(List (Int×(Int×(Int×Unit))))) (b4_0:(List Int)):Tr (Out dt104_0 db104_0 dr104_0) :=
  Tr.test ((!leF x3 x4:Bool))
    (Tr.test (decide ((0:Int) ≤ x4) && decide (x4 < (↑(List.length x2):Int)))
      (Tr.test ((!eqF (List.getD x2 (Int.toNat x4) ((0:Int),(0:Int),(0:Int),())).1 (0:Int):Bool))
        (Tr.fin (.again ((x2,(x3,((wrap64 (x4 + (1:Int)):Int),()))),((),((b1_0,(b1_1,(b1_2,()))),((b3_0,(b3_1,(b3_2,()))),((b4_0,()),())))))))
        (Tr.test ((!leF (↑(List.length b1_2):Int) (wrap64 (x4 + (1:Int))):Bool))
          (Tr.test ((decide ((0:Int) ≤ wrap64 (x4 + (1:Int))) && decide (wrap64 (x4 + (1:Int)) < (↑(List.length b1_2):Int)):Bool))
            (Tr.test (Option.isSome (f87 (((b3_0,(b3_1,())),(b3_2,())),((((List.getD x2 (Int.toNat x4) ((0:Int),(0:Int),(0:Int),())).2.2.1:Int),(((List.getD b1_2 (Int.toNat (wrap64 (x4 + (1:Int)))) ((0:Int),(0:Int),(0:Int),())).2.2.1:Int),((true:Bool),()))),()))))
              (let r0:=g87 (((b3_0,(b3_1,())),(b3_2,())),((((List.getD x2 (Int.toNat x4) ((0:Int),(0:Int),(0:Int),())).2.2.1:Int),(((List.getD b1_2 (Int.toNat (wrap64 (x4 + (1:Int)))) ((0:Int),(0:Int),(0:Int),())).2.2.1:Int),((true:Bool),()))),()));
              Tr.test (r0.1)
                (Tr.test ((Nat.ble (((2:Nat) * (List.length b4_0 + (1:Nat)) + (192:Nat)) * (8:Nat)) (281474976710656:Nat) && Nat.ble (List.length b4_0 + (1:Nat)) (281474976710656:Nat):Bool))
                  (Tr.fin (.again ((x2,(x3,((wrap64 (x4 + (1:Int)):Int),()))),((),((b1_0,(b1_1,(b1_2,()))),((b3_0,(b3_1,(b3_2,()))),(((b4_0++[(List.getD x2 (Int.toNat x4) ((0:Int),(0:Int),(0:Int),())).2.1]:List Int),()),())))))))
                  (Tr.stop))
                (Tr.fin (.again ((x2,(x3,((wrap64 (x4 + (1:Int)):Int),()))),((),((b1_0,(b1_1,(b1_2,()))),((b3_0,(b3_1,(b3_2,()))),((b4_0,()),()))))))))
              (Tr.stop))
            (Tr.stop))
          (Tr.test (Option.isSome (f87 (((b3_0,(b3_1,())),(b3_2,())),((((List.getD x2 (Int.toNat x4) ((0:Int),(0:Int),(0:Int),())).2.2.1:Int),(b1_1,((false:Bool),()))),()))))
            (let r1:=g87 (((b3_0,(b3_1,())),(b3_2,())),((((List.getD x2 (Int.toNat x4) ((0:Int),(0:Int),(0:Int),())).2.2.1:Int),(b1_1,((false:Bool),()))),()));
            Tr.test (r1.1)
              (Tr.test ((Nat.ble (((2:Nat) * (List.length b4_0 + (1:Nat)) + (192:Nat)) * (8:Nat)) (281474976710656:Nat) && Nat.ble (List.length b4_0 + (1:Nat)) (281474976710656:Nat):Bool))
                (Tr.fin (.again ((x2,(x3,((wrap64 (x4 + (1:Int)):Int),()))),((),((b1_0,(b1_1,(b1_2,()))),((b3_0,(b3_1,(b3_2,()))),(((b4_0++[(List.getD x2 (Int.toNat x4) ((0:Int),(0:Int),(0:Int),())).2.1]:List Int),()),())))))))
                (Tr.stop))
              (Tr.fin (.again ((x2,(x3,((wrap64 (x4 + (1:Int)):Int),()))),((),((b1_0,(b1_1,(b1_2,()))),((b3_0,(b3_1,(b3_2,()))),((b4_0,()),()))))))))
            (Tr.stop))))
      (Tr.stop))
    (Tr.fin (.brk ((),((),((b1_0,(b1_1,(b1_2,()))),((b3_0,(b3_1,(b3_2,()))),((b4_0,()),())))))))

def s104_0 (d:dt104_0):Option (Out dt104_0 db104_0 dr104_0):=(t104_0 d.1.1 d.1.2.1 d.1.2.2.1 d.2.2.1.1 d.2.2.1.2.1 d.2.2.1.2.2.1 d.2.2.2.1.1 d.2.2.2.1.2.1 d.2.2.2.1.2.2.1 d.2.2.2.2.1.1).val
def l104_0 (d:dt104_0):Option (db104_0 ⊕ dr104_0):=itr s104_0 rounds d
def b104_0 (d:dt104_0):db104_0:=outB (((),((),(((0:Int),((0:Int),(([]:List (Int×Int×Int×PUnit)),()))),(((0:Int),((0:Int),(([]:List (Int×Int×Int×PUnit)),()))),((([]:List Int),()),())))))) (l104_0 d)
def lc104_0 (P:Go.Program):LoopC:=lcB (sh104_0 P) (shb104_0 P) (shr104_0 P) l104_0 b104_0

theorem e104_0_0 (x2:(List (Int×(Int×(Int×Unit))))) (x3:Int) (x4:Int) (b1_0:Int) (b1_1:Int) (b1_2:(List (Int×(Int×(Int×Unit))))) (b3_0:Int) (b3_1:Int) (b3_2:(List (Int×(Int×(Int×Unit))))) (b4_0:(List Int)):runBody (kf87 Go.Proofs.Try.prog).orc Go.Proofs.Try.prog 400 104 0 (sh104_0 Go.Proofs.Try.prog) (shb104_0 Go.Proofs.Try.prog) (shr104_0 Go.Proofs.Try.prog) ((x2,x3,x4,()),(),(b1_0,b1_1,b1_2,()),(b3_0,b3_1,b3_2,()),(b4_0,()),()) [tt,tt,tt] =
    (some (.again ((x2,(x3,((wrap64 (x4 + (1:Int)):Int),()))),((),((b1_0,(b1_1,(b1_2,()))),((b3_0,(b3_1,(b3_2,()))),((b4_0,()),()))))),[(sameRf Go.Proofs.Try.prog (nat_lit 42) (nat_lit 0),true),(!eqF (List.getD x2 (Int.toNat x4) ((0:Int),(0:Int),(0:Int),())).1 (0:Int),true),(decide ((0:Int) ≤ x4) && decide (x4 < (↑(List.length x2):Int)),true),(!leF x3 x4,true)])):=by kernel_rfl
theorem e104_0_1 (x2:(List (Int×(Int×(Int×Unit))))) (x3:Int) (x4:Int) (b1_0:Int) (b1_1:Int) (b1_2:(List (Int×(Int×(Int×Unit))))) (b3_0:Int) (b3_1:Int) (b3_2:(List (Int×(Int×(Int×Unit))))) (b4_0:(List Int)):runBody (kf87 Go.Proofs.Try.prog).orc Go.Proofs.Try.prog 400 104 0 (sh104_0 Go.Proofs.Try.prog) (shb104_0 Go.Proofs.Try.prog) (shr104_0 Go.Proofs.Try.prog) ((x2,x3,x4,()),(),(b1_0,b1_1,b1_2,()),(b3_0,b3_1,b3_2,()),(b4_0,()),()) [tt,tt,ff,tt,tt,tt,tt,ff,tt,ff] =
    (let r0:=g87 (((b3_0,(b3_1,())),(b3_2,())),((((List.getD x2 (Int.toNat x4) ((0:Int),(0:Int),(0:Int),())).2.2.1:Int),(((List.getD b1_2 (Int.toNat (wrap64 (x4 + (1:Int)))) ((0:Int),(0:Int),(0:Int),())).2.2.1:Int),(true,()))),())); some (.again ((x2,(x3,((wrap64 (x4 + (1:Int)):Int),()))),((),((b1_0,(b1_1,(b1_2,()))),((b3_0,(b3_1,(b3_2,()))),(((b4_0++[(List.getD x2 (Int.toNat x4) ((0:Int),(0:Int),(0:Int),())).2.1]:List Int),()),()))))),[(sameRf Go.Proofs.Try.prog (nat_lit 42) (nat_lit 0),true),(false,false),(Nat.ble (((2:Nat) * (List.length b4_0 + (1:Nat)) + (192:Nat)) * (8:Nat)) (281474976710656:Nat) && Nat.ble (List.length b4_0 + (1:Nat)) (281474976710656:Nat),true),(false,false),(r0.1,true),(Option.isSome (f87 (((b3_0,(b3_1,())),(b3_2,())),((((List.getD x2 (Int.toNat x4) ((0:Int),(0:Int),(0:Int),())).2.2.1:Int),(((List.getD b1_2 (Int.toNat (wrap64 (x4 + (1:Int)))) ((0:Int),(0:Int),(0:Int),())).2.2.1:Int),(true,()))),()))),true),(decide ((0:Int) ≤ wrap64 (x4 + (1:Int))) && decide (wrap64 (x4 + (1:Int)) < (↑(List.length b1_2):Int)),true),(!leF (↑(List.length b1_2):Int) (wrap64 (x4 + (1:Int))),true),(!eqF (List.getD x2 (Int.toNat x4) ((0:Int),(0:Int),(0:Int),())).1 (0:Int),false),(decide ((0:Int) ≤ x4) && decide (x4 < (↑(List.length x2):Int)),true),(!leF x3 x4,true)])):=by kernel_rfl
theorem e104_0_3 (x2:(List (Int×(Int×(Int×Unit))))) (x3:Int) (x4:Int) (b1_0:Int) (b1_1:Int) (b1_2:(List (Int×(Int×(Int×Unit))))) (b3_0:Int) (b3_1:Int) (b3_2:(List (Int×(Int×(Int×Unit))))) (b4_0:(List Int)):runBody (kf87 Go.Proofs.Try.prog).orc Go.Proofs.Try.prog 400 104 0 (sh104_0 Go.Proofs.Try.prog) (shb104_0 Go.Proofs.Try.prog) (shr104_0 Go.Proofs.Try.prog) ((x2,x3,x4,()),(),(b1_0,b1_1,b1_2,()),(b3_0,b3_1,b3_2,()),(b4_0,()),()) [tt,tt,ff,tt,tt,tt,ff,ff] =
    (let r0:=g87 (((b3_0,(b3_1,())),(b3_2,())),((((List.getD x2 (Int.toNat x4) ((0:Int),(0:Int),(0:Int),())).2.2.1:Int),(((List.getD b1_2 (Int.toNat (wrap64 (x4 + (1:Int)))) ((0:Int),(0:Int),(0:Int),())).2.2.1:Int),(true,()))),())); some (.again ((x2,(x3,((wrap64 (x4 + (1:Int)):Int),()))),((),((b1_0,(b1_1,(b1_2,()))),((b3_0,(b3_1,(b3_2,()))),((b4_0,()),()))))),[(sameRf Go.Proofs.Try.prog (nat_lit 42) (nat_lit 0),true),(false,false),(r0.1,false),(Option.isSome (f87 (((b3_0,(b3_1,())),(b3_2,())),((((List.getD x2 (Int.toNat x4) ((0:Int),(0:Int),(0:Int),())).2.2.1:Int),(((List.getD b1_2 (Int.toNat (wrap64 (x4 + (1:Int)))) ((0:Int),(0:Int),(0:Int),())).2.2.1:Int),(true,()))),()))),true),(decide ((0:Int) ≤ wrap64 (x4 + (1:Int))) && decide (wrap64 (x4 + (1:Int)) < (↑(List.length b1_2):Int)),true),(!leF (↑(List.length b1_2):Int) (wrap64 (x4 + (1:Int))),true),(!eqF (List.getD x2 (Int.toNat x4) ((0:Int),(0:Int),(0:Int),())).1 (0:Int),false),(decide ((0:Int) ≤ x4) && decide (x4 < (↑(List.length x2):Int)),true),(!leF x3 x4,true)])):=by kernel_rfl
theorem e104_0_5 (x2:(List (Int×(Int×(Int×Unit))))) (x3:Int) (x4:Int) (b1_0:Int) (b1_1:Int) (b1_2:(List (Int×(Int×(Int×Unit))))) (b3_0:Int) (b3_1:Int) (b3_2:(List (Int×(Int×(Int×Unit))))) (b4_0:(List Int)):runBody (kf87 Go.Proofs.Try.prog).orc Go.Proofs.Try.prog 400 104 0 (sh104_0 Go.Proofs.Try.prog) (shb104_0 Go.Proofs.Try.prog) (shr104_0 Go.Proofs.Try.prog) ((x2,x3,x4,()),(),(b1_0,b1_1,b1_2,()),(b3_0,b3_1,b3_2,()),(b4_0,()),()) [tt,tt,ff,ff,tt,tt,ff,tt,ff] =
    (let r1:=g87 (((b3_0,(b3_1,())),(b3_2,())),((((List.getD x2 (Int.toNat x4) ((0:Int),(0:Int),(0:Int),())).2.2.1:Int),(b1_1,(false,()))),())); some (.again ((x2,(x3,((wrap64 (x4 + (1:Int)):Int),()))),((),((b1_0,(b1_1,(b1_2,()))),((b3_0,(b3_1,(b3_2,()))),(((b4_0++[(List.getD x2 (Int.toNat x4) ((0:Int),(0:Int),(0:Int),())).2.1]:List Int),()),()))))),[(sameRf Go.Proofs.Try.prog (nat_lit 42) (nat_lit 0),true),(false,false),(Nat.ble (((2:Nat) * (List.length b4_0 + (1:Nat)) + (192:Nat)) * (8:Nat)) (281474976710656:Nat) && Nat.ble (List.length b4_0 + (1:Nat)) (281474976710656:Nat),true),(false,false),(r1.1,true),(Option.isSome (f87 (((b3_0,(b3_1,())),(b3_2,())),((((List.getD x2 (Int.toNat x4) ((0:Int),(0:Int),(0:Int),())).2.2.1:Int),(b1_1,(false,()))),()))),true),(!leF (↑(List.length b1_2):Int) (wrap64 (x4 + (1:Int))),false),(!eqF (List.getD x2 (Int.toNat x4) ((0:Int),(0:Int),(0:Int),())).1 (0:Int),false),(decide ((0:Int) ≤ x4) && decide (x4 < (↑(List.length x2):Int)),true),(!leF x3 x4,true)])):=by kernel_rfl
theorem e104_0_7 (x2:(List (Int×(Int×(Int×Unit))))) (x3:Int) (x4:Int) (b1_0:Int) (b1_1:Int) (b1_2:(List (Int×(Int×(Int×Unit))))) (b3_0:Int) (b3_1:Int) (b3_2:(List (Int×(Int×(Int×Unit))))) (b4_0:(List Int)):runBody (kf87 Go.Proofs.Try.prog).orc Go.Proofs.Try.prog 400 104 0 (sh104_0 Go.Proofs.Try.prog) (shb104_0 Go.Proofs.Try.prog) (shr104_0 Go.Proofs.Try.prog) ((x2,x3,x4,()),(),(b1_0,b1_1,b1_2,()),(b3_0,b3_1,b3_2,()),(b4_0,()),()) [tt,tt,ff,ff,tt,ff,ff] =
    (let r1:=g87 (((b3_0,(b3_1,())),(b3_2,())),((((List.getD x2 (Int.toNat x4) ((0:Int),(0:Int),(0:Int),())).2.2.1:Int),(b1_1,(false,()))),())); some (.again ((x2,(x3,((wrap64 (x4 + (1:Int)):Int),()))),((),((b1_0,(b1_1,(b1_2,()))),((b3_0,(b3_1,(b3_2,()))),((b4_0,()),()))))),[(sameRf Go.Proofs.Try.prog (nat_lit 42) (nat_lit 0),true),(false,false),(r1.1,false),(Option.isSome (f87 (((b3_0,(b3_1,())),(b3_2,())),((((List.getD x2 (Int.toNat x4) ((0:Int),(0:Int),(0:Int),())).2.2.1:Int),(b1_1,(false,()))),()))),true),(!leF (↑(List.length b1_2):Int) (wrap64 (x4 + (1:Int))),false),(!eqF (List.getD x2 (Int.toNat x4) ((0:Int),(0:Int),(0:Int),())).1 (0:Int),false),(decide ((0:Int) ≤ x4) && decide (x4 < (↑(List.length x2):Int)),true),(!leF x3 x4,true)])):=by kernel_rfl
theorem e104_0_9 (x2:(List (Int×(Int×(Int×Unit))))) (x3:Int) (x4:Int) (b1_0:Int) (b1_1:Int) (b1_2:(List (Int×(Int×(Int×Unit))))) (b3_0:Int) (b3_1:Int) (b3_2:(List (Int×(Int×(Int×Unit))))) (b4_0:(List Int)):runBody (kf87 Go.Proofs.Try.prog).orc Go.Proofs.Try.prog 400 104 0 (sh104_0 Go.Proofs.Try.prog) (shb104_0 Go.Proofs.Try.prog) (shr104_0 Go.Proofs.Try.prog) ((x2,x3,x4,()),(),(b1_0,b1_1,b1_2,()),(b3_0,b3_1,b3_2,()),(b4_0,()),()) [ff] =
    (some (.brk ((),((),((b1_0,(b1_1,(b1_2,()))),((b3_0,(b3_1,(b3_2,()))),((b4_0,()),()))))),[(sameRf Go.Proofs.Try.prog (nat_lit 42) (nat_lit 0),true),(!leF x3 x4,false)])):=by kernel_rfl

theorem ok104_0_t (x2:(List (Int×(Int×(Int×Unit))))) (x3:Int) (x4:Int) (b1_0:Int) (b1_1:Int) (b1_2:(List (Int×(Int×(Int×Unit))))) (b3_0:Int) (b3_1:Int) (b3_2:(List (Int×(Int×(Int×Unit))))) (b4_0:(List Int)):TrOk (BodyRuns Go.Proofs.Try.prog (kf87 Go.Proofs.Try.prog).orc 104 0 (sh104_0 Go.Proofs.Try.prog) (shb104_0 Go.Proofs.Try.prog) (shr104_0 Go.Proofs.Try.prog) ((x2,x3,x4,()),(),(b1_0,b1_1,b1_2,()),(b3_0,b3_1,b3_2,()),(b4_0,()),())) (t104_0 x2 x3 x4 b1_0 b1_1 b1_2 b3_0 b3_1 b3_2 b4_0) :=
  TrOk.ofTest (fun h0=>TrOk.ofTest (fun h1=>TrOk.ofTest (fun h2=>TrOk.ofFin (BodyRuns.of (e104_0_0 x2 x3 x4 b1_0 b1_1 b1_2 b3_0 b3_1 b3_2 b4_0) (ac (sc42_0) (ac h2 (ac h1 (ac h0 All.nil)))))) (fun h2=>TrOk.ofTest (fun h3=>TrOk.ofTest (fun h4=>TrOk.ofTest (fun h5=>TrOk.ofTest (fun h6=>TrOk.ofTest (fun h8=>TrOk.ofFin (BodyRuns.of (e104_0_1 x2 x3 x4 b1_0 b1_1 b1_2 b3_0 b3_1 b3_2 b4_0) (ac (sc42_0) (ac rfl (ac h8 (ac rfl (ac h6 (ac h5 (ac h4 (ac h3 (ac h2 (ac h1 (ac h0 All.nil))))))))))))) (fun h8=>TrOk.ofStop)) (fun h6=>TrOk.ofFin (BodyRuns.of (e104_0_3 x2 x3 x4 b1_0 b1_1 b1_2 b3_0 b3_1 b3_2 b4_0) (ac (sc42_0) (ac rfl (ac h6 (ac h5 (ac h4 (ac h3 (ac h2 (ac h1 (ac h0 All.nil)))))))))))) (fun h5=>TrOk.ofStop)) (fun h4=>TrOk.ofStop)) (fun h3=>TrOk.ofTest (fun h4=>TrOk.ofTest (fun h5=>TrOk.ofTest (fun h7=>TrOk.ofFin (BodyRuns.of (e104_0_5 x2 x3 x4 b1_0 b1_1 b1_2 b3_0 b3_1 b3_2 b4_0) (ac (sc42_0) (ac rfl (ac h7 (ac rfl (ac h5 (ac h4 (ac h3 (ac h2 (ac h1 (ac h0 All.nil)))))))))))) (fun h7=>TrOk.ofStop)) (fun h5=>TrOk.ofFin (BodyRuns.of (e104_0_7 x2 x3 x4 b1_0 b1_1 b1_2 b3_0 b3_1 b3_2 b4_0) (ac (sc42_0) (ac rfl (ac h5 (ac h4 (ac h3 (ac h2 (ac h1 (ac h0 All.nil))))))))))) (fun h4=>TrOk.ofStop)))) (fun h1=>TrOk.ofStop)) (fun h0=>TrOk.ofFin (BodyRuns.of (e104_0_9 x2 x3 x4 b1_0 b1_1 b1_2 b3_0 b3_1 b3_2 b4_0) (ac (sc42_0) (ac h0 All.nil))))

theorem ok104_0:LoopOk Go.Proofs.Try.prog 104 0 (lc104_0 Go.Proofs.Try.prog):=loopOk_ofB (sh:=(sh104_0 Go.Proofs.Try.prog)) (shB:=(shb104_0 Go.Proofs.Try.prog)) (shR:=(shr104_0 Go.Proofs.Try.prog)) kf87_ok.base (T:=fun (d:dt104_0)=>t104_0 d.1.1 d.1.2.1 d.1.2.2.1 d.2.2.1.1 d.2.2.1.2.1 d.2.2.1.2.2.1 d.2.2.2.1.1 d.2.2.2.1.2.1 d.2.2.2.1.2.2.1 d.2.2.2.2.1.1) (by kernel_rfl) rfl (fun (d:dt104_0)=>ok104_0_t d.1.1 d.1.2.1 d.1.2.2.1 d.2.2.1.1 d.2.2.1.2.1 d.2.2.1.2.2.1 d.2.2.2.1.1 d.2.2.2.1.2.1 d.2.2.2.1.2.2.1 d.2.2.2.2.1.1) (fun _=>rfl)
def kl104_0 (P:Go.Program):Known:=(kf87 P).loop 104 0 (lc104_0 P)
theorem kl104_0_ok:KnownOk Go.Proofs.Try.prog (kl104_0 Go.Proofs.Try.prog):=kf87_ok.loop ok104_0

/-! ductility/hybrid.LateIn -/

abbrev as42:List Ty:=[(.slice (.pair (.int .i64) (.pair (.int .i64) (.pair (.int .i64) .unit)))),(.pair (.int .i64) (.pair (.int .i64) .unit))]
abbrev rs42:List Ty:=[(.slice (.int .i64)),(.int .i64)]

def t42 (x0:(List (Int×(Int×(Int×Unit))))) (x1:Int) (x1':Int):Tr (Tys.data rs42) :=
  Tr.test (Option.isSome (f85 (x0,((x1,(x1',())),()))))
    (let r0:=g85 (x0,((x1,(x1',())),()));
    Tr.test ((!eqF r0.2.1 0:Bool))
      (Tr.fin ((([]:List Int),(r0.2.1,()))))
      (Tr.test (isBrk (l104_0 ((r0.1.2.1,((↑(List.length r0.1.2.1):Int),((0:Int),()))),((),((r0.1.1.1,(r0.1.1.2.1,(r0.1.2.1,()))),((r0.1.1.1,(r0.1.1.2.1,(r0.1.2.1,()))),((([]:List Int),()),())))))))
        (let r1:=b104_0 ((r0.1.2.1,((↑(List.length r0.1.2.1):Int),((0:Int),()))),((),((r0.1.1.1,(r0.1.1.2.1,(r0.1.2.1,()))),((r0.1.1.1,(r0.1.1.2.1,(r0.1.2.1,()))),((([]:List Int),()),())))));
        Tr.fin ((r1.2.2.2.2.1.1,((0:Int),()))))
        (Tr.stop)))
    (Tr.stop)

def f42 (d:Tys.data as42):Option (Tys.data rs42):=(t42 d.1 d.2.1.1 d.2.1.2.1).val
def g42 (d:Tys.data as42):Tys.data rs42:=(f42 d).getD (Tys.dflt rs42)
def p42:PureC:=pcOf as42 rs42 f42 g42

theorem e42_0 (x0:(List (Int×(Int×(Int×Unit))))) (x1:Int) (x1':Int):runPure (kl104_0 Go.Proofs.Try.prog).orc Go.Proofs.Try.prog 400 42 as42 rs42 (x0,(x1,x1',()),()) [tt,tt] =
    (let r0:=g85 (x0,((x1,(x1',())),())); some ((([]:List Int),(r0.2.1,())),[(!eqF r0.2.1 0,true),(Option.isSome (f85 (x0,((x1,(x1',())),()))),true)])):=by kernel_rfl
theorem e42_1 (x0:(List (Int×(Int×(Int×Unit))))) (x1:Int) (x1':Int):runPure (kl104_0 Go.Proofs.Try.prog).orc Go.Proofs.Try.prog 400 42 as42 rs42 (x0,(x1,x1',()),()) [tt,ff,tt,tt,tt] =
    (let r0:=g85 (x0,((x1,(x1',())),()));let r1:=b104_0 ((r0.1.2.1,((↑(List.length r0.1.2.1):Int),((0:Int),()))),((),((r0.1.1.1,(r0.1.1.2.1,(r0.1.2.1,()))),((r0.1.1.1,(r0.1.1.2.1,(r0.1.2.1,()))),((([]:List Int),()),()))))); some ((r1.2.2.2.2.1.1,((0:Int),())),[(true,true),(isBrk (l104_0 ((r0.1.2.1,((↑(List.length r0.1.2.1):Int),((0:Int),()))),((),((r0.1.1.1,(r0.1.1.2.1,(r0.1.2.1,()))),((r0.1.1.1,(r0.1.1.2.1,(r0.1.2.1,()))),((([]:List Int),()),())))))),true),(sameRf Go.Proofs.Try.prog (nat_lit 42) (nat_lit 0),true),(!eqF r0.2.1 0,false),(Option.isSome (f85 (x0,((x1,(x1',())),()))),true)])):=by kernel_rfl

theorem ok42_t (x0:(List (Int×(Int×(Int×Unit))))) (x1:Int) (x1':Int):TrOk (PureRuns Go.Proofs.Try.prog (kl104_0 Go.Proofs.Try.prog).orc 42 as42 rs42 (x0,(x1,x1',()),())) (t42 x0 x1 x1') :=
  TrOk.ofTest (fun h0=>TrOk.ofTest (fun h1=>TrOk.ofFin (PureRuns.of (e42_0 x0 x1 x1') (ac h1 (ac h0 All.nil)))) (fun h1=>TrOk.ofTest (fun h3=>TrOk.ofFin (PureRuns.of (e42_1 x0 x1 x1') (ac rfl (ac h3 (ac (sc42_0) (ac h1 (ac h0 All.nil))))))) (fun h3=>TrOk.ofStop))) (fun h0=>TrOk.ofStop)

theorem ok42:PureOk Go.Proofs.Try.prog 42 p42:=pureOk_of kl104_0_ok.base (T:=fun (d:Tys.data as42)=>t42 d.1 d.2.1.1 d.2.1.2.1) (by kernel_rfl) (fun (d:Tys.data as42)=>ok42_t d.1 d.2.1.1 d.2.1.2.1)
def kf42 (P:Go.Program):Known:=(kl104_0 P).func 42 p42
theorem kf42_ok:KnownOk Go.Proofs.Try.prog (kf42 Go.Proofs.Try.prog):=kl104_0_ok.func ok42

/-! ductility/ductilitylaw08.Chain -/

abbrev as55:List Ty:=[]
abbrev rs55:List Ty:=[(.pair (.slice (.int .i64)) (.pair (.slice (.int .i64)) .unit))]

def t55 :Tr (Tys.data rs55) :=
  Tr.fin (((([(2:Int),(4:Int)]:List Int),(([(6:Int),(4:Int)]:List Int),())),()))

def f55 (d:Tys.data as55):Option (Tys.data rs55):=(t55 ).val
def g55 (d:Tys.data as55):Tys.data rs55:=(f55 d).getD (Tys.dflt rs55)
def p55:PureC:=pcOf as55 rs55 f55 g55

theorem wk55 :Walks (runPure (kf42 Go.Proofs.Try.prog).orc Go.Proofs.Try.prog 400 55 as55 rs55 ()) (t55 ) [([],[])] :=
  ⟨by kernel_rfl,trivial⟩

theorem ok55_t :TrOk (PureRuns Go.Proofs.Try.prog (kf42 Go.Proofs.Try.prog).orc 55 as55 rs55 ()) (t55 ) :=
  Walks.ok (fun _ _ _=>PureRuns.of) (wk55 ) (by kernel_rfl)

theorem ok55:PureOk Go.Proofs.Try.prog 55 p55:=pureOk_of kf42_ok.base (T:=fun (d:Tys.data as55)=>t55 ) (by kernel_rfl) (fun (d:Tys.data as55)=>ok55_t )
def kf55 (P:Go.Program):Known:=(kf42 P).func 55 p55
theorem kf55_ok:KnownOk Go.Proofs.Try.prog (kf55 Go.Proofs.Try.prog):=kf42_ok.func ok55

end Go.Vm.Mo
