import Derived.Test.YtappjfcejjmdeaaA4
import Derived.KernelRfl
import Derived.Test.YtappjfcejjmdeaaProg
set_option linter.unusedVariables false
set_option linter.unusedSimpArgs false

namespace Go.Vm.Mo
open Go
set_option linter.unusedVariables false

def kn0:Known:=⟨[],[]⟩

abbrev tt:Bool:=true
abbrev ff:Bool:=false
theorem nn {b v:Bool} (h:(!b) = v):(!b) = !(!v):=not_of (of_not h)
theorem ac {b d:Bool} {r:List (Bool×Bool)} (h:b = d) (t:All r):All ((b, d) :: r):=All.cons h t

theorem plainP:Plain Go.Proofs.Try.prog:=by
  have h : (Go.Proofs.Try.prog.funcs.toList.all fun fn => !(fn.body.isSome && fn.name == "runtime.NumGoroutine")) = true := by kernel_rfl
  intro f fn hf hb
  have hm:fn ∈ Go.Proofs.Try.prog.funcs.toList:=by
    have:=Array.getElem?_eq_some_iff.1 hf
    obtain ⟨hlt,rfl⟩:=this
    simp
  have:=List.all_eq_true.1 h fn hm
  rw [hb] at this
  simpa using this

theorem kn0_ok:KnownOk Go.Proofs.Try.prog kn0:=⟨plainP,by kernel_rfl,(fun _ h=>by cases h),(fun _ h=>by cases h)⟩

/-! ductility/ductilitylaw02.awake -/

abbrev as15:List Ty:=[]
abbrev rs15:List Ty:=[.bool]
def f15 (_:Tys.data as15):Option (Tys.data rs15):=some (true,())
def g15 (_:Tys.data as15):Tys.data rs15:=(true,())
def p15:PureC:=pcOf as15 rs15 f15 g15

theorem e15:runAsk kn0.orc Go.Proofs.Try.prog 400 15 as15 rs15 () none = some ((true,()),[]):=by kernel_rfl
theorem ok15:PureOk Go.Proofs.Try.prog 15 p15:=pureOk_closed kn0_ok.base (by kernel_rfl) e15 All.nil
def kf15:Known:=kn0.func 15 p15
theorem kf15_ok:KnownOk Go.Proofs.Try.prog kf15:=kn0_ok.func ok15

/-! ductility/ductilitylaw02.few -/

abbrev as16:List Ty:=[(.pair (.int .i64) (.pair (.slice (.int .i64)) .unit))]
abbrev rs16:List Ty:=[.bool]

def t16 (x0:Int) (x0':(List Int)):Tr (Tys.data rs16) :=
  Tr.fin (((leF (↑(List.length x0'):Int) (26:Int):Bool),()))

def f16 (d:Tys.data as16):Option (Tys.data rs16):=(t16 d.1.1 d.1.2.1).val
def g16 (d:Tys.data as16):Tys.data rs16:=(f16 d).getD (Tys.dflt rs16)
def p16:PureC:=pcOf as16 rs16 f16 g16

theorem e16_0 (x0:Int) (x0':(List Int)):runPure kf15.orc Go.Proofs.Try.prog 400 16 as16 rs16 ((x0,x0',()),()) [] =
    (some ((leF (↑(List.length x0'):Int) (26:Int),()),[])):=by kernel_rfl

theorem ok16_t (x0:Int) (x0':(List Int)):TrOk (PureRuns Go.Proofs.Try.prog kf15.orc 16 as16 rs16 ((x0,x0',()),())) (t16 x0 x0') :=
  TrOk.ofFin (PureRuns.of (e16_0 x0 x0') All.nil)

theorem ok16:PureOk Go.Proofs.Try.prog 16 p16:=pureOk_of kf15_ok.base (T:=fun (d:Tys.data as16)=>t16 d.1.1 d.1.2.1) (by kernel_rfl) (fun (d:Tys.data as16)=>ok16_t d.1.1 d.1.2.1)
def kf16:Known:=kf15.func 16 p16
theorem kf16_ok:KnownOk Go.Proofs.Try.prog kf16:=kf15_ok.func ok16

/-! ductility/ductilityref02.Copy -/

abbrev as18:List Ty:=[(.pair (.int .i64) (.pair (.slice (.int .i64)) .unit))]
abbrev rs18:List Ty:=[(.pair (.int .i64) (.pair (.slice (.int .i64)) .unit))]

def t18 (x0:Int) (x0':(List Int)):Tr (Tys.data rs18) :=
  Tr.test ((Nat.beq (List.length x0') (0:Nat):Bool))
    (Tr.fin (((x0,(([]:List Int),())),())))
    (Tr.test (Nat.ble ((0:Nat) + List.length x0') (0:Nat))
      (Tr.stop)
      (Tr.test ((Nat.ble (((2:Nat) * ((0:Nat) + List.length x0') + (192:Nat)) * (8:Nat)) (281474976710656:Nat) && Nat.ble ((0:Nat) + List.length x0') (281474976710656:Nat):Bool))
        (Tr.test ((Nat.beq ((0:Nat) + List.length x0') (List.length ([]++x0')):Bool))
          (Tr.fin (((x0,(([]++x0':List Int),())),())))
          (Tr.stop))
        (Tr.stop)))

def f18 (d:Tys.data as18):Option (Tys.data rs18):=(t18 d.1.1 d.1.2.1).val
def g18 (d:Tys.data as18):Tys.data rs18:=(f18 d).getD (Tys.dflt rs18)
def p18:PureC:=pcOf as18 rs18 f18 g18

theorem e18_0 (x0:Int) (x0':(List Int)):runPure kf16.orc Go.Proofs.Try.prog 400 18 as18 rs18 ((x0,x0',()),()) [tt] =
    (some (((x0,(([]:List Int),())),()),[(Nat.beq (List.length x0') (0:Nat),true)])):=by kernel_rfl
theorem e18_2 (x0:Int) (x0':(List Int)):runPure kf16.orc Go.Proofs.Try.prog 400 18 as18 rs18 ((x0,x0',()),()) [ff,ff,tt,tt] =
    (some (((x0,(([]++x0':List Int),())),()),[(Nat.beq ((0:Nat) + List.length x0') (List.length ([]++x0')),true),(Nat.ble (((2:Nat) * ((0:Nat) + List.length x0') + (192:Nat)) * (8:Nat)) (281474976710656:Nat) && Nat.ble ((0:Nat) + List.length x0') (281474976710656:Nat),true),(Nat.ble ((0:Nat) + List.length x0') (0:Nat),false),(Nat.beq (List.length x0') (0:Nat),false)])):=by kernel_rfl

theorem ok18_t (x0:Int) (x0':(List Int)):TrOk (PureRuns Go.Proofs.Try.prog kf16.orc 18 as18 rs18 ((x0,x0',()),())) (t18 x0 x0') :=
  TrOk.ofTest (fun h0=>TrOk.ofFin (PureRuns.of (e18_0 x0 x0') (ac h0 All.nil))) (fun h0=>TrOk.ofTest (fun h1=>TrOk.ofStop) (fun h1=>TrOk.ofTest (fun h2=>TrOk.ofTest (fun h3=>TrOk.ofFin (PureRuns.of (e18_2 x0 x0') (ac h3 (ac h2 (ac h1 (ac h0 All.nil)))))) (fun h3=>TrOk.ofStop)) (fun h2=>TrOk.ofStop)))

theorem ok18:PureOk Go.Proofs.Try.prog 18 p18:=pureOk_of kf16_ok.base (T:=fun (d:Tys.data as18)=>t18 d.1.1 d.1.2.1) (by kernel_rfl) (fun (d:Tys.data as18)=>ok18_t d.1.1 d.1.2.1)
def kf18:Known:=kf16.func 18 p18
theorem kf18_ok:KnownOk Go.Proofs.Try.prog kf18:=kf16_ok.func ok18

/-! ductility/motion.when -/

abbrev as86:List Ty:=[.bool,(.int .i64)]
abbrev rs86:List Ty:=[(.int .i64)]

def t86 (x0:Bool) (x1:Int):Tr (Tys.data rs86) :=
  Tr.test (x0)
    (Tr.fin ((x1,())))
    (Tr.fin (((0:Int),())))

def f86 (d:Tys.data as86):Option (Tys.data rs86):=(t86 d.1 d.2.1).val
def g86 (d:Tys.data as86):Tys.data rs86:=(f86 d).getD (Tys.dflt rs86)
def p86:PureC:=pcOf as86 rs86 f86 g86

theorem e86_0 (x0:Bool) (x1:Int):runPure kf18.orc Go.Proofs.Try.prog 400 86 as86 rs86 (x0,x1,()) [tt] =
    (some ((x1,()),[(x0,true)])):=by kernel_rfl
theorem e86_1 (x0:Bool) (x1:Int):runPure kf18.orc Go.Proofs.Try.prog 400 86 as86 rs86 (x0,x1,()) [ff] =
    (some (((0:Int),()),[(x0,false)])):=by kernel_rfl

theorem ok86_t (x0:Bool) (x1:Int):TrOk (PureRuns Go.Proofs.Try.prog kf18.orc 86 as86 rs86 (x0,x1,())) (t86 x0 x1) :=
  TrOk.ofTest (fun h0=>TrOk.ofFin (PureRuns.of (e86_0 x0 x1) (ac h0 All.nil))) (fun h0=>TrOk.ofFin (PureRuns.of (e86_1 x0 x1) (ac h0 All.nil)))

theorem ok86:PureOk Go.Proofs.Try.prog 86 p86:=pureOk_of kf18_ok.base (T:=fun (d:Tys.data as86)=>t86 d.1 d.2.1) (by kernel_rfl) (fun (d:Tys.data as86)=>ok86_t d.1 d.2.1)
def kf86:Known:=kf18.func 86 p86
theorem kf86_ok:KnownOk Go.Proofs.Try.prog kf86:=kf18_ok.func ok86

/-! loop 0 of ductility/motion.firstOf -/

abbrev sh85_0:Sh:={ n:=15,slots:=[5,6,7],pats:=[.ty (.slice (.int .i64)),.ty (.int .i64),.ty (.int .i64)],boxes:=[] }
abbrev shb85_0:Sh:={ n:=15,slots:=[],pats:=[],boxes:=[] }
abbrev shr85_0:Sh:={ n:=15,slots:=[2],pats:=[.ty (.int .i64)],boxes:=[] }

def t85_0 (x0:(List Int)) (x1:Int) (x2:Int):Tr (Out sh85_0.data shb85_0.data shr85_0.data) :=
  Tr.test ((!leF x1 x2:Bool))
    (Tr.test (decide ((0:Int) ≤ x2) && decide (x2 < (↑(List.length x0):Int)))
      (Tr.test ((!eqF (List.getD x0 (Int.toNat x2) (0:Int)) (0:Int):Bool))
        (Tr.fin (.ret (((List.getD x0 (Int.toNat x2) (0:Int):Int),()),())))
        (Tr.fin (.again ((x0,(x1,((wrap64 (x2 + (1:Int)):Int),()))),()))))
      (Tr.stop))
    (Tr.fin (.brk ((),())))

def s85_0 (d:sh85_0.data):Option (Out sh85_0.data shb85_0.data shr85_0.data):=(t85_0 d.1.1 d.1.2.1 d.1.2.2.1).val
def l85_0 (d:sh85_0.data):Option (shb85_0.data ⊕ shr85_0.data):=itr s85_0 rounds d
def b85_0 (d:sh85_0.data):shb85_0.data:=outB shb85_0.dflt (l85_0 d)
def r85_0 (d:sh85_0.data):shr85_0.data:=outR shr85_0.dflt (l85_0 d)
def lc85_0:LoopC:=lcOf sh85_0 shb85_0 shr85_0 l85_0 b85_0 r85_0

theorem e85_0_0 (x0:(List Int)) (x1:Int) (x2:Int):runBody kf86.orc Go.Proofs.Try.prog 400 85 0 sh85_0 shb85_0 shr85_0 ((x0,x1,x2,()),()) [tt,tt,tt] =
    (some (.ret (((List.getD x0 (Int.toNat x2) (0:Int):Int),()),()),[(!eqF (List.getD x0 (Int.toNat x2) (0:Int)) (0:Int),true),(decide ((0:Int) ≤ x2) && decide (x2 < (↑(List.length x0):Int)),true),(!leF x1 x2,true)])):=by kernel_rfl
theorem e85_0_1 (x0:(List Int)) (x1:Int) (x2:Int):runBody kf86.orc Go.Proofs.Try.prog 400 85 0 sh85_0 shb85_0 shr85_0 ((x0,x1,x2,()),()) [tt,tt,ff] =
    (some (.again ((x0,(x1,((wrap64 (x2 + (1:Int)):Int),()))),()),[(!eqF (List.getD x0 (Int.toNat x2) (0:Int)) (0:Int),false),(decide ((0:Int) ≤ x2) && decide (x2 < (↑(List.length x0):Int)),true),(!leF x1 x2,true)])):=by kernel_rfl
theorem e85_0_3 (x0:(List Int)) (x1:Int) (x2:Int):runBody kf86.orc Go.Proofs.Try.prog 400 85 0 sh85_0 shb85_0 shr85_0 ((x0,x1,x2,()),()) [ff] =
    (some (.brk ((),()),[(!leF x1 x2,false)])):=by kernel_rfl

theorem ok85_0_t (x0:(List Int)) (x1:Int) (x2:Int):TrOk (BodyRuns Go.Proofs.Try.prog kf86.orc 85 0 sh85_0 shb85_0 shr85_0 ((x0,x1,x2,()),())) (t85_0 x0 x1 x2) :=
  TrOk.ofTest (fun h0=>TrOk.ofTest (fun h1=>TrOk.ofTest (fun h2=>TrOk.ofFin (BodyRuns.of (e85_0_0 x0 x1 x2) (ac h2 (ac h1 (ac h0 All.nil))))) (fun h2=>TrOk.ofFin (BodyRuns.of (e85_0_1 x0 x1 x2) (ac h2 (ac h1 (ac h0 All.nil)))))) (fun h1=>TrOk.ofStop)) (fun h0=>TrOk.ofFin (BodyRuns.of (e85_0_3 x0 x1 x2) (ac h0 All.nil)))

theorem ok85_0:LoopOk Go.Proofs.Try.prog 85 0 lc85_0:=loopOk_of kf86_ok.base (T:=fun (d:sh85_0.data)=>t85_0 d.1.1 d.1.2.1 d.1.2.2.1) (by kernel_rfl) rfl (fun (d:sh85_0.data)=>ok85_0_t d.1.1 d.1.2.1 d.1.2.2.1) (fun _=>rfl)
def kl85_0:Known:=kf86.loop 85 0 lc85_0
theorem kl85_0_ok:KnownOk Go.Proofs.Try.prog kl85_0:=kf86_ok.loop ok85_0

/-! ductility/motion.firstOf -/

abbrev as85:List Ty:=[(.slice (.int .i64))]
abbrev rs85:List Ty:=[(.int .i64)]

def t85 (x0:(List Int)):Tr (Tys.data rs85) :=
  Tr.test (Option.isSome (l85_0 ((x0,((↑(List.length x0):Int),((0:Int),()))),())))
    (Tr.test (isRet (l85_0 ((x0,((↑(List.length x0):Int),((0:Int),()))),())))
      (let r0:(Int×PUnit)×PUnit:=r85_0 ((x0,((↑(List.length x0):Int),((0:Int),()))),());
      Tr.fin ((r0.1.1,())))
      (Tr.fin (((0:Int),()))))
    (Tr.stop)

def f85 (d:Tys.data as85):Option (Tys.data rs85):=(t85 d.1).val
def g85 (d:Tys.data as85):Tys.data rs85:=(f85 d).getD (Tys.dflt rs85)
def p85:PureC:=pcOf as85 rs85 f85 g85

theorem e85_0 (x0:(List Int)):runPure kl85_0.orc Go.Proofs.Try.prog 400 85 as85 rs85 (x0,()) [tt,tt] =
    (let r0:(Int×PUnit)×PUnit:=r85_0 ((x0,((↑(List.length x0):Int),((0:Int),()))),()); some ((r0.1.1,()),[(isRet (l85_0 ((x0,((↑(List.length x0):Int),((0:Int),()))),())),true),(Option.isSome (l85_0 ((x0,((↑(List.length x0):Int),((0:Int),()))),())),true)])):=by kernel_rfl
theorem e85_1 (x0:(List Int)):runPure kl85_0.orc Go.Proofs.Try.prog 400 85 as85 rs85 (x0,()) [tt,ff] =
    (some (((0:Int),()),[(isRet (l85_0 ((x0,((↑(List.length x0):Int),((0:Int),()))),())),false),(Option.isSome (l85_0 ((x0,((↑(List.length x0):Int),((0:Int),()))),())),true)])):=by kernel_rfl

theorem ok85_t (x0:(List Int)):TrOk (PureRuns Go.Proofs.Try.prog kl85_0.orc 85 as85 rs85 (x0,())) (t85 x0) :=
  TrOk.ofTest (fun h0=>TrOk.ofTest (fun h1=>TrOk.ofFin (PureRuns.of (e85_0 x0) (ac h1 (ac h0 All.nil)))) (fun h1=>TrOk.ofFin (PureRuns.of (e85_1 x0) (ac h1 (ac h0 All.nil))))) (fun h0=>TrOk.ofStop)

theorem ok85:PureOk Go.Proofs.Try.prog 85 p85:=pureOk_of kl85_0_ok.base (T:=fun (d:Tys.data as85)=>t85 d.1) (by kernel_rfl) (fun (d:Tys.data as85)=>ok85_t d.1)
def kf85:Known:=kl85_0.func 85 p85
theorem kf85_ok:KnownOk Go.Proofs.Try.prog kf85:=kl85_0_ok.func ok85

/-! loop 0 of ductility/motion.areWithin -/

abbrev sh94_0:Sh:={ n:=24,slots:=[0,1,9,10,11],pats:=[.ty (.int .i64),.ty (.int .i64),.ty (.slice (.int .i64)),.ty (.int .i64),.ty (.int .i64)],boxes:=[] }
abbrev shb94_0:Sh:={ n:=24,slots:=[],pats:=[],boxes:=[] }
abbrev shr94_0:Sh:={ n:=24,slots:=[6],pats:=[.ty .bool],boxes:=[] }

def t94_0 (x0:Int) (x1:Int) (x2:(List Int)) (x3:Int) (x4:Int):Tr (Out sh94_0.data shb94_0.data shr94_0.data) :=
  Tr.test ((!leF x3 x4:Bool))
    (Tr.test (decide ((0:Int) ≤ x4) && decide (x4 < (↑(List.length x2):Int)))
      (Tr.test ((!leF x0 (List.getD x2 (Int.toNat x4) (0:Int)):Bool))
        (Tr.fin (.ret (((false:Bool),()),())))
        (Tr.test ((!leF (List.getD x2 (Int.toNat x4) (0:Int)) x1:Bool))
          (Tr.fin (.ret (((false:Bool),()),())))
          (Tr.fin (.again ((x0,(x1,(x2,(x3,((wrap64 (x4 + (1:Int)):Int),()))))),())))))
      (Tr.stop))
    (Tr.fin (.brk ((),())))

def s94_0 (d:sh94_0.data):Option (Out sh94_0.data shb94_0.data shr94_0.data):=(t94_0 d.1.1 d.1.2.1 d.1.2.2.1 d.1.2.2.2.1 d.1.2.2.2.2.1).val
def l94_0 (d:sh94_0.data):Option (shb94_0.data ⊕ shr94_0.data):=itr s94_0 rounds d
def b94_0 (d:sh94_0.data):shb94_0.data:=outB shb94_0.dflt (l94_0 d)
def r94_0 (d:sh94_0.data):shr94_0.data:=outR shr94_0.dflt (l94_0 d)
def lc94_0:LoopC:=lcOf sh94_0 shb94_0 shr94_0 l94_0 b94_0 r94_0

theorem e94_0_0 (x0:Int) (x1:Int) (x2:(List Int)) (x3:Int) (x4:Int):runBody kf85.orc Go.Proofs.Try.prog 400 94 0 sh94_0 shb94_0 shr94_0 ((x0,x1,x2,x3,x4,()),()) [tt,tt,tt,tt,tt,tt,tt] =
    (some (.ret ((false,()),()),[(true,true),(!leF x0 (List.getD x2 (Int.toNat x4) (0:Int)),true),(!leF x0 (List.getD x2 (Int.toNat x4) (0:Int)),true),(!leF x0 (List.getD x2 (Int.toNat x4) (0:Int)),true),(!leF x0 (List.getD x2 (Int.toNat x4) (0:Int)),true),(decide ((0:Int) ≤ x4) && decide (x4 < (↑(List.length x2):Int)),true),(!leF x3 x4,true)])):=by kernel_rfl
theorem e94_0_1 (x0:Int) (x1:Int) (x2:(List Int)) (x3:Int) (x4:Int):runBody kf85.orc Go.Proofs.Try.prog 400 94 0 sh94_0 shb94_0 shr94_0 ((x0,x1,x2,x3,x4,()),()) [tt,tt,ff,ff,ff,ff,tt] =
    (some (.ret ((false,()),()),[(!leF (List.getD x2 (Int.toNat x4) (0:Int)) x1,true),(!leF x0 (List.getD x2 (Int.toNat x4) (0:Int)),false),(!leF x0 (List.getD x2 (Int.toNat x4) (0:Int)),false),(!leF x0 (List.getD x2 (Int.toNat x4) (0:Int)),false),(!leF x0 (List.getD x2 (Int.toNat x4) (0:Int)),false),(decide ((0:Int) ≤ x4) && decide (x4 < (↑(List.length x2):Int)),true),(!leF x3 x4,true)])):=by kernel_rfl
theorem e94_0_2 (x0:Int) (x1:Int) (x2:(List Int)) (x3:Int) (x4:Int):runBody kf85.orc Go.Proofs.Try.prog 400 94 0 sh94_0 shb94_0 shr94_0 ((x0,x1,x2,x3,x4,()),()) [tt,tt,ff,ff,ff,ff,ff] =
    (some (.again ((x0,(x1,(x2,(x3,((wrap64 (x4 + (1:Int)):Int),()))))),()),[(!leF (List.getD x2 (Int.toNat x4) (0:Int)) x1,false),(!leF x0 (List.getD x2 (Int.toNat x4) (0:Int)),false),(!leF x0 (List.getD x2 (Int.toNat x4) (0:Int)),false),(!leF x0 (List.getD x2 (Int.toNat x4) (0:Int)),false),(!leF x0 (List.getD x2 (Int.toNat x4) (0:Int)),false),(decide ((0:Int) ≤ x4) && decide (x4 < (↑(List.length x2):Int)),true),(!leF x3 x4,true)])):=by kernel_rfl
theorem e94_0_4 (x0:Int) (x1:Int) (x2:(List Int)) (x3:Int) (x4:Int):runBody kf85.orc Go.Proofs.Try.prog 400 94 0 sh94_0 shb94_0 shr94_0 ((x0,x1,x2,x3,x4,()),()) [ff] =
    (some (.brk ((),()),[(!leF x3 x4,false)])):=by kernel_rfl

theorem ok94_0_t (x0:Int) (x1:Int) (x2:(List Int)) (x3:Int) (x4:Int):TrOk (BodyRuns Go.Proofs.Try.prog kf85.orc 94 0 sh94_0 shb94_0 shr94_0 ((x0,x1,x2,x3,x4,()),())) (t94_0 x0 x1 x2 x3 x4) :=
  TrOk.ofTest (fun h0=>TrOk.ofTest (fun h1=>TrOk.ofTest (fun h2=>TrOk.ofFin (BodyRuns.of (e94_0_0 x0 x1 x2 x3 x4) (ac rfl (ac (nn h2) (ac (nn h2) (ac (nn h2) (ac h2 (ac h1 (ac h0 All.nil))))))))) (fun h2=>TrOk.ofTest (fun h6=>TrOk.ofFin (BodyRuns.of (e94_0_1 x0 x1 x2 x3 x4) (ac h6 (ac (nn h2) (ac (nn h2) (ac (nn h2) (ac h2 (ac h1 (ac h0 All.nil))))))))) (fun h6=>TrOk.ofFin (BodyRuns.of (e94_0_2 x0 x1 x2 x3 x4) (ac h6 (ac (nn h2) (ac (nn h2) (ac (nn h2) (ac h2 (ac h1 (ac h0 All.nil))))))))))) (fun h1=>TrOk.ofStop)) (fun h0=>TrOk.ofFin (BodyRuns.of (e94_0_4 x0 x1 x2 x3 x4) (ac h0 All.nil)))

theorem ok94_0:LoopOk Go.Proofs.Try.prog 94 0 lc94_0:=loopOk_of kf85_ok.base (T:=fun (d:sh94_0.data)=>t94_0 d.1.1 d.1.2.1 d.1.2.2.1 d.1.2.2.2.1 d.1.2.2.2.2.1) (by kernel_rfl) rfl (fun (d:sh94_0.data)=>ok94_0_t d.1.1 d.1.2.1 d.1.2.2.1 d.1.2.2.2.1 d.1.2.2.2.2.1) (fun _=>rfl)
def kl94_0:Known:=kf85.loop 94 0 lc94_0
theorem kl94_0_ok:KnownOk Go.Proofs.Try.prog kl94_0:=kf85_ok.loop ok94_0

/-! ductility/motion.areWithin -/

abbrev as94:List Ty:=[(.int .i64),(.int .i64),(.slice (.int .i64))]
abbrev rs94:List Ty:=[.bool]

def t94 (x0:Int) (x1:Int) (x2:(List Int)):Tr (Tys.data rs94) :=
  Tr.test (Option.isSome (l94_0 ((x0,(x1,(x2,((↑(List.length x2):Int),((0:Int),()))))),())))
    (Tr.test (isRet (l94_0 ((x0,(x1,(x2,((↑(List.length x2):Int),((0:Int),()))))),())))
      (let r0:(Bool×PUnit)×PUnit:=r94_0 ((x0,(x1,(x2,((↑(List.length x2):Int),((0:Int),()))))),());
      Tr.fin ((r0.1.1,())))
      (Tr.fin (((true:Bool),()))))
    (Tr.stop)

def f94 (d:Tys.data as94):Option (Tys.data rs94):=(t94 d.1 d.2.1 d.2.2.1).val
def g94 (d:Tys.data as94):Tys.data rs94:=(f94 d).getD (Tys.dflt rs94)
def p94:PureC:=pcOf as94 rs94 f94 g94

theorem e94_0 (x0:Int) (x1:Int) (x2:(List Int)):runPure kl94_0.orc Go.Proofs.Try.prog 400 94 as94 rs94 (x0,x1,x2,()) [tt,tt] =
    (let r0:(Bool×PUnit)×PUnit:=r94_0 ((x0,(x1,(x2,((↑(List.length x2):Int),((0:Int),()))))),()); some ((r0.1.1,()),[(isRet (l94_0 ((x0,(x1,(x2,((↑(List.length x2):Int),((0:Int),()))))),())),true),(Option.isSome (l94_0 ((x0,(x1,(x2,((↑(List.length x2):Int),((0:Int),()))))),())),true)])):=by kernel_rfl
theorem e94_1 (x0:Int) (x1:Int) (x2:(List Int)):runPure kl94_0.orc Go.Proofs.Try.prog 400 94 as94 rs94 (x0,x1,x2,()) [tt,ff] =
    (some ((true,()),[(isRet (l94_0 ((x0,(x1,(x2,((↑(List.length x2):Int),((0:Int),()))))),())),false),(Option.isSome (l94_0 ((x0,(x1,(x2,((↑(List.length x2):Int),((0:Int),()))))),())),true)])):=by kernel_rfl

theorem ok94_t (x0:Int) (x1:Int) (x2:(List Int)):TrOk (PureRuns Go.Proofs.Try.prog kl94_0.orc 94 as94 rs94 (x0,x1,x2,())) (t94 x0 x1 x2) :=
  TrOk.ofTest (fun h0=>TrOk.ofTest (fun h1=>TrOk.ofFin (PureRuns.of (e94_0 x0 x1 x2) (ac h1 (ac h0 All.nil)))) (fun h1=>TrOk.ofFin (PureRuns.of (e94_1 x0 x1 x2) (ac h1 (ac h0 All.nil))))) (fun h0=>TrOk.ofStop)

theorem ok94:PureOk Go.Proofs.Try.prog 94 p94:=pureOk_of kl94_0_ok.base (T:=fun (d:Tys.data as94)=>t94 d.1 d.2.1 d.2.2.1) (by kernel_rfl) (fun (d:Tys.data as94)=>ok94_t d.1 d.2.1 d.2.2.1)
def kf94:Known:=kl94_0.func 94 p94
theorem kf94_ok:KnownOk Go.Proofs.Try.prog kf94:=kl94_0_ok.func ok94

/-! ductility/motion.isBeyond -/

abbrev as141:List Ty:=[(.int .i64),(.slice (.int .i64))]
abbrev rs141:List Ty:=[.bool]

def t141 (x0:Int) (x1:(List Int)):Tr (Tys.data rs141) :=
  Tr.test (Option.isSome (f94 ((Go.IntKind.wrap Go.IntKind.i64 ((0:Int) - x0):Int),(x0,(x1,())))))
    (let r0:Bool×PUnit:=g94 ((Go.IntKind.wrap Go.IntKind.i64 ((0:Int) - x0):Int),(x0,(x1,())));
    Tr.fin (((!r0.1:Bool),())))
    (Tr.stop)

def f141 (d:Tys.data as141):Option (Tys.data rs141):=(t141 d.1 d.2.1).val
def g141 (d:Tys.data as141):Tys.data rs141:=(f141 d).getD (Tys.dflt rs141)
def p141:PureC:=pcOf as141 rs141 f141 g141

theorem e141_0 (x0:Int) (x1:(List Int)):runPure kf94.orc Go.Proofs.Try.prog 400 141 as141 rs141 (x0,x1,()) [tt] =
    (let r0:Bool×PUnit:=g94 ((Go.IntKind.wrap Go.IntKind.i64 ((0:Int) - x0):Int),(x0,(x1,()))); some ((!r0.1,()),[(Option.isSome (f94 ((Go.IntKind.wrap Go.IntKind.i64 ((0:Int) - x0):Int),(x0,(x1,())))),true)])):=by kernel_rfl

theorem ok141_t (x0:Int) (x1:(List Int)):TrOk (PureRuns Go.Proofs.Try.prog kf94.orc 141 as141 rs141 (x0,x1,())) (t141 x0 x1) :=
  TrOk.ofTest (fun h0=>TrOk.ofFin (PureRuns.of (e141_0 x0 x1) (ac h0 All.nil))) (fun h0=>TrOk.ofStop)

theorem ok141:PureOk Go.Proofs.Try.prog 141 p141:=pureOk_of kf94_ok.base (T:=fun (d:Tys.data as141)=>t141 d.1 d.2.1) (by kernel_rfl) (fun (d:Tys.data as141)=>ok141_t d.1 d.2.1)
def kf141:Known:=kf94.func 141 p141
theorem kf141_ok:KnownOk Go.Proofs.Try.prog kf141:=kf94_ok.func ok141

/-! ductility/motion.checkSamples$1 -/

abbrev as140:List Ty:=[(.int .i64),(.int .i64)]
abbrev rs140:List Ty:=[(.int .i64)]

def t140 (x0:Int) (x1:Int):Tr (Tys.data rs140) :=
  Tr.test (Option.isSome (f141 ((1000:Int),(([x1]:List Int),()))))
    (let r0:Bool×PUnit:=g141 ((1000:Int),(([x1]:List Int),()));
    Tr.test (Option.isSome (f86 (r0.1,((2:Int),()))))
      (let r1:Int×PUnit:=g86 (r0.1,((2:Int),()));
      Tr.fin ((r1.1,())))
      (Tr.stop))
    (Tr.stop)

def f140 (d:Tys.data as140):Option (Tys.data rs140):=(t140 d.1 d.2.1).val
def g140 (d:Tys.data as140):Tys.data rs140:=(f140 d).getD (Tys.dflt rs140)
def p140:PureC:=pcOf as140 rs140 f140 g140

theorem e140_0 (x0:Int) (x1:Int):runPure kf141.orc Go.Proofs.Try.prog 400 140 as140 rs140 (x0,x1,()) [tt,tt,tt] =
    (let r0:Bool×PUnit:=g141 ((1000:Int),(([x1]:List Int),()));let r1:Int×PUnit:=g86 (r0.1,((2:Int),())); some ((r1.1,()),[(Option.isSome (f86 (r0.1,((2:Int),()))),true),(Option.isSome (f141 ((1000:Int),(([x1]:List Int),()))),true),(true,true)])):=by kernel_rfl

theorem ok140_t (x0:Int) (x1:Int):TrOk (PureRuns Go.Proofs.Try.prog kf141.orc 140 as140 rs140 (x0,x1,())) (t140 x0 x1) :=
  TrOk.ofTest (fun h1=>TrOk.ofTest (fun h2=>TrOk.ofFin (PureRuns.of (e140_0 x0 x1) (ac h2 (ac h1 (ac rfl All.nil))))) (fun h2=>TrOk.ofStop)) (fun h1=>TrOk.ofStop)

theorem ok140:PureOk Go.Proofs.Try.prog 140 p140:=pureOk_of kf141_ok.base (T:=fun (d:Tys.data as140)=>t140 d.1 d.2.1) (by kernel_rfl) (fun (d:Tys.data as140)=>ok140_t d.1 d.2.1)
def kf140:Known:=kf141.func 140 p140
theorem kf140_ok:KnownOk Go.Proofs.Try.prog kf140:=kf141_ok.func ok140

/-! loop 0 of ductility/motion.checkItems[int] -/

abbrev sh106_0:Sh:={ n:=25,slots:=[1,9,10,11],pats:=[.fn 140 [],.ty (.slice (.int .i64)),.ty (.int .i64),.ty (.int .i64)],boxes:=[] }
abbrev shb106_0:Sh:={ n:=25,slots:=[],pats:=[],boxes:=[] }
abbrev shr106_0:Sh:={ n:=25,slots:=[4,5],pats:=[.ty (.int .i64),.ty (.int .i64)],boxes:=[] }

def t106_0 (x1:(List Int)) (x2:Int) (x3:Int):Tr (Out sh106_0.data shb106_0.data shr106_0.data) :=
  Tr.test ((!leF x2 x3:Bool))
    (Tr.test (decide ((0:Int) ≤ x3) && decide (x3 < (↑(List.length x1):Int)))
      (Tr.test (Option.isSome (f140 (x3,((List.getD x1 (Int.toNat x3) (0:Int):Int),()))))
        (let r0:Int×PUnit:=g140 (x3,((List.getD x1 (Int.toNat x3) (0:Int):Int),()));
        Tr.test ((!eqF r0.1 0:Bool))
          (Tr.fin (.ret ((x3,(r0.1,())),())))
          (Tr.fin (.again ((x1,(x2,((wrap64 (x3 + (1:Int)):Int),()))),()))))
        (Tr.stop))
      (Tr.stop))
    (Tr.fin (.brk ((),())))

def s106_0 (d:sh106_0.data):Option (Out sh106_0.data shb106_0.data shr106_0.data):=(t106_0 d.1.1 d.1.2.1 d.1.2.2.1).val
def l106_0 (d:sh106_0.data):Option (shb106_0.data ⊕ shr106_0.data):=itr s106_0 rounds d
def b106_0 (d:sh106_0.data):shb106_0.data:=outB shb106_0.dflt (l106_0 d)
def r106_0 (d:sh106_0.data):shr106_0.data:=outR shr106_0.dflt (l106_0 d)
def lc106_0:LoopC:=lcOf sh106_0 shb106_0 shr106_0 l106_0 b106_0 r106_0

theorem e106_0_0 (x1:(List Int)) (x2:Int) (x3:Int):runBody kf140.orc Go.Proofs.Try.prog 400 106 0 sh106_0 shb106_0 shr106_0 ((x1,x2,x3,()),()) [tt,tt,tt,tt] =
    (let r0:Int×PUnit:=g140 (x3,((List.getD x1 (Int.toNat x3) (0:Int):Int),())); some (.ret ((x3,(r0.1,())),()),[(!eqF r0.1 0,true),(Option.isSome (f140 (x3,((List.getD x1 (Int.toNat x3) (0:Int):Int),()))),true),(decide ((0:Int) ≤ x3) && decide (x3 < (↑(List.length x1):Int)),true),(!leF x2 x3,true)])):=by kernel_rfl
theorem e106_0_1 (x1:(List Int)) (x2:Int) (x3:Int):runBody kf140.orc Go.Proofs.Try.prog 400 106 0 sh106_0 shb106_0 shr106_0 ((x1,x2,x3,()),()) [tt,tt,tt,ff] =
    (let r0:Int×PUnit:=g140 (x3,((List.getD x1 (Int.toNat x3) (0:Int):Int),())); some (.again ((x1,(x2,((wrap64 (x3 + (1:Int)):Int),()))),()),[(!eqF r0.1 0,false),(Option.isSome (f140 (x3,((List.getD x1 (Int.toNat x3) (0:Int):Int),()))),true),(decide ((0:Int) ≤ x3) && decide (x3 < (↑(List.length x1):Int)),true),(!leF x2 x3,true)])):=by kernel_rfl
theorem e106_0_3 (x1:(List Int)) (x2:Int) (x3:Int):runBody kf140.orc Go.Proofs.Try.prog 400 106 0 sh106_0 shb106_0 shr106_0 ((x1,x2,x3,()),()) [ff] =
    (some (.brk ((),()),[(!leF x2 x3,false)])):=by kernel_rfl

theorem ok106_0_t (x1:(List Int)) (x2:Int) (x3:Int):TrOk (BodyRuns Go.Proofs.Try.prog kf140.orc 106 0 sh106_0 shb106_0 shr106_0 ((x1,x2,x3,()),())) (t106_0 x1 x2 x3) :=
  TrOk.ofTest (fun h0=>TrOk.ofTest (fun h1=>TrOk.ofTest (fun h2=>TrOk.ofTest (fun h3=>TrOk.ofFin (BodyRuns.of (e106_0_0 x1 x2 x3) (ac h3 (ac h2 (ac h1 (ac h0 All.nil)))))) (fun h3=>TrOk.ofFin (BodyRuns.of (e106_0_1 x1 x2 x3) (ac h3 (ac h2 (ac h1 (ac h0 All.nil))))))) (fun h2=>TrOk.ofStop)) (fun h1=>TrOk.ofStop)) (fun h0=>TrOk.ofFin (BodyRuns.of (e106_0_3 x1 x2 x3) (ac h0 All.nil)))

theorem ok106_0:LoopOk Go.Proofs.Try.prog 106 0 lc106_0:=loopOk_of kf140_ok.base (T:=fun (d:sh106_0.data)=>t106_0 d.1.1 d.1.2.1 d.1.2.2.1) (by kernel_rfl) rfl (fun (d:sh106_0.data)=>ok106_0_t d.1.1 d.1.2.1 d.1.2.2.1) (fun _=>rfl)
def kl106_0:Known:=kf140.loop 106 0 lc106_0
theorem kl106_0_ok:KnownOk Go.Proofs.Try.prog kl106_0:=kf140_ok.loop ok106_0

/-! ductility/motion.checkSamples -/

abbrev as87:List Ty:=[(.slice (.int .i64))]
abbrev rs87:List Ty:=[(.int .i64),(.int .i64)]

def t87 (x0:(List Int)):Tr (Tys.data rs87) :=
  Tr.test (Option.isSome (l106_0 ((x0,((↑(List.length x0):Int),((0:Int),()))),())))
    (Tr.test (isRet (l106_0 ((x0,((↑(List.length x0):Int),((0:Int),()))),())))
      (let r0:(Int×Int×PUnit)×PUnit:=r106_0 ((x0,((↑(List.length x0):Int),((0:Int),()))),());
      Tr.fin ((r0.1.1,(r0.1.2.1,()))))
      (Tr.fin (((0:Int),((0:Int),())))))
    (Tr.stop)

def f87 (d:Tys.data as87):Option (Tys.data rs87):=(t87 d.1).val
def g87 (d:Tys.data as87):Tys.data rs87:=(f87 d).getD (Tys.dflt rs87)
def p87:PureC:=pcOf as87 rs87 f87 g87

theorem e87_0 (x0:(List Int)):runPure kl106_0.orc Go.Proofs.Try.prog 400 87 as87 rs87 (x0,()) [tt,tt] =
    (let r0:(Int×Int×PUnit)×PUnit:=r106_0 ((x0,((↑(List.length x0):Int),((0:Int),()))),()); some ((r0.1.1,(r0.1.2.1,())),[(isRet (l106_0 ((x0,((↑(List.length x0):Int),((0:Int),()))),())),true),(Option.isSome (l106_0 ((x0,((↑(List.length x0):Int),((0:Int),()))),())),true)])):=by kernel_rfl
theorem e87_1 (x0:(List Int)):runPure kl106_0.orc Go.Proofs.Try.prog 400 87 as87 rs87 (x0,()) [tt,ff] =
    (some (((0:Int),((0:Int),())),[(isRet (l106_0 ((x0,((↑(List.length x0):Int),((0:Int),()))),())),false),(Option.isSome (l106_0 ((x0,((↑(List.length x0):Int),((0:Int),()))),())),true)])):=by kernel_rfl

theorem ok87_t (x0:(List Int)):TrOk (PureRuns Go.Proofs.Try.prog kl106_0.orc 87 as87 rs87 (x0,())) (t87 x0) :=
  TrOk.ofTest (fun h0=>TrOk.ofTest (fun h1=>TrOk.ofFin (PureRuns.of (e87_0 x0) (ac h1 (ac h0 All.nil)))) (fun h1=>TrOk.ofFin (PureRuns.of (e87_1 x0) (ac h1 (ac h0 All.nil))))) (fun h0=>TrOk.ofStop)

theorem ok87:PureOk Go.Proofs.Try.prog 87 p87:=pureOk_of kl106_0_ok.base (T:=fun (d:Tys.data as87)=>t87 d.1) (by kernel_rfl) (fun (d:Tys.data as87)=>ok87_t d.1)
def kf87:Known:=kl106_0.func 87 p87
theorem kf87_ok:KnownOk Go.Proofs.Try.prog kf87:=kl106_0_ok.func ok87

/-! ductility/motion.CheckRecord -/

abbrev as17:List Ty:=[(.pair (.int .i64) (.pair (.slice (.int .i64)) .unit))]
abbrev rs17:List Ty:=[(.int .i64),(.int .i64)]

def t17 (x0:Int) (x0':(List Int)):Tr (Tys.data rs17) :=
  Tr.test ((!leF (1:Int) x0:Bool))
    (Tr.test (Option.isSome (f86 (true,((2:Int),()))))
      (Tr.test (Option.isSome (f86 ((!leF (2:Int) (↑(List.length x0'):Int):Bool),((10:Int),()))))
        (Tr.test (Option.isSome (f86 ((!leF (↑(List.length x0'):Int) (24:Int):Bool),((8:Int),()))))
          (let r0:Int×PUnit:=g86 ((true:Bool),((2:Int),()));
          let r2:Int×PUnit:=g86 ((!leF (2:Int) (↑(List.length x0'):Int):Bool),((10:Int),()));
          let r3:Int×PUnit:=g86 ((!leF (↑(List.length x0'):Int) (24:Int):Bool),((8:Int),()));
          Tr.test (Option.isSome (f85 (([r0.1,r2.1,r3.1]:List Int),())))
            (let r4:Int×PUnit:=g85 (([r0.1,r2.1,r3.1]:List Int),());
            Tr.test ((!eqF r4.1 0:Bool))
              (Tr.fin (((0:Int),(r4.1,()))))
              (Tr.test (Option.isSome (f87 (x0',())))
                (let r6:Int×Int×PUnit:=g87 (x0',());
                Tr.fin ((r6.1,(r6.2.1,()))))
                (Tr.stop)))
            (Tr.stop))
          (Tr.stop))
        (Tr.stop))
      (Tr.stop))
    (Tr.test (Option.isSome (f86 (!leF x0 1000000,((2:Int),()))))
      (Tr.test (Option.isSome (f86 ((!leF (2:Int) (↑(List.length x0'):Int):Bool),((10:Int),()))))
        (Tr.test (Option.isSome (f86 ((!leF (↑(List.length x0'):Int) (24:Int):Bool),((8:Int),()))))
          (let r1:Int×PUnit:=g86 ((!leF x0 1000000:Bool),((2:Int),()));
          let r2:Int×PUnit:=g86 ((!leF (2:Int) (↑(List.length x0'):Int):Bool),((10:Int),()));
          let r3:Int×PUnit:=g86 ((!leF (↑(List.length x0'):Int) (24:Int):Bool),((8:Int),()));
          Tr.test (Option.isSome (f85 (([r1.1,r2.1,r3.1]:List Int),())))
            (let r5:Int×PUnit:=g85 (([r1.1,r2.1,r3.1]:List Int),());
            Tr.test ((!eqF r5.1 0:Bool))
              (Tr.fin (((0:Int),(r5.1,()))))
              (Tr.test (Option.isSome (f87 (x0',())))
                (let r6:Int×Int×PUnit:=g87 (x0',());
                Tr.fin ((r6.1,(r6.2.1,()))))
                (Tr.stop)))
            (Tr.stop))
          (Tr.stop))
        (Tr.stop))
      (Tr.stop))

def f17 (d:Tys.data as17):Option (Tys.data rs17):=(t17 d.1.1 d.1.2.1).val
def g17 (d:Tys.data as17):Tys.data rs17:=(f17 d).getD (Tys.dflt rs17)
def p17:PureC:=pcOf as17 rs17 f17 g17

theorem e17_0 (x0:Int) (x0':(List Int)):runPure kf87.orc Go.Proofs.Try.prog 400 17 as17 rs17 ((x0,x0',()),()) [tt,tt,tt,tt,tt,tt,tt,tt,tt,tt] =
    (let r0:Int×PUnit:=g86 (true,((2:Int),()));let r2:Int×PUnit:=g86 (!leF (2:Int) (↑(List.length x0'):Int),((10:Int),()));let r3:Int×PUnit:=g86 (!leF (↑(List.length x0'):Int) (24:Int),((8:Int),()));let r4:Int×PUnit:=g85 (([r0.1,r2.1,r3.1]:List Int),()); some (((0:Int),(r4.1,())),[(!eqF r4.1 0,true),(Option.isSome (f85 (([r0.1,r2.1,r3.1]:List Int),())),true),(true,true),(Option.isSome (f86 (!leF (↑(List.length x0'):Int) (24:Int),((8:Int),()))),true),(Option.isSome (f86 (!leF (2:Int) (↑(List.length x0'):Int),((10:Int),()))),true),(Option.isSome (f86 (true,((2:Int),()))),true),(!leF (1:Int) x0,true),(!leF (1:Int) x0,true),(!leF (1:Int) x0,true),(!leF (1:Int) x0,true)])):=by kernel_rfl
theorem e17_1 (x0:Int) (x0':(List Int)):runPure kf87.orc Go.Proofs.Try.prog 400 17 as17 rs17 ((x0,x0',()),()) [tt,tt,tt,tt,tt,tt,tt,tt,tt,ff,tt] =
    (let r0:Int×PUnit:=g86 (true,((2:Int),()));let r2:Int×PUnit:=g86 (!leF (2:Int) (↑(List.length x0'):Int),((10:Int),()));let r3:Int×PUnit:=g86 (!leF (↑(List.length x0'):Int) (24:Int),((8:Int),()));let r4:Int×PUnit:=g85 (([r0.1,r2.1,r3.1]:List Int),());let r6:Int×Int×PUnit:=g87 (x0',()); some ((r6.1,(r6.2.1,())),[(Option.isSome (f87 (x0',())),true),(!eqF r4.1 0,false),(Option.isSome (f85 (([r0.1,r2.1,r3.1]:List Int),())),true),(true,true),(Option.isSome (f86 (!leF (↑(List.length x0'):Int) (24:Int),((8:Int),()))),true),(Option.isSome (f86 (!leF (2:Int) (↑(List.length x0'):Int),((10:Int),()))),true),(Option.isSome (f86 (true,((2:Int),()))),true),(!leF (1:Int) x0,true),(!leF (1:Int) x0,true),(!leF (1:Int) x0,true),(!leF (1:Int) x0,true)])):=by kernel_rfl
theorem e17_2 (x0:Int) (x0':(List Int)):runPure kf87.orc Go.Proofs.Try.prog 400 17 as17 rs17 ((x0,x0',()),()) [ff,ff,ff,ff,tt,tt,tt,tt,tt,tt] =
    (let r1:Int×PUnit:=g86 (!leF x0 1000000,((2:Int),()));let r2:Int×PUnit:=g86 (!leF (2:Int) (↑(List.length x0'):Int),((10:Int),()));let r3:Int×PUnit:=g86 (!leF (↑(List.length x0'):Int) (24:Int),((8:Int),()));let r5:Int×PUnit:=g85 (([r1.1,r2.1,r3.1]:List Int),()); some (((0:Int),(r5.1,())),[(!eqF r5.1 0,true),(Option.isSome (f85 (([r1.1,r2.1,r3.1]:List Int),())),true),(true,true),(Option.isSome (f86 (!leF (↑(List.length x0'):Int) (24:Int),((8:Int),()))),true),(Option.isSome (f86 (!leF (2:Int) (↑(List.length x0'):Int),((10:Int),()))),true),(Option.isSome (f86 (!leF x0 1000000,((2:Int),()))),true),(!leF (1:Int) x0,false),(!leF (1:Int) x0,false),(!leF (1:Int) x0,false),(!leF (1:Int) x0,false)])):=by kernel_rfl
theorem e17_3 (x0:Int) (x0':(List Int)):runPure kf87.orc Go.Proofs.Try.prog 400 17 as17 rs17 ((x0,x0',()),()) [ff,ff,ff,ff,tt,tt,tt,tt,tt,ff,tt] =
    (let r1:Int×PUnit:=g86 (!leF x0 1000000,((2:Int),()));let r2:Int×PUnit:=g86 (!leF (2:Int) (↑(List.length x0'):Int),((10:Int),()));let r3:Int×PUnit:=g86 (!leF (↑(List.length x0'):Int) (24:Int),((8:Int),()));let r5:Int×PUnit:=g85 (([r1.1,r2.1,r3.1]:List Int),());let r6:Int×Int×PUnit:=g87 (x0',()); some ((r6.1,(r6.2.1,())),[(Option.isSome (f87 (x0',())),true),(!eqF r5.1 0,false),(Option.isSome (f85 (([r1.1,r2.1,r3.1]:List Int),())),true),(true,true),(Option.isSome (f86 (!leF (↑(List.length x0'):Int) (24:Int),((8:Int),()))),true),(Option.isSome (f86 (!leF (2:Int) (↑(List.length x0'):Int),((10:Int),()))),true),(Option.isSome (f86 (!leF x0 1000000,((2:Int),()))),true),(!leF (1:Int) x0,false),(!leF (1:Int) x0,false),(!leF (1:Int) x0,false),(!leF (1:Int) x0,false)])):=by kernel_rfl

theorem ok17_t (x0:Int) (x0':(List Int)):TrOk (PureRuns Go.Proofs.Try.prog kf87.orc 17 as17 rs17 ((x0,x0',()),())) (t17 x0 x0') :=
  TrOk.ofTest (fun h0=>TrOk.ofTest (fun h4=>TrOk.ofTest (fun h5=>TrOk.ofTest (fun h6=>TrOk.ofTest (fun h8=>TrOk.ofTest (fun h9=>TrOk.ofFin (PureRuns.of (e17_0 x0 x0') (ac h9 (ac h8 (ac rfl (ac h6 (ac h5 (ac h4 (ac (nn h0) (ac (nn h0) (ac (nn h0) (ac h0 All.nil)))))))))))) (fun h9=>TrOk.ofTest (fun h10=>TrOk.ofFin (PureRuns.of (e17_1 x0 x0') (ac h10 (ac h9 (ac h8 (ac rfl (ac h6 (ac h5 (ac h4 (ac (nn h0) (ac (nn h0) (ac (nn h0) (ac h0 All.nil))))))))))))) (fun h10=>TrOk.ofStop))) (fun h8=>TrOk.ofStop)) (fun h6=>TrOk.ofStop)) (fun h5=>TrOk.ofStop)) (fun h4=>TrOk.ofStop)) (fun h0=>TrOk.ofTest (fun h4=>TrOk.ofTest (fun h5=>TrOk.ofTest (fun h6=>TrOk.ofTest (fun h8=>TrOk.ofTest (fun h9=>TrOk.ofFin (PureRuns.of (e17_2 x0 x0') (ac h9 (ac h8 (ac rfl (ac h6 (ac h5 (ac h4 (ac (nn h0) (ac (nn h0) (ac (nn h0) (ac h0 All.nil)))))))))))) (fun h9=>TrOk.ofTest (fun h10=>TrOk.ofFin (PureRuns.of (e17_3 x0 x0') (ac h10 (ac h9 (ac h8 (ac rfl (ac h6 (ac h5 (ac h4 (ac (nn h0) (ac (nn h0) (ac (nn h0) (ac h0 All.nil))))))))))))) (fun h10=>TrOk.ofStop))) (fun h8=>TrOk.ofStop)) (fun h6=>TrOk.ofStop)) (fun h5=>TrOk.ofStop)) (fun h4=>TrOk.ofStop))

theorem ok17:PureOk Go.Proofs.Try.prog 17 p17:=pureOk_of kf87_ok.base (T:=fun (d:Tys.data as17)=>t17 d.1.1 d.1.2.1) (by kernel_rfl) (fun (d:Tys.data as17)=>ok17_t d.1.1 d.1.2.1)
def kf17:Known:=kf87.func 17 p17
theorem kf17_ok:KnownOk Go.Proofs.Try.prog kf17:=kf87_ok.func ok17

/-! ductility/motion.recordError -/

abbrev as88:List Ty:=[(.pair (.int .i64) (.pair (.slice (.int .i64)) .unit))]
abbrev rs88:List Ty:=[(.int .i64)]

def t88 (x0:Int) (x0':(List Int)):Tr (Tys.data rs88) :=
  Tr.test (Option.isSome (f17 ((x0,(x0',())),())))
    (let r0:Int×Int×PUnit:=g17 ((x0,(x0',())),());
    Tr.fin ((r0.2.1,())))
    (Tr.stop)

def f88 (d:Tys.data as88):Option (Tys.data rs88):=(t88 d.1.1 d.1.2.1).val
def g88 (d:Tys.data as88):Tys.data rs88:=(f88 d).getD (Tys.dflt rs88)
def p88:PureC:=pcOf as88 rs88 f88 g88

theorem e88_0 (x0:Int) (x0':(List Int)):runPure kf17.orc Go.Proofs.Try.prog 400 88 as88 rs88 ((x0,x0',()),()) [tt] =
    (let r0:Int×Int×PUnit:=g17 ((x0,(x0',())),()); some ((r0.2.1,()),[(Option.isSome (f17 ((x0,(x0',())),())),true)])):=by kernel_rfl

theorem ok88_t (x0:Int) (x0':(List Int)):TrOk (PureRuns Go.Proofs.Try.prog kf17.orc 88 as88 rs88 ((x0,x0',()),())) (t88 x0 x0') :=
  TrOk.ofTest (fun h0=>TrOk.ofFin (PureRuns.of (e88_0 x0 x0') (ac h0 All.nil))) (fun h0=>TrOk.ofStop)

theorem ok88:PureOk Go.Proofs.Try.prog 88 p88:=pureOk_of kf17_ok.base (T:=fun (d:Tys.data as88)=>t88 d.1.1 d.1.2.1) (by kernel_rfl) (fun (d:Tys.data as88)=>ok88_t d.1.1 d.1.2.1)
def kf88:Known:=kf17.func 88 p88
theorem kf88_ok:KnownOk Go.Proofs.Try.prog kf88:=kf17_ok.func ok88

/-! loop 0 of ductility/motion.endOf -/

abbrev sh90_0:Sh:={ n:=25,slots:=[2,3,6,7,8],pats:=[.ptr 0 2 0,.ptr 1 2 0,.ty (.slice (.int .i64)),.ty (.int .i64),.ty (.int .i64)],boxes:=[.row [.ty (.int .i64),.ty (.int .i64)],.row [.ty (.int .i64),.ty (.int .i64)]] }
abbrev shb90_0:Sh:={ n:=25,slots:=[2,3],pats:=[.ptr 0 2 0,.ptr 1 2 0],boxes:=[.row [.ty (.int .i64),.ty (.int .i64)],.row [.ty (.int .i64),.ty (.int .i64)]] }
abbrev shr90_0:Sh:={ n:=25,slots:=[],pats:=[],boxes:=[.row [.ty (.int .i64),.ty (.int .i64)],.row [.ty (.int .i64),.ty (.int .i64)]] }

def t90_0 (x2:(List Int)) (x3:Int) (x4:Int) (b0_0:Int) (b0_1:Int) (b1_0:Int) (b1_1:Int):Tr (Out sh90_0.data shb90_0.data shr90_0.data) :=
  Tr.test ((!leF x3 x4:Bool))
    (Tr.test (decide ((0:Int) ≤ x4) && decide (x4 < (↑(List.length x2):Int)))
      (Tr.fin (.again ((x2,(x3,((wrap64 (x4 + (1:Int)):Int),()))),((b0_0,(b0_1,())),(((wrap64 (b1_0 + List.getD x2 (Int.toNat x4) (0:Int)):Int),((wrap64 (b1_1 + wrap64 (b1_0 + List.getD x2 (Int.toNat x4) (0:Int))):Int),())),())))))
      (Tr.stop))
    (Tr.fin (.brk ((),((b0_0,(b0_1,())),((b1_0,(b1_1,())),())))))

def s90_0 (d:sh90_0.data):Option (Out sh90_0.data shb90_0.data shr90_0.data):=(t90_0 d.1.1 d.1.2.1 d.1.2.2.1 d.2.1.1 d.2.1.2.1 d.2.2.1.1 d.2.2.1.2.1).val
def l90_0 (d:sh90_0.data):Option (shb90_0.data ⊕ shr90_0.data):=itr s90_0 rounds d
def b90_0 (d:sh90_0.data):shb90_0.data:=outB shb90_0.dflt (l90_0 d)
def lc90_0:LoopC:=lcB sh90_0 shb90_0 shr90_0 l90_0 b90_0

theorem e90_0_0 (x2:(List Int)) (x3:Int) (x4:Int) (b0_0:Int) (b0_1:Int) (b1_0:Int) (b1_1:Int):runBody kf88.orc Go.Proofs.Try.prog 400 90 0 sh90_0 shb90_0 shr90_0 ((x2,x3,x4,()),(b0_0,b0_1,()),(b1_0,b1_1,()),()) [tt,tt] =
    (some (.again ((x2,(x3,((wrap64 (x4 + (1:Int)):Int),()))),((b0_0,(b0_1,())),(((wrap64 (b1_0 + List.getD x2 (Int.toNat x4) (0:Int)):Int),((wrap64 (b1_1 + wrap64 (b1_0 + List.getD x2 (Int.toNat x4) (0:Int))):Int),())),()))),[(decide ((0:Int) ≤ x4) && decide (x4 < (↑(List.length x2):Int)),true),(!leF x3 x4,true)])):=by kernel_rfl
theorem e90_0_2 (x2:(List Int)) (x3:Int) (x4:Int) (b0_0:Int) (b0_1:Int) (b1_0:Int) (b1_1:Int):runBody kf88.orc Go.Proofs.Try.prog 400 90 0 sh90_0 shb90_0 shr90_0 ((x2,x3,x4,()),(b0_0,b0_1,()),(b1_0,b1_1,()),()) [ff] =
    (some (.brk ((),((b0_0,(b0_1,())),((b1_0,(b1_1,())),()))),[(!leF x3 x4,false)])):=by kernel_rfl

theorem ok90_0_t (x2:(List Int)) (x3:Int) (x4:Int) (b0_0:Int) (b0_1:Int) (b1_0:Int) (b1_1:Int):TrOk (BodyRuns Go.Proofs.Try.prog kf88.orc 90 0 sh90_0 shb90_0 shr90_0 ((x2,x3,x4,()),(b0_0,b0_1,()),(b1_0,b1_1,()),())) (t90_0 x2 x3 x4 b0_0 b0_1 b1_0 b1_1) :=
  TrOk.ofTest (fun h0=>TrOk.ofTest (fun h1=>TrOk.ofFin (BodyRuns.of (e90_0_0 x2 x3 x4 b0_0 b0_1 b1_0 b1_1) (ac h1 (ac h0 All.nil)))) (fun h1=>TrOk.ofStop)) (fun h0=>TrOk.ofFin (BodyRuns.of (e90_0_2 x2 x3 x4 b0_0 b0_1 b1_0 b1_1) (ac h0 All.nil)))

theorem ok90_0:LoopOk Go.Proofs.Try.prog 90 0 lc90_0:=loopOk_ofB kf88_ok.base (T:=fun (d:sh90_0.data)=>t90_0 d.1.1 d.1.2.1 d.1.2.2.1 d.2.1.1 d.2.1.2.1 d.2.2.1.1 d.2.2.1.2.1) (by kernel_rfl) rfl (fun (d:sh90_0.data)=>ok90_0_t d.1.1 d.1.2.1 d.1.2.2.1 d.2.1.1 d.2.1.2.1 d.2.2.1.1 d.2.2.1.2.1) (fun _=>rfl)
def kl90_0:Known:=kf88.loop 90 0 lc90_0
theorem kl90_0_ok:KnownOk Go.Proofs.Try.prog kl90_0:=kf88_ok.loop ok90_0

/-! ductility/motion.endOf -/

abbrev as90:List Ty:=[(.slice (.int .i64))]
abbrev rs90:List Ty:=[(.pair (.int .i64) (.pair (.int .i64) .unit))]

def t90 (x0:(List Int)):Tr (Tys.data rs90) :=
  Tr.test (isBrk (l90_0 ((x0,((↑(List.length x0):Int),((0:Int),()))),(((0:Int),((0:Int),())),(((0:Int),((0:Int),())),())))))
    (let r0:PUnit×(Int×Int×PUnit)×(Int×Int×PUnit)×PUnit:=b90_0 ((x0,((↑(List.length x0):Int),((0:Int),()))),(((0:Int),((0:Int),())),(((0:Int),((0:Int),())),())));
    Tr.fin (((r0.2.2.1.1,(r0.2.2.1.2.1,())),())))
    (Tr.stop)

def f90 (d:Tys.data as90):Option (Tys.data rs90):=(t90 d.1).val
def g90 (d:Tys.data as90):Tys.data rs90:=(f90 d).getD (Tys.dflt rs90)
def p90:PureC:=pcOf as90 rs90 f90 g90

theorem e90_0 (x0:(List Int)):runPure kl90_0.orc Go.Proofs.Try.prog 400 90 as90 rs90 (x0,()) [tt,tt] =
    (let r0:PUnit×(Int×Int×PUnit)×(Int×Int×PUnit)×PUnit:=b90_0 ((x0,((↑(List.length x0):Int),((0:Int),()))),(((0:Int),((0:Int),())),(((0:Int),((0:Int),())),()))); some (((r0.2.2.1.1,(r0.2.2.1.2.1,())),()),[(true,true),(isBrk (l90_0 ((x0,((↑(List.length x0):Int),((0:Int),()))),(((0:Int),((0:Int),())),(((0:Int),((0:Int),())),())))),true)])):=by kernel_rfl

theorem ok90_t (x0:(List Int)):TrOk (PureRuns Go.Proofs.Try.prog kl90_0.orc 90 as90 rs90 (x0,())) (t90 x0) :=
  TrOk.ofTest (fun h0=>TrOk.ofFin (PureRuns.of (e90_0 x0) (ac rfl (ac h0 All.nil)))) (fun h0=>TrOk.ofStop)

theorem ok90:PureOk Go.Proofs.Try.prog 90 p90:=pureOk_of kl90_0_ok.base (T:=fun (d:Tys.data as90)=>t90 d.1) (by kernel_rfl) (fun (d:Tys.data as90)=>ok90_t d.1)
def kf90:Known:=kl90_0.func 90 p90
theorem kf90_ok:KnownOk Go.Proofs.Try.prog kf90:=kl90_0_ok.func ok90

/-! loop 2 of ductility/motion.divisorOf -/

abbrev sh144_2:Sh:={ n:=23,slots:=[3,5,6,7,8],pats:=[.ty (.int .i64),.ty (.int .i64),.ty (.slice (.int .i64)),.ty (.int .i64),.ty (.int .i64)],boxes:=[] }
abbrev shb144_2:Sh:={ n:=23,slots:=[3,6,7,8],pats:=[.ty (.int .i64),.ty (.slice (.int .i64)),.ty (.int .i64),.ty (.int .i64)],boxes:=[] }
abbrev shr144_2:Sh:={ n:=23,slots:=[],pats:=[],boxes:=[] }

def t144_2 (x0:Int) (x1:Int) (x2:(List Int)) (x3:Int) (x4:Int):Tr (Out sh144_2.data shb144_2.data shr144_2.data) :=
  Tr.test ((!eqF x1 0:Bool))
    (Tr.test (x1 == (0:Int))
      (Tr.stop)
      (Tr.fin (.again ((x1,((Int.tmod x0 x1:Int),(x2,(x3,(x4,()))))),()))))
    (Tr.fin (.brk ((x0,(x2,(x3,(x4,())))),())))

def s144_2 (d:sh144_2.data):Option (Out sh144_2.data shb144_2.data shr144_2.data):=(t144_2 d.1.1 d.1.2.1 d.1.2.2.1 d.1.2.2.2.1 d.1.2.2.2.2.1).val
def l144_2 (d:sh144_2.data):Option (shb144_2.data ⊕ shr144_2.data):=itr s144_2 rounds d
def b144_2 (d:sh144_2.data):shb144_2.data:=outB shb144_2.dflt (l144_2 d)
def lc144_2:LoopC:=lcB sh144_2 shb144_2 shr144_2 l144_2 b144_2

theorem e144_2_1 (x0:Int) (x1:Int) (x2:(List Int)) (x3:Int) (x4:Int):runBody kf90.orc Go.Proofs.Try.prog 400 144 2 sh144_2 shb144_2 shr144_2 ((x0,x1,x2,x3,x4,()),()) [tt,ff] =
    (some (.again ((x1,((Int.tmod x0 x1:Int),(x2,(x3,(x4,()))))),()),[(x1 == (0:Int),false),(!eqF x1 0,true)])):=by kernel_rfl
theorem e144_2_2 (x0:Int) (x1:Int) (x2:(List Int)) (x3:Int) (x4:Int):runBody kf90.orc Go.Proofs.Try.prog 400 144 2 sh144_2 shb144_2 shr144_2 ((x0,x1,x2,x3,x4,()),()) [ff] =
    (some (.brk ((x0,(x2,(x3,(x4,())))),()),[(!eqF x1 0,false)])):=by kernel_rfl

theorem ok144_2_t (x0:Int) (x1:Int) (x2:(List Int)) (x3:Int) (x4:Int):TrOk (BodyRuns Go.Proofs.Try.prog kf90.orc 144 2 sh144_2 shb144_2 shr144_2 ((x0,x1,x2,x3,x4,()),())) (t144_2 x0 x1 x2 x3 x4) :=
  TrOk.ofTest (fun h0=>TrOk.ofTest (fun h1=>TrOk.ofStop) (fun h1=>TrOk.ofFin (BodyRuns.of (e144_2_1 x0 x1 x2 x3 x4) (ac h1 (ac h0 All.nil))))) (fun h0=>TrOk.ofFin (BodyRuns.of (e144_2_2 x0 x1 x2 x3 x4) (ac h0 All.nil)))

theorem ok144_2:LoopOk Go.Proofs.Try.prog 144 2 lc144_2:=loopOk_ofB kf90_ok.base (T:=fun (d:sh144_2.data)=>t144_2 d.1.1 d.1.2.1 d.1.2.2.1 d.1.2.2.2.1 d.1.2.2.2.2.1) (by kernel_rfl) rfl (fun (d:sh144_2.data)=>ok144_2_t d.1.1 d.1.2.1 d.1.2.2.1 d.1.2.2.2.1 d.1.2.2.2.2.1) (fun _=>rfl)
def kl144_2:Known:=kf90.loop 144 2 lc144_2
theorem kl144_2_ok:KnownOk Go.Proofs.Try.prog kl144_2:=kf90_ok.loop ok144_2

/-! loop 0 of ductility/motion.divisorOf -/

abbrev sh144_0:Sh:={ n:=23,slots:=[3,6,7,8],pats:=[.ty (.int .i64),.ty (.slice (.int .i64)),.ty (.int .i64),.ty (.int .i64)],boxes:=[] }
abbrev shb144_0:Sh:={ n:=23,slots:=[3],pats:=[.ty (.int .i64)],boxes:=[] }
abbrev shr144_0:Sh:={ n:=23,slots:=[],pats:=[],boxes:=[] }

def t144_0 (x0:Int) (x1:(List Int)) (x2:Int) (x3:Int):Tr (Out sh144_0.data shb144_0.data shr144_0.data) :=
  Tr.test ((!leF x2 x3:Bool))
    (Tr.test (decide ((0:Int) ≤ x3) && decide (x3 < (↑(List.length x1):Int)))
      (Tr.test (isBrk (l144_2 ((x0,((List.getD x1 (Int.toNat x3) (0:Int):Int),(x1,(x2,(x3,()))))),())))
        (let r0:(Int×List Int×Int×Int×PUnit)×PUnit:=b144_2 ((x0,((List.getD x1 (Int.toNat x3) (0:Int):Int),(x1,(x2,(x3,()))))),());
        Tr.fin (.again ((r0.1.1,(r0.1.2.1,(r0.1.2.2.1,((wrap64 (r0.1.2.2.2.1 + (1:Int)):Int),())))),())))
        (Tr.stop))
      (Tr.stop))
    (Tr.fin (.brk ((x0,()),())))

def s144_0 (d:sh144_0.data):Option (Out sh144_0.data shb144_0.data shr144_0.data):=(t144_0 d.1.1 d.1.2.1 d.1.2.2.1 d.1.2.2.2.1).val
def l144_0 (d:sh144_0.data):Option (shb144_0.data ⊕ shr144_0.data):=itr s144_0 rounds d
def b144_0 (d:sh144_0.data):shb144_0.data:=outB shb144_0.dflt (l144_0 d)
def lc144_0:LoopC:=lcB sh144_0 shb144_0 shr144_0 l144_0 b144_0

theorem e144_0_0 (x0:Int) (x1:(List Int)) (x2:Int) (x3:Int):runBody kl144_2.orc Go.Proofs.Try.prog 400 144 0 sh144_0 shb144_0 shr144_0 ((x0,x1,x2,x3,()),()) [tt,tt,tt,tt] =
    (let r0:(Int×List Int×Int×Int×PUnit)×PUnit:=b144_2 ((x0,((List.getD x1 (Int.toNat x3) (0:Int):Int),(x1,(x2,(x3,()))))),()); some (.again ((r0.1.1,(r0.1.2.1,(r0.1.2.2.1,((wrap64 (r0.1.2.2.2.1 + (1:Int)):Int),())))),()),[(true,true),(isBrk (l144_2 ((x0,((List.getD x1 (Int.toNat x3) (0:Int):Int),(x1,(x2,(x3,()))))),())),true),(decide ((0:Int) ≤ x3) && decide (x3 < (↑(List.length x1):Int)),true),(!leF x2 x3,true)])):=by kernel_rfl
theorem e144_0_2 (x0:Int) (x1:(List Int)) (x2:Int) (x3:Int):runBody kl144_2.orc Go.Proofs.Try.prog 400 144 0 sh144_0 shb144_0 shr144_0 ((x0,x1,x2,x3,()),()) [ff] =
    (some (.brk ((x0,()),()),[(!leF x2 x3,false)])):=by kernel_rfl

theorem ok144_0_t (x0:Int) (x1:(List Int)) (x2:Int) (x3:Int):TrOk (BodyRuns Go.Proofs.Try.prog kl144_2.orc 144 0 sh144_0 shb144_0 shr144_0 ((x0,x1,x2,x3,()),())) (t144_0 x0 x1 x2 x3) :=
  TrOk.ofTest (fun h0=>TrOk.ofTest (fun h1=>TrOk.ofTest (fun h2=>TrOk.ofFin (BodyRuns.of (e144_0_0 x0 x1 x2 x3) (ac rfl (ac h2 (ac h1 (ac h0 All.nil)))))) (fun h2=>TrOk.ofStop)) (fun h1=>TrOk.ofStop)) (fun h0=>TrOk.ofFin (BodyRuns.of (e144_0_2 x0 x1 x2 x3) (ac h0 All.nil)))

theorem ok144_0:LoopOk Go.Proofs.Try.prog 144 0 lc144_0:=loopOk_ofB kl144_2_ok.base (T:=fun (d:sh144_0.data)=>t144_0 d.1.1 d.1.2.1 d.1.2.2.1 d.1.2.2.2.1) (by kernel_rfl) rfl (fun (d:sh144_0.data)=>ok144_0_t d.1.1 d.1.2.1 d.1.2.2.1 d.1.2.2.2.1) (fun _=>rfl)
def kl144_0:Known:=kl144_2.loop 144 0 lc144_0
theorem kl144_0_ok:KnownOk Go.Proofs.Try.prog kl144_0:=kl144_2_ok.loop ok144_0

/-! ductility/motion.divisorOf -/

abbrev as144:List Ty:=[(.slice (.int .i64))]
abbrev rs144:List Ty:=[(.int .i64)]

def t144 (x0:(List Int)):Tr (Tys.data rs144) :=
  Tr.test (isBrk (l144_0 (((0:Int),(x0,((↑(List.length x0):Int),((0:Int),())))),())))
    (let r0:(Int×PUnit)×PUnit:=b144_0 (((0:Int),(x0,((↑(List.length x0):Int),((0:Int),())))),());
    Tr.fin (((if r0.1.1 < Go.IntKind.wrap Go.IntKind.i64 ((0:Int) - r0.1.1) then Go.IntKind.wrap Go.IntKind.i64 ((0:Int) - r0.1.1) else r0.1.1:Int),())))
    (Tr.stop)

def f144 (d:Tys.data as144):Option (Tys.data rs144):=(t144 d.1).val
def g144 (d:Tys.data as144):Tys.data rs144:=(f144 d).getD (Tys.dflt rs144)
def p144:PureC:=pcOf as144 rs144 f144 g144

theorem e144_0 (x0:(List Int)):runPure kl144_0.orc Go.Proofs.Try.prog 400 144 as144 rs144 (x0,()) [tt,tt] =
    (let r0:(Int×PUnit)×PUnit:=b144_0 (((0:Int),(x0,((↑(List.length x0):Int),((0:Int),())))),()); some (((if r0.1.1 < Go.IntKind.wrap Go.IntKind.i64 ((0:Int) - r0.1.1) then Go.IntKind.wrap Go.IntKind.i64 ((0:Int) - r0.1.1) else r0.1.1:Int),()),[(true,true),(isBrk (l144_0 (((0:Int),(x0,((↑(List.length x0):Int),((0:Int),())))),())),true)])):=by kernel_rfl

theorem ok144_t (x0:(List Int)):TrOk (PureRuns Go.Proofs.Try.prog kl144_0.orc 144 as144 rs144 (x0,())) (t144 x0) :=
  TrOk.ofTest (fun h0=>TrOk.ofFin (PureRuns.of (e144_0 x0) (ac rfl (ac h0 All.nil)))) (fun h0=>TrOk.ofStop)

theorem ok144:PureOk Go.Proofs.Try.prog 144 p144:=pureOk_of kl144_0_ok.base (T:=fun (d:Tys.data as144)=>t144 d.1) (by kernel_rfl) (fun (d:Tys.data as144)=>ok144_t d.1)
def kf144:Known:=kl144_0.func 144 p144
theorem kf144_ok:KnownOk Go.Proofs.Try.prog kf144:=kl144_0_ok.func ok144

/-! loop 0 of ductility/motion.lowest -/

abbrev sh103_0:Sh:={ n:=34,slots:=[4,5,6,18,19,20],pats:=[.ptr 0 2 0,.ty (.int .i64),.ptr 1 2 0,.ty (.slice (.int .i64)),.ty (.int .i64),.ty (.int .i64)],boxes:=[.row [.ty (.int .i64),.nil],.row [.ty (.int .i64),.acc (.int .i64)]] }
abbrev shb103_0:Sh:={ n:=34,slots:=[4,6],pats:=[.ptr 0 2 0,.ptr 1 2 0],boxes:=[.row [.ty (.int .i64),.nil],.row [.ty (.int .i64),.acc (.int .i64)]] }
abbrev shr103_0:Sh:={ n:=34,slots:=[],pats:=[],boxes:=[.row [.ty (.int .i64),.nil],.row [.ty (.int .i64),.acc (.int .i64)]] }

def t103_0 (x1:Int) (x3:(List Int)) (x4:Int) (x5:Int) (b0_0:Int) (b1_0:Int) (b1_1:(List Int)):Tr (Out sh103_0.data shb103_0.data shr103_0.data) :=
  Tr.test ((!leF x4 x5:Bool))
    (Tr.test (decide ((0:Int) ≤ x5) && decide (x5 < (↑(List.length x3):Int)))
      (Tr.test ((x1 == (0:Int):Bool))
        (Tr.stop)
        (Tr.test ((Nat.ble (((2:Nat) * (List.length b1_1 + (1:Nat)) + (192:Nat)) * (8:Nat)) (281474976710656:Nat) && Nat.ble (List.length b1_1 + (1:Nat)) (281474976710656:Nat):Bool))
          (Tr.fin (.again ((x1,(x3,(x4,((wrap64 (x5 + (1:Int)):Int),())))),((b0_0,()),((b1_0,((b1_1++[Go.IntKind.wrap Go.IntKind.i64 (Int.tdiv (List.getD x3 (Int.toNat x5) (0:Int)) x1)]:List Int),())),())))))
          (Tr.stop)))
      (Tr.stop))
    (Tr.fin (.brk ((),((b0_0,()),((b1_0,(b1_1,())),())))))

def s103_0 (d:sh103_0.data):Option (Out sh103_0.data shb103_0.data shr103_0.data):=(t103_0 d.1.1 d.1.2.1 d.1.2.2.1 d.1.2.2.2.1 d.2.1.1 d.2.2.1.1 d.2.2.1.2.1).val
def l103_0 (d:sh103_0.data):Option (shb103_0.data ⊕ shr103_0.data):=itr s103_0 rounds d
def b103_0 (d:sh103_0.data):shb103_0.data:=outB shb103_0.dflt (l103_0 d)
def lc103_0:LoopC:=lcB sh103_0 shb103_0 shr103_0 l103_0 b103_0

theorem e103_0_1 (x1:Int) (x3:(List Int)) (x4:Int) (x5:Int) (b0_0:Int) (b1_0:Int) (b1_1:(List Int)):runBody kf144.orc Go.Proofs.Try.prog 400 103 0 sh103_0 shb103_0 shr103_0 ((x1,x3,x4,x5,()),(b0_0,()),(b1_0,b1_1,()),()) [tt,tt,ff,ff,tt,tt] =
    (some (.again ((x1,(x3,(x4,((wrap64 (x5 + (1:Int)):Int),())))),((b0_0,()),((b1_0,((b1_1++[Go.IntKind.wrap Go.IntKind.i64 (Int.tdiv (List.getD x3 (Int.toNat x5) (0:Int)) x1)]:List Int),())),()))),[(true,true),(Nat.ble (((2:Nat) * (List.length b1_1 + (1:Nat)) + (192:Nat)) * (8:Nat)) (281474976710656:Nat) && Nat.ble (List.length b1_1 + (1:Nat)) (281474976710656:Nat),true),(false,false),(x1 == (0:Int),false),(decide ((0:Int) ≤ x5) && decide (x5 < (↑(List.length x3):Int)),true),(!leF x4 x5,true)])):=by kernel_rfl
theorem e103_0_4 (x1:Int) (x3:(List Int)) (x4:Int) (x5:Int) (b0_0:Int) (b1_0:Int) (b1_1:(List Int)):runBody kf144.orc Go.Proofs.Try.prog 400 103 0 sh103_0 shb103_0 shr103_0 ((x1,x3,x4,x5,()),(b0_0,()),(b1_0,b1_1,()),()) [ff] =
    (some (.brk ((),((b0_0,()),((b1_0,(b1_1,())),()))),[(!leF x4 x5,false)])):=by kernel_rfl

theorem ok103_0_t (x1:Int) (x3:(List Int)) (x4:Int) (x5:Int) (b0_0:Int) (b1_0:Int) (b1_1:(List Int)):TrOk (BodyRuns Go.Proofs.Try.prog kf144.orc 103 0 sh103_0 shb103_0 shr103_0 ((x1,x3,x4,x5,()),(b0_0,()),(b1_0,b1_1,()),())) (t103_0 x1 x3 x4 x5 b0_0 b1_0 b1_1) :=
  TrOk.ofTest (fun h0=>TrOk.ofTest (fun h1=>TrOk.ofTest (fun h2=>TrOk.ofStop) (fun h2=>TrOk.ofTest (fun h4=>TrOk.ofFin (BodyRuns.of (e103_0_1 x1 x3 x4 x5 b0_0 b1_0 b1_1) (ac rfl (ac h4 (ac rfl (ac h2 (ac h1 (ac h0 All.nil)))))))) (fun h4=>TrOk.ofStop))) (fun h1=>TrOk.ofStop)) (fun h0=>TrOk.ofFin (BodyRuns.of (e103_0_4 x1 x3 x4 x5 b0_0 b1_0 b1_1) (ac h0 All.nil)))

theorem ok103_0:LoopOk Go.Proofs.Try.prog 103 0 lc103_0:=loopOk_ofB kf144_ok.base (T:=fun (d:sh103_0.data)=>t103_0 d.1.1 d.1.2.1 d.1.2.2.1 d.1.2.2.2.1 d.2.1.1 d.2.2.1.1 d.2.2.1.2.1) (by kernel_rfl) rfl (fun (d:sh103_0.data)=>ok103_0_t d.1.1 d.1.2.1 d.1.2.2.1 d.1.2.2.2.1 d.2.1.1 d.2.2.1.1 d.2.2.1.2.1) (fun _=>rfl)
def kl103_0:Known:=kf144.loop 103 0 lc103_0
theorem kl103_0_ok:KnownOk Go.Proofs.Try.prog kl103_0:=kf144_ok.loop ok103_0

/-! ductility/motion.lowest -/

abbrev as103:List Ty:=[(.int .i64),(.slice (.int .i64))]
abbrev rs103:List Ty:=[(.pair (.int .i64) (.pair (.slice (.int .i64)) .unit))]

def t103 (x0:Int) (x1:(List Int)):Tr (Tys.data rs103) :=
  Tr.test (Option.isSome (f144 (x1,())))
    (let r0:Int×PUnit:=g144 (x1,());
    Tr.test (Option.isSome (f144 (([x0,r0.1]:List Int),())))
      (let r1:Int×PUnit:=g144 (([x0,r0.1]:List Int),());
      Tr.test ((r1.1 == (0:Int):Bool))
        (Tr.stop)
        (Tr.test (isBrk (l103_0 ((r1.1,(x1,((↑(List.length x1):Int),((0:Int),())))),(((0:Int),()),(((Go.IntKind.wrap Go.IntKind.i64 (Int.tdiv x0 r1.1):Int),(([]:List Int),())),())))))
          (let r2:PUnit×(Int×PUnit)×(Int×List Int×PUnit)×PUnit:=b103_0 ((r1.1,(x1,((↑(List.length x1):Int),((0:Int),())))),(((0:Int),()),(((Go.IntKind.wrap Go.IntKind.i64 (Int.tdiv x0 r1.1):Int),(([]:List Int),())),())));
          Tr.fin (((r2.2.2.1.1,(r2.2.2.1.2.1,())),())))
          (Tr.stop)))
      (Tr.stop))
    (Tr.stop)

def f103 (d:Tys.data as103):Option (Tys.data rs103):=(t103 d.1 d.2.1).val
def g103 (d:Tys.data as103):Tys.data rs103:=(f103 d).getD (Tys.dflt rs103)
def p103:PureC:=pcOf as103 rs103 f103 g103

theorem e103_1 (x0:Int) (x1:(List Int)):runPure kl103_0.orc Go.Proofs.Try.prog 400 103 as103 rs103 (x0,x1,()) [tt,tt,tt,ff,tt,tt] =
    (let r0:Int×PUnit:=g144 (x1,());let r1:Int×PUnit:=g144 (([x0,r0.1]:List Int),());let r2:PUnit×(Int×PUnit)×(Int×List Int×PUnit)×PUnit:=b103_0 ((r1.1,(x1,((↑(List.length x1):Int),((0:Int),())))),(((0:Int),()),(((Go.IntKind.wrap Go.IntKind.i64 (Int.tdiv x0 r1.1):Int),(([]:List Int),())),()))); some (((r2.2.2.1.1,(r2.2.2.1.2.1,())),()),[(true,true),(isBrk (l103_0 ((r1.1,(x1,((↑(List.length x1):Int),((0:Int),())))),(((0:Int),()),(((Go.IntKind.wrap Go.IntKind.i64 (Int.tdiv x0 r1.1):Int),(([]:List Int),())),())))),true),(r1.1 == (0:Int),false),(Option.isSome (f144 (([x0,r0.1]:List Int),())),true),(true,true),(Option.isSome (f144 (x1,())),true)])):=by kernel_rfl

theorem ok103_t (x0:Int) (x1:(List Int)):TrOk (PureRuns Go.Proofs.Try.prog kl103_0.orc 103 as103 rs103 (x0,x1,())) (t103 x0 x1) :=
  TrOk.ofTest (fun h0=>TrOk.ofTest (fun h2=>TrOk.ofTest (fun h3=>TrOk.ofStop) (fun h3=>TrOk.ofTest (fun h4=>TrOk.ofFin (PureRuns.of (e103_1 x0 x1) (ac rfl (ac h4 (ac h3 (ac h2 (ac rfl (ac h0 All.nil)))))))) (fun h4=>TrOk.ofStop))) (fun h2=>TrOk.ofStop)) (fun h0=>TrOk.ofStop)

theorem ok103:PureOk Go.Proofs.Try.prog 103 p103:=pureOk_of kl103_0_ok.base (T:=fun (d:Tys.data as103)=>t103 d.1 d.2.1) (by kernel_rfl) (fun (d:Tys.data as103)=>ok103_t d.1 d.2.1)
def kf103:Known:=kl103_0.func 103 p103
theorem kf103_ok:KnownOk Go.Proofs.Try.prog kf103:=kl103_0_ok.func ok103

/-! ductility/motion.pricesFor -/

abbrev as101:List Ty:=[(.slice (.int .i64))]
abbrev rs101:List Ty:=[(.pair (.int .i64) (.pair (.int .i64) (.pair (.int .i64) .unit)))]

def t101 (x0:(List Int)):Tr (Tys.data rs101) :=
  Tr.test (Option.isSome (f90 (x0,())))
    (let r0:(Int×Int×PUnit)×PUnit:=g90 (x0,());
    Tr.test (Option.isSome (f103 ((wrap64 (wrap64 ((↑(List.length x0):Int) * Go.IntKind.wrap Go.IntKind.i64 (Int.tdiv (wrap64 (wrap64 ((↑(List.length x0):Int) * wrap64 ((↑(List.length x0):Int) + (1:Int))) * wrap64 (wrap64 ((2:Int) * (↑(List.length x0):Int)) + (1:Int)))) (6:Int))) - wrap64 (Go.IntKind.wrap Go.IntKind.i64 (Int.tdiv (wrap64 ((↑(List.length x0):Int) * wrap64 ((↑(List.length x0):Int) + (1:Int)))) (2:Int)) * Go.IntKind.wrap Go.IntKind.i64 (Int.tdiv (wrap64 ((↑(List.length x0):Int) * wrap64 ((↑(List.length x0):Int) + (1:Int)))) (2:Int)))):Int),(([wrap64 (wrap64 (Go.IntKind.wrap Go.IntKind.i64 (Int.tdiv (wrap64 ((↑(List.length x0):Int) * wrap64 ((↑(List.length x0):Int) + (1:Int)))) (2:Int)) * r0.1.2.1) - wrap64 (Go.IntKind.wrap Go.IntKind.i64 (Int.tdiv (wrap64 (wrap64 ((↑(List.length x0):Int) * wrap64 ((↑(List.length x0):Int) + (1:Int))) * wrap64 (wrap64 ((2:Int) * (↑(List.length x0):Int)) + (1:Int)))) (6:Int)) * r0.1.1)),wrap64 (wrap64 (Go.IntKind.wrap Go.IntKind.i64 (Int.tdiv (wrap64 ((↑(List.length x0):Int) * wrap64 ((↑(List.length x0):Int) + (1:Int)))) (2:Int)) * r0.1.1) - wrap64 ((↑(List.length x0):Int) * r0.1.2.1))]:List Int),()))))
      (let r1:(Int×List Int×PUnit)×PUnit:=g103 ((wrap64 (wrap64 ((↑(List.length x0):Int) * Go.IntKind.wrap Go.IntKind.i64 (Int.tdiv (wrap64 (wrap64 ((↑(List.length x0):Int) * wrap64 ((↑(List.length x0):Int) + (1:Int))) * wrap64 (wrap64 ((2:Int) * (↑(List.length x0):Int)) + (1:Int)))) (6:Int))) - wrap64 (Go.IntKind.wrap Go.IntKind.i64 (Int.tdiv (wrap64 ((↑(List.length x0):Int) * wrap64 ((↑(List.length x0):Int) + (1:Int)))) (2:Int)) * Go.IntKind.wrap Go.IntKind.i64 (Int.tdiv (wrap64 ((↑(List.length x0):Int) * wrap64 ((↑(List.length x0):Int) + (1:Int)))) (2:Int)))):Int),(([wrap64 (wrap64 (Go.IntKind.wrap Go.IntKind.i64 (Int.tdiv (wrap64 ((↑(List.length x0):Int) * wrap64 ((↑(List.length x0):Int) + (1:Int)))) (2:Int)) * r0.1.2.1) - wrap64 (Go.IntKind.wrap Go.IntKind.i64 (Int.tdiv (wrap64 (wrap64 ((↑(List.length x0):Int) * wrap64 ((↑(List.length x0):Int) + (1:Int))) * wrap64 (wrap64 ((2:Int) * (↑(List.length x0):Int)) + (1:Int)))) (6:Int)) * r0.1.1)),wrap64 (wrap64 (Go.IntKind.wrap Go.IntKind.i64 (Int.tdiv (wrap64 ((↑(List.length x0):Int) * wrap64 ((↑(List.length x0):Int) + (1:Int)))) (2:Int)) * r0.1.1) - wrap64 ((↑(List.length x0):Int) * r0.1.2.1))]:List Int),()));
      Tr.test ((true && decide ((0:Int) < (↑(List.length r1.1.2.1):Int)):Bool))
        (Tr.test ((true && decide ((1:Int) < (↑(List.length r1.1.2.1):Int)):Bool))
          (Tr.fin (((r1.1.1,((List.getD r1.1.2.1 (0:Nat) (0:Int):Int),((List.getD r1.1.2.1 (1:Nat) (0:Int):Int),()))),())))
          (Tr.stop))
        (Tr.stop))
      (Tr.stop))
    (Tr.stop)

def f101 (d:Tys.data as101):Option (Tys.data rs101):=(t101 d.1).val
def g101 (d:Tys.data as101):Tys.data rs101:=(f101 d).getD (Tys.dflt rs101)
def p101:PureC:=pcOf as101 rs101 f101 g101

theorem e101_0 (x0:(List Int)):runPure kf103.orc Go.Proofs.Try.prog 400 101 as101 rs101 (x0,()) [tt,ff,ff,tt,tt,tt,tt] =
    (let r0:(Int×Int×PUnit)×PUnit:=g90 (x0,());let r1:(Int×List Int×PUnit)×PUnit:=g103 ((wrap64 (wrap64 ((↑(List.length x0):Int) * Go.IntKind.wrap Go.IntKind.i64 (Int.tdiv (wrap64 (wrap64 ((↑(List.length x0):Int) * wrap64 ((↑(List.length x0):Int) + (1:Int))) * wrap64 (wrap64 ((2:Int) * (↑(List.length x0):Int)) + (1:Int)))) (6:Int))) - wrap64 (Go.IntKind.wrap Go.IntKind.i64 (Int.tdiv (wrap64 ((↑(List.length x0):Int) * wrap64 ((↑(List.length x0):Int) + (1:Int)))) (2:Int)) * Go.IntKind.wrap Go.IntKind.i64 (Int.tdiv (wrap64 ((↑(List.length x0):Int) * wrap64 ((↑(List.length x0):Int) + (1:Int)))) (2:Int)))):Int),(([wrap64 (wrap64 (Go.IntKind.wrap Go.IntKind.i64 (Int.tdiv (wrap64 ((↑(List.length x0):Int) * wrap64 ((↑(List.length x0):Int) + (1:Int)))) (2:Int)) * r0.1.2.1) - wrap64 (Go.IntKind.wrap Go.IntKind.i64 (Int.tdiv (wrap64 (wrap64 ((↑(List.length x0):Int) * wrap64 ((↑(List.length x0):Int) + (1:Int))) * wrap64 (wrap64 ((2:Int) * (↑(List.length x0):Int)) + (1:Int)))) (6:Int)) * r0.1.1)),wrap64 (wrap64 (Go.IntKind.wrap Go.IntKind.i64 (Int.tdiv (wrap64 ((↑(List.length x0):Int) * wrap64 ((↑(List.length x0):Int) + (1:Int)))) (2:Int)) * r0.1.1) - wrap64 ((↑(List.length x0):Int) * r0.1.2.1))]:List Int),())); some (((r1.1.1,((List.getD r1.1.2.1 (0:Nat) (0:Int):Int),((List.getD r1.1.2.1 (1:Nat) (0:Int):Int),()))),()),[(true && decide ((1:Int) < (↑(List.length r1.1.2.1):Int)),true),(true && decide ((0:Int) < (↑(List.length r1.1.2.1):Int)),true),(Option.isSome (f103 ((wrap64 (wrap64 ((↑(List.length x0):Int) * Go.IntKind.wrap Go.IntKind.i64 (Int.tdiv (wrap64 (wrap64 ((↑(List.length x0):Int) * wrap64 ((↑(List.length x0):Int) + (1:Int))) * wrap64 (wrap64 ((2:Int) * (↑(List.length x0):Int)) + (1:Int)))) (6:Int))) - wrap64 (Go.IntKind.wrap Go.IntKind.i64 (Int.tdiv (wrap64 ((↑(List.length x0):Int) * wrap64 ((↑(List.length x0):Int) + (1:Int)))) (2:Int)) * Go.IntKind.wrap Go.IntKind.i64 (Int.tdiv (wrap64 ((↑(List.length x0):Int) * wrap64 ((↑(List.length x0):Int) + (1:Int)))) (2:Int)))):Int),(([wrap64 (wrap64 (Go.IntKind.wrap Go.IntKind.i64 (Int.tdiv (wrap64 ((↑(List.length x0):Int) * wrap64 ((↑(List.length x0):Int) + (1:Int)))) (2:Int)) * r0.1.2.1) - wrap64 (Go.IntKind.wrap Go.IntKind.i64 (Int.tdiv (wrap64 (wrap64 ((↑(List.length x0):Int) * wrap64 ((↑(List.length x0):Int) + (1:Int))) * wrap64 (wrap64 ((2:Int) * (↑(List.length x0):Int)) + (1:Int)))) (6:Int)) * r0.1.1)),wrap64 (wrap64 (Go.IntKind.wrap Go.IntKind.i64 (Int.tdiv (wrap64 ((↑(List.length x0):Int) * wrap64 ((↑(List.length x0):Int) + (1:Int)))) (2:Int)) * r0.1.1) - wrap64 ((↑(List.length x0):Int) * r0.1.2.1))]:List Int),()))),true),(true,true),(false,false),(false,false),(Option.isSome (f90 (x0,())),true)])):=by kernel_rfl

theorem ok101_t (x0:(List Int)):TrOk (PureRuns Go.Proofs.Try.prog kf103.orc 101 as101 rs101 (x0,())) (t101 x0) :=
  TrOk.ofTest (fun h0=>TrOk.ofTest (fun h4=>TrOk.ofTest (fun h5=>TrOk.ofTest (fun h6=>TrOk.ofFin (PureRuns.of (e101_0 x0) (ac h6 (ac h5 (ac h4 (ac rfl (ac rfl (ac rfl (ac h0 All.nil))))))))) (fun h6=>TrOk.ofStop)) (fun h5=>TrOk.ofStop)) (fun h4=>TrOk.ofStop)) (fun h0=>TrOk.ofStop)

theorem ok101:PureOk Go.Proofs.Try.prog 101 p101:=pureOk_of kf103_ok.base (T:=fun (d:Tys.data as101)=>t101 d.1) (by kernel_rfl) (fun (d:Tys.data as101)=>ok101_t d.1)
def kf101:Known:=kf103.func 101 p101
theorem kf101_ok:KnownOk Go.Proofs.Try.prog kf101:=kf103_ok.func ok101

/-! ductility/motion.changeBy -/

abbrev as102:List Ty:=[(.pair (.int .i64) (.pair (.int .i64) (.pair (.int .i64) .unit))),(.int .i64)]
abbrev rs102:List Ty:=[(.int .i64)]

def t102 (x0:Int) (x0':Int) (x0'':Int) (x1:Int):Tr (Tys.data rs102) :=
  Tr.fin (((wrap64 (x0' + wrap64 (x0'' * x1)):Int),()))

def f102 (d:Tys.data as102):Option (Tys.data rs102):=(t102 d.1.1 d.1.2.1 d.1.2.2.1 d.2.1).val
def g102 (d:Tys.data as102):Tys.data rs102:=(f102 d).getD (Tys.dflt rs102)
def p102:PureC:=pcOf as102 rs102 f102 g102

theorem e102_0 (x0:Int) (x0':Int) (x0'':Int) (x1:Int):runPure kf101.orc Go.Proofs.Try.prog 400 102 as102 rs102 ((x0,x0',x0'',()),x1,()) [] =
    (some (((wrap64 (x0' + wrap64 (x0'' * x1)):Int),()),[])):=by kernel_rfl

theorem ok102_t (x0:Int) (x0':Int) (x0'':Int) (x1:Int):TrOk (PureRuns Go.Proofs.Try.prog kf101.orc 102 as102 rs102 ((x0,x0',x0'',()),x1,())) (t102 x0 x0' x0'' x1) :=
  TrOk.ofFin (PureRuns.of (e102_0 x0 x0' x0'' x1) All.nil)

theorem ok102:PureOk Go.Proofs.Try.prog 102 p102:=pureOk_of kf101_ok.base (T:=fun (d:Tys.data as102)=>t102 d.1.1 d.1.2.1 d.1.2.2.1 d.2.1) (by kernel_rfl) (fun (d:Tys.data as102)=>ok102_t d.1.1 d.1.2.1 d.1.2.2.1 d.2.1)
def kf102:Known:=kf101.func 102 p102
theorem kf102_ok:KnownOk Go.Proofs.Try.prog kf102:=kf101_ok.func ok102

/-! loop 0 of ductility/motion.RestOf -/

abbrev sh40_0:Sh:={ n:=46,slots:=[1,2,5,6,19,20,21],pats:=[.ptr 0 2 0,.ptr 1 2 0,.ptr 2 3 0,.acc (.int .i64),.ty (.slice (.int .i64)),.ty (.int .i64),.ty (.int .i64)],boxes:=[.row [.ty (.int .i64),.ty (.slice (.int .i64))],.row [.ty (.int .i64),.nil],.row [.ty (.int .i64),.ty (.int .i64),.ty (.int .i64)]] }
abbrev shb40_0:Sh:={ n:=46,slots:=[2,5,6],pats:=[.ptr 1 2 0,.ptr 2 3 0,.acc (.int .i64)],boxes:=[.row [.ty (.int .i64),.ty (.slice (.int .i64))],.row [.ty (.int .i64),.nil],.row [.ty (.int .i64),.ty (.int .i64),.ty (.int .i64)]] }
abbrev shr40_0:Sh:={ n:=46,slots:=[],pats:=[],boxes:=[.row [.ty (.int .i64),.ty (.slice (.int .i64))],.row [.ty (.int .i64),.nil],.row [.ty (.int .i64),.ty (.int .i64),.ty (.int .i64)]] }

def t40_0 (x3:(List Int)) (x4:(List Int)) (x5:Int) (x6:Int) (b0_0:Int) (b0_1:(List Int)) (b1_0:Int) (b2_0:Int) (b2_1:Int) (b2_2:Int):Tr (Out sh40_0.data shb40_0.data shr40_0.data) :=
  Tr.test ((!leF x5 x6:Bool))
    (Tr.test (decide ((0:Int) ≤ x6) && decide (x6 < (↑(List.length x4):Int)))
      (Tr.test (Option.isSome (f102 ((b2_0,(b2_1,(b2_2,()))),((wrap64 ((↑(List.length b0_1):Int) - x6):Int),()))))
        (Tr.test ((Nat.ble (((2:Nat) * (List.length x3 + (1:Nat)) + (192:Nat)) * (8:Nat)) (281474976710656:Nat) && Nat.ble (List.length x3 + (1:Nat)) (281474976710656:Nat):Bool))
          (let r0:Int×PUnit:=g102 ((b2_0,(b2_1,(b2_2,()))),((wrap64 ((↑(List.length b0_1):Int) - x6):Int),()));
          Tr.fin (.again (((x3++[wrap64 (wrap64 (List.getD x4 (Int.toNat x6) (0:Int) * b2_0) + r0.1)]:List Int),(x4,(x5,((wrap64 (x6 + (1:Int)):Int),())))),((b0_0,(b0_1,())),((b1_0,()),((b2_0,(b2_1,(b2_2,()))),()))))))
          (Tr.stop))
        (Tr.stop))
      (Tr.stop))
    (Tr.fin (.brk ((x3,()),((b0_0,(b0_1,())),((b1_0,()),((b2_0,(b2_1,(b2_2,()))),()))))))

def s40_0 (d:sh40_0.data):Option (Out sh40_0.data shb40_0.data shr40_0.data):=(t40_0 d.1.1 d.1.2.1 d.1.2.2.1 d.1.2.2.2.1 d.2.1.1 d.2.1.2.1 d.2.2.1.1 d.2.2.2.1.1 d.2.2.2.1.2.1 d.2.2.2.1.2.2.1).val
def l40_0 (d:sh40_0.data):Option (shb40_0.data ⊕ shr40_0.data):=itr s40_0 rounds d
def b40_0 (d:sh40_0.data):shb40_0.data:=outB shb40_0.dflt (l40_0 d)
def lc40_0:LoopC:=lcB sh40_0 shb40_0 shr40_0 l40_0 b40_0

theorem e40_0_0 (x3:(List Int)) (x4:(List Int)) (x5:Int) (x6:Int) (b0_0:Int) (b0_1:(List Int)) (b1_0:Int) (b2_0:Int) (b2_1:Int) (b2_2:Int):runBody kf102.orc Go.Proofs.Try.prog 400 40 0 sh40_0 shb40_0 shr40_0 ((x3,x4,x5,x6,()),(b0_0,b0_1,()),(b1_0,()),(b2_0,b2_1,b2_2,()),()) [tt,tt,tt,ff,tt,tt] =
    (let r0:Int×PUnit:=g102 ((b2_0,(b2_1,(b2_2,()))),((wrap64 ((↑(List.length b0_1):Int) - x6):Int),())); some (.again (((x3++[wrap64 (wrap64 (List.getD x4 (Int.toNat x6) (0:Int) * b2_0) + r0.1)]:List Int),(x4,(x5,((wrap64 (x6 + (1:Int)):Int),())))),((b0_0,(b0_1,())),((b1_0,()),((b2_0,(b2_1,(b2_2,()))),())))),[(true,true),(Nat.ble (((2:Nat) * (List.length x3 + (1:Nat)) + (192:Nat)) * (8:Nat)) (281474976710656:Nat) && Nat.ble (List.length x3 + (1:Nat)) (281474976710656:Nat),true),(false,false),(Option.isSome (f102 ((b2_0,(b2_1,(b2_2,()))),((wrap64 ((↑(List.length b0_1):Int) - x6):Int),()))),true),(decide ((0:Int) ≤ x6) && decide (x6 < (↑(List.length x4):Int)),true),(!leF x5 x6,true)])):=by kernel_rfl
theorem e40_0_3 (x3:(List Int)) (x4:(List Int)) (x5:Int) (x6:Int) (b0_0:Int) (b0_1:(List Int)) (b1_0:Int) (b2_0:Int) (b2_1:Int) (b2_2:Int):runBody kf102.orc Go.Proofs.Try.prog 400 40 0 sh40_0 shb40_0 shr40_0 ((x3,x4,x5,x6,()),(b0_0,b0_1,()),(b1_0,()),(b2_0,b2_1,b2_2,()),()) [ff] =
    (some (.brk ((x3,()),((b0_0,(b0_1,())),((b1_0,()),((b2_0,(b2_1,(b2_2,()))),())))),[(!leF x5 x6,false)])):=by kernel_rfl

theorem ok40_0_t (x3:(List Int)) (x4:(List Int)) (x5:Int) (x6:Int) (b0_0:Int) (b0_1:(List Int)) (b1_0:Int) (b2_0:Int) (b2_1:Int) (b2_2:Int):TrOk (BodyRuns Go.Proofs.Try.prog kf102.orc 40 0 sh40_0 shb40_0 shr40_0 ((x3,x4,x5,x6,()),(b0_0,b0_1,()),(b1_0,()),(b2_0,b2_1,b2_2,()),())) (t40_0 x3 x4 x5 x6 b0_0 b0_1 b1_0 b2_0 b2_1 b2_2) :=
  TrOk.ofTest (fun h0=>TrOk.ofTest (fun h1=>TrOk.ofTest (fun h2=>TrOk.ofTest (fun h4=>TrOk.ofFin (BodyRuns.of (e40_0_0 x3 x4 x5 x6 b0_0 b0_1 b1_0 b2_0 b2_1 b2_2) (ac rfl (ac h4 (ac rfl (ac h2 (ac h1 (ac h0 All.nil)))))))) (fun h4=>TrOk.ofStop)) (fun h2=>TrOk.ofStop)) (fun h1=>TrOk.ofStop)) (fun h0=>TrOk.ofFin (BodyRuns.of (e40_0_3 x3 x4 x5 x6 b0_0 b0_1 b1_0 b2_0 b2_1 b2_2) (ac h0 All.nil)))

theorem ok40_0:LoopOk Go.Proofs.Try.prog 40 0 lc40_0:=loopOk_ofB kf102_ok.base (T:=fun (d:sh40_0.data)=>t40_0 d.1.1 d.1.2.1 d.1.2.2.1 d.1.2.2.2.1 d.2.1.1 d.2.1.2.1 d.2.2.1.1 d.2.2.2.1.1 d.2.2.2.1.2.1 d.2.2.2.1.2.2.1) (by kernel_rfl) rfl (fun (d:sh40_0.data)=>ok40_0_t d.1.1 d.1.2.1 d.1.2.2.1 d.1.2.2.2.1 d.2.1.1 d.2.1.2.1 d.2.2.1.1 d.2.2.2.1.1 d.2.2.2.1.2.1 d.2.2.2.1.2.2.1) (fun _=>rfl)
def kl40_0:Known:=kf102.loop 40 0 lc40_0
theorem kl40_0_ok:KnownOk Go.Proofs.Try.prog kl40_0:=kf102_ok.loop ok40_0

/-! ductility/motion.RestOf -/

abbrev as40:List Ty:=[(.pair (.int .i64) (.pair (.slice (.int .i64)) .unit))]
abbrev rs40:List Ty:=[(.pair (.int .i64) (.pair (.slice (.int .i64)) .unit)),(.int .i64)]

def t40 (x0:Int) (x0':(List Int)):Tr (Tys.data rs40) :=
  Tr.test (Option.isSome (f88 ((x0,(x0',())),())))
    (let r0:Int×PUnit:=g88 ((x0,(x0',())),());
    Tr.test ((!eqF r0.1 0:Bool))
      (Tr.fin ((((0:Int),(([]:List Int),())),(r0.1,()))))
      (Tr.test (Option.isSome (f101 (x0',())))
        (let r1:(Int×Int×Int×PUnit)×PUnit:=g101 (x0',());
        Tr.test (isBrk (l40_0 ((([]:List Int),(x0',((↑(List.length x0'):Int),((0:Int),())))),((x0,(x0',())),(((0:Int),()),((r1.1.1,(r1.1.2.1,(r1.1.2.2.1,()))),()))))))
          (let r2:(List Int×PUnit)×(Int×List Int×PUnit)×(Int×PUnit)×(Int×Int×Int×PUnit)×PUnit:=b40_0 ((([]:List Int),(x0',((↑(List.length x0'):Int),((0:Int),())))),((x0,(x0',())),(((0:Int),()),((r1.1.1,(r1.1.2.1,(r1.1.2.2.1,()))),()))));
          Tr.test (Option.isSome (f103 (r2.2.2.2.1.1,(r2.1.1,()))))
            (let r3:(Int×List Int×PUnit)×PUnit:=g103 (r2.2.2.2.1.1,(r2.1.1,()));
            Tr.fin (((r3.1.1,(r3.1.2.1,())),((0:Int),()))))
            (Tr.stop))
          (Tr.stop))
        (Tr.stop)))
    (Tr.stop)

def f40 (d:Tys.data as40):Option (Tys.data rs40):=(t40 d.1.1 d.1.2.1).val
def g40 (d:Tys.data as40):Tys.data rs40:=(f40 d).getD (Tys.dflt rs40)
def p40:PureC:=pcOf as40 rs40 f40 g40

theorem e40_0 (x0:Int) (x0':(List Int)):runPure kl40_0.orc Go.Proofs.Try.prog 400 40 as40 rs40 ((x0,x0',()),()) [tt,tt] =
    (let r0:Int×PUnit:=g88 ((x0,(x0',())),()); some ((((0:Int),(([]:List Int),())),(r0.1,())),[(!eqF r0.1 0,true),(Option.isSome (f88 ((x0,(x0',())),())),true)])):=by kernel_rfl
theorem e40_1 (x0:Int) (x0':(List Int)):runPure kl40_0.orc Go.Proofs.Try.prog 400 40 as40 rs40 ((x0,x0',()),()) [tt,ff,tt,tt,tt,tt] =
    (let r0:Int×PUnit:=g88 ((x0,(x0',())),());let r1:(Int×Int×Int×PUnit)×PUnit:=g101 (x0',());let r2:(List Int×PUnit)×(Int×List Int×PUnit)×(Int×PUnit)×(Int×Int×Int×PUnit)×PUnit:=b40_0 ((([]:List Int),(x0',((↑(List.length x0'):Int),((0:Int),())))),((x0,(x0',())),(((0:Int),()),((r1.1.1,(r1.1.2.1,(r1.1.2.2.1,()))),()))));let r3:(Int×List Int×PUnit)×PUnit:=g103 (r2.2.2.2.1.1,(r2.1.1,())); some (((r3.1.1,(r3.1.2.1,())),((0:Int),())),[(Option.isSome (f103 (r2.2.2.2.1.1,(r2.1.1,()))),true),(true,true),(isBrk (l40_0 ((([]:List Int),(x0',((↑(List.length x0'):Int),((0:Int),())))),((x0,(x0',())),(((0:Int),()),((r1.1.1,(r1.1.2.1,(r1.1.2.2.1,()))),()))))),true),(Option.isSome (f101 (x0',())),true),(!eqF r0.1 0,false),(Option.isSome (f88 ((x0,(x0',())),())),true)])):=by kernel_rfl

theorem ok40_t (x0:Int) (x0':(List Int)):TrOk (PureRuns Go.Proofs.Try.prog kl40_0.orc 40 as40 rs40 ((x0,x0',()),())) (t40 x0 x0') :=
  TrOk.ofTest (fun h0=>TrOk.ofTest (fun h1=>TrOk.ofFin (PureRuns.of (e40_0 x0 x0') (ac h1 (ac h0 All.nil)))) (fun h1=>TrOk.ofTest (fun h2=>TrOk.ofTest (fun h3=>TrOk.ofTest (fun h5=>TrOk.ofFin (PureRuns.of (e40_1 x0 x0') (ac h5 (ac rfl (ac h3 (ac h2 (ac h1 (ac h0 All.nil)))))))) (fun h5=>TrOk.ofStop)) (fun h3=>TrOk.ofStop)) (fun h2=>TrOk.ofStop))) (fun h0=>TrOk.ofStop)

theorem ok40:PureOk Go.Proofs.Try.prog 40 p40:=pureOk_of kl40_0_ok.base (T:=fun (d:Tys.data as40)=>t40 d.1.1 d.1.2.1) (by kernel_rfl) (fun (d:Tys.data as40)=>ok40_t d.1.1 d.1.2.1)
def kf40:Known:=kl40_0.func 40 p40
theorem kf40_ok:KnownOk Go.Proofs.Try.prog kf40:=kl40_0_ok.func ok40

/-! ductility/motion.PricesOf -/

abbrev as41:List Ty:=[(.pair (.int .i64) (.pair (.slice (.int .i64)) .unit))]
abbrev rs41:List Ty:=[(.pair (.int .i64) (.pair (.int .i64) (.pair (.int .i64) .unit))),(.int .i64)]

def t41 (x0:Int) (x0':(List Int)):Tr (Tys.data rs41) :=
  Tr.test (Option.isSome (f88 ((x0,(x0',())),())))
    (let r0:Int×PUnit:=g88 ((x0,(x0',())),());
    Tr.test ((!eqF r0.1 0:Bool))
      (Tr.fin ((((0:Int),((0:Int),((0:Int),()))),(r0.1,()))))
      (Tr.test (Option.isSome (f101 (x0',())))
        (let r1:(Int×Int×Int×PUnit)×PUnit:=g101 (x0',());
        Tr.fin (((r1.1.1,(r1.1.2.1,(r1.1.2.2.1,()))),((0:Int),()))))
        (Tr.stop)))
    (Tr.stop)

def f41 (d:Tys.data as41):Option (Tys.data rs41):=(t41 d.1.1 d.1.2.1).val
def g41 (d:Tys.data as41):Tys.data rs41:=(f41 d).getD (Tys.dflt rs41)
def p41:PureC:=pcOf as41 rs41 f41 g41

theorem e41_0 (x0:Int) (x0':(List Int)):runPure kf40.orc Go.Proofs.Try.prog 400 41 as41 rs41 ((x0,x0',()),()) [tt,tt] =
    (let r0:Int×PUnit:=g88 ((x0,(x0',())),()); some ((((0:Int),((0:Int),((0:Int),()))),(r0.1,())),[(!eqF r0.1 0,true),(Option.isSome (f88 ((x0,(x0',())),())),true)])):=by kernel_rfl
theorem e41_1 (x0:Int) (x0':(List Int)):runPure kf40.orc Go.Proofs.Try.prog 400 41 as41 rs41 ((x0,x0',()),()) [tt,ff,tt] =
    (let r0:Int×PUnit:=g88 ((x0,(x0',())),());let r1:(Int×Int×Int×PUnit)×PUnit:=g101 (x0',()); some (((r1.1.1,(r1.1.2.1,(r1.1.2.2.1,()))),((0:Int),())),[(Option.isSome (f101 (x0',())),true),(!eqF r0.1 0,false),(Option.isSome (f88 ((x0,(x0',())),())),true)])):=by kernel_rfl

theorem ok41_t (x0:Int) (x0':(List Int)):TrOk (PureRuns Go.Proofs.Try.prog kf40.orc 41 as41 rs41 ((x0,x0',()),())) (t41 x0 x0') :=
  TrOk.ofTest (fun h0=>TrOk.ofTest (fun h1=>TrOk.ofFin (PureRuns.of (e41_0 x0 x0') (ac h1 (ac h0 All.nil)))) (fun h1=>TrOk.ofTest (fun h2=>TrOk.ofFin (PureRuns.of (e41_1 x0 x0') (ac h2 (ac h1 (ac h0 All.nil))))) (fun h2=>TrOk.ofStop))) (fun h0=>TrOk.ofStop)

theorem ok41:PureOk Go.Proofs.Try.prog 41 p41:=pureOk_of kf40_ok.base (T:=fun (d:Tys.data as41)=>t41 d.1.1 d.1.2.1) (by kernel_rfl) (fun (d:Tys.data as41)=>ok41_t d.1.1 d.1.2.1)
def kf41:Known:=kf40.func 41 p41
theorem kf41_ok:KnownOk Go.Proofs.Try.prog kf41:=kf40_ok.func ok41

/-! ductility/motion.isLowest -/

abbrev as145:List Ty:=[(.int .i64),(.slice (.int .i64))]
abbrev rs145:List Ty:=[.bool]

def t145 (x0:Int) (x1:(List Int)):Tr (Tys.data rs145) :=
  Tr.test ((!leF x0 0:Bool))
    (Tr.test (Option.isSome (f144 (x1,())))
      (let r0:Int×PUnit:=g144 (x1,());
      Tr.test (Option.isSome (f144 (([x0,r0.1]:List Int),())))
        (let r1:Int×PUnit:=g144 (([x0,r0.1]:List Int),());
        Tr.fin (((eqF r1.1 1:Bool),())))
        (Tr.stop))
      (Tr.stop))
    (Tr.fin ((false,())))

def f145 (d:Tys.data as145):Option (Tys.data rs145):=(t145 d.1 d.2.1).val
def g145 (d:Tys.data as145):Tys.data rs145:=(f145 d).getD (Tys.dflt rs145)
def p145:PureC:=pcOf as145 rs145 f145 g145

theorem e145_0 (x0:Int) (x1:(List Int)):runPure kf41.orc Go.Proofs.Try.prog 400 145 as145 rs145 (x0,x1,()) [tt,tt,tt,tt,tt,tt,tt,tt,tt,tt] =
    (let r0:Int×PUnit:=g144 (x1,());let r1:Int×PUnit:=g144 (([x0,r0.1]:List Int),()); some ((eqF r1.1 1,()),[(!leF x0 0,true),(!leF x0 0,true),(Option.isSome (f144 (([x0,r0.1]:List Int),())),true),(true,true),(!leF x0 0,true),(!leF x0 0,true),(Option.isSome (f144 (x1,())),true),(!leF x0 0,true),(!leF x0 0,true),(!leF x0 0,true)])):=by kernel_rfl
theorem e145_1 (x0:Int) (x1:(List Int)):runPure kf41.orc Go.Proofs.Try.prog 400 145 as145 rs145 (x0,x1,()) [ff,ff,ff,ff,ff,ff,ff] =
    (some ((false,()),[(!leF x0 0,false),(!leF x0 0,false),(!leF x0 0,false),(!leF x0 0,false),(!leF x0 0,false),(!leF x0 0,false),(!leF x0 0,false)])):=by kernel_rfl

theorem ok145_t (x0:Int) (x1:(List Int)):TrOk (PureRuns Go.Proofs.Try.prog kf41.orc 145 as145 rs145 (x0,x1,())) (t145 x0 x1) :=
  TrOk.ofTest (fun h0=>TrOk.ofTest (fun h3=>TrOk.ofTest (fun h7=>TrOk.ofFin (PureRuns.of (e145_0 x0 x1) (ac (nn h0) (ac (nn h0) (ac h7 (ac rfl (ac (nn h0) (ac (nn h0) (ac h3 (ac (nn h0) (ac (nn h0) (ac h0 All.nil)))))))))))) (fun h7=>TrOk.ofStop)) (fun h3=>TrOk.ofStop)) (fun h0=>TrOk.ofFin (PureRuns.of (e145_1 x0 x1) (ac (nn h0) (ac (nn h0) (ac (nn h0) (ac (nn h0) (ac (nn h0) (ac (nn h0) (ac h0 All.nil)))))))))

theorem ok145:PureOk Go.Proofs.Try.prog 145 p145:=pureOk_of kf41_ok.base (T:=fun (d:Tys.data as145)=>t145 d.1 d.2.1) (by kernel_rfl) (fun (d:Tys.data as145)=>ok145_t d.1 d.2.1)
def kf145:Known:=kf41.func 145 p145
theorem kf145_ok:KnownOk Go.Proofs.Try.prog kf145:=kf41_ok.func ok145

/-! ductility/motion.partsError -/

abbrev as104:List Ty:=[(.pair (.int .i64) (.pair (.slice (.int .i64)) .unit)),(.int .i64)]
abbrev rs104:List Ty:=[(.int .i64)]

def t104 (x0:Int) (x0':(List Int)) (x1:Int):Tr (Tys.data rs104) :=
  Tr.test (Option.isSome (f94 ((1:Int),((1000000000:Int),(([x0]:List Int),())))))
    (let r0:Bool×PUnit:=g94 ((1:Int),((1000000000:Int),(([x0]:List Int),())));
    Tr.test (Option.isSome (f86 ((!r0.1:Bool),((2:Int),()))))
      (Tr.test (Option.isSome (f86 ((!eqF (↑(List.length x0'):Int) x1:Bool),((10:Int),()))))
        (Tr.test (Option.isSome (f141 ((1000000000000:Int),(x0',()))))
          (let r3:Bool×PUnit:=g141 ((1000000000000:Int),(x0',()));
          Tr.test (Option.isSome (f86 (r3.1,((2:Int),()))))
            (Tr.test (Option.isSome (f145 (x0,(x0',()))))
              (let r5:Bool×PUnit:=g145 (x0,(x0',()));
              Tr.test (Option.isSome (f86 ((!r5.1:Bool),((3:Int),()))))
                (let r1:Int×PUnit:=g86 ((!r0.1:Bool),((2:Int),()));
                let r2:Int×PUnit:=g86 ((!eqF (↑(List.length x0'):Int) x1:Bool),((10:Int),()));
                let r4:Int×PUnit:=g86 (r3.1,((2:Int),()));
                let r6:Int×PUnit:=g86 ((!r5.1:Bool),((3:Int),()));
                Tr.test (Option.isSome (f85 (([r1.1,r2.1,r4.1,r6.1]:List Int),())))
                  (let r7:Int×PUnit:=g85 (([r1.1,r2.1,r4.1,r6.1]:List Int),());
                  Tr.fin ((r7.1,())))
                  (Tr.stop))
                (Tr.stop))
              (Tr.stop))
            (Tr.stop))
          (Tr.stop))
        (Tr.stop))
      (Tr.stop))
    (Tr.stop)

def f104 (d:Tys.data as104):Option (Tys.data rs104):=(t104 d.1.1 d.1.2.1 d.2.1).val
def g104 (d:Tys.data as104):Tys.data rs104:=(f104 d).getD (Tys.dflt rs104)
def p104:PureC:=pcOf as104 rs104 f104 g104

theorem e104_0 (x0:Int) (x0':(List Int)) (x1:Int):runPure kf145.orc Go.Proofs.Try.prog 400 104 as104 rs104 ((x0,x0',()),x1,()) [tt,tt,tt,tt,tt,tt,tt,tt,tt,tt] =
    (let r0:Bool×PUnit:=g94 ((1:Int),((1000000000:Int),(([x0]:List Int),())));let r3:Bool×PUnit:=g141 ((1000000000000:Int),(x0',()));let r5:Bool×PUnit:=g145 (x0,(x0',()));let r1:Int×PUnit:=g86 (!r0.1,((2:Int),()));let r2:Int×PUnit:=g86 (!eqF (↑(List.length x0'):Int) x1,((10:Int),()));let r4:Int×PUnit:=g86 (r3.1,((2:Int),()));let r6:Int×PUnit:=g86 (!r5.1,((3:Int),()));let r7:Int×PUnit:=g85 (([r1.1,r2.1,r4.1,r6.1]:List Int),()); some ((r7.1,()),[(Option.isSome (f85 (([r1.1,r2.1,r4.1,r6.1]:List Int),())),true),(true,true),(Option.isSome (f86 (!r5.1,((3:Int),()))),true),(Option.isSome (f145 (x0,(x0',()))),true),(Option.isSome (f86 (r3.1,((2:Int),()))),true),(Option.isSome (f141 ((1000000000000:Int),(x0',()))),true),(Option.isSome (f86 (!eqF (↑(List.length x0'):Int) x1,((10:Int),()))),true),(Option.isSome (f86 (!r0.1,((2:Int),()))),true),(Option.isSome (f94 ((1:Int),((1000000000:Int),(([x0]:List Int),())))),true),(true,true)])):=by kernel_rfl

theorem ok104_t (x0:Int) (x0':(List Int)) (x1:Int):TrOk (PureRuns Go.Proofs.Try.prog kf145.orc 104 as104 rs104 ((x0,x0',()),x1,())) (t104 x0 x0' x1) :=
  TrOk.ofTest (fun h1=>TrOk.ofTest (fun h2=>TrOk.ofTest (fun h3=>TrOk.ofTest (fun h4=>TrOk.ofTest (fun h5=>TrOk.ofTest (fun h6=>TrOk.ofTest (fun h7=>TrOk.ofTest (fun h9=>TrOk.ofFin (PureRuns.of (e104_0 x0 x0' x1) (ac h9 (ac rfl (ac h7 (ac h6 (ac h5 (ac h4 (ac h3 (ac h2 (ac h1 (ac rfl All.nil)))))))))))) (fun h9=>TrOk.ofStop)) (fun h7=>TrOk.ofStop)) (fun h6=>TrOk.ofStop)) (fun h5=>TrOk.ofStop)) (fun h4=>TrOk.ofStop)) (fun h3=>TrOk.ofStop)) (fun h2=>TrOk.ofStop)) (fun h1=>TrOk.ofStop)

theorem ok104:PureOk Go.Proofs.Try.prog 104 p104:=pureOk_of kf145_ok.base (T:=fun (d:Tys.data as104)=>t104 d.1.1 d.1.2.1 d.2.1) (by kernel_rfl) (fun (d:Tys.data as104)=>ok104_t d.1.1 d.1.2.1 d.2.1)
def kf104:Known:=kf145.func 104 p104
theorem kf104_ok:KnownOk Go.Proofs.Try.prog kf104:=kf145_ok.func ok104

/-! ductility/motion.pricesError -/

abbrev as105:List Ty:=[(.pair (.int .i64) (.pair (.int .i64) (.pair (.int .i64) .unit)))]
abbrev rs105:List Ty:=[(.int .i64)]

def t105 (x0:Int) (x0':Int) (x0'':Int):Tr (Tys.data rs105) :=
  Tr.test (Option.isSome (f94 ((1:Int),((1000000000:Int),(([x0]:List Int),())))))
    (let r0:Bool×PUnit:=g94 ((1:Int),((1000000000:Int),(([x0]:List Int),())));
    Tr.test ((!r0.1:Bool))
      (Tr.test (Option.isSome (f86 ((true:Bool),((2:Int),()))))
        (Tr.test (Option.isSome (f145 (x0,(([x0',x0'']:List Int),()))))
          (let r4:Bool×PUnit:=g145 (x0,(([x0',x0'']:List Int),()));
          Tr.test (Option.isSome (f86 ((!r4.1:Bool),((3:Int),()))))
            (let r2:Int×PUnit:=g86 ((true:Bool),((2:Int),()));
            let r5:Int×PUnit:=g86 ((!r4.1:Bool),((3:Int),()));
            Tr.test (Option.isSome (f85 (([r2.1,r5.1]:List Int),())))
              (let r6:Int×PUnit:=g85 (([r2.1,r5.1]:List Int),());
              Tr.fin ((r6.1,())))
              (Tr.stop))
            (Tr.stop))
          (Tr.stop))
        (Tr.stop))
      (Tr.test (Option.isSome (f141 ((1000000000000:Int),(([x0',x0'']:List Int),()))))
        (let r1:Bool×PUnit:=g141 ((1000000000000:Int),(([x0',x0'']:List Int),()));
        Tr.test (Option.isSome (f86 (r1.1,((2:Int),()))))
          (Tr.test (Option.isSome (f145 (x0,(([x0',x0'']:List Int),()))))
            (let r4:Bool×PUnit:=g145 (x0,(([x0',x0'']:List Int),()));
            Tr.test (Option.isSome (f86 ((!r4.1:Bool),((3:Int),()))))
              (let r3:Int×PUnit:=g86 (r1.1,((2:Int),()));
              let r5:Int×PUnit:=g86 ((!r4.1:Bool),((3:Int),()));
              Tr.test (Option.isSome (f85 (([r3.1,r5.1]:List Int),())))
                (let r7:Int×PUnit:=g85 (([r3.1,r5.1]:List Int),());
                Tr.fin ((r7.1,())))
                (Tr.stop))
              (Tr.stop))
            (Tr.stop))
          (Tr.stop))
        (Tr.stop)))
    (Tr.stop)

def f105 (d:Tys.data as105):Option (Tys.data rs105):=(t105 d.1.1 d.1.2.1 d.1.2.2.1).val
def g105 (d:Tys.data as105):Tys.data rs105:=(f105 d).getD (Tys.dflt rs105)
def p105:PureC:=pcOf as105 rs105 f105 g105

theorem e105_0 (x0:Int) (x0':Int) (x0'':Int):runPure kf104.orc Go.Proofs.Try.prog 400 105 as105 rs105 ((x0,x0',x0'',()),()) [tt,tt,tt,tt,tt,tt,tt,tt,tt,tt,tt,tt,tt,tt,tt] =
    (let r0:Bool×PUnit:=g94 ((1:Int),((1000000000:Int),(([x0]:List Int),())));let r4:Bool×PUnit:=g145 (x0,(([x0',x0'']:List Int),()));let r2:Int×PUnit:=g86 (true,((2:Int),()));let r5:Int×PUnit:=g86 (!r4.1,((3:Int),()));let r6:Int×PUnit:=g85 (([r2.1,r5.1]:List Int),()); some ((r6.1,()),[(Option.isSome (f85 (([r2.1,r5.1]:List Int),())),true),(true,true),(Option.isSome (f86 (!r4.1,((3:Int),()))),true),(Option.isSome (f145 (x0,(([x0',x0'']:List Int),()))),true),(true,true),(Option.isSome (f86 (true,((2:Int),()))),true),(!r0.1,true),(!r0.1,true),(!r0.1,true),(!r0.1,true),(!r0.1,true),(!r0.1,true),(!r0.1,true),(Option.isSome (f94 ((1:Int),((1000000000:Int),(([x0]:List Int),())))),true),(true,true)])):=by kernel_rfl
theorem e105_1 (x0:Int) (x0':Int) (x0'':Int):runPure kf104.orc Go.Proofs.Try.prog 400 105 as105 rs105 ((x0,x0',x0'',()),()) [tt,tt,ff,ff,ff,ff,ff,ff,tt,tt,ff,tt,tt,tt,tt,tt,tt] =
    (let r0:Bool×PUnit:=g94 ((1:Int),((1000000000:Int),(([x0]:List Int),())));let r1:Bool×PUnit:=g141 ((1000000000000:Int),(([x0',x0'']:List Int),()));let r4:Bool×PUnit:=g145 (x0,(([x0',x0'']:List Int),()));let r3:Int×PUnit:=g86 (r1.1,((2:Int),()));let r5:Int×PUnit:=g86 (!r4.1,((3:Int),()));let r7:Int×PUnit:=g85 (([r3.1,r5.1]:List Int),()); some ((r7.1,()),[(Option.isSome (f85 (([r3.1,r5.1]:List Int),())),true),(true,true),(Option.isSome (f86 (!r4.1,((3:Int),()))),true),(Option.isSome (f145 (x0,(([x0',x0'']:List Int),()))),true),(true,true),(Option.isSome (f86 (r1.1,((2:Int),()))),true),(!r0.1,false),(Option.isSome (f141 ((1000000000000:Int),(([x0',x0'']:List Int),()))),true),(true,true),(!r0.1,false),(!r0.1,false),(!r0.1,false),(!r0.1,false),(!r0.1,false),(!r0.1,false),(Option.isSome (f94 ((1:Int),((1000000000:Int),(([x0]:List Int),())))),true),(true,true)])):=by kernel_rfl

theorem ok105_t (x0:Int) (x0':Int) (x0'':Int):TrOk (PureRuns Go.Proofs.Try.prog kf104.orc 105 as105 rs105 ((x0,x0',x0'',()),())) (t105 x0 x0' x0'') :=
  TrOk.ofTest (fun h1=>TrOk.ofTest (fun h2=>TrOk.ofTest (fun h9=>TrOk.ofTest (fun h11=>TrOk.ofTest (fun h12=>TrOk.ofTest (fun h14=>TrOk.ofFin (PureRuns.of (e105_0 x0 x0' x0'') (ac h14 (ac rfl (ac h12 (ac h11 (ac rfl (ac h9 (ac (nn h2) (ac (nn h2) (ac (nn h2) (ac (nn h2) (ac (nn h2) (ac (nn h2) (ac h2 (ac h1 (ac rfl All.nil))))))))))))))))) (fun h14=>TrOk.ofStop)) (fun h12=>TrOk.ofStop)) (fun h11=>TrOk.ofStop)) (fun h9=>TrOk.ofStop)) (fun h2=>TrOk.ofTest (fun h9=>TrOk.ofTest (fun h11=>TrOk.ofTest (fun h13=>TrOk.ofTest (fun h14=>TrOk.ofTest (fun h16=>TrOk.ofFin (PureRuns.of (e105_1 x0 x0' x0'') (ac h16 (ac rfl (ac h14 (ac h13 (ac rfl (ac h11 (ac (nn h2) (ac h9 (ac rfl (ac (nn h2) (ac (nn h2) (ac (nn h2) (ac (nn h2) (ac (nn h2) (ac h2 (ac h1 (ac rfl All.nil))))))))))))))))))) (fun h16=>TrOk.ofStop)) (fun h14=>TrOk.ofStop)) (fun h13=>TrOk.ofStop)) (fun h11=>TrOk.ofStop)) (fun h9=>TrOk.ofStop))) (fun h1=>TrOk.ofStop)

theorem ok105:PureOk Go.Proofs.Try.prog 105 p105:=pureOk_of kf104_ok.base (T:=fun (d:Tys.data as105)=>t105 d.1.1 d.1.2.1 d.1.2.2.1) (by kernel_rfl) (fun (d:Tys.data as105)=>ok105_t d.1.1 d.1.2.1 d.1.2.2.1)
def kf105:Known:=kf104.func 105 p105
theorem kf105_ok:KnownOk Go.Proofs.Try.prog kf105:=kf104_ok.func ok105

/-! ductility/motion.fraction -/

abbrev as108:List Ty:=[(.int .i64),(.int .i64)]
abbrev rs108:List Ty:=[(.pair (.int .i64) (.pair (.int .i64) .unit))]

def t108 (x0:Int) (x1:Int):Tr (Tys.data rs108) :=
  Tr.test (Option.isSome (f144 (([x0,x1]:List Int),())))
    (let r0:Int×PUnit:=g144 (([x0,x1]:List Int),());
    Tr.test ((r0.1 == (0:Int):Bool))
      (Tr.stop)
      (Tr.fin ((((Go.IntKind.wrap Go.IntKind.i64 (Int.tdiv x0 r0.1):Int),((Go.IntKind.wrap Go.IntKind.i64 (Int.tdiv x1 r0.1):Int),())),()))))
    (Tr.stop)

def f108 (d:Tys.data as108):Option (Tys.data rs108):=(t108 d.1 d.2.1).val
def g108 (d:Tys.data as108):Tys.data rs108:=(f108 d).getD (Tys.dflt rs108)
def p108:PureC:=pcOf as108 rs108 f108 g108

theorem e108_1 (x0:Int) (x1:Int):runPure kf105.orc Go.Proofs.Try.prog 400 108 as108 rs108 (x0,x1,()) [tt,tt,ff,ff] =
    (let r0:Int×PUnit:=g144 (([x0,x1]:List Int),()); some ((((Go.IntKind.wrap Go.IntKind.i64 (Int.tdiv x0 r0.1):Int),((Go.IntKind.wrap Go.IntKind.i64 (Int.tdiv x1 r0.1):Int),())),()),[(r0.1 == (0:Int),false),(r0.1 == (0:Int),false),(Option.isSome (f144 (([x0,x1]:List Int),())),true),(true,true)])):=by kernel_rfl

theorem ok108_t (x0:Int) (x1:Int):TrOk (PureRuns Go.Proofs.Try.prog kf105.orc 108 as108 rs108 (x0,x1,())) (t108 x0 x1) :=
  TrOk.ofTest (fun h1=>TrOk.ofTest (fun h2=>TrOk.ofStop) (fun h2=>TrOk.ofFin (PureRuns.of (e108_1 x0 x1) (ac h2 (ac h2 (ac h1 (ac rfl All.nil))))))) (fun h1=>TrOk.ofStop)

theorem ok108:PureOk Go.Proofs.Try.prog 108 p108:=pureOk_of kf105_ok.base (T:=fun (d:Tys.data as108)=>t108 d.1 d.2.1) (by kernel_rfl) (fun (d:Tys.data as108)=>ok108_t d.1 d.2.1)
def kf108:Known:=kf105.func 108 p108
theorem kf108_ok:KnownOk Go.Proofs.Try.prog kf108:=kf105_ok.func ok108

/-! loop 0 of ductility/motion.checkItems[int] -/

abbrev sh106_0_1:Sh:={ n:=25,slots:=[1,9,10,11],pats:=[.fn 107 [(0,2),(1,3),(2,2)],.ty (.slice (.int .i64)),.ty (.int .i64),.ty (.int .i64)],boxes:=[.row [.ty (.int .i64),.ty (.slice (.int .i64))],.row [.ty (.int .i64),.ty (.int .i64),.ty (.int .i64)],.row [.ty (.int .i64),.ty (.slice (.int .i64))]] }
abbrev shb106_0_1:Sh:={ n:=25,slots:=[],pats:=[],boxes:=[.row [.ty (.int .i64),.ty (.slice (.int .i64))],.row [.ty (.int .i64),.ty (.int .i64),.ty (.int .i64)],.row [.ty (.int .i64),.ty (.slice (.int .i64))]] }
abbrev shr106_0_1:Sh:={ n:=25,slots:=[4,5],pats:=[.ty (.int .i64),.ty (.int .i64)],boxes:=[.row [.ty (.int .i64),.ty (.slice (.int .i64))],.row [.ty (.int .i64),.ty (.int .i64),.ty (.int .i64)],.row [.ty (.int .i64),.ty (.slice (.int .i64))]] }

def t106_0_1 (x1:(List Int)) (x2:Int) (x3:Int) (b0_0:Int) (b0_1:(List Int)) (b1_0:Int) (b1_1:Int) (b1_2:Int) (b2_0:Int) (b2_1:(List Int)):Tr (Out sh106_0_1.data shb106_0_1.data shr106_0_1.data) :=
  Tr.test ((!leF x2 x3:Bool))
    (Tr.test (decide ((0:Int) ≤ x3) && decide (x3 < (↑(List.length x1):Int)))
      (Tr.test ((decide ((0:Int) ≤ x3) && decide (x3 < (↑(List.length b0_1):Int)):Bool))
        (Tr.test (Option.isSome (f108 ((wrap64 (List.getD b0_1 (Int.toNat x3) (0:Int) - wrap64 (List.getD x1 (Int.toNat x3) (0:Int) * b0_0)):Int),(b0_0,()))))
          (Tr.test (Option.isSome (f102 ((b1_0,(b1_1,(b1_2,()))),((wrap64 ((↑(List.length b2_1):Int) - x3):Int),()))))
            (let r0:Int×PUnit:=g102 ((b1_0,(b1_1,(b1_2,()))),((wrap64 ((↑(List.length b2_1):Int) - x3):Int),()));
            Tr.test (Option.isSome (f108 (r0.1,(b1_0,()))))
              (let r1:(Int×Int×PUnit)×PUnit:=g108 ((wrap64 (List.getD b0_1 (Int.toNat x3) (0:Int) - wrap64 (List.getD x1 (Int.toNat x3) (0:Int) * b0_0)):Int),(b0_0,()));
              let r2:(Int×Int×PUnit)×PUnit:=g108 (r0.1,(b1_0,()));
              Tr.test (Option.isSome (f86 ((!(r1.1.1 == r2.1.1 && (r1.1.2.1 == r2.1.2.1 && true)):Bool),((19:Int),()))))
                (let r3:Int×PUnit:=g86 ((!(r1.1.1 == r2.1.1 && (r1.1.2.1 == r2.1.2.1 && true)):Bool),((19:Int),()));
                Tr.test ((!eqF r3.1 0:Bool))
                  (Tr.fin (.ret ((x3,(r3.1,())),((b0_0,(b0_1,())),((b1_0,(b1_1,(b1_2,()))),((b2_0,(b2_1,())),()))))))
                  (Tr.fin (.again ((x1,(x2,((wrap64 (x3 + (1:Int)):Int),()))),((b0_0,(b0_1,())),((b1_0,(b1_1,(b1_2,()))),((b2_0,(b2_1,())),())))))))
                (Tr.stop))
              (Tr.stop))
            (Tr.stop))
          (Tr.stop))
        (Tr.stop))
      (Tr.stop))
    (Tr.fin (.brk ((),((b0_0,(b0_1,())),((b1_0,(b1_1,(b1_2,()))),((b2_0,(b2_1,())),()))))))

def s106_0_1 (d:sh106_0_1.data):Option (Out sh106_0_1.data shb106_0_1.data shr106_0_1.data):=(t106_0_1 d.1.1 d.1.2.1 d.1.2.2.1 d.2.1.1 d.2.1.2.1 d.2.2.1.1 d.2.2.1.2.1 d.2.2.1.2.2.1 d.2.2.2.1.1 d.2.2.2.1.2.1).val
def l106_0_1 (d:sh106_0_1.data):Option (shb106_0_1.data ⊕ shr106_0_1.data):=itr s106_0_1 rounds d
def b106_0_1 (d:sh106_0_1.data):shb106_0_1.data:=outB shb106_0_1.dflt (l106_0_1 d)
def r106_0_1 (d:sh106_0_1.data):shr106_0_1.data:=outR shr106_0_1.dflt (l106_0_1 d)
def lc106_0_1:LoopC:=lcOf sh106_0_1 shb106_0_1 shr106_0_1 l106_0_1 b106_0_1 r106_0_1

theorem e106_0_1_0 (x1:(List Int)) (x2:Int) (x3:Int) (b0_0:Int) (b0_1:(List Int)) (b1_0:Int) (b1_1:Int) (b1_2:Int) (b2_0:Int) (b2_1:(List Int)):runBody kf108.orc Go.Proofs.Try.prog 400 106 0 sh106_0_1 shb106_0_1 shr106_0_1 ((x1,x2,x3,()),(b0_0,b0_1,()),(b1_0,b1_1,b1_2,()),(b2_0,b2_1,()),()) [tt,tt,tt,tt,tt,tt,tt,tt] =
    (let r0:Int×PUnit:=g102 ((b1_0,(b1_1,(b1_2,()))),((wrap64 ((↑(List.length b2_1):Int) - x3):Int),()));let r1:(Int×Int×PUnit)×PUnit:=g108 ((wrap64 (List.getD b0_1 (Int.toNat x3) (0:Int) - wrap64 (List.getD x1 (Int.toNat x3) (0:Int) * b0_0)):Int),(b0_0,()));let r2:(Int×Int×PUnit)×PUnit:=g108 (r0.1,(b1_0,()));let r3:Int×PUnit:=g86 (!(r1.1.1 == r2.1.1 && (r1.1.2.1 == r2.1.2.1 && true)),((19:Int),())); some (.ret ((x3,(r3.1,())),((b0_0,(b0_1,())),((b1_0,(b1_1,(b1_2,()))),((b2_0,(b2_1,())),())))),[(!eqF r3.1 0,true),(Option.isSome (f86 (!(r1.1.1 == r2.1.1 && (r1.1.2.1 == r2.1.2.1 && true)),((19:Int),()))),true),(Option.isSome (f108 (r0.1,(b1_0,()))),true),(Option.isSome (f102 ((b1_0,(b1_1,(b1_2,()))),((wrap64 ((↑(List.length b2_1):Int) - x3):Int),()))),true),(Option.isSome (f108 ((wrap64 (List.getD b0_1 (Int.toNat x3) (0:Int) - wrap64 (List.getD x1 (Int.toNat x3) (0:Int) * b0_0)):Int),(b0_0,()))),true),(decide ((0:Int) ≤ x3) && decide (x3 < (↑(List.length b0_1):Int)),true),(decide ((0:Int) ≤ x3) && decide (x3 < (↑(List.length x1):Int)),true),(!leF x2 x3,true)])):=by kernel_rfl
theorem e106_0_1_1 (x1:(List Int)) (x2:Int) (x3:Int) (b0_0:Int) (b0_1:(List Int)) (b1_0:Int) (b1_1:Int) (b1_2:Int) (b2_0:Int) (b2_1:(List Int)):runBody kf108.orc Go.Proofs.Try.prog 400 106 0 sh106_0_1 shb106_0_1 shr106_0_1 ((x1,x2,x3,()),(b0_0,b0_1,()),(b1_0,b1_1,b1_2,()),(b2_0,b2_1,()),()) [tt,tt,tt,tt,tt,tt,tt,ff] =
    (let r0:Int×PUnit:=g102 ((b1_0,(b1_1,(b1_2,()))),((wrap64 ((↑(List.length b2_1):Int) - x3):Int),()));let r1:(Int×Int×PUnit)×PUnit:=g108 ((wrap64 (List.getD b0_1 (Int.toNat x3) (0:Int) - wrap64 (List.getD x1 (Int.toNat x3) (0:Int) * b0_0)):Int),(b0_0,()));let r2:(Int×Int×PUnit)×PUnit:=g108 (r0.1,(b1_0,()));let r3:Int×PUnit:=g86 (!(r1.1.1 == r2.1.1 && (r1.1.2.1 == r2.1.2.1 && true)),((19:Int),())); some (.again ((x1,(x2,((wrap64 (x3 + (1:Int)):Int),()))),((b0_0,(b0_1,())),((b1_0,(b1_1,(b1_2,()))),((b2_0,(b2_1,())),())))),[(!eqF r3.1 0,false),(Option.isSome (f86 (!(r1.1.1 == r2.1.1 && (r1.1.2.1 == r2.1.2.1 && true)),((19:Int),()))),true),(Option.isSome (f108 (r0.1,(b1_0,()))),true),(Option.isSome (f102 ((b1_0,(b1_1,(b1_2,()))),((wrap64 ((↑(List.length b2_1):Int) - x3):Int),()))),true),(Option.isSome (f108 ((wrap64 (List.getD b0_1 (Int.toNat x3) (0:Int) - wrap64 (List.getD x1 (Int.toNat x3) (0:Int) * b0_0)):Int),(b0_0,()))),true),(decide ((0:Int) ≤ x3) && decide (x3 < (↑(List.length b0_1):Int)),true),(decide ((0:Int) ≤ x3) && decide (x3 < (↑(List.length x1):Int)),true),(!leF x2 x3,true)])):=by kernel_rfl
theorem e106_0_1_4 (x1:(List Int)) (x2:Int) (x3:Int) (b0_0:Int) (b0_1:(List Int)) (b1_0:Int) (b1_1:Int) (b1_2:Int) (b2_0:Int) (b2_1:(List Int)):runBody kf108.orc Go.Proofs.Try.prog 400 106 0 sh106_0_1 shb106_0_1 shr106_0_1 ((x1,x2,x3,()),(b0_0,b0_1,()),(b1_0,b1_1,b1_2,()),(b2_0,b2_1,()),()) [ff] =
    (some (.brk ((),((b0_0,(b0_1,())),((b1_0,(b1_1,(b1_2,()))),((b2_0,(b2_1,())),())))),[(!leF x2 x3,false)])):=by kernel_rfl

theorem ok106_0_1_t (x1:(List Int)) (x2:Int) (x3:Int) (b0_0:Int) (b0_1:(List Int)) (b1_0:Int) (b1_1:Int) (b1_2:Int) (b2_0:Int) (b2_1:(List Int)):TrOk (BodyRuns Go.Proofs.Try.prog kf108.orc 106 0 sh106_0_1 shb106_0_1 shr106_0_1 ((x1,x2,x3,()),(b0_0,b0_1,()),(b1_0,b1_1,b1_2,()),(b2_0,b2_1,()),())) (t106_0_1 x1 x2 x3 b0_0 b0_1 b1_0 b1_1 b1_2 b2_0 b2_1) :=
  TrOk.ofTest (fun h0=>TrOk.ofTest (fun h1=>TrOk.ofTest (fun h2=>TrOk.ofTest (fun h3=>TrOk.ofTest (fun h4=>TrOk.ofTest (fun h5=>TrOk.ofTest (fun h6=>TrOk.ofTest (fun h7=>TrOk.ofFin (BodyRuns.of (e106_0_1_0 x1 x2 x3 b0_0 b0_1 b1_0 b1_1 b1_2 b2_0 b2_1) (ac h7 (ac h6 (ac h5 (ac h4 (ac h3 (ac h2 (ac h1 (ac h0 All.nil)))))))))) (fun h7=>TrOk.ofFin (BodyRuns.of (e106_0_1_1 x1 x2 x3 b0_0 b0_1 b1_0 b1_1 b1_2 b2_0 b2_1) (ac h7 (ac h6 (ac h5 (ac h4 (ac h3 (ac h2 (ac h1 (ac h0 All.nil))))))))))) (fun h6=>TrOk.ofStop)) (fun h5=>TrOk.ofStop)) (fun h4=>TrOk.ofStop)) (fun h3=>TrOk.ofStop)) (fun h2=>TrOk.ofStop)) (fun h1=>TrOk.ofStop)) (fun h0=>TrOk.ofFin (BodyRuns.of (e106_0_1_4 x1 x2 x3 b0_0 b0_1 b1_0 b1_1 b1_2 b2_0 b2_1) (ac h0 All.nil)))

theorem ok106_0_1:LoopOk Go.Proofs.Try.prog 106 0 lc106_0_1:=loopOk_of kf108_ok.base (T:=fun (d:sh106_0_1.data)=>t106_0_1 d.1.1 d.1.2.1 d.1.2.2.1 d.2.1.1 d.2.1.2.1 d.2.2.1.1 d.2.2.1.2.1 d.2.2.1.2.2.1 d.2.2.2.1.1 d.2.2.2.1.2.1) (by kernel_rfl) rfl (fun (d:sh106_0_1.data)=>ok106_0_1_t d.1.1 d.1.2.1 d.1.2.2.1 d.2.1.1 d.2.1.2.1 d.2.2.1.1 d.2.2.1.2.1 d.2.2.1.2.2.1 d.2.2.2.1.1 d.2.2.2.1.2.1) (fun _=>rfl)
def kl106_0_1:Known:=kf108.loop 106 0 lc106_0_1
theorem kl106_0_1_ok:KnownOk Go.Proofs.Try.prog kl106_0_1:=kf108_ok.loop ok106_0_1

/-! ductility/motion.CheckRest -/

abbrev as42:List Ty:=[(.pair (.int .i64) (.pair (.slice (.int .i64)) .unit)),(.pair (.int .i64) (.pair (.slice (.int .i64)) .unit)),(.pair (.int .i64) (.pair (.int .i64) (.pair (.int .i64) .unit)))]
abbrev rs42:List Ty:=[(.int .i64),(.int .i64)]

def t42 (x0:Int) (x0':(List Int)) (x1:Int) (x1':(List Int)) (x2:Int) (x2':Int) (x2'':Int):Tr (Tys.data rs42) :=
  Tr.test (Option.isSome (f88 ((x0,(x0',())),())))
    (Tr.test (Option.isSome (f104 ((x1,(x1',())),((↑(List.length x0'):Int),()))))
      (Tr.test (Option.isSome (f105 ((x2,(x2',(x2'',()))),())))
        (let r0:Int×PUnit:=g88 ((x0,(x0',())),());
        let r1:Int×PUnit:=g104 ((x1,(x1',())),((↑(List.length x0'):Int),()));
        let r2:Int×PUnit:=g105 ((x2,(x2',(x2'',()))),());
        Tr.test (Option.isSome (f85 (([r0.1,r1.1,r2.1]:List Int),())))
          (let r3:Int×PUnit:=g85 (([r0.1,r1.1,r2.1]:List Int),());
          Tr.test ((!eqF r3.1 0:Bool))
            (Tr.fin (((0:Int),(r3.1,()))))
            (Tr.test (Option.isSome (f90 (x1',())))
              (let r4:(Int×Int×PUnit)×PUnit:=g90 (x1',());
              Tr.test ((!eqF r4.1.1 0:Bool))
                (Tr.fin (((0:Int),((21:Int),()))))
                (Tr.test ((!eqF r4.1.2.1 0:Bool))
                  (Tr.fin (((1:Int),((21:Int),()))))
                  (Tr.test (Option.isSome (l106_0_1 ((x0',((↑(List.length x0'):Int),((0:Int),()))),((x1,(x1',())),((x2,(x2',(x2'',()))),((x0,(x0',())),()))))))
                    (Tr.test (isRet (l106_0_1 ((x0',((↑(List.length x0'):Int),((0:Int),()))),((x1,(x1',())),((x2,(x2',(x2'',()))),((x0,(x0',())),()))))))
                      (let r5:(Int×Int×PUnit)×(Int×List Int×PUnit)×(Int×Int×Int×PUnit)×(Int×List Int×PUnit)×PUnit:=r106_0_1 ((x0',((↑(List.length x0'):Int),((0:Int),()))),((x1,(x1',())),((x2,(x2',(x2'',()))),((x0,(x0',())),()))));
                      Tr.fin ((r5.1.1,(r5.1.2.1,()))))
                      (Tr.fin (((0:Int),((0:Int),())))))
                    (Tr.stop))))
              (Tr.stop)))
          (Tr.stop))
        (Tr.stop))
      (Tr.stop))
    (Tr.stop)

def f42 (d:Tys.data as42):Option (Tys.data rs42):=(t42 d.1.1 d.1.2.1 d.2.1.1 d.2.1.2.1 d.2.2.1.1 d.2.2.1.2.1 d.2.2.1.2.2.1).val
def g42 (d:Tys.data as42):Tys.data rs42:=(f42 d).getD (Tys.dflt rs42)
def p42:PureC:=pcOf as42 rs42 f42 g42

theorem e42_0 (x0:Int) (x0':(List Int)) (x1:Int) (x1':(List Int)) (x2:Int) (x2':Int) (x2'':Int):runPure kl106_0_1.orc Go.Proofs.Try.prog 400 42 as42 rs42 ((x0,x0',()),(x1,x1',()),(x2,x2',x2'',()),()) [tt,tt,tt,tt,tt,tt] =
    (let r0:Int×PUnit:=g88 ((x0,(x0',())),());let r1:Int×PUnit:=g104 ((x1,(x1',())),((↑(List.length x0'):Int),()));let r2:Int×PUnit:=g105 ((x2,(x2',(x2'',()))),());let r3:Int×PUnit:=g85 (([r0.1,r1.1,r2.1]:List Int),()); some (((0:Int),(r3.1,())),[(!eqF r3.1 0,true),(Option.isSome (f85 (([r0.1,r1.1,r2.1]:List Int),())),true),(true,true),(Option.isSome (f105 ((x2,(x2',(x2'',()))),())),true),(Option.isSome (f104 ((x1,(x1',())),((↑(List.length x0'):Int),()))),true),(Option.isSome (f88 ((x0,(x0',())),())),true)])):=by kernel_rfl
theorem e42_1 (x0:Int) (x0':(List Int)) (x1:Int) (x1':(List Int)) (x2:Int) (x2':Int) (x2'':Int):runPure kl106_0_1.orc Go.Proofs.Try.prog 400 42 as42 rs42 ((x0,x0',()),(x1,x1',()),(x2,x2',x2'',()),()) [tt,tt,tt,tt,tt,ff,tt,tt] =
    (let r0:Int×PUnit:=g88 ((x0,(x0',())),());let r1:Int×PUnit:=g104 ((x1,(x1',())),((↑(List.length x0'):Int),()));let r2:Int×PUnit:=g105 ((x2,(x2',(x2'',()))),());let r3:Int×PUnit:=g85 (([r0.1,r1.1,r2.1]:List Int),());let r4:(Int×Int×PUnit)×PUnit:=g90 (x1',()); some (((0:Int),((21:Int),())),[(!eqF r4.1.1 0,true),(Option.isSome (f90 (x1',())),true),(!eqF r3.1 0,false),(Option.isSome (f85 (([r0.1,r1.1,r2.1]:List Int),())),true),(true,true),(Option.isSome (f105 ((x2,(x2',(x2'',()))),())),true),(Option.isSome (f104 ((x1,(x1',())),((↑(List.length x0'):Int),()))),true),(Option.isSome (f88 ((x0,(x0',())),())),true)])):=by kernel_rfl
theorem e42_2 (x0:Int) (x0':(List Int)) (x1:Int) (x1':(List Int)) (x2:Int) (x2':Int) (x2'':Int):runPure kl106_0_1.orc Go.Proofs.Try.prog 400 42 as42 rs42 ((x0,x0',()),(x1,x1',()),(x2,x2',x2'',()),()) [tt,tt,tt,tt,tt,ff,tt,ff,tt] =
    (let r0:Int×PUnit:=g88 ((x0,(x0',())),());let r1:Int×PUnit:=g104 ((x1,(x1',())),((↑(List.length x0'):Int),()));let r2:Int×PUnit:=g105 ((x2,(x2',(x2'',()))),());let r3:Int×PUnit:=g85 (([r0.1,r1.1,r2.1]:List Int),());let r4:(Int×Int×PUnit)×PUnit:=g90 (x1',()); some (((1:Int),((21:Int),())),[(!eqF r4.1.2.1 0,true),(!eqF r4.1.1 0,false),(Option.isSome (f90 (x1',())),true),(!eqF r3.1 0,false),(Option.isSome (f85 (([r0.1,r1.1,r2.1]:List Int),())),true),(true,true),(Option.isSome (f105 ((x2,(x2',(x2'',()))),())),true),(Option.isSome (f104 ((x1,(x1',())),((↑(List.length x0'):Int),()))),true),(Option.isSome (f88 ((x0,(x0',())),())),true)])):=by kernel_rfl
theorem e42_3 (x0:Int) (x0':(List Int)) (x1:Int) (x1':(List Int)) (x2:Int) (x2':Int) (x2'':Int):runPure kl106_0_1.orc Go.Proofs.Try.prog 400 42 as42 rs42 ((x0,x0',()),(x1,x1',()),(x2,x2',x2'',()),()) [tt,tt,tt,tt,tt,ff,tt,ff,ff,tt,tt] =
    (let r0:Int×PUnit:=g88 ((x0,(x0',())),());let r1:Int×PUnit:=g104 ((x1,(x1',())),((↑(List.length x0'):Int),()));let r2:Int×PUnit:=g105 ((x2,(x2',(x2'',()))),());let r3:Int×PUnit:=g85 (([r0.1,r1.1,r2.1]:List Int),());let r4:(Int×Int×PUnit)×PUnit:=g90 (x1',());let r5:(Int×Int×PUnit)×(Int×List Int×PUnit)×(Int×Int×Int×PUnit)×(Int×List Int×PUnit)×PUnit:=r106_0_1 ((x0',((↑(List.length x0'):Int),((0:Int),()))),((x1,(x1',())),((x2,(x2',(x2'',()))),((x0,(x0',())),())))); some ((r5.1.1,(r5.1.2.1,())),[(isRet (l106_0_1 ((x0',((↑(List.length x0'):Int),((0:Int),()))),((x1,(x1',())),((x2,(x2',(x2'',()))),((x0,(x0',())),()))))),true),(Option.isSome (l106_0_1 ((x0',((↑(List.length x0'):Int),((0:Int),()))),((x1,(x1',())),((x2,(x2',(x2'',()))),((x0,(x0',())),()))))),true),(!eqF r4.1.2.1 0,false),(!eqF r4.1.1 0,false),(Option.isSome (f90 (x1',())),true),(!eqF r3.1 0,false),(Option.isSome (f85 (([r0.1,r1.1,r2.1]:List Int),())),true),(true,true),(Option.isSome (f105 ((x2,(x2',(x2'',()))),())),true),(Option.isSome (f104 ((x1,(x1',())),((↑(List.length x0'):Int),()))),true),(Option.isSome (f88 ((x0,(x0',())),())),true)])):=by kernel_rfl
theorem e42_4 (x0:Int) (x0':(List Int)) (x1:Int) (x1':(List Int)) (x2:Int) (x2':Int) (x2'':Int):runPure kl106_0_1.orc Go.Proofs.Try.prog 400 42 as42 rs42 ((x0,x0',()),(x1,x1',()),(x2,x2',x2'',()),()) [tt,tt,tt,tt,tt,ff,tt,ff,ff,tt,ff] =
    (let r0:Int×PUnit:=g88 ((x0,(x0',())),());let r1:Int×PUnit:=g104 ((x1,(x1',())),((↑(List.length x0'):Int),()));let r2:Int×PUnit:=g105 ((x2,(x2',(x2'',()))),());let r3:Int×PUnit:=g85 (([r0.1,r1.1,r2.1]:List Int),());let r4:(Int×Int×PUnit)×PUnit:=g90 (x1',()); some (((0:Int),((0:Int),())),[(isRet (l106_0_1 ((x0',((↑(List.length x0'):Int),((0:Int),()))),((x1,(x1',())),((x2,(x2',(x2'',()))),((x0,(x0',())),()))))),false),(Option.isSome (l106_0_1 ((x0',((↑(List.length x0'):Int),((0:Int),()))),((x1,(x1',())),((x2,(x2',(x2'',()))),((x0,(x0',())),()))))),true),(!eqF r4.1.2.1 0,false),(!eqF r4.1.1 0,false),(Option.isSome (f90 (x1',())),true),(!eqF r3.1 0,false),(Option.isSome (f85 (([r0.1,r1.1,r2.1]:List Int),())),true),(true,true),(Option.isSome (f105 ((x2,(x2',(x2'',()))),())),true),(Option.isSome (f104 ((x1,(x1',())),((↑(List.length x0'):Int),()))),true),(Option.isSome (f88 ((x0,(x0',())),())),true)])):=by kernel_rfl

theorem ok42_t (x0:Int) (x0':(List Int)) (x1:Int) (x1':(List Int)) (x2:Int) (x2':Int) (x2'':Int):TrOk (PureRuns Go.Proofs.Try.prog kl106_0_1.orc 42 as42 rs42 ((x0,x0',()),(x1,x1',()),(x2,x2',x2'',()),())) (t42 x0 x0' x1 x1' x2 x2' x2'') :=
  TrOk.ofTest (fun h0=>TrOk.ofTest (fun h1=>TrOk.ofTest (fun h2=>TrOk.ofTest (fun h4=>TrOk.ofTest (fun h5=>TrOk.ofFin (PureRuns.of (e42_0 x0 x0' x1 x1' x2 x2' x2'') (ac h5 (ac h4 (ac rfl (ac h2 (ac h1 (ac h0 All.nil)))))))) (fun h5=>TrOk.ofTest (fun h6=>TrOk.ofTest (fun h7=>TrOk.ofFin (PureRuns.of (e42_1 x0 x0' x1 x1' x2 x2' x2'') (ac h7 (ac h6 (ac h5 (ac h4 (ac rfl (ac h2 (ac h1 (ac h0 All.nil)))))))))) (fun h7=>TrOk.ofTest (fun h8=>TrOk.ofFin (PureRuns.of (e42_2 x0 x0' x1 x1' x2 x2' x2'') (ac h8 (ac h7 (ac h6 (ac h5 (ac h4 (ac rfl (ac h2 (ac h1 (ac h0 All.nil))))))))))) (fun h8=>TrOk.ofTest (fun h9=>TrOk.ofTest (fun h10=>TrOk.ofFin (PureRuns.of (e42_3 x0 x0' x1 x1' x2 x2' x2'') (ac h10 (ac h9 (ac h8 (ac h7 (ac h6 (ac h5 (ac h4 (ac rfl (ac h2 (ac h1 (ac h0 All.nil))))))))))))) (fun h10=>TrOk.ofFin (PureRuns.of (e42_4 x0 x0' x1 x1' x2 x2' x2'') (ac h10 (ac h9 (ac h8 (ac h7 (ac h6 (ac h5 (ac h4 (ac rfl (ac h2 (ac h1 (ac h0 All.nil)))))))))))))) (fun h9=>TrOk.ofStop)))) (fun h6=>TrOk.ofStop))) (fun h4=>TrOk.ofStop)) (fun h2=>TrOk.ofStop)) (fun h1=>TrOk.ofStop)) (fun h0=>TrOk.ofStop)

theorem ok42:PureOk Go.Proofs.Try.prog 42 p42:=pureOk_of kl106_0_1_ok.base (T:=fun (d:Tys.data as42)=>t42 d.1.1 d.1.2.1 d.2.1.1 d.2.1.2.1 d.2.2.1.1 d.2.2.1.2.1 d.2.2.1.2.2.1) (by kernel_rfl) (fun (d:Tys.data as42)=>ok42_t d.1.1 d.1.2.1 d.2.1.1 d.2.1.2.1 d.2.2.1.1 d.2.2.1.2.1 d.2.2.1.2.2.1)
def kf42:Known:=kl106_0_1.func 42 p42
theorem kf42_ok:KnownOk Go.Proofs.Try.prog kf42:=kl106_0_1_ok.func ok42

/-! ductility/ductilitybase.Within -/

abbrev as47:List Ty:=[(.int .i64),(.int .i64),(.int .i64)]
abbrev rs47:List Ty:=[.bool]

def t47 (x0:Int) (x1:Int) (x2:Int):Tr (Tys.data rs47) :=
  Tr.test ((leF x1 x0:Bool))
    (Tr.fin ((leF x0 x2,())))
    (Tr.fin ((false,())))

def f47 (d:Tys.data as47):Option (Tys.data rs47):=(t47 d.1 d.2.1 d.2.2.1).val
def g47 (d:Tys.data as47):Tys.data rs47:=(f47 d).getD (Tys.dflt rs47)
def p47:PureC:=pcOf as47 rs47 f47 g47

theorem e47_0 (x0:Int) (x1:Int) (x2:Int):runPure kf42.orc Go.Proofs.Try.prog 400 47 as47 rs47 (x0,x1,x2,()) [tt,tt,tt,tt] =
    (some ((leF x0 x2,()),[(leF x1 x0,true),(leF x1 x0,true),(leF x1 x0,true),(leF x1 x0,true)])):=by kernel_rfl
theorem e47_1 (x0:Int) (x1:Int) (x2:Int):runPure kf42.orc Go.Proofs.Try.prog 400 47 as47 rs47 (x0,x1,x2,()) [ff,ff,ff,ff] =
    (some ((false,()),[(leF x1 x0,false),(leF x1 x0,false),(leF x1 x0,false),(leF x1 x0,false)])):=by kernel_rfl

theorem ok47_t (x0:Int) (x1:Int) (x2:Int):TrOk (PureRuns Go.Proofs.Try.prog kf42.orc 47 as47 rs47 (x0,x1,x2,())) (t47 x0 x1 x2) :=
  TrOk.ofTest (fun h0=>TrOk.ofFin (PureRuns.of (e47_0 x0 x1 x2) (ac h0 (ac h0 (ac h0 (ac h0 All.nil)))))) (fun h0=>TrOk.ofFin (PureRuns.of (e47_1 x0 x1 x2) (ac h0 (ac h0 (ac h0 (ac h0 All.nil))))))

theorem ok47:PureOk Go.Proofs.Try.prog 47 p47:=pureOk_of kf42_ok.base (T:=fun (d:Tys.data as47)=>t47 d.1 d.2.1 d.2.2.1) (by kernel_rfl) (fun (d:Tys.data as47)=>ok47_t d.1 d.2.1 d.2.2.1)
def kf47:Known:=kf42.func 47 p47
theorem kf47_ok:KnownOk Go.Proofs.Try.prog kf47:=kf42_ok.func ok47

/-! ductility/ductilityref02.IsSample -/

abbrev as54:List Ty:=[(.int .i64)]
abbrev rs54:List Ty:=[.bool]

def t54 (x0:Int):Tr (Tys.data rs54) :=
  Tr.test (Option.isSome (f47 (x0,((-1000:Int),((1000:Int),())))))
    (let r0:Bool×PUnit:=g47 (x0,((-1000:Int),((1000:Int),())));
    Tr.fin ((r0.1,())))
    (Tr.stop)

def f54 (d:Tys.data as54):Option (Tys.data rs54):=(t54 d.1).val
def g54 (d:Tys.data as54):Tys.data rs54:=(f54 d).getD (Tys.dflt rs54)
def p54:PureC:=pcOf as54 rs54 f54 g54

theorem e54_0 (x0:Int):runPure kf47.orc Go.Proofs.Try.prog 400 54 as54 rs54 (x0,()) [tt] =
    (let r0:Bool×PUnit:=g47 (x0,((-1000:Int),((1000:Int),()))); some ((r0.1,()),[(Option.isSome (f47 (x0,((-1000:Int),((1000:Int),())))),true)])):=by kernel_rfl

theorem ok54_t (x0:Int):TrOk (PureRuns Go.Proofs.Try.prog kf47.orc 54 as54 rs54 (x0,())) (t54 x0) :=
  TrOk.ofTest (fun h0=>TrOk.ofFin (PureRuns.of (e54_0 x0) (ac h0 All.nil))) (fun h0=>TrOk.ofStop)

theorem ok54:PureOk Go.Proofs.Try.prog 54 p54:=pureOk_of kf47_ok.base (T:=fun (d:Tys.data as54)=>t54 d.1) (by kernel_rfl) (fun (d:Tys.data as54)=>ok54_t d.1)
def kf54:Known:=kf47.func 54 p54
theorem kf54_ok:KnownOk Go.Proofs.Try.prog kf54:=kf47_ok.func ok54

/-! loop 0 of ductility/ductilityref02.CheckRecord -/

abbrev sh22_0:Sh:={ n:=32,slots:=[1,4],pats:=[.ptr 0 2 0,.ty (.int .i64)],boxes:=[.row [.ty (.int .i64),.ty (.slice (.int .i64))]] }
abbrev shb22_0:Sh:={ n:=32,slots:=[],pats:=[],boxes:=[.row [.ty (.int .i64),.ty (.slice (.int .i64))]] }
abbrev shr22_0:Sh:={ n:=32,slots:=[2,3],pats:=[.ty (.int .i64),.ty (.int .i64)],boxes:=[.row [.ty (.int .i64),.ty (.slice (.int .i64))]] }

def t22_0 (x1:Int) (b0_0:Int) (b0_1:(List Int)):Tr (Out sh22_0.data shb22_0.data shr22_0.data) :=
  Tr.test ((!leF (↑(List.length b0_1):Int) x1:Bool))
    (Tr.test (decide ((0:Int) ≤ x1) && decide (x1 < (↑(List.length b0_1):Int)))
      (Tr.test (Option.isSome (f54 ((List.getD b0_1 (Int.toNat x1) (0:Int):Int),())))
        (let r0:Bool×PUnit:=g54 ((List.getD b0_1 (Int.toNat x1) (0:Int):Int),());
        Tr.test ((!r0.1:Bool))
          (Tr.fin (.ret ((x1,((2:Int),())),((b0_0,(b0_1,())),()))))
          (Tr.fin (.again (((wrap64 (x1 + (1:Int)):Int),()),((b0_0,(b0_1,())),())))))
        (Tr.stop))
      (Tr.stop))
    (Tr.fin (.brk ((),((b0_0,(b0_1,())),()))))

def s22_0 (d:sh22_0.data):Option (Out sh22_0.data shb22_0.data shr22_0.data):=(t22_0 d.1.1 d.2.1.1 d.2.1.2.1).val
def l22_0 (d:sh22_0.data):Option (shb22_0.data ⊕ shr22_0.data):=itr s22_0 rounds d
def b22_0 (d:sh22_0.data):shb22_0.data:=outB shb22_0.dflt (l22_0 d)
def r22_0 (d:sh22_0.data):shr22_0.data:=outR shr22_0.dflt (l22_0 d)
def lc22_0:LoopC:=lcOf sh22_0 shb22_0 shr22_0 l22_0 b22_0 r22_0

theorem e22_0_0 (x1:Int) (b0_0:Int) (b0_1:(List Int)):runBody kf54.orc Go.Proofs.Try.prog 400 22 0 sh22_0 shb22_0 shr22_0 ((x1,()),(b0_0,b0_1,()),()) [tt,tt,tt,tt] =
    (let r0:Bool×PUnit:=g54 ((List.getD b0_1 (Int.toNat x1) (0:Int):Int),()); some (.ret ((x1,((2:Int),())),((b0_0,(b0_1,())),())),[(!r0.1,true),(Option.isSome (f54 ((List.getD b0_1 (Int.toNat x1) (0:Int):Int),())),true),(decide ((0:Int) ≤ x1) && decide (x1 < (↑(List.length b0_1):Int)),true),(!leF (↑(List.length b0_1):Int) x1,true)])):=by kernel_rfl
theorem e22_0_1 (x1:Int) (b0_0:Int) (b0_1:(List Int)):runBody kf54.orc Go.Proofs.Try.prog 400 22 0 sh22_0 shb22_0 shr22_0 ((x1,()),(b0_0,b0_1,()),()) [tt,tt,tt,ff] =
    (let r0:Bool×PUnit:=g54 ((List.getD b0_1 (Int.toNat x1) (0:Int):Int),()); some (.again (((wrap64 (x1 + (1:Int)):Int),()),((b0_0,(b0_1,())),())),[(!r0.1,false),(Option.isSome (f54 ((List.getD b0_1 (Int.toNat x1) (0:Int):Int),())),true),(decide ((0:Int) ≤ x1) && decide (x1 < (↑(List.length b0_1):Int)),true),(!leF (↑(List.length b0_1):Int) x1,true)])):=by kernel_rfl
theorem e22_0_3 (x1:Int) (b0_0:Int) (b0_1:(List Int)):runBody kf54.orc Go.Proofs.Try.prog 400 22 0 sh22_0 shb22_0 shr22_0 ((x1,()),(b0_0,b0_1,()),()) [ff] =
    (some (.brk ((),((b0_0,(b0_1,())),())),[(!leF (↑(List.length b0_1):Int) x1,false)])):=by kernel_rfl

theorem ok22_0_t (x1:Int) (b0_0:Int) (b0_1:(List Int)):TrOk (BodyRuns Go.Proofs.Try.prog kf54.orc 22 0 sh22_0 shb22_0 shr22_0 ((x1,()),(b0_0,b0_1,()),())) (t22_0 x1 b0_0 b0_1) :=
  TrOk.ofTest (fun h0=>TrOk.ofTest (fun h1=>TrOk.ofTest (fun h2=>TrOk.ofTest (fun h3=>TrOk.ofFin (BodyRuns.of (e22_0_0 x1 b0_0 b0_1) (ac h3 (ac h2 (ac h1 (ac h0 All.nil)))))) (fun h3=>TrOk.ofFin (BodyRuns.of (e22_0_1 x1 b0_0 b0_1) (ac h3 (ac h2 (ac h1 (ac h0 All.nil))))))) (fun h2=>TrOk.ofStop)) (fun h1=>TrOk.ofStop)) (fun h0=>TrOk.ofFin (BodyRuns.of (e22_0_3 x1 b0_0 b0_1) (ac h0 All.nil)))

theorem ok22_0:LoopOk Go.Proofs.Try.prog 22 0 lc22_0:=loopOk_of kf54_ok.base (T:=fun (d:sh22_0.data)=>t22_0 d.1.1 d.2.1.1 d.2.1.2.1) (by kernel_rfl) rfl (fun (d:sh22_0.data)=>ok22_0_t d.1.1 d.2.1.1 d.2.1.2.1) (fun _=>rfl)
def kl22_0:Known:=kf54.loop 22 0 lc22_0
theorem kl22_0_ok:KnownOk Go.Proofs.Try.prog kl22_0:=kf54_ok.loop ok22_0

/-! ductility/ductilityref02.CheckRecord -/

abbrev as22:List Ty:=[(.pair (.int .i64) (.pair (.slice (.int .i64)) .unit))]
abbrev rs22:List Ty:=[(.int .i64),(.int .i64)]

def t22 (x0:Int) (x0':(List Int)):Tr (Tys.data rs22) :=
  Tr.test (Option.isSome (f47 (x0,((1:Int),((1000000:Int),())))))
    (let r0:Bool×PUnit:=g47 (x0,((1:Int),((1000000:Int),())));
    Tr.test ((!r0.1:Bool))
      (Tr.fin (((0:Int),((2:Int),()))))
      (Tr.test ((!leF (2:Int) (↑(List.length x0'):Int):Bool))
        (Tr.fin (((0:Int),((10:Int),()))))
        (Tr.test ((!leF (↑(List.length x0'):Int) (24:Int):Bool))
          (Tr.fin (((0:Int),((8:Int),()))))
          (Tr.test (Option.isSome (l22_0 (((0:Int),()),((x0,(x0',())),()))))
            (Tr.test (isRet (l22_0 (((0:Int),()),((x0,(x0',())),()))))
              (let r1:(Int×Int×PUnit)×(Int×List Int×PUnit)×PUnit:=r22_0 (((0:Int),()),((x0,(x0',())),()));
              Tr.fin ((r1.1.1,(r1.1.2.1,()))))
              (Tr.fin (((0:Int),((0:Int),())))))
            (Tr.stop)))))
    (Tr.stop)

def f22 (d:Tys.data as22):Option (Tys.data rs22):=(t22 d.1.1 d.1.2.1).val
def g22 (d:Tys.data as22):Tys.data rs22:=(f22 d).getD (Tys.dflt rs22)
def p22:PureC:=pcOf as22 rs22 f22 g22

theorem e22_0 (x0:Int) (x0':(List Int)):runPure kl22_0.orc Go.Proofs.Try.prog 400 22 as22 rs22 ((x0,x0',()),()) [tt,tt] =
    (let r0:Bool×PUnit:=g47 (x0,((1:Int),((1000000:Int),()))); some (((0:Int),((2:Int),())),[(!r0.1,true),(Option.isSome (f47 (x0,((1:Int),((1000000:Int),())))),true)])):=by kernel_rfl
theorem e22_1 (x0:Int) (x0':(List Int)):runPure kl22_0.orc Go.Proofs.Try.prog 400 22 as22 rs22 ((x0,x0',()),()) [tt,ff,tt] =
    (let r0:Bool×PUnit:=g47 (x0,((1:Int),((1000000:Int),()))); some (((0:Int),((10:Int),())),[(!leF (2:Int) (↑(List.length x0'):Int),true),(!r0.1,false),(Option.isSome (f47 (x0,((1:Int),((1000000:Int),())))),true)])):=by kernel_rfl
theorem e22_2 (x0:Int) (x0':(List Int)):runPure kl22_0.orc Go.Proofs.Try.prog 400 22 as22 rs22 ((x0,x0',()),()) [tt,ff,ff,tt] =
    (let r0:Bool×PUnit:=g47 (x0,((1:Int),((1000000:Int),()))); some (((0:Int),((8:Int),())),[(!leF (↑(List.length x0'):Int) (24:Int),true),(!leF (2:Int) (↑(List.length x0'):Int),false),(!r0.1,false),(Option.isSome (f47 (x0,((1:Int),((1000000:Int),())))),true)])):=by kernel_rfl
theorem e22_3 (x0:Int) (x0':(List Int)):runPure kl22_0.orc Go.Proofs.Try.prog 400 22 as22 rs22 ((x0,x0',()),()) [tt,ff,ff,ff,tt,tt] =
    (let r0:Bool×PUnit:=g47 (x0,((1:Int),((1000000:Int),())));let r1:(Int×Int×PUnit)×(Int×List Int×PUnit)×PUnit:=r22_0 (((0:Int),()),((x0,(x0',())),())); some ((r1.1.1,(r1.1.2.1,())),[(isRet (l22_0 (((0:Int),()),((x0,(x0',())),()))),true),(Option.isSome (l22_0 (((0:Int),()),((x0,(x0',())),()))),true),(!leF (↑(List.length x0'):Int) (24:Int),false),(!leF (2:Int) (↑(List.length x0'):Int),false),(!r0.1,false),(Option.isSome (f47 (x0,((1:Int),((1000000:Int),())))),true)])):=by kernel_rfl
theorem e22_4 (x0:Int) (x0':(List Int)):runPure kl22_0.orc Go.Proofs.Try.prog 400 22 as22 rs22 ((x0,x0',()),()) [tt,ff,ff,ff,tt,ff] =
    (let r0:Bool×PUnit:=g47 (x0,((1:Int),((1000000:Int),()))); some (((0:Int),((0:Int),())),[(isRet (l22_0 (((0:Int),()),((x0,(x0',())),()))),false),(Option.isSome (l22_0 (((0:Int),()),((x0,(x0',())),()))),true),(!leF (↑(List.length x0'):Int) (24:Int),false),(!leF (2:Int) (↑(List.length x0'):Int),false),(!r0.1,false),(Option.isSome (f47 (x0,((1:Int),((1000000:Int),())))),true)])):=by kernel_rfl

theorem ok22_t (x0:Int) (x0':(List Int)):TrOk (PureRuns Go.Proofs.Try.prog kl22_0.orc 22 as22 rs22 ((x0,x0',()),())) (t22 x0 x0') :=
  TrOk.ofTest (fun h0=>TrOk.ofTest (fun h1=>TrOk.ofFin (PureRuns.of (e22_0 x0 x0') (ac h1 (ac h0 All.nil)))) (fun h1=>TrOk.ofTest (fun h2=>TrOk.ofFin (PureRuns.of (e22_1 x0 x0') (ac h2 (ac h1 (ac h0 All.nil))))) (fun h2=>TrOk.ofTest (fun h3=>TrOk.ofFin (PureRuns.of (e22_2 x0 x0') (ac h3 (ac h2 (ac h1 (ac h0 All.nil)))))) (fun h3=>TrOk.ofTest (fun h4=>TrOk.ofTest (fun h5=>TrOk.ofFin (PureRuns.of (e22_3 x0 x0') (ac h5 (ac h4 (ac h3 (ac h2 (ac h1 (ac h0 All.nil)))))))) (fun h5=>TrOk.ofFin (PureRuns.of (e22_4 x0 x0') (ac h5 (ac h4 (ac h3 (ac h2 (ac h1 (ac h0 All.nil))))))))) (fun h4=>TrOk.ofStop))))) (fun h0=>TrOk.ofStop)

theorem ok22:PureOk Go.Proofs.Try.prog 22 p22:=pureOk_of kl22_0_ok.base (T:=fun (d:Tys.data as22)=>t22 d.1.1 d.1.2.1) (by kernel_rfl) (fun (d:Tys.data as22)=>ok22_t d.1.1 d.1.2.1)
def kf22:Known:=kl22_0.func 22 p22
theorem kf22_ok:KnownOk Go.Proofs.Try.prog kf22:=kl22_0_ok.func ok22

/-! ductility/ductilityref02.RecordErr -/

abbrev as29:List Ty:=[(.pair (.int .i64) (.pair (.slice (.int .i64)) .unit))]
abbrev rs29:List Ty:=[(.int .i64)]

def t29 (x0:Int) (x0':(List Int)):Tr (Tys.data rs29) :=
  Tr.test (Option.isSome (f22 ((x0,(x0',())),())))
    (let r0:Int×Int×PUnit:=g22 ((x0,(x0',())),());
    Tr.fin ((r0.2.1,())))
    (Tr.stop)

def f29 (d:Tys.data as29):Option (Tys.data rs29):=(t29 d.1.1 d.1.2.1).val
def g29 (d:Tys.data as29):Tys.data rs29:=(f29 d).getD (Tys.dflt rs29)
def p29:PureC:=pcOf as29 rs29 f29 g29

theorem e29_0 (x0:Int) (x0':(List Int)):runPure kf22.orc Go.Proofs.Try.prog 400 29 as29 rs29 ((x0,x0',()),()) [tt] =
    (let r0:Int×Int×PUnit:=g22 ((x0,(x0',())),()); some ((r0.2.1,()),[(Option.isSome (f22 ((x0,(x0',())),())),true)])):=by kernel_rfl

theorem ok29_t (x0:Int) (x0':(List Int)):TrOk (PureRuns Go.Proofs.Try.prog kf22.orc 29 as29 rs29 ((x0,x0',()),())) (t29 x0 x0') :=
  TrOk.ofTest (fun h0=>TrOk.ofFin (PureRuns.of (e29_0 x0 x0') (ac h0 All.nil))) (fun h0=>TrOk.ofStop)

theorem ok29:PureOk Go.Proofs.Try.prog 29 p29:=pureOk_of kf22_ok.base (T:=fun (d:Tys.data as29)=>t29 d.1.1 d.1.2.1) (by kernel_rfl) (fun (d:Tys.data as29)=>ok29_t d.1.1 d.1.2.1)
def kf29:Known:=kf22.func 29 p29
theorem kf29_ok:KnownOk Go.Proofs.Try.prog kf29:=kf22_ok.func ok29

/-! loop 0 of ductility/ductilitybase.Ints -/

abbrev sh23_0:Sh:={ n:=26,slots:=[0,1,5],pats:=[.ty (.slice (.int .i64)),.ty (.slice (.int .i64)),.ty (.int .i64)],boxes:=[] }
abbrev shb23_0:Sh:={ n:=26,slots:=[],pats:=[],boxes:=[] }
abbrev shr23_0:Sh:={ n:=26,slots:=[4],pats:=[.ty .bool],boxes:=[] }

def t23_0 (x0:(List Int)) (x1:(List Int)) (x2:Int):Tr (Out sh23_0.data shb23_0.data shr23_0.data) :=
  Tr.test ((!leF (↑(List.length x0):Int) x2:Bool))
    (Tr.test (decide ((0:Int) ≤ x2) && decide (x2 < (↑(List.length x0):Int)))
      (Tr.test ((decide ((0:Int) ≤ x2) && decide (x2 < (↑(List.length x1):Int)):Bool))
        (Tr.test ((!eqF (List.getD x0 (Int.toNat x2) (0:Int)) (List.getD x1 (Int.toNat x2) (0:Int)):Bool))
          (Tr.fin (.ret (((false:Bool),()),())))
          (Tr.fin (.again ((x0,(x1,((wrap64 (x2 + (1:Int)):Int),()))),()))))
        (Tr.stop))
      (Tr.stop))
    (Tr.fin (.brk ((),())))

def s23_0 (d:sh23_0.data):Option (Out sh23_0.data shb23_0.data shr23_0.data):=(t23_0 d.1.1 d.1.2.1 d.1.2.2.1).val
def l23_0 (d:sh23_0.data):Option (shb23_0.data ⊕ shr23_0.data):=itr s23_0 rounds d
def b23_0 (d:sh23_0.data):shb23_0.data:=outB shb23_0.dflt (l23_0 d)
def r23_0 (d:sh23_0.data):shr23_0.data:=outR shr23_0.dflt (l23_0 d)
def lc23_0:LoopC:=lcOf sh23_0 shb23_0 shr23_0 l23_0 b23_0 r23_0

theorem e23_0_0 (x0:(List Int)) (x1:(List Int)) (x2:Int):runBody kf29.orc Go.Proofs.Try.prog 400 23 0 sh23_0 shb23_0 shr23_0 ((x0,x1,x2,()),()) [tt,tt,tt,tt] =
    (some (.ret ((false,()),()),[(!eqF (List.getD x0 (Int.toNat x2) (0:Int)) (List.getD x1 (Int.toNat x2) (0:Int)),true),(decide ((0:Int) ≤ x2) && decide (x2 < (↑(List.length x1):Int)),true),(decide ((0:Int) ≤ x2) && decide (x2 < (↑(List.length x0):Int)),true),(!leF (↑(List.length x0):Int) x2,true)])):=by kernel_rfl
theorem e23_0_1 (x0:(List Int)) (x1:(List Int)) (x2:Int):runBody kf29.orc Go.Proofs.Try.prog 400 23 0 sh23_0 shb23_0 shr23_0 ((x0,x1,x2,()),()) [tt,tt,tt,ff] =
    (some (.again ((x0,(x1,((wrap64 (x2 + (1:Int)):Int),()))),()),[(!eqF (List.getD x0 (Int.toNat x2) (0:Int)) (List.getD x1 (Int.toNat x2) (0:Int)),false),(decide ((0:Int) ≤ x2) && decide (x2 < (↑(List.length x1):Int)),true),(decide ((0:Int) ≤ x2) && decide (x2 < (↑(List.length x0):Int)),true),(!leF (↑(List.length x0):Int) x2,true)])):=by kernel_rfl
theorem e23_0_4 (x0:(List Int)) (x1:(List Int)) (x2:Int):runBody kf29.orc Go.Proofs.Try.prog 400 23 0 sh23_0 shb23_0 shr23_0 ((x0,x1,x2,()),()) [ff] =
    (some (.brk ((),()),[(!leF (↑(List.length x0):Int) x2,false)])):=by kernel_rfl

theorem ok23_0_t (x0:(List Int)) (x1:(List Int)) (x2:Int):TrOk (BodyRuns Go.Proofs.Try.prog kf29.orc 23 0 sh23_0 shb23_0 shr23_0 ((x0,x1,x2,()),())) (t23_0 x0 x1 x2) :=
  TrOk.ofTest (fun h0=>TrOk.ofTest (fun h1=>TrOk.ofTest (fun h2=>TrOk.ofTest (fun h3=>TrOk.ofFin (BodyRuns.of (e23_0_0 x0 x1 x2) (ac h3 (ac h2 (ac h1 (ac h0 All.nil)))))) (fun h3=>TrOk.ofFin (BodyRuns.of (e23_0_1 x0 x1 x2) (ac h3 (ac h2 (ac h1 (ac h0 All.nil))))))) (fun h2=>TrOk.ofStop)) (fun h1=>TrOk.ofStop)) (fun h0=>TrOk.ofFin (BodyRuns.of (e23_0_4 x0 x1 x2) (ac h0 All.nil)))

theorem ok23_0:LoopOk Go.Proofs.Try.prog 23 0 lc23_0:=loopOk_of kf29_ok.base (T:=fun (d:sh23_0.data)=>t23_0 d.1.1 d.1.2.1 d.1.2.2.1) (by kernel_rfl) rfl (fun (d:sh23_0.data)=>ok23_0_t d.1.1 d.1.2.1 d.1.2.2.1) (fun _=>rfl)
def kl23_0:Known:=kf29.loop 23 0 lc23_0
theorem kl23_0_ok:KnownOk Go.Proofs.Try.prog kl23_0:=kf29_ok.loop ok23_0

/-! ductility/ductilitybase.Ints -/

abbrev as23:List Ty:=[(.slice (.int .i64)),(.slice (.int .i64))]
abbrev rs23:List Ty:=[.bool]

def t23 (x0:(List Int)) (x1:(List Int)):Tr (Tys.data rs23) :=
  Tr.test ((!eqF (↑(List.length x0):Int) (↑(List.length x1):Int):Bool))
    (Tr.fin ((false,())))
    (Tr.test (Option.isSome (l23_0 ((x0,(x1,((0:Int),()))),())))
      (Tr.test (isRet (l23_0 ((x0,(x1,((0:Int),()))),())))
        (let r0:(Bool×PUnit)×PUnit:=r23_0 ((x0,(x1,((0:Int),()))),());
        Tr.fin ((r0.1.1,())))
        (Tr.fin (((true:Bool),()))))
      (Tr.stop))

def f23 (d:Tys.data as23):Option (Tys.data rs23):=(t23 d.1 d.2.1).val
def g23 (d:Tys.data as23):Tys.data rs23:=(f23 d).getD (Tys.dflt rs23)
def p23:PureC:=pcOf as23 rs23 f23 g23

theorem e23_0 (x0:(List Int)) (x1:(List Int)):runPure kl23_0.orc Go.Proofs.Try.prog 400 23 as23 rs23 (x0,x1,()) [tt] =
    (some ((false,()),[(!eqF (↑(List.length x0):Int) (↑(List.length x1):Int),true)])):=by kernel_rfl
theorem e23_1 (x0:(List Int)) (x1:(List Int)):runPure kl23_0.orc Go.Proofs.Try.prog 400 23 as23 rs23 (x0,x1,()) [ff,tt,tt] =
    (let r0:(Bool×PUnit)×PUnit:=r23_0 ((x0,(x1,((0:Int),()))),()); some ((r0.1.1,()),[(isRet (l23_0 ((x0,(x1,((0:Int),()))),())),true),(Option.isSome (l23_0 ((x0,(x1,((0:Int),()))),())),true),(!eqF (↑(List.length x0):Int) (↑(List.length x1):Int),false)])):=by kernel_rfl
theorem e23_2 (x0:(List Int)) (x1:(List Int)):runPure kl23_0.orc Go.Proofs.Try.prog 400 23 as23 rs23 (x0,x1,()) [ff,tt,ff] =
    (some ((true,()),[(isRet (l23_0 ((x0,(x1,((0:Int),()))),())),false),(Option.isSome (l23_0 ((x0,(x1,((0:Int),()))),())),true),(!eqF (↑(List.length x0):Int) (↑(List.length x1):Int),false)])):=by kernel_rfl

theorem ok23_t (x0:(List Int)) (x1:(List Int)):TrOk (PureRuns Go.Proofs.Try.prog kl23_0.orc 23 as23 rs23 (x0,x1,())) (t23 x0 x1) :=
  TrOk.ofTest (fun h0=>TrOk.ofFin (PureRuns.of (e23_0 x0 x1) (ac h0 All.nil))) (fun h0=>TrOk.ofTest (fun h1=>TrOk.ofTest (fun h2=>TrOk.ofFin (PureRuns.of (e23_1 x0 x1) (ac h2 (ac h1 (ac h0 All.nil))))) (fun h2=>TrOk.ofFin (PureRuns.of (e23_2 x0 x1) (ac h2 (ac h1 (ac h0 All.nil)))))) (fun h1=>TrOk.ofStop))

theorem ok23:PureOk Go.Proofs.Try.prog 23 p23:=pureOk_of kl23_0_ok.base (T:=fun (d:Tys.data as23)=>t23 d.1 d.2.1) (by kernel_rfl) (fun (d:Tys.data as23)=>ok23_t d.1 d.2.1)
def kf23:Known:=kl23_0.func 23 p23
theorem kf23_ok:KnownOk Go.Proofs.Try.prog kf23:=kl23_0_ok.func ok23

/-! ductility/ductilityref02.SameParts -/

abbrev as44:List Ty:=[(.pair (.int .i64) (.pair (.slice (.int .i64)) .unit)),(.pair (.int .i64) (.pair (.slice (.int .i64)) .unit))]
abbrev rs44:List Ty:=[.bool]

def t44 (x0:Int) (x0':(List Int)) (x1:Int) (x1':(List Int)):Tr (Tys.data rs44) :=
  Tr.test ((eqF x0 x1:Bool))
    (Tr.test (Option.isSome (f23 (x0',(x1',()))))
      (let r0:Bool×PUnit:=g23 (x0',(x1',()));
      Tr.fin ((r0.1,())))
      (Tr.stop))
    (Tr.fin ((false,())))

def f44 (d:Tys.data as44):Option (Tys.data rs44):=(t44 d.1.1 d.1.2.1 d.2.1.1 d.2.1.2.1).val
def g44 (d:Tys.data as44):Tys.data rs44:=(f44 d).getD (Tys.dflt rs44)
def p44:PureC:=pcOf as44 rs44 f44 g44

theorem e44_0 (x0:Int) (x0':(List Int)) (x1:Int) (x1':(List Int)):runPure kf23.orc Go.Proofs.Try.prog 400 44 as44 rs44 ((x0,x0',()),(x1,x1',()),()) [tt,tt,tt,tt,tt,tt,tt] =
    (let r0:Bool×PUnit:=g23 (x0',(x1',())); some ((r0.1,()),[(eqF x0 x1,true),(Option.isSome (f23 (x0',(x1',()))),true),(eqF x0 x1,true),(eqF x0 x1,true),(eqF x0 x1,true),(eqF x0 x1,true),(eqF x0 x1,true)])):=by kernel_rfl
theorem e44_1 (x0:Int) (x0':(List Int)) (x1:Int) (x1':(List Int)):runPure kf23.orc Go.Proofs.Try.prog 400 44 as44 rs44 ((x0,x0',()),(x1,x1',()),()) [ff,ff,ff,ff,ff,ff] =
    (some ((false,()),[(eqF x0 x1,false),(eqF x0 x1,false),(eqF x0 x1,false),(eqF x0 x1,false),(eqF x0 x1,false),(eqF x0 x1,false)])):=by kernel_rfl

theorem ok44_t (x0:Int) (x0':(List Int)) (x1:Int) (x1':(List Int)):TrOk (PureRuns Go.Proofs.Try.prog kf23.orc 44 as44 rs44 ((x0,x0',()),(x1,x1',()),())) (t44 x0 x0' x1 x1') :=
  TrOk.ofTest (fun h0=>TrOk.ofTest (fun h5=>TrOk.ofFin (PureRuns.of (e44_0 x0 x0' x1 x1') (ac h0 (ac h5 (ac h0 (ac h0 (ac h0 (ac h0 (ac h0 All.nil))))))))) (fun h5=>TrOk.ofStop)) (fun h0=>TrOk.ofFin (PureRuns.of (e44_1 x0 x0' x1 x1') (ac h0 (ac h0 (ac h0 (ac h0 (ac h0 (ac h0 All.nil))))))))

theorem ok44:PureOk Go.Proofs.Try.prog 44 p44:=pureOk_of kf23_ok.base (T:=fun (d:Tys.data as44)=>t44 d.1.1 d.1.2.1 d.2.1.1 d.2.1.2.1) (by kernel_rfl) (fun (d:Tys.data as44)=>ok44_t d.1.1 d.1.2.1 d.2.1.1 d.2.1.2.1)
def kf44:Known:=kf23.func 44 p44
theorem kf44_ok:KnownOk Go.Proofs.Try.prog kf44:=kf23_ok.func ok44

/-! loop 0 of ductility/ductilityref02.End -/

abbrev sh26_0:Sh:={ n:=33,slots:=[0,2,3,4],pats:=[.ty (.slice (.int .i64)),.ptr 0 2 0,.ptr 1 2 0,.ty (.int .i64)],boxes:=[.row [.ty (.int .i64),.ty (.int .i64)],.row [.ty (.int .i64),.ty (.int .i64)]] }
abbrev shb26_0:Sh:={ n:=33,slots:=[2,3],pats:=[.ptr 0 2 0,.ptr 1 2 0],boxes:=[.row [.ty (.int .i64),.ty (.int .i64)],.row [.ty (.int .i64),.ty (.int .i64)]] }
abbrev shr26_0:Sh:={ n:=33,slots:=[],pats:=[],boxes:=[.row [.ty (.int .i64),.ty (.int .i64)],.row [.ty (.int .i64),.ty (.int .i64)]] }

def t26_0 (x0:(List Int)) (x3:Int) (b0_0:Int) (b0_1:Int) (b1_0:Int) (b1_1:Int):Tr (Out sh26_0.data shb26_0.data shr26_0.data) :=
  Tr.test ((!leF (↑(List.length x0):Int) x3:Bool))
    (Tr.test (decide ((0:Int) ≤ x3) && decide (x3 < (↑(List.length x0):Int)))
      (Tr.fin (.again ((x0,((wrap64 (x3 + (1:Int)):Int),())),((b0_0,(b0_1,())),(((wrap64 (b1_0 + List.getD x0 (Int.toNat x3) (0:Int)):Int),((wrap64 (b1_1 + wrap64 (wrap64 ((↑(List.length x0):Int) - x3) * List.getD x0 (Int.toNat x3) (0:Int))):Int),())),())))))
      (Tr.stop))
    (Tr.fin (.brk ((),((b0_0,(b0_1,())),((b1_0,(b1_1,())),())))))

def s26_0 (d:sh26_0.data):Option (Out sh26_0.data shb26_0.data shr26_0.data):=(t26_0 d.1.1 d.1.2.1 d.2.1.1 d.2.1.2.1 d.2.2.1.1 d.2.2.1.2.1).val
def l26_0 (d:sh26_0.data):Option (shb26_0.data ⊕ shr26_0.data):=itr s26_0 rounds d
def b26_0 (d:sh26_0.data):shb26_0.data:=outB shb26_0.dflt (l26_0 d)
def lc26_0:LoopC:=lcB sh26_0 shb26_0 shr26_0 l26_0 b26_0

theorem e26_0_0 (x0:(List Int)) (x3:Int) (b0_0:Int) (b0_1:Int) (b1_0:Int) (b1_1:Int):runBody kf44.orc Go.Proofs.Try.prog 400 26 0 sh26_0 shb26_0 shr26_0 ((x0,x3,()),(b0_0,b0_1,()),(b1_0,b1_1,()),()) [tt,tt,tt] =
    (some (.again ((x0,((wrap64 (x3 + (1:Int)):Int),())),((b0_0,(b0_1,())),(((wrap64 (b1_0 + List.getD x0 (Int.toNat x3) (0:Int)):Int),((wrap64 (b1_1 + wrap64 (wrap64 ((↑(List.length x0):Int) - x3) * List.getD x0 (Int.toNat x3) (0:Int))):Int),())),()))),[(decide ((0:Int) ≤ x3) && decide (x3 < (↑(List.length x0):Int)),true),(decide ((0:Int) ≤ x3) && decide (x3 < (↑(List.length x0):Int)),true),(!leF (↑(List.length x0):Int) x3,true)])):=by kernel_rfl
theorem e26_0_2 (x0:(List Int)) (x3:Int) (b0_0:Int) (b0_1:Int) (b1_0:Int) (b1_1:Int):runBody kf44.orc Go.Proofs.Try.prog 400 26 0 sh26_0 shb26_0 shr26_0 ((x0,x3,()),(b0_0,b0_1,()),(b1_0,b1_1,()),()) [ff] =
    (some (.brk ((),((b0_0,(b0_1,())),((b1_0,(b1_1,())),()))),[(!leF (↑(List.length x0):Int) x3,false)])):=by kernel_rfl

theorem ok26_0_t (x0:(List Int)) (x3:Int) (b0_0:Int) (b0_1:Int) (b1_0:Int) (b1_1:Int):TrOk (BodyRuns Go.Proofs.Try.prog kf44.orc 26 0 sh26_0 shb26_0 shr26_0 ((x0,x3,()),(b0_0,b0_1,()),(b1_0,b1_1,()),())) (t26_0 x0 x3 b0_0 b0_1 b1_0 b1_1) :=
  TrOk.ofTest (fun h0=>TrOk.ofTest (fun h1=>TrOk.ofFin (BodyRuns.of (e26_0_0 x0 x3 b0_0 b0_1 b1_0 b1_1) (ac h1 (ac h1 (ac h0 All.nil))))) (fun h1=>TrOk.ofStop)) (fun h0=>TrOk.ofFin (BodyRuns.of (e26_0_2 x0 x3 b0_0 b0_1 b1_0 b1_1) (ac h0 All.nil)))

theorem ok26_0:LoopOk Go.Proofs.Try.prog 26 0 lc26_0:=loopOk_ofB kf44_ok.base (T:=fun (d:sh26_0.data)=>t26_0 d.1.1 d.1.2.1 d.2.1.1 d.2.1.2.1 d.2.2.1.1 d.2.2.1.2.1) (by kernel_rfl) rfl (fun (d:sh26_0.data)=>ok26_0_t d.1.1 d.1.2.1 d.2.1.1 d.2.1.2.1 d.2.2.1.1 d.2.2.1.2.1) (fun _=>rfl)
def kl26_0:Known:=kf44.loop 26 0 lc26_0
theorem kl26_0_ok:KnownOk Go.Proofs.Try.prog kl26_0:=kf44_ok.loop ok26_0

/-! ductility/ductilityref02.End -/

abbrev as26:List Ty:=[(.slice (.int .i64))]
abbrev rs26:List Ty:=[(.pair (.int .i64) (.pair (.int .i64) .unit))]

def t26 (x0:(List Int)):Tr (Tys.data rs26) :=
  Tr.test (isBrk (l26_0 ((x0,((0:Int),())),(((0:Int),((0:Int),())),(((0:Int),((0:Int),())),())))))
    (let r0:PUnit×(Int×Int×PUnit)×(Int×Int×PUnit)×PUnit:=b26_0 ((x0,((0:Int),())),(((0:Int),((0:Int),())),(((0:Int),((0:Int),())),())));
    Tr.fin (((r0.2.2.1.1,(r0.2.2.1.2.1,())),())))
    (Tr.stop)

def f26 (d:Tys.data as26):Option (Tys.data rs26):=(t26 d.1).val
def g26 (d:Tys.data as26):Tys.data rs26:=(f26 d).getD (Tys.dflt rs26)
def p26:PureC:=pcOf as26 rs26 f26 g26

theorem e26_0 (x0:(List Int)):runPure kl26_0.orc Go.Proofs.Try.prog 400 26 as26 rs26 (x0,()) [tt,tt] =
    (let r0:PUnit×(Int×Int×PUnit)×(Int×Int×PUnit)×PUnit:=b26_0 ((x0,((0:Int),())),(((0:Int),((0:Int),())),(((0:Int),((0:Int),())),()))); some (((r0.2.2.1.1,(r0.2.2.1.2.1,())),()),[(true,true),(isBrk (l26_0 ((x0,((0:Int),())),(((0:Int),((0:Int),())),(((0:Int),((0:Int),())),())))),true)])):=by kernel_rfl

theorem ok26_t (x0:(List Int)):TrOk (PureRuns Go.Proofs.Try.prog kl26_0.orc 26 as26 rs26 (x0,())) (t26 x0) :=
  TrOk.ofTest (fun h0=>TrOk.ofFin (PureRuns.of (e26_0 x0) (ac rfl (ac h0 All.nil)))) (fun h0=>TrOk.ofStop)

theorem ok26:PureOk Go.Proofs.Try.prog 26 p26:=pureOk_of kl26_0_ok.base (T:=fun (d:Tys.data as26)=>t26 d.1) (by kernel_rfl) (fun (d:Tys.data as26)=>ok26_t d.1)
def kf26:Known:=kl26_0.func 26 p26
theorem kf26_ok:KnownOk Go.Proofs.Try.prog kf26:=kl26_0_ok.func ok26

/-! ductility/ductilitybase.Size -/

abbrev as131:List Ty:=[(.int .i64)]
abbrev rs131:List Ty:=[(.int .i64)]

def t131 (x0:Int):Tr (Tys.data rs131) :=
  Tr.fin (((if x0 < Go.IntKind.wrap Go.IntKind.i64 ((0:Int) - x0) then Go.IntKind.wrap Go.IntKind.i64 ((0:Int) - x0) else x0:Int),()))

def f131 (d:Tys.data as131):Option (Tys.data rs131):=(t131 d.1).val
def g131 (d:Tys.data as131):Tys.data rs131:=(f131 d).getD (Tys.dflt rs131)
def p131:PureC:=pcOf as131 rs131 f131 g131

theorem e131_0 (x0:Int):runPure kf26.orc Go.Proofs.Try.prog 400 131 as131 rs131 (x0,()) [] =
    (some (((if x0 < Go.IntKind.wrap Go.IntKind.i64 ((0:Int) - x0) then Go.IntKind.wrap Go.IntKind.i64 ((0:Int) - x0) else x0:Int),()),[])):=by kernel_rfl

theorem ok131_t (x0:Int):TrOk (PureRuns Go.Proofs.Try.prog kf26.orc 131 as131 rs131 (x0,())) (t131 x0) :=
  TrOk.ofFin (PureRuns.of (e131_0 x0) All.nil)

theorem ok131:PureOk Go.Proofs.Try.prog 131 p131:=pureOk_of kf26_ok.base (T:=fun (d:Tys.data as131)=>t131 d.1) (by kernel_rfl) (fun (d:Tys.data as131)=>ok131_t d.1)
def kf131:Known:=kf26.func 131 p131
theorem kf131_ok:KnownOk Go.Proofs.Try.prog kf131:=kf26_ok.func ok131

/-! loop 0 of ductility/ductilitybase.trimmed -/

abbrev sh173_0:Sh:={ n:=21,slots:=[0,3],pats:=[.ty (.slice (.int .i64)),.ty (.int .i64)],boxes:=[] }
abbrev shb173_0:Sh:={ n:=21,slots:=[0,3],pats:=[.ty (.slice (.int .i64)),.ty (.int .i64)],boxes:=[] }
abbrev shr173_0:Sh:={ n:=21,slots:=[],pats:=[],boxes:=[] }

def t173_0 (x0:(List Int)) (x1:Int):Tr (Out sh173_0.data shb173_0.data shr173_0.data) :=
  Tr.test ((!leF x1 0:Bool))
    (Tr.test (decide ((0:Int) ≤ wrap64 (x1 - (1:Int))) && decide (wrap64 (x1 - (1:Int)) < (↑(List.length x0):Int)))
      (Tr.test ((eqF (List.getD x0 (Int.toNat (wrap64 (x1 - (1:Int)))) (0:Int)) (0:Int):Bool))
        (Tr.fin (.again ((x0,((wrap64 (x1 - (1:Int)):Int),())),())))
        (Tr.fin (.brk ((x0,(x1,())),()))))
      (Tr.stop))
    (Tr.fin (.brk ((x0,(x1,())),())))

def s173_0 (d:sh173_0.data):Option (Out sh173_0.data shb173_0.data shr173_0.data):=(t173_0 d.1.1 d.1.2.1).val
def l173_0 (d:sh173_0.data):Option (shb173_0.data ⊕ shr173_0.data):=itr s173_0 rounds d
def b173_0 (d:sh173_0.data):shb173_0.data:=outB shb173_0.dflt (l173_0 d)
def lc173_0:LoopC:=lcB sh173_0 shb173_0 shr173_0 l173_0 b173_0

theorem e173_0_0 (x0:(List Int)) (x1:Int):runBody kf131.orc Go.Proofs.Try.prog 400 173 0 sh173_0 shb173_0 shr173_0 ((x0,x1,()),()) [tt,tt,tt,tt,tt,tt,tt,tt,tt] =
    (some (.again ((x0,((wrap64 (x1 - (1:Int)):Int),())),()),[(eqF (List.getD x0 (Int.toNat (wrap64 (x1 - (1:Int)))) (0:Int)) (0:Int),true),(!leF x1 0,true),(!leF x1 0,true),(!leF x1 0,true),(decide ((0:Int) ≤ wrap64 (x1 - (1:Int))) && decide (wrap64 (x1 - (1:Int)) < (↑(List.length x0):Int)),true),(!leF x1 0,true),(!leF x1 0,true),(!leF x1 0,true),(!leF x1 0,true)])):=by kernel_rfl
theorem e173_0_1 (x0:(List Int)) (x1:Int):runBody kf131.orc Go.Proofs.Try.prog 400 173 0 sh173_0 shb173_0 shr173_0 ((x0,x1,()),()) [tt,tt,tt,tt,tt,tt,tt,tt,ff] =
    (some (.brk ((x0,(x1,())),()),[(eqF (List.getD x0 (Int.toNat (wrap64 (x1 - (1:Int)))) (0:Int)) (0:Int),false),(!leF x1 0,true),(!leF x1 0,true),(!leF x1 0,true),(decide ((0:Int) ≤ wrap64 (x1 - (1:Int))) && decide (wrap64 (x1 - (1:Int)) < (↑(List.length x0):Int)),true),(!leF x1 0,true),(!leF x1 0,true),(!leF x1 0,true),(!leF x1 0,true)])):=by kernel_rfl
theorem e173_0_3 (x0:(List Int)) (x1:Int):runBody kf131.orc Go.Proofs.Try.prog 400 173 0 sh173_0 shb173_0 shr173_0 ((x0,x1,()),()) [ff,ff,ff,ff,ff,ff,ff,ff] =
    (some (.brk ((x0,(x1,())),()),[(false,false),(!leF x1 0,false),(!leF x1 0,false),(!leF x1 0,false),(!leF x1 0,false),(!leF x1 0,false),(!leF x1 0,false),(!leF x1 0,false)])):=by kernel_rfl

theorem ok173_0_t (x0:(List Int)) (x1:Int):TrOk (BodyRuns Go.Proofs.Try.prog kf131.orc 173 0 sh173_0 shb173_0 shr173_0 ((x0,x1,()),())) (t173_0 x0 x1) :=
  TrOk.ofTest (fun h0=>TrOk.ofTest (fun h4=>TrOk.ofTest (fun h8=>TrOk.ofFin (BodyRuns.of (e173_0_0 x0 x1) (ac h8 (ac (nn h0) (ac (nn h0) (ac (nn h0) (ac h4 (ac (nn h0) (ac (nn h0) (ac (nn h0) (ac h0 All.nil))))))))))) (fun h8=>TrOk.ofFin (BodyRuns.of (e173_0_1 x0 x1) (ac h8 (ac (nn h0) (ac (nn h0) (ac (nn h0) (ac h4 (ac (nn h0) (ac (nn h0) (ac (nn h0) (ac h0 All.nil)))))))))))) (fun h4=>TrOk.ofStop)) (fun h0=>TrOk.ofFin (BodyRuns.of (e173_0_3 x0 x1) (ac rfl (ac (nn h0) (ac (nn h0) (ac (nn h0) (ac (nn h0) (ac (nn h0) (ac (nn h0) (ac h0 All.nil))))))))))

theorem ok173_0:LoopOk Go.Proofs.Try.prog 173 0 lc173_0:=loopOk_ofB kf131_ok.base (T:=fun (d:sh173_0.data)=>t173_0 d.1.1 d.1.2.1) (by kernel_rfl) rfl (fun (d:sh173_0.data)=>ok173_0_t d.1.1 d.1.2.1) (fun _=>rfl)
def kl173_0:Known:=kf131.loop 173 0 lc173_0
theorem kl173_0_ok:KnownOk Go.Proofs.Try.prog kl173_0:=kf131_ok.loop ok173_0

/-! ductility/ductilitybase.trimmed -/

abbrev as173:List Ty:=[(.slice (.int .i64))]
abbrev rs173:List Ty:=[(.slice (.int .i64))]

def t173 (x0:(List Int)):Tr (Tys.data rs173) :=
  Tr.test (isBrk (l173_0 ((x0,((↑(List.length x0):Int),())),())))
    (let r0:(List Int×Int×PUnit)×PUnit:=b173_0 ((x0,((↑(List.length x0):Int),())),());
    Tr.test ((decide ((0:Int) ≤ r0.1.2.1) && decide (r0.1.2.1 ≤ (↑(List.length r0.1.1):Int)):Bool))
      (Tr.fin (((List.take (Int.toNat r0.1.2.1) r0.1.1:List Int),())))
      (Tr.stop))
    (Tr.stop)

def f173 (d:Tys.data as173):Option (Tys.data rs173):=(t173 d.1).val
def g173 (d:Tys.data as173):Tys.data rs173:=(f173 d).getD (Tys.dflt rs173)
def p173:PureC:=pcOf as173 rs173 f173 g173

theorem e173_0 (x0:(List Int)):runPure kl173_0.orc Go.Proofs.Try.prog 400 173 as173 rs173 (x0,()) [tt,tt,tt] =
    (let r0:(List Int×Int×PUnit)×PUnit:=b173_0 ((x0,((↑(List.length x0):Int),())),()); some (((List.take (Int.toNat r0.1.2.1) r0.1.1:List Int),()),[(decide ((0:Int) ≤ r0.1.2.1) && decide (r0.1.2.1 ≤ (↑(List.length r0.1.1):Int)),true),(true,true),(isBrk (l173_0 ((x0,((↑(List.length x0):Int),())),())),true)])):=by kernel_rfl

theorem ok173_t (x0:(List Int)):TrOk (PureRuns Go.Proofs.Try.prog kl173_0.orc 173 as173 rs173 (x0,())) (t173 x0) :=
  TrOk.ofTest (fun h0=>TrOk.ofTest (fun h2=>TrOk.ofFin (PureRuns.of (e173_0 x0) (ac h2 (ac rfl (ac h0 All.nil))))) (fun h2=>TrOk.ofStop)) (fun h0=>TrOk.ofStop)

theorem ok173:PureOk Go.Proofs.Try.prog 173 p173:=pureOk_of kl173_0_ok.base (T:=fun (d:Tys.data as173)=>t173 d.1) (by kernel_rfl) (fun (d:Tys.data as173)=>ok173_t d.1)
def kf173:Known:=kl173_0.func 173 p173
theorem kf173_ok:KnownOk Go.Proofs.Try.prog kf173:=kl173_0_ok.func ok173

/-! ductility/ductilitybase.wideOf -/

abbrev as149:List Ty:=[(.int .i64),(.slice (.int .i64))]
abbrev rs149:List Ty:=[(.pair (.int .i64) (.pair (.slice (.int .i64)) .unit))]

def t149 (x0:Int) (x1:(List Int)):Tr (Tys.data rs149) :=
  Tr.test (Option.isSome (f173 (x1,())))
    (let r0:List Int×PUnit:=g173 (x1,());
    Tr.test ((eqF (↑(List.length r0.1):Int) (0:Int):Bool))
      (Tr.fin ((((0:Int),(r0.1,())),())))
      (Tr.fin (((x0,(r0.1,())),()))))
    (Tr.stop)

def f149 (d:Tys.data as149):Option (Tys.data rs149):=(t149 d.1 d.2.1).val
def g149 (d:Tys.data as149):Tys.data rs149:=(f149 d).getD (Tys.dflt rs149)
def p149:PureC:=pcOf as149 rs149 f149 g149

theorem e149_0 (x0:Int) (x1:(List Int)):runPure kf173.orc Go.Proofs.Try.prog 400 149 as149 rs149 (x0,x1,()) [tt,tt] =
    (let r0:List Int×PUnit:=g173 (x1,()); some ((((0:Int),(r0.1,())),()),[(eqF (↑(List.length r0.1):Int) (0:Int),true),(Option.isSome (f173 (x1,())),true)])):=by kernel_rfl
theorem e149_1 (x0:Int) (x1:(List Int)):runPure kf173.orc Go.Proofs.Try.prog 400 149 as149 rs149 (x0,x1,()) [tt,ff] =
    (let r0:List Int×PUnit:=g173 (x1,()); some (((x0,(r0.1,())),()),[(eqF (↑(List.length r0.1):Int) (0:Int),false),(Option.isSome (f173 (x1,())),true)])):=by kernel_rfl

theorem ok149_t (x0:Int) (x1:(List Int)):TrOk (PureRuns Go.Proofs.Try.prog kf173.orc 149 as149 rs149 (x0,x1,())) (t149 x0 x1) :=
  TrOk.ofTest (fun h0=>TrOk.ofTest (fun h1=>TrOk.ofFin (PureRuns.of (e149_0 x0 x1) (ac h1 (ac h0 All.nil)))) (fun h1=>TrOk.ofFin (PureRuns.of (e149_1 x0 x1) (ac h1 (ac h0 All.nil))))) (fun h0=>TrOk.ofStop)

theorem ok149:PureOk Go.Proofs.Try.prog 149 p149:=pureOk_of kf173_ok.base (T:=fun (d:Tys.data as149)=>t149 d.1 d.2.1) (by kernel_rfl) (fun (d:Tys.data as149)=>ok149_t d.1 d.2.1)
def kf149:Known:=kf173.func 149 p149
theorem kf149_ok:KnownOk Go.Proofs.Try.prog kf149:=kf173_ok.func ok149

/-! loop 0 of ductility/ductilitybase.WideOf -/

abbrev sh113_0:Sh:={ n:=20,slots:=[0,2,3,4],pats:=[.ty (.int .i64),.ptr 0 2 0,.ty (.int .i64),.acc (.int .i64)],boxes:=[.row [.ty (.int .i64),.nil]] }
abbrev shb113_0:Sh:={ n:=20,slots:=[2,3,4],pats:=[.ptr 0 2 0,.ty (.int .i64),.acc (.int .i64)],boxes:=[.row [.ty (.int .i64),.nil]] }
abbrev shr113_0:Sh:={ n:=20,slots:=[],pats:=[],boxes:=[.row [.ty (.int .i64),.nil]] }

def t113_0 (x0:Int) (x2:Int) (x3:(List Int)) (b0_0:Int):Tr (Out sh113_0.data shb113_0.data shr113_0.data) :=
  Tr.test ((!eqF x0 0:Bool))
    (Tr.test (Option.isSome (f131 ((Int.tmod x0 (1000000000:Int):Int),())))
      (Tr.test ((Nat.ble (((2:Nat) * (List.length x3 + (1:Nat)) + (192:Nat)) * (8:Nat)) (281474976710656:Nat) && Nat.ble (List.length x3 + (1:Nat)) (281474976710656:Nat):Bool))
        (let r0:Int×PUnit:=g131 ((Int.tmod x0 (1000000000:Int):Int),());
        Tr.fin (.again (((Go.IntKind.wrap Go.IntKind.i64 (Int.tdiv x0 (1000000000:Int)):Int),(x2,((x3++[r0.1]:List Int),()))),((b0_0,()),()))))
        (Tr.stop))
      (Tr.stop))
    (Tr.fin (.brk ((x2,(x3,())),((b0_0,()),()))))

def s113_0 (d:sh113_0.data):Option (Out sh113_0.data shb113_0.data shr113_0.data):=(t113_0 d.1.1 d.1.2.1 d.1.2.2.1 d.2.1.1).val
def l113_0 (d:sh113_0.data):Option (shb113_0.data ⊕ shr113_0.data):=itr s113_0 rounds d
def b113_0 (d:sh113_0.data):shb113_0.data:=outB shb113_0.dflt (l113_0 d)
def lc113_0:LoopC:=lcB sh113_0 shb113_0 shr113_0 l113_0 b113_0

theorem e113_0_0 (x0:Int) (x2:Int) (x3:(List Int)) (b0_0:Int):runBody kf149.orc Go.Proofs.Try.prog 400 113 0 sh113_0 shb113_0 shr113_0 ((x0,x2,x3,()),(b0_0,()),()) [tt,ff,tt,ff,tt,tt,ff] =
    (let r0:Int×PUnit:=g131 ((Int.tmod x0 (1000000000:Int):Int),()); some (.again (((Go.IntKind.wrap Go.IntKind.i64 (Int.tdiv x0 (1000000000:Int)):Int),(x2,((x3++[r0.1]:List Int),()))),((b0_0,()),())),[(false,false),(true,true),(Nat.ble (((2:Nat) * (List.length x3 + (1:Nat)) + (192:Nat)) * (8:Nat)) (281474976710656:Nat) && Nat.ble (List.length x3 + (1:Nat)) (281474976710656:Nat),true),(false,false),(Option.isSome (f131 ((Int.tmod x0 (1000000000:Int):Int),())),true),(false,false),(!eqF x0 0,true)])):=by kernel_rfl
theorem e113_0_2 (x0:Int) (x2:Int) (x3:(List Int)) (b0_0:Int):runBody kf149.orc Go.Proofs.Try.prog 400 113 0 sh113_0 shb113_0 shr113_0 ((x0,x2,x3,()),(b0_0,()),()) [ff] =
    (some (.brk ((x2,(x3,())),((b0_0,()),())),[(!eqF x0 0,false)])):=by kernel_rfl

theorem ok113_0_t (x0:Int) (x2:Int) (x3:(List Int)) (b0_0:Int):TrOk (BodyRuns Go.Proofs.Try.prog kf149.orc 113 0 sh113_0 shb113_0 shr113_0 ((x0,x2,x3,()),(b0_0,()),())) (t113_0 x0 x2 x3 b0_0) :=
  TrOk.ofTest (fun h0=>TrOk.ofTest (fun h2=>TrOk.ofTest (fun h4=>TrOk.ofFin (BodyRuns.of (e113_0_0 x0 x2 x3 b0_0) (ac rfl (ac rfl (ac h4 (ac rfl (ac h2 (ac rfl (ac h0 All.nil))))))))) (fun h4=>TrOk.ofStop)) (fun h2=>TrOk.ofStop)) (fun h0=>TrOk.ofFin (BodyRuns.of (e113_0_2 x0 x2 x3 b0_0) (ac h0 All.nil)))

theorem ok113_0:LoopOk Go.Proofs.Try.prog 113 0 lc113_0:=loopOk_ofB kf149_ok.base (T:=fun (d:sh113_0.data)=>t113_0 d.1.1 d.1.2.1 d.1.2.2.1 d.2.1.1) (by kernel_rfl) rfl (fun (d:sh113_0.data)=>ok113_0_t d.1.1 d.1.2.1 d.1.2.2.1 d.2.1.1) (fun _=>rfl)
def kl113_0:Known:=kf149.loop 113 0 lc113_0
theorem kl113_0_ok:KnownOk Go.Proofs.Try.prog kl113_0:=kf149_ok.loop ok113_0

/-! ductility/ductilitybase.WideOf -/

abbrev as113:List Ty:=[(.int .i64)]
abbrev rs113:List Ty:=[(.pair (.int .i64) (.pair (.slice (.int .i64)) .unit))]

def t113 (x0:Int):Tr (Tys.data rs113) :=
  Tr.test ((!leF (0:Int) x0:Bool))
    (Tr.test (isBrk (l113_0 ((x0,((-1:Int),(([]:List Int),()))),(((0:Int),()),()))))
      (let r0:(Int×List Int×PUnit)×(Int×PUnit)×PUnit:=b113_0 ((x0,((-1:Int),(([]:List Int),()))),(((0:Int),()),()));
      Tr.test (Option.isSome (f149 (r0.1.1,(r0.1.2.1,()))))
        (let r1:(Int×List Int×PUnit)×PUnit:=g149 (r0.1.1,(r0.1.2.1,()));
        Tr.fin (((r1.1.1,(r1.1.2.1,())),())))
        (Tr.stop))
      (Tr.stop))
    (Tr.test (isBrk (l113_0 ((x0,((1:Int),(([]:List Int),()))),(((0:Int),()),()))))
      (let r2:(Int×List Int×PUnit)×(Int×PUnit)×PUnit:=b113_0 ((x0,((1:Int),(([]:List Int),()))),(((0:Int),()),()));
      Tr.test (Option.isSome (f149 (r2.1.1,(r2.1.2.1,()))))
        (let r3:(Int×List Int×PUnit)×PUnit:=g149 (r2.1.1,(r2.1.2.1,()));
        Tr.fin (((r3.1.1,(r3.1.2.1,())),())))
        (Tr.stop))
      (Tr.stop))

def f113 (d:Tys.data as113):Option (Tys.data rs113):=(t113 d.1).val
def g113 (d:Tys.data as113):Tys.data rs113:=(f113 d).getD (Tys.dflt rs113)
def p113:PureC:=pcOf as113 rs113 f113 g113

theorem e113_0 (x0:Int):runPure kl113_0.orc Go.Proofs.Try.prog 400 113 as113 rs113 (x0,()) [tt,tt,tt,tt] =
    (let r0:(Int×List Int×PUnit)×(Int×PUnit)×PUnit:=b113_0 ((x0,((-1:Int),(([]:List Int),()))),(((0:Int),()),()));let r1:(Int×List Int×PUnit)×PUnit:=g149 (r0.1.1,(r0.1.2.1,())); some (((r1.1.1,(r1.1.2.1,())),()),[(Option.isSome (f149 (r0.1.1,(r0.1.2.1,()))),true),(true,true),(isBrk (l113_0 ((x0,((-1:Int),(([]:List Int),()))),(((0:Int),()),()))),true),(!leF (0:Int) x0,true)])):=by kernel_rfl
theorem e113_1 (x0:Int):runPure kl113_0.orc Go.Proofs.Try.prog 400 113 as113 rs113 (x0,()) [ff,tt,tt,tt] =
    (let r2:(Int×List Int×PUnit)×(Int×PUnit)×PUnit:=b113_0 ((x0,((1:Int),(([]:List Int),()))),(((0:Int),()),()));let r3:(Int×List Int×PUnit)×PUnit:=g149 (r2.1.1,(r2.1.2.1,())); some (((r3.1.1,(r3.1.2.1,())),()),[(Option.isSome (f149 (r2.1.1,(r2.1.2.1,()))),true),(true,true),(isBrk (l113_0 ((x0,((1:Int),(([]:List Int),()))),(((0:Int),()),()))),true),(!leF (0:Int) x0,false)])):=by kernel_rfl

theorem ok113_t (x0:Int):TrOk (PureRuns Go.Proofs.Try.prog kl113_0.orc 113 as113 rs113 (x0,())) (t113 x0) :=
  TrOk.ofTest (fun h0=>TrOk.ofTest (fun h1=>TrOk.ofTest (fun h3=>TrOk.ofFin (PureRuns.of (e113_0 x0) (ac h3 (ac rfl (ac h1 (ac h0 All.nil)))))) (fun h3=>TrOk.ofStop)) (fun h1=>TrOk.ofStop)) (fun h0=>TrOk.ofTest (fun h1=>TrOk.ofTest (fun h3=>TrOk.ofFin (PureRuns.of (e113_1 x0) (ac h3 (ac rfl (ac h1 (ac h0 All.nil)))))) (fun h3=>TrOk.ofStop)) (fun h1=>TrOk.ofStop))

theorem ok113:PureOk Go.Proofs.Try.prog 113 p113:=pureOk_of kl113_0_ok.base (T:=fun (d:Tys.data as113)=>t113 d.1) (by kernel_rfl) (fun (d:Tys.data as113)=>ok113_t d.1)
def kf113:Known:=kl113_0.func 113 p113
theorem kf113_ok:KnownOk Go.Proofs.Try.prog kf113:=kl113_0_ok.func ok113

/-! ductility/ductilitybase.RatioInt -/

abbrev as48:List Ty:=[(.int .i64)]
abbrev rs48:List Ty:=[(.pair (.pair (.int .i64) (.pair (.slice (.int .i64)) .unit)) (.pair (.pair (.int .i64) (.pair (.slice (.int .i64)) .unit)) .unit))]

def t48 (x0:Int):Tr (Tys.data rs48) :=
  Tr.test (Option.isSome (f113 (x0,())))
    (Tr.test (Option.isSome (f113 ((1:Int),())))
      (let r0:(Int×List Int×PUnit)×PUnit:=g113 (x0,());
      let r1:(Int×List Int×PUnit)×PUnit:=g113 ((1:Int),());
      Tr.fin ((((r0.1.1,(r0.1.2.1,())),((r1.1.1,(r1.1.2.1,())),())),())))
      (Tr.stop))
    (Tr.stop)

def f48 (d:Tys.data as48):Option (Tys.data rs48):=(t48 d.1).val
def g48 (d:Tys.data as48):Tys.data rs48:=(f48 d).getD (Tys.dflt rs48)
def p48:PureC:=pcOf as48 rs48 f48 g48

theorem e48_0 (x0:Int):runPure kf113.orc Go.Proofs.Try.prog 400 48 as48 rs48 (x0,()) [tt,tt] =
    (let r0:(Int×List Int×PUnit)×PUnit:=g113 (x0,());let r1:(Int×List Int×PUnit)×PUnit:=g113 ((1:Int),()); some ((((r0.1.1,(r0.1.2.1,())),((r1.1.1,(r1.1.2.1,())),())),()),[(Option.isSome (f113 ((1:Int),())),true),(Option.isSome (f113 (x0,())),true)])):=by kernel_rfl

theorem ok48_t (x0:Int):TrOk (PureRuns Go.Proofs.Try.prog kf113.orc 48 as48 rs48 (x0,())) (t48 x0) :=
  TrOk.ofTest (fun h0=>TrOk.ofTest (fun h1=>TrOk.ofFin (PureRuns.of (e48_0 x0) (ac h1 (ac h0 All.nil)))) (fun h1=>TrOk.ofStop)) (fun h0=>TrOk.ofStop)

theorem ok48:PureOk Go.Proofs.Try.prog 48 p48:=pureOk_of kf113_ok.base (T:=fun (d:Tys.data as48)=>t48 d.1) (by kernel_rfl) (fun (d:Tys.data as48)=>ok48_t d.1)
def kf48:Known:=kf113.func 48 p48
theorem kf48_ok:KnownOk Go.Proofs.Try.prog kf48:=kf113_ok.func ok48

/-! ductility/ductilitybase.WideSign -/

abbrev as151:List Ty:=[(.pair (.int .i64) (.pair (.slice (.int .i64)) .unit))]
abbrev rs151:List Ty:=[(.int .i64)]

def t151 (x0:Int) (x0':(List Int)):Tr (Tys.data rs151) :=
  Tr.fin ((x0,()))

def f151 (d:Tys.data as151):Option (Tys.data rs151):=(t151 d.1.1 d.1.2.1).val
def g151 (d:Tys.data as151):Tys.data rs151:=(f151 d).getD (Tys.dflt rs151)
def p151:PureC:=pcOf as151 rs151 f151 g151

theorem e151_0 (x0:Int) (x0':(List Int)):runPure kf48.orc Go.Proofs.Try.prog 400 151 as151 rs151 ((x0,x0',()),()) [] =
    (some ((x0,()),[])):=by kernel_rfl

theorem ok151_t (x0:Int) (x0':(List Int)):TrOk (PureRuns Go.Proofs.Try.prog kf48.orc 151 as151 rs151 ((x0,x0',()),())) (t151 x0 x0') :=
  TrOk.ofFin (PureRuns.of (e151_0 x0 x0') All.nil)

theorem ok151:PureOk Go.Proofs.Try.prog 151 p151:=pureOk_of kf48_ok.base (T:=fun (d:Tys.data as151)=>t151 d.1.1 d.1.2.1) (by kernel_rfl) (fun (d:Tys.data as151)=>ok151_t d.1.1 d.1.2.1)
def kf151:Known:=kf48.func 151 p151
theorem kf151_ok:KnownOk Go.Proofs.Try.prog kf151:=kf48_ok.func ok151

/-! ductility/ductilitybase.RatioSign -/

abbrev as171:List Ty:=[(.pair (.pair (.int .i64) (.pair (.slice (.int .i64)) .unit)) (.pair (.pair (.int .i64) (.pair (.slice (.int .i64)) .unit)) .unit))]
abbrev rs171:List Ty:=[(.int .i64)]

def t171 (x0_:Int) (x0_':(List Int)) (x0'_:Int) (x0'_':(List Int)):Tr (Tys.data rs171) :=
  Tr.test (Option.isSome (f151 ((x0_,(x0_',())),())))
    (let r0:Int×PUnit:=g151 ((x0_,(x0_',())),());
    Tr.fin ((r0.1,())))
    (Tr.stop)

def f171 (d:Tys.data as171):Option (Tys.data rs171):=(t171 d.1.1.1 d.1.1.2.1 d.1.2.1.1 d.1.2.1.2.1).val
def g171 (d:Tys.data as171):Tys.data rs171:=(f171 d).getD (Tys.dflt rs171)
def p171:PureC:=pcOf as171 rs171 f171 g171

theorem e171_0 (x0_:Int) (x0_':(List Int)) (x0'_:Int) (x0'_':(List Int)):runPure kf151.orc Go.Proofs.Try.prog 400 171 as171 rs171 (((x0_,x0_',()),(x0'_,x0'_',()),()),()) [tt] =
    (let r0:Int×PUnit:=g151 ((x0_,(x0_',())),()); some ((r0.1,()),[(Option.isSome (f151 ((x0_,(x0_',())),())),true)])):=by kernel_rfl

theorem ok171_t (x0_:Int) (x0_':(List Int)) (x0'_:Int) (x0'_':(List Int)):TrOk (PureRuns Go.Proofs.Try.prog kf151.orc 171 as171 rs171 (((x0_,x0_',()),(x0'_,x0'_',()),()),())) (t171 x0_ x0_' x0'_ x0'_') :=
  TrOk.ofTest (fun h0=>TrOk.ofFin (PureRuns.of (e171_0 x0_ x0_' x0'_ x0'_') (ac h0 All.nil))) (fun h0=>TrOk.ofStop)

theorem ok171:PureOk Go.Proofs.Try.prog 171 p171:=pureOk_of kf151_ok.base (T:=fun (d:Tys.data as171)=>t171 d.1.1.1 d.1.1.2.1 d.1.2.1.1 d.1.2.1.2.1) (by kernel_rfl) (fun (d:Tys.data as171)=>ok171_t d.1.1.1 d.1.1.2.1 d.1.2.1.1 d.1.2.1.2.1)
def kf171:Known:=kf151.func 171 p171
theorem kf171_ok:KnownOk Go.Proofs.Try.prog kf171:=kf151_ok.func ok171

/-! loop 2 of ductility/ductilitybase.WideMul -/

abbrev sh117_2:Sh:={ n:=86,slots:=[2,3,4,5,6,7,8],pats:=[.ptr 0 2 0,.ptr 1 2 0,.ptr 2 2 0,.sli 3 1,.ty (.int .i64),.ty (.int .i64),.ty (.int .i64)],boxes:=[.row [.ty (.int .i64),.ty (.slice (.int .i64))],.row [.ty (.int .i64),.ty (.slice (.int .i64))],.row [.ty (.int .i64),.nil],.arr (.int .i64)] }
abbrev shb117_2:Sh:={ n:=86,slots:=[2,3,4,5,6,7],pats:=[.ptr 0 2 0,.ptr 1 2 0,.ptr 2 2 0,.sli 3 1,.ty (.int .i64),.ty (.int .i64)],boxes:=[.row [.ty (.int .i64),.ty (.slice (.int .i64))],.row [.ty (.int .i64),.ty (.slice (.int .i64))],.row [.ty (.int .i64),.nil],.arr (.int .i64)] }
abbrev shr117_2:Sh:={ n:=86,slots:=[],pats:=[],boxes:=[.row [.ty (.int .i64),.ty (.slice (.int .i64))],.row [.ty (.int .i64),.ty (.slice (.int .i64))],.row [.ty (.int .i64),.nil],.arr (.int .i64)] }

def t117_2 (x3n:Nat) (x3c:Nat) (x4:Int) (x5:Int) (x6:Int) (b0_0:Int) (b0_1:(List Int)) (b1_0:Int) (b1_1:(List Int)) (b2_0:Int) (b3:(List Int)):Tr (Out sh117_2.data shb117_2.data shr117_2.data) :=
  Tr.test ((!leF (↑(List.length b1_1):Int) x6:Bool))
    (Tr.test (decide ((0:Int) ≤ wrap64 (x4 + x6)) && decide (wrap64 (x4 + x6) < (↑x3n:Int)))
      (Tr.test ((Nat.ble ((0:Nat) + Int.toNat (wrap64 (x4 + x6)) + (1:Nat)) (List.length b3):Bool))
        (Tr.test ((decide ((0:Int) ≤ x4) && decide (x4 < (↑(List.length b0_1):Int)):Bool))
          (Tr.test ((decide ((0:Int) ≤ x6) && decide (x6 < (↑(List.length b1_1):Int)):Bool))
            (Tr.fin (.again (((x3n,x3c),(x4,((Go.IntKind.wrap Go.IntKind.i64 (Int.tdiv (wrap64 (wrap64 (List.getD b3 ((0:Nat) + Int.toNat (wrap64 (x4 + x6))) (0:Int) + wrap64 (List.getD b0_1 (Int.toNat x4) (0:Int) * List.getD b1_1 (Int.toNat x6) (0:Int))) + x5)) (1000000000:Int)):Int),((wrap64 (x6 + (1:Int)):Int),())))),((b0_0,(b0_1,())),((b1_0,(b1_1,())),((b2_0,()),((List.set b3 ((0:Nat) + Int.toNat (wrap64 (x4 + x6))) (Int.tmod (wrap64 (wrap64 (List.getD b3 ((0:Nat) + Int.toNat (wrap64 (x4 + x6))) (0:Int) + wrap64 (List.getD b0_1 (Int.toNat x4) (0:Int) * List.getD b1_1 (Int.toNat x6) (0:Int))) + x5)) (1000000000:Int)):List Int),())))))))
            (Tr.stop))
          (Tr.stop))
        (Tr.stop))
      (Tr.stop))
    (Tr.fin (.brk (((x3n,x3c),(x4,(x5,()))),((b0_0,(b0_1,())),((b1_0,(b1_1,())),((b2_0,()),(b3,())))))))

def s117_2 (d:sh117_2.data):Option (Out sh117_2.data shb117_2.data shr117_2.data):=(t117_2 d.1.1.1 d.1.1.2 d.1.2.1 d.1.2.2.1 d.1.2.2.2.1 d.2.1.1 d.2.1.2.1 d.2.2.1.1 d.2.2.1.2.1 d.2.2.2.1.1 d.2.2.2.2.1).val
def l117_2 (d:sh117_2.data):Option (shb117_2.data ⊕ shr117_2.data):=itr s117_2 rounds d
def b117_2 (d:sh117_2.data):shb117_2.data:=outB shb117_2.dflt (l117_2 d)
def lc117_2:LoopC:=lcB sh117_2 shb117_2 shr117_2 l117_2 b117_2

theorem e117_2_0 (x3n:Nat) (x3c:Nat) (x4:Int) (x5:Int) (x6:Int) (b0_0:Int) (b0_1:(List Int)) (b1_0:Int) (b1_1:(List Int)) (b2_0:Int) (b3:(List Int)):runBody kf171.orc Go.Proofs.Try.prog 400 117 2 sh117_2 shb117_2 shr117_2 (((x3n,x3c),x4,x5,x6,()),(b0_0,b0_1,()),(b1_0,b1_1,()),(b2_0,()),b3,()) [tt,tt,tt,tt,tt,ff,ff,tt,tt] =
    (some (.again (((x3n,x3c),(x4,((Go.IntKind.wrap Go.IntKind.i64 (Int.tdiv (wrap64 (wrap64 (List.getD b3 ((0:Nat) + Int.toNat (wrap64 (x4 + x6))) (0:Int) + wrap64 (List.getD b0_1 (Int.toNat x4) (0:Int) * List.getD b1_1 (Int.toNat x6) (0:Int))) + x5)) (1000000000:Int)):Int),((wrap64 (x6 + (1:Int)):Int),())))),((b0_0,(b0_1,())),((b1_0,(b1_1,())),((b2_0,()),((List.set b3 ((0:Nat) + Int.toNat (wrap64 (x4 + x6))) (Int.tmod (wrap64 (wrap64 (List.getD b3 ((0:Nat) + Int.toNat (wrap64 (x4 + x6))) (0:Int) + wrap64 (List.getD b0_1 (Int.toNat x4) (0:Int) * List.getD b1_1 (Int.toNat x6) (0:Int))) + x5)) (1000000000:Int)):List Int),()))))),[(Nat.ble ((0:Nat) + Int.toNat (wrap64 (x4 + x6)) + (1:Nat)) (List.length b3),true),(decide ((0:Int) ≤ wrap64 (x4 + x6)) && decide (wrap64 (x4 + x6) < (↑x3n:Int)),true),(false,false),(false,false),(decide ((0:Int) ≤ x6) && decide (x6 < (↑(List.length b1_1):Int)),true),(decide ((0:Int) ≤ x4) && decide (x4 < (↑(List.length b0_1):Int)),true),(Nat.ble ((0:Nat) + Int.toNat (wrap64 (x4 + x6)) + (1:Nat)) (List.length b3),true),(decide ((0:Int) ≤ wrap64 (x4 + x6)) && decide (wrap64 (x4 + x6) < (↑x3n:Int)),true),(!leF (↑(List.length b1_1):Int) x6,true)])):=by kernel_rfl
theorem e117_2_5 (x3n:Nat) (x3c:Nat) (x4:Int) (x5:Int) (x6:Int) (b0_0:Int) (b0_1:(List Int)) (b1_0:Int) (b1_1:(List Int)) (b2_0:Int) (b3:(List Int)):runBody kf171.orc Go.Proofs.Try.prog 400 117 2 sh117_2 shb117_2 shr117_2 (((x3n,x3c),x4,x5,x6,()),(b0_0,b0_1,()),(b1_0,b1_1,()),(b2_0,()),b3,()) [ff] =
    (some (.brk (((x3n,x3c),(x4,(x5,()))),((b0_0,(b0_1,())),((b1_0,(b1_1,())),((b2_0,()),(b3,()))))),[(!leF (↑(List.length b1_1):Int) x6,false)])):=by kernel_rfl

theorem ok117_2_t (x3n:Nat) (x3c:Nat) (x4:Int) (x5:Int) (x6:Int) (b0_0:Int) (b0_1:(List Int)) (b1_0:Int) (b1_1:(List Int)) (b2_0:Int) (b3:(List Int)):TrOk (BodyRuns Go.Proofs.Try.prog kf171.orc 117 2 sh117_2 shb117_2 shr117_2 (((x3n,x3c),x4,x5,x6,()),(b0_0,b0_1,()),(b1_0,b1_1,()),(b2_0,()),b3,())) (t117_2 x3n x3c x4 x5 x6 b0_0 b0_1 b1_0 b1_1 b2_0 b3) :=
  TrOk.ofTest (fun h0=>TrOk.ofTest (fun h1=>TrOk.ofTest (fun h2=>TrOk.ofTest (fun h3=>TrOk.ofTest (fun h4=>TrOk.ofFin (BodyRuns.of (e117_2_0 x3n x3c x4 x5 x6 b0_0 b0_1 b1_0 b1_1 b2_0 b3) (ac h2 (ac h1 (ac rfl (ac rfl (ac h4 (ac h3 (ac h2 (ac h1 (ac h0 All.nil))))))))))) (fun h4=>TrOk.ofStop)) (fun h3=>TrOk.ofStop)) (fun h2=>TrOk.ofStop)) (fun h1=>TrOk.ofStop)) (fun h0=>TrOk.ofFin (BodyRuns.of (e117_2_5 x3n x3c x4 x5 x6 b0_0 b0_1 b1_0 b1_1 b2_0 b3) (ac h0 All.nil)))

theorem ok117_2:LoopOk Go.Proofs.Try.prog 117 2 lc117_2:=loopOk_ofB kf171_ok.base (T:=fun (d:sh117_2.data)=>t117_2 d.1.1.1 d.1.1.2 d.1.2.1 d.1.2.2.1 d.1.2.2.2.1 d.2.1.1 d.2.1.2.1 d.2.2.1.1 d.2.2.1.2.1 d.2.2.2.1.1 d.2.2.2.2.1) (by kernel_rfl) rfl (fun (d:sh117_2.data)=>ok117_2_t d.1.1.1 d.1.1.2 d.1.2.1 d.1.2.2.1 d.1.2.2.2.1 d.2.1.1 d.2.1.2.1 d.2.2.1.1 d.2.2.1.2.1 d.2.2.2.1.1 d.2.2.2.2.1) (fun _=>rfl)
def kl117_2:Known:=kf171.loop 117 2 lc117_2
theorem kl117_2_ok:KnownOk Go.Proofs.Try.prog kl117_2:=kf171_ok.loop ok117_2

/-! loop 0 of ductility/ductilitybase.WideMul -/

abbrev sh117_0:Sh:={ n:=86,slots:=[2,3,4,5,6],pats:=[.ptr 0 2 0,.ptr 1 2 0,.ptr 2 2 0,.sli 3 1,.ty (.int .i64)],boxes:=[.row [.ty (.int .i64),.ty (.slice (.int .i64))],.row [.ty (.int .i64),.ty (.slice (.int .i64))],.row [.ty (.int .i64),.nil],.arr (.int .i64)] }
abbrev shb117_0:Sh:={ n:=86,slots:=[2,3,4,5],pats:=[.ptr 0 2 0,.ptr 1 2 0,.ptr 2 2 0,.sli 3 1],boxes:=[.row [.ty (.int .i64),.ty (.slice (.int .i64))],.row [.ty (.int .i64),.ty (.slice (.int .i64))],.row [.ty (.int .i64),.nil],.arr (.int .i64)] }
abbrev shr117_0:Sh:={ n:=86,slots:=[],pats:=[],boxes:=[.row [.ty (.int .i64),.ty (.slice (.int .i64))],.row [.ty (.int .i64),.ty (.slice (.int .i64))],.row [.ty (.int .i64),.nil],.arr (.int .i64)] }

def t117_0 (x3n:Nat) (x3c:Nat) (x4:Int) (b0_0:Int) (b0_1:(List Int)) (b1_0:Int) (b1_1:(List Int)) (b2_0:Int) (b3:(List Int)):Tr (Out sh117_0.data shb117_0.data shr117_0.data) :=
  Tr.test ((!leF (↑(List.length b0_1):Int) x4:Bool))
    (Tr.test (isBrk (l117_2 (((x3n,x3c),(x4,((0:Int),((0:Int),())))),((b0_0,(b0_1,())),((b1_0,(b1_1,())),((b2_0,()),(b3,())))))))
      (let r0:((Nat×Nat)×Int×Int×PUnit)×(Int×List Int×PUnit)×(Int×List Int×PUnit)×(Int×PUnit)×List Int×PUnit:=b117_2 (((x3n,x3c),(x4,((0:Int),((0:Int),())))),((b0_0,(b0_1,())),((b1_0,(b1_1,())),((b2_0,()),(b3,())))));
      Tr.test ((decide ((0:Int) ≤ wrap64 (r0.1.2.1 + (↑(List.length r0.2.2.1.2.1):Int))) && decide (wrap64 (r0.1.2.1 + (↑(List.length r0.2.2.1.2.1):Int)) < (↑r0.1.1.1:Int)):Bool))
        (Tr.test ((Nat.ble ((0:Nat) + Int.toNat (wrap64 (r0.1.2.1 + (↑(List.length r0.2.2.1.2.1):Int))) + (1:Nat)) (List.length r0.2.2.2.2.1):Bool))
          (Tr.fin (.again (((r0.1.1.1,r0.1.1.2),((wrap64 (r0.1.2.1 + (1:Int)):Int),())),((r0.2.1.1,(r0.2.1.2.1,())),((r0.2.2.1.1,(r0.2.2.1.2.1,())),((r0.2.2.2.1.1,()),((List.set r0.2.2.2.2.1 ((0:Nat) + Int.toNat (wrap64 (r0.1.2.1 + (↑(List.length r0.2.2.1.2.1):Int)))) (wrap64 (List.getD r0.2.2.2.2.1 ((0:Nat) + Int.toNat (wrap64 (r0.1.2.1 + (↑(List.length r0.2.2.1.2.1):Int)))) (0:Int) + r0.1.2.2.1)):List Int),())))))))
          (Tr.stop))
        (Tr.stop))
      (Tr.stop))
    (Tr.fin (.brk (((x3n,x3c),()),((b0_0,(b0_1,())),((b1_0,(b1_1,())),((b2_0,()),(b3,())))))))

def s117_0 (d:sh117_0.data):Option (Out sh117_0.data shb117_0.data shr117_0.data):=(t117_0 d.1.1.1 d.1.1.2 d.1.2.1 d.2.1.1 d.2.1.2.1 d.2.2.1.1 d.2.2.1.2.1 d.2.2.2.1.1 d.2.2.2.2.1).val
def l117_0 (d:sh117_0.data):Option (shb117_0.data ⊕ shr117_0.data):=itr s117_0 rounds d
def b117_0 (d:sh117_0.data):shb117_0.data:=outB shb117_0.dflt (l117_0 d)
def lc117_0:LoopC:=lcB sh117_0 shb117_0 shr117_0 l117_0 b117_0

theorem e117_0_0 (x3n:Nat) (x3c:Nat) (x4:Int) (b0_0:Int) (b0_1:(List Int)) (b1_0:Int) (b1_1:(List Int)) (b2_0:Int) (b3:(List Int)):runBody kl117_2.orc Go.Proofs.Try.prog 400 117 0 sh117_0 shb117_0 shr117_0 (((x3n,x3c),x4,()),(b0_0,b0_1,()),(b1_0,b1_1,()),(b2_0,()),b3,()) [tt,tt,tt,tt,tt,tt,tt] =
    (let r0:((Nat×Nat)×Int×Int×PUnit)×(Int×List Int×PUnit)×(Int×List Int×PUnit)×(Int×PUnit)×List Int×PUnit:=b117_2 (((x3n,x3c),(x4,((0:Int),((0:Int),())))),((b0_0,(b0_1,())),((b1_0,(b1_1,())),((b2_0,()),(b3,()))))); some (.again (((r0.1.1.1,r0.1.1.2),((wrap64 (r0.1.2.1 + (1:Int)):Int),())),((r0.2.1.1,(r0.2.1.2.1,())),((r0.2.2.1.1,(r0.2.2.1.2.1,())),((r0.2.2.2.1.1,()),((List.set r0.2.2.2.2.1 ((0:Nat) + Int.toNat (wrap64 (r0.1.2.1 + (↑(List.length r0.2.2.1.2.1):Int)))) (wrap64 (List.getD r0.2.2.2.2.1 ((0:Nat) + Int.toNat (wrap64 (r0.1.2.1 + (↑(List.length r0.2.2.1.2.1):Int)))) (0:Int) + r0.1.2.2.1)):List Int),()))))),[(Nat.ble ((0:Nat) + Int.toNat (wrap64 (r0.1.2.1 + (↑(List.length r0.2.2.1.2.1):Int))) + (1:Nat)) (List.length r0.2.2.2.2.1),true),(decide ((0:Int) ≤ wrap64 (r0.1.2.1 + (↑(List.length r0.2.2.1.2.1):Int))) && decide (wrap64 (r0.1.2.1 + (↑(List.length r0.2.2.1.2.1):Int)) < (↑r0.1.1.1:Int)),true),(Nat.ble ((0:Nat) + Int.toNat (wrap64 (r0.1.2.1 + (↑(List.length r0.2.2.1.2.1):Int))) + (1:Nat)) (List.length r0.2.2.2.2.1),true),(decide ((0:Int) ≤ wrap64 (r0.1.2.1 + (↑(List.length r0.2.2.1.2.1):Int))) && decide (wrap64 (r0.1.2.1 + (↑(List.length r0.2.2.1.2.1):Int)) < (↑r0.1.1.1:Int)),true),(true,true),(isBrk (l117_2 (((x3n,x3c),(x4,((0:Int),((0:Int),())))),((b0_0,(b0_1,())),((b1_0,(b1_1,())),((b2_0,()),(b3,())))))),true),(!leF (↑(List.length b0_1):Int) x4,true)])):=by kernel_rfl
theorem e117_0_3 (x3n:Nat) (x3c:Nat) (x4:Int) (b0_0:Int) (b0_1:(List Int)) (b1_0:Int) (b1_1:(List Int)) (b2_0:Int) (b3:(List Int)):runBody kl117_2.orc Go.Proofs.Try.prog 400 117 0 sh117_0 shb117_0 shr117_0 (((x3n,x3c),x4,()),(b0_0,b0_1,()),(b1_0,b1_1,()),(b2_0,()),b3,()) [ff] =
    (some (.brk (((x3n,x3c),()),((b0_0,(b0_1,())),((b1_0,(b1_1,())),((b2_0,()),(b3,()))))),[(!leF (↑(List.length b0_1):Int) x4,false)])):=by kernel_rfl

theorem ok117_0_t (x3n:Nat) (x3c:Nat) (x4:Int) (b0_0:Int) (b0_1:(List Int)) (b1_0:Int) (b1_1:(List Int)) (b2_0:Int) (b3:(List Int)):TrOk (BodyRuns Go.Proofs.Try.prog kl117_2.orc 117 0 sh117_0 shb117_0 shr117_0 (((x3n,x3c),x4,()),(b0_0,b0_1,()),(b1_0,b1_1,()),(b2_0,()),b3,())) (t117_0 x3n x3c x4 b0_0 b0_1 b1_0 b1_1 b2_0 b3) :=
  TrOk.ofTest (fun h0=>TrOk.ofTest (fun h1=>TrOk.ofTest (fun h3=>TrOk.ofTest (fun h4=>TrOk.ofFin (BodyRuns.of (e117_0_0 x3n x3c x4 b0_0 b0_1 b1_0 b1_1 b2_0 b3) (ac h4 (ac h3 (ac h4 (ac h3 (ac rfl (ac h1 (ac h0 All.nil))))))))) (fun h4=>TrOk.ofStop)) (fun h3=>TrOk.ofStop)) (fun h1=>TrOk.ofStop)) (fun h0=>TrOk.ofFin (BodyRuns.of (e117_0_3 x3n x3c x4 b0_0 b0_1 b1_0 b1_1 b2_0 b3) (ac h0 All.nil)))

theorem ok117_0:LoopOk Go.Proofs.Try.prog 117 0 lc117_0:=loopOk_ofB kl117_2_ok.base (T:=fun (d:sh117_0.data)=>t117_0 d.1.1.1 d.1.1.2 d.1.2.1 d.2.1.1 d.2.1.2.1 d.2.2.1.1 d.2.2.1.2.1 d.2.2.2.1.1 d.2.2.2.2.1) (by kernel_rfl) rfl (fun (d:sh117_0.data)=>ok117_0_t d.1.1.1 d.1.1.2 d.1.2.1 d.2.1.1 d.2.1.2.1 d.2.2.1.1 d.2.2.1.2.1 d.2.2.2.1.1 d.2.2.2.2.1) (fun _=>rfl)
def kl117_0:Known:=kl117_2.loop 117 0 lc117_0
theorem kl117_0_ok:KnownOk Go.Proofs.Try.prog kl117_0:=kl117_2_ok.loop ok117_0

end Go.Vm.Mo
