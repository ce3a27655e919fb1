import Derived.Test.YtiodahganfihkaaGreatA4
import Derived.KernelRfl
import Derived.Test.YtiodahganfihkaaGreatProg
import Derived.Test.YtiodahganfihkaaGreatRsFc
set_option linter.unusedVariables false
set_option linter.unusedSimpArgs false

namespace Go.Vm.Mo
open Go
set_option linter.unusedVariables false

/-! ductility/safety.personsAt -/

abbrev as134:List Ty:=[(.int .i64),(.slice (.pair (.int .i64) (.pair .str (.pair .str .unit))))]
abbrev rs134:List Ty:=[(.int .i64)]

def t134 (x0:Int) (x1:(List (Int×(ByteArray×(ByteArray×Unit))))):Tr (Tys.data rs134) :=
  Tr.test (isBrk (l134_0 ((x0,(x1,((↑(List.length x1):Int),((0:Int),())))),(([]:List (ByteArray×Bool)),()))))
    (let r0:=b134_0 ((x0,(x1,((↑(List.length x1):Int),((0:Int),())))),(([]:List (ByteArray×Bool)),()));
    Tr.fin (((↑(List.length r0.2.1):Int),())))
    (Tr.stop)

def f134 (d:Tys.data as134):Option (Tys.data rs134):=(t134 d.1 d.2.1).val
def g134 (d:Tys.data as134):Tys.data rs134:=(f134 d).getD (Tys.dflt rs134)
def p134:PureC:=pcOf as134 rs134 f134 g134

theorem wk134 (x0:Int) (x1:(List (Int×(ByteArray×(ByteArray×Unit))))):Walks (runPure (kl134_0 Go.Proofs.Tryz.prog).orc Go.Proofs.Tryz.prog 400 134 as134 rs134 (x0,x1,())) (t134 x0 x1) [(bl 1 1,[1,2])] :=
  ⟨by kernel_rfl,trivial⟩

theorem ok134_t (x0:Int) (x1:(List (Int×(ByteArray×(ByteArray×Unit))))):TrOk (PureRuns Go.Proofs.Tryz.prog (kl134_0 Go.Proofs.Tryz.prog).orc 134 as134 rs134 (x0,x1,())) (t134 x0 x1) :=
  Walks.ok (fun _ _ _=>PureRuns.of) (wk134 x0 x1) (by kernel_rfl)

theorem ok134:PureOk Go.Proofs.Tryz.prog 134 p134:=pureOk_of kl134_0_ok.base (T:=fun (d:Tys.data as134)=>t134 d.1 d.2.1) (by kernel_rfl) (fun (d:Tys.data as134)=>ok134_t d.1 d.2.1)
def kf134 (P:Go.Program):Known:=(kl134_0 P).func 134 p134
theorem kf134_ok:KnownOk Go.Proofs.Tryz.prog (kf134 Go.Proofs.Tryz.prog):=kl134_0_ok.func ok134

/-! loop 0 of ductility/safety.LevelBy -/

abbrev sh63_0:Sh:={ n:=51,slots:=[0,1,8,26,27,28],pats:=[.ty (.slice (.pair .str (.pair (.slice .str) (.pair (.int .i64) .unit)))),.ty (.slice (.pair (.int .i64) (.pair .str (.pair .str .unit)))),.ty (.int .i64),.ty (.slice (.pair .str (.pair (.slice .str) (.pair (.int .i64) .unit)))),.ty (.int .i64),.ty (.int .i64)],boxes:=[] }
abbrev shb63_0:Sh:={ n:=51,slots:=[8],pats:=[.ty (.int .i64)],boxes:=[] }
abbrev shr63_0:Sh:={ n:=51,slots:=[],pats:=[],boxes:=[] }

def t63_0 (x0:(List (ByteArray×((List ByteArray)×(Int×Unit))))) (x1:(List (Int×(ByteArray×(ByteArray×Unit))))) (x2:Int) (x3:(List (ByteArray×((List ByteArray)×(Int×Unit))))) (x4:Int) (x5:Int):Tr (Out sh63_0.data shb63_0.data shr63_0.data) :=
  Tr.test ((!leF x4 x5:Bool))
    (Tr.test (decide ((0:Int) ≤ x5) && decide (x5 < (↑(List.length x3):Int)))
      (Tr.test (Option.isSome (f133 (x0,(x5,(x1,())))))
        (let r0:=g133 (x0,(x5,(x1,())));
        Tr.test ((!leF (↑(List.length r0.1):Int) (0:Int):Bool))
          (Tr.fin (.brk ((x2,()),())))
          (Tr.test (Option.isSome (f134 (x5,(x1,()))))
            (let r1:=g134 (x5,(x1,()));
            Tr.test ((!leF (List.getD x3 (Int.toNat x5) ({ data:={ toList:=[] } },[],(0:Int),())).2.2.1 r1.1:Bool))
              (Tr.fin (.brk ((x2,()),())))
              (Tr.fin (.again ((x0,(x1,((wrap64 (x2 + (1:Int)):Int),(x3,(x4,((wrap64 (x5 + (1:Int)):Int),())))))),()))))
            (Tr.stop)))
        (Tr.stop))
      (Tr.stop))
    (Tr.fin (.brk ((x2,()),())))

def s63_0 (d:sh63_0.data):Option (Out sh63_0.data shb63_0.data shr63_0.data):=(t63_0 d.1.1 d.1.2.1 d.1.2.2.1 d.1.2.2.2.1 d.1.2.2.2.2.1 d.1.2.2.2.2.2.1).val
def l63_0 (d:sh63_0.data):Option (shb63_0.data ⊕ shr63_0.data):=itr s63_0 rounds d
def b63_0 (d:sh63_0.data):shb63_0.data:=outB shb63_0.dflt (l63_0 d)
def lc63_0:LoopC:=lcB sh63_0 shb63_0 shr63_0 l63_0 b63_0

theorem wk63_0 (x0:(List (ByteArray×((List ByteArray)×(Int×Unit))))) (x1:(List (Int×(ByteArray×(ByteArray×Unit))))) (x2:Int) (x3:(List (ByteArray×((List ByteArray)×(Int×Unit))))) (x4:Int) (x5:Int):Walks (runBody (kf134 Go.Proofs.Tryz.prog).orc Go.Proofs.Tryz.prog 400 63 0 sh63_0 shb63_0 shr63_0 ((x0,x1,x2,x3,x4,x5,()),())) (t63_0 x0 x1 x2 x3 x4 x5) [(bl 4 15,[1,2,2,2,2,2,2,2,4,6,8]),(bl 6 55,[2,6,6,6,6,4,6,6,6,8,10,12]),(bl 6 23,[2,6,6,6,6,4,6,6,6,8,10,12]),(bl 1 0,[2])] :=
  ⟨by kernel_rfl,by kernel_rfl,by kernel_rfl,by kernel_rfl,trivial⟩

theorem ok63_0_t (x0:(List (ByteArray×((List ByteArray)×(Int×Unit))))) (x1:(List (Int×(ByteArray×(ByteArray×Unit))))) (x2:Int) (x3:(List (ByteArray×((List ByteArray)×(Int×Unit))))) (x4:Int) (x5:Int):TrOk (BodyRuns Go.Proofs.Tryz.prog (kf134 Go.Proofs.Tryz.prog).orc 63 0 sh63_0 shb63_0 shr63_0 ((x0,x1,x2,x3,x4,x5,()),())) (t63_0 x0 x1 x2 x3 x4 x5) :=
  Walks.ok (fun _ _ _=>BodyRuns.of) (wk63_0 x0 x1 x2 x3 x4 x5) (by kernel_rfl)

theorem ok63_0:LoopOk Go.Proofs.Tryz.prog 63 0 lc63_0:=loopOk_ofB (sh:=sh63_0) (shB:=shb63_0) (shR:=shr63_0) kf134_ok.base (T:=fun (d:sh63_0.data)=>t63_0 d.1.1 d.1.2.1 d.1.2.2.1 d.1.2.2.2.1 d.1.2.2.2.2.1 d.1.2.2.2.2.2.1) (by kernel_rfl) rfl (fun (d:sh63_0.data)=>ok63_0_t d.1.1 d.1.2.1 d.1.2.2.1 d.1.2.2.2.1 d.1.2.2.2.2.1 d.1.2.2.2.2.2.1) (fun _=>rfl)
def kl63_0 (P:Go.Program):Known:=(kf134 P).loop 63 0 lc63_0
theorem kl63_0_ok:KnownOk Go.Proofs.Tryz.prog (kl63_0 Go.Proofs.Tryz.prog):=kf134_ok.loop ok63_0

/-! ductility/safety.LevelBy -/

abbrev as63:List Ty:=[(.slice (.pair .str (.pair (.slice .str) (.pair (.int .i64) .unit)))),(.slice (.pair (.int .i64) (.pair .str (.pair .str .unit))))]
abbrev rs63:List Ty:=[(.int .i64),(.int .i64)]

def t63 (x0:(List (ByteArray×((List ByteArray)×(Int×Unit))))) (x1:(List (Int×(ByteArray×(ByteArray×Unit))))):Tr (Tys.data rs63) :=
  Tr.test (Option.isSome (f59 (x0,())))
    (Tr.test (Option.isSome (f132 (x1,((↑(List.length x0):Int),()))))
      (let r0:=g59 (x0,());
      let r1:=g132 (x1,((↑(List.length x0):Int),()));
      Tr.test (Option.isSome (f79 (([r0.2.1,r1.1]:List Int),())))
        (let r2:=g79 (([r0.2.1,r1.1]:List Int),());
        Tr.test ((!eqF r2.1 0:Bool))
          (Tr.fin (((0:Int),(r2.1,()))))
          (Tr.test (isBrk (l63_0 ((x0,(x1,((0:Int),(x0,((↑(List.length x0):Int),((0:Int),())))))),())))
            (let r3:=b63_0 ((x0,(x1,((0:Int),(x0,((↑(List.length x0):Int),((0:Int),())))))),());
            Tr.fin ((r3.1.1,((0:Int),()))))
            (Tr.stop)))
        (Tr.stop))
      (Tr.stop))
    (Tr.stop)

def f63 (d:Tys.data as63):Option (Tys.data rs63):=(t63 d.1 d.2.1).val
def g63 (d:Tys.data as63):Tys.data rs63:=(f63 d).getD (Tys.dflt rs63)
def p63:PureC:=pcOf as63 rs63 f63 g63

theorem wk63 (x0:(List (ByteArray×((List ByteArray)×(Int×Unit))))) (x1:(List (Int×(ByteArray×(ByteArray×Unit))))):Walks (runPure (kl63_0 Go.Proofs.Tryz.prog).orc Go.Proofs.Tryz.prog 400 63 as63 rs63 (x0,x1,())) (t63 x0 x1) [(bl 4 15,[2,4,6,8]),(bl 5 23,[1,2,4,6,8,10])] :=
  ⟨by kernel_rfl,by kernel_rfl,trivial⟩

theorem ok63_t (x0:(List (ByteArray×((List ByteArray)×(Int×Unit))))) (x1:(List (Int×(ByteArray×(ByteArray×Unit))))):TrOk (PureRuns Go.Proofs.Tryz.prog (kl63_0 Go.Proofs.Tryz.prog).orc 63 as63 rs63 (x0,x1,())) (t63 x0 x1) :=
  Walks.ok (fun _ _ _=>PureRuns.of) (wk63 x0 x1) (by kernel_rfl)

theorem ok63:PureOk Go.Proofs.Tryz.prog 63 p63:=pureOk_of kl63_0_ok.base (T:=fun (d:Tys.data as63)=>t63 d.1 d.2.1) (by kernel_rfl) (fun (d:Tys.data as63)=>ok63_t d.1 d.2.1)
def kf63 (P:Go.Program):Known:=(kl63_0 P).func 63 p63
theorem kf63_ok:KnownOk Go.Proofs.Tryz.prog (kf63 Go.Proofs.Tryz.prog):=kl63_0_ok.func ok63

/-! ductility/safety.MissingAt -/

abbrev as61:List Ty:=[(.slice (.pair .str (.pair (.slice .str) (.pair (.int .i64) .unit)))),(.int .i64),(.slice (.pair (.int .i64) (.pair .str (.pair .str .unit))))]
abbrev rs61:List Ty:=[(.slice (.int .i64)),(.int .i64)]

def t61 (x0:(List (ByteArray×((List ByteArray)×(Int×Unit))))) (x1:Int) (x2:(List (Int×(ByteArray×(ByteArray×Unit))))):Tr (Tys.data rs61) :=
  Tr.test (Option.isSome (f59 (x0,())))
    (Tr.test (Option.isSome (f94 ((0:Int),((wrap64 ((↑(List.length x0):Int) - (1:Int)):Int),(([x1]:List Int),())))))
      (let r1:=g94 ((0:Int),((wrap64 ((↑(List.length x0):Int) - (1:Int)):Int),(([x1]:List Int),())));
      Tr.test (Option.isSome (f80 ((!r1.1:Bool),((6:Int),()))))
        (Tr.test (Option.isSome (f132 (x2,((↑(List.length x0):Int),()))))
          (let r0:=g59 (x0,());
          let r2:=g80 ((!r1.1:Bool),((6:Int),()));
          let r3:=g132 (x2,((↑(List.length x0):Int),()));
          Tr.test (Option.isSome (f79 (([r0.2.1,r2.1,r3.1]:List Int),())))
            (let r4:=g79 (([r0.2.1,r2.1,r3.1]:List Int),());
            Tr.test ((!eqF r4.1 0:Bool))
              (Tr.fin ((([]:List Int),(r4.1,()))))
              (Tr.test (Option.isSome (f133 (x0,(x1,(x2,())))))
                (let r5:=g133 (x0,(x1,(x2,())));
                Tr.fin ((r5.1,((0:Int),()))))
                (Tr.stop)))
            (Tr.stop))
          (Tr.stop))
        (Tr.stop))
      (Tr.stop))
    (Tr.stop)

def f61 (d:Tys.data as61):Option (Tys.data rs61):=(t61 d.1 d.2.1 d.2.2.1).val
def g61 (d:Tys.data as61):Tys.data rs61:=(f61 d).getD (Tys.dflt rs61)
def p61:PureC:=pcOf as61 rs61 f61 g61

theorem wk61 (x0:(List (ByteArray×((List ByteArray)×(Int×Unit))))) (x1:Int) (x2:(List (Int×(ByteArray×(ByteArray×Unit))))):Walks (runPure (kf63 Go.Proofs.Tryz.prog).orc Go.Proofs.Tryz.prog 400 61 as61 rs61 (x0,x1,x2,())) (t61 x0 x1 x2) [(bl 6 63,[2,4,6,8,10,12]),(bl 7 95,[2,4,6,8,10,12,14])] :=
  ⟨by kernel_rfl,by kernel_rfl,trivial⟩

theorem ok61_t (x0:(List (ByteArray×((List ByteArray)×(Int×Unit))))) (x1:Int) (x2:(List (Int×(ByteArray×(ByteArray×Unit))))):TrOk (PureRuns Go.Proofs.Tryz.prog (kf63 Go.Proofs.Tryz.prog).orc 61 as61 rs61 (x0,x1,x2,())) (t61 x0 x1 x2) :=
  Walks.ok (fun _ _ _=>PureRuns.of) (wk61 x0 x1 x2) (by kernel_rfl)

theorem ok61:PureOk Go.Proofs.Tryz.prog 61 p61:=pureOk_of kf63_ok.base (T:=fun (d:Tys.data as61)=>t61 d.1 d.2.1 d.2.2.1) (by kernel_rfl) (fun (d:Tys.data as61)=>ok61_t d.1 d.2.1 d.2.2.1)
def kf61 (P:Go.Program):Known:=(kf63 P).func 61 p61
theorem kf61_ok:KnownOk Go.Proofs.Tryz.prog (kf61 Go.Proofs.Tryz.prog):=kf63_ok.func ok61

/-! loop 0 of ductility/ductilityref09.Persons -/

abbrev sh69_0:Sh:={ n:=40,slots:=[0,1,5,6],pats:=[.ty (.int .i64),.ty (.slice (.pair (.int .i64) (.pair .str (.pair .str .unit)))),.acc .str,.ty (.int .i64)],boxes:=[] }
abbrev shb69_0:Sh:={ n:=40,slots:=[5],pats:=[.acc .str],boxes:=[] }
abbrev shr69_0:Sh:={ n:=40,slots:=[],pats:=[],boxes:=[] }

def t69_0 (x0:Int) (x1:(List (Int×(ByteArray×(ByteArray×Unit))))) (x2:(List ByteArray)) (x3:Int):Tr (Out sh69_0.data shb69_0.data shr69_0.data) :=
  Tr.test ((!leF (↑(List.length x1):Int) x3:Bool))
    (Tr.test (decide ((0:Int) ≤ x3) && decide (x3 < (↑(List.length x1):Int)))
      (Tr.test ((eqF (List.getD x1 (Int.toNat x3) ((0:Int),{ data:={ toList:=[] } },{ data:={ toList:=[] } },())).1 x0:Bool))
        (Tr.test (Option.isSome (f96 (x2,(((List.getD x1 (Int.toNat x3) ((0:Int),{ data:={ toList:=[] } },{ data:={ toList:=[] } },())).2.1:ByteArray),()))))
          (let r0:=g96 (x2,(((List.getD x1 (Int.toNat x3) ((0:Int),{ data:={ toList:=[] } },{ data:={ toList:=[] } },())).2.1:ByteArray),()));
          Tr.test ((!r0.1:Bool))
            (Tr.test ((Nat.ble (((2:Nat) * (List.length x2 + (1:Nat)) + (192:Nat)) * (16:Nat)) (281474976710656:Nat) && Nat.ble (List.length x2 + (1:Nat)) (281474976710656:Nat):Bool))
              (Tr.fin (.again ((x0,(x1,((x2++[(List.getD x1 (Int.toNat x3) ((0:Int),{ data:={ toList:=[] } },{ data:={ toList:=[] } },())).2.1]:List ByteArray),((wrap64 (x3 + (1:Int)):Int),())))),())))
              (Tr.stop))
            (Tr.fin (.again ((x0,(x1,(x2,((wrap64 (x3 + (1:Int)):Int),())))),()))))
          (Tr.stop))
        (Tr.fin (.again ((x0,(x1,(x2,((wrap64 (x3 + (1:Int)):Int),())))),()))))
      (Tr.stop))
    (Tr.fin (.brk ((x2,()),())))

def s69_0 (d:sh69_0.data):Option (Out sh69_0.data shb69_0.data shr69_0.data):=(t69_0 d.1.1 d.1.2.1 d.1.2.2.1 d.1.2.2.2.1).val
def l69_0 (d:sh69_0.data):Option (shb69_0.data ⊕ shr69_0.data):=itr s69_0 rounds d
def b69_0 (d:sh69_0.data):shb69_0.data:=outB shb69_0.dflt (l69_0 d)
def lc69_0:LoopC:=lcB sh69_0 shb69_0 shr69_0 l69_0 b69_0

theorem wk69_0 (x0:Int) (x1:(List (Int×(ByteArray×(ByteArray×Unit))))) (x2:(List ByteArray)) (x3:Int):Walks (runBody (kf61 Go.Proofs.Tryz.prog).orc Go.Proofs.Tryz.prog 400 69 0 sh69_0 shb69_0 shr69_0 ((x0,x1,x2,x3,()),())) (t69_0 x0 x1 x2 x3) [(bl 6 63,[2,10,4,8,8,6,8,8,8,10,8,8,8,8,10,12]),(bl 5 15,[2,6,6,4,6,6,6,8,6,6,6,6,8,10]),(bl 3 3,[0,2,2,2,2,2,2,2,2,2,4,6]),(bl 1 0,[2])] :=
  ⟨by kernel_rfl,by kernel_rfl,by kernel_rfl,by kernel_rfl,trivial⟩

theorem ok69_0_t (x0:Int) (x1:(List (Int×(ByteArray×(ByteArray×Unit))))) (x2:(List ByteArray)) (x3:Int):TrOk (BodyRuns Go.Proofs.Tryz.prog (kf61 Go.Proofs.Tryz.prog).orc 69 0 sh69_0 shb69_0 shr69_0 ((x0,x1,x2,x3,()),())) (t69_0 x0 x1 x2 x3) :=
  Walks.ok (fun _ _ _=>BodyRuns.of) (wk69_0 x0 x1 x2 x3) (by kernel_rfl)

theorem ok69_0:LoopOk Go.Proofs.Tryz.prog 69 0 lc69_0:=loopOk_ofB (sh:=sh69_0) (shB:=shb69_0) (shR:=shr69_0) kf61_ok.base (T:=fun (d:sh69_0.data)=>t69_0 d.1.1 d.1.2.1 d.1.2.2.1 d.1.2.2.2.1) (by kernel_rfl) rfl (fun (d:sh69_0.data)=>ok69_0_t d.1.1 d.1.2.1 d.1.2.2.1 d.1.2.2.2.1) (fun _=>rfl)
def kl69_0 (P:Go.Program):Known:=(kf61 P).loop 69 0 lc69_0
theorem kl69_0_ok:KnownOk Go.Proofs.Tryz.prog (kl69_0 Go.Proofs.Tryz.prog):=kf61_ok.loop ok69_0

/-! ductility/ductilityref09.Persons -/

abbrev as69:List Ty:=[(.int .i64),(.slice (.pair (.int .i64) (.pair .str (.pair .str .unit))))]
abbrev rs69:List Ty:=[(.int .i64)]

def t69 (x0:Int) (x1:(List (Int×(ByteArray×(ByteArray×Unit))))):Tr (Tys.data rs69) :=
  Tr.test (isBrk (l69_0 ((x0,(x1,(([]:List ByteArray),((0:Int),())))),())))
    (let r0:=b69_0 ((x0,(x1,(([]:List ByteArray),((0:Int),())))),());
    Tr.fin (((↑(List.length r0.1.1):Int),())))
    (Tr.stop)

def f69 (d:Tys.data as69):Option (Tys.data rs69):=(t69 d.1 d.2.1).val
def g69 (d:Tys.data as69):Tys.data rs69:=(f69 d).getD (Tys.dflt rs69)
def p69:PureC:=pcOf as69 rs69 f69 g69

theorem wk69 (x0:Int) (x1:(List (Int×(ByteArray×(ByteArray×Unit))))):Walks (runPure (kl69_0 Go.Proofs.Tryz.prog).orc Go.Proofs.Tryz.prog 400 69 as69 rs69 (x0,x1,())) (t69 x0 x1) [(bl 1 1,[1,2])] :=
  ⟨by kernel_rfl,trivial⟩

theorem ok69_t (x0:Int) (x1:(List (Int×(ByteArray×(ByteArray×Unit))))):TrOk (PureRuns Go.Proofs.Tryz.prog (kl69_0 Go.Proofs.Tryz.prog).orc 69 as69 rs69 (x0,x1,())) (t69 x0 x1) :=
  Walks.ok (fun _ _ _=>PureRuns.of) (wk69 x0 x1) (by kernel_rfl)

theorem ok69:PureOk Go.Proofs.Tryz.prog 69 p69:=pureOk_of kl69_0_ok.base (T:=fun (d:Tys.data as69)=>t69 d.1 d.2.1) (by kernel_rfl) (fun (d:Tys.data as69)=>ok69_t d.1 d.2.1)
def kf69 (P:Go.Program):Known:=(kl69_0 P).func 69 p69
theorem kf69_ok:KnownOk Go.Proofs.Tryz.prog (kf69 Go.Proofs.Tryz.prog):=kl69_0_ok.func ok69

/-! ductility/ductilitybase.Mod -/

abbrev as56:List Ty:=[(.int .i64),(.int .i64)]
abbrev rs56:List Ty:=[(.int .i64)]

def t56 (x0:Int) (x1:Int):Tr (Tys.data rs56) :=
  Tr.test ((x1 == (0:Int):Bool))
    (Tr.stop)
    (Tr.test (!leF (0:Int) (Int.tmod x0 x1))
      (Tr.fin (((wrap64 (Int.tmod x0 x1 + x1):Int),())))
      (Tr.fin (((Int.tmod x0 x1:Int),()))))

def f56 (d:Tys.data as56):Option (Tys.data rs56):=(t56 d.1 d.2.1).val
def g56 (d:Tys.data as56):Tys.data rs56:=(f56 d).getD (Tys.dflt rs56)
def p56:PureC:=pcOf as56 rs56 f56 g56

theorem wk56 (x0:Int) (x1:Int):Walks (runPure (kf69 Go.Proofs.Tryz.prog).orc Go.Proofs.Tryz.prog 400 56 as56 rs56 (x0,x1,())) (t56 x0 x1) [(bl 2 2,[2,4]),(bl 2 0,[2,4])] :=
  ⟨by kernel_rfl,by kernel_rfl,trivial⟩

theorem ok56_t (x0:Int) (x1:Int):TrOk (PureRuns Go.Proofs.Tryz.prog (kf69 Go.Proofs.Tryz.prog).orc 56 as56 rs56 (x0,x1,())) (t56 x0 x1) :=
  Walks.ok (fun _ _ _=>PureRuns.of) (wk56 x0 x1) (by kernel_rfl)

theorem ok56:PureOk Go.Proofs.Tryz.prog 56 p56:=pureOk_of kf69_ok.base (T:=fun (d:Tys.data as56)=>t56 d.1 d.2.1) (by kernel_rfl) (fun (d:Tys.data as56)=>ok56_t d.1 d.2.1)
def kf56 (P:Go.Program):Known:=(kf69 P).func 56 p56
theorem kf56_ok:KnownOk Go.Proofs.Tryz.prog (kf56 Go.Proofs.Tryz.prog):=kf69_ok.func ok56

/-! loop 0 of ductility/ductilitylaw09.SafetyBehind -/

abbrev sh12_0:Sh:={ n:=244,slots:=[0,1,5,7,11],pats:=[.ty (.slice (.pair .str (.pair (.slice .str) (.pair (.int .i64) .unit)))),.ty (.slice (.pair (.int .i64) (.pair .str (.pair .str .unit)))),.ptr 0 2 0,.ty (.int .i64),.ty (.int .i64)],boxes:=[.row [.ty (.int .i64),.ty (.int .i64)]] }
abbrev shb12_0:Sh:={ n:=244,slots:=[0,1,5,7],pats:=[.ty (.slice (.pair .str (.pair (.slice .str) (.pair (.int .i64) .unit)))),.ty (.slice (.pair (.int .i64) (.pair .str (.pair .str .unit)))),.ptr 0 2 0,.ty (.int .i64)],boxes:=[.row [.ty (.int .i64),.ty (.int .i64)]] }
abbrev shr12_0:Sh:={ n:=244,slots:=[6],pats:=[.ty .bool],boxes:=[.row [.ty (.int .i64),.ty (.int .i64)]] }

def t12_0 (x0:(List (ByteArray×((List ByteArray)×(Int×Unit))))) (x1:(List (Int×(ByteArray×(ByteArray×Unit))))) (x3:Int) (x4:Int) (b0_0:Int) (b0_1:Int):Tr (Out sh12_0.data shb12_0.data shr12_0.data) :=
  Tr.test ((!leF x3 x4:Bool))
    (Tr.test (Option.isSome (f60 (x0,())))
      (Tr.test ((Nat.ble (((2:Nat) * ((0:Nat) + List.length x1) + (192:Nat)) * (40:Nat)) (281474976710656:Nat) && Nat.ble ((0:Nat) + List.length x1) (281474976710656:Nat):Bool))
        (let r0:=g60 (x0,());
        Tr.test (Option.isSome (f61 (r0.1,(x4,(([]++x1:List (Int×ByteArray×ByteArray×PUnit)),())))))
          (let r1:=g61 (r0.1,(x4,(([]++x1:List (Int×ByteArray×ByteArray×PUnit)),())));
          Tr.test ((!eqF r1.2.1 0:Bool))
            (Tr.fin (.ret (((false:Bool),()),((b0_0,(b0_1,())),()))))
            (Tr.test ((!eqF (↑(List.length r1.1):Int) (0:Int):Bool))
              (Tr.fin (.ret (((false:Bool),()),((b0_0,(b0_1,())),()))))
              (Tr.test (Option.isSome (f69 (x4,(x1,()))))
                (Tr.test ((decide ((0:Int) ≤ x4) && decide (x4 < (↑(List.length x0):Int)):Bool))
                  (let r2:=g69 (x4,(x1,()));
                  Tr.test ((!leF (List.getD x0 (Int.toNat x4) ({ data:={ toList:=[] } },[],(0:Int),())).2.2.1 r2.1:Bool))
                    (Tr.fin (.ret (((false:Bool),()),((b0_0,(b0_1,())),()))))
                    (Tr.fin (.again ((x0,(x1,(x3,((wrap64 (x4 + (1:Int)):Int),())))),((b0_0,(b0_1,())),())))))
                  (Tr.stop))
                (Tr.stop))))
          (Tr.stop))
        (Tr.test ((Nat.ble ((0:Nat) + List.length x1) (0:Nat):Bool))
          (Tr.stop)
          (Tr.stop)))
      (Tr.stop))
    (Tr.fin (.brk ((x0,(x1,(x3,()))),((b0_0,(b0_1,())),()))))

def s12_0 (d:sh12_0.data):Option (Out sh12_0.data shb12_0.data shr12_0.data):=(t12_0 d.1.1 d.1.2.1 d.1.2.2.1 d.1.2.2.2.1 d.2.1.1 d.2.1.2.1).val
def l12_0 (d:sh12_0.data):Option (shb12_0.data ⊕ shr12_0.data):=itr s12_0 rounds d
def b12_0 (d:sh12_0.data):shb12_0.data:=outB shb12_0.dflt (l12_0 d)
def r12_0 (d:sh12_0.data):shr12_0.data:=outR shr12_0.dflt (l12_0 d)
def lc12_0:LoopC:=lcOf sh12_0 shb12_0 shr12_0 l12_0 b12_0 r12_0

theorem wk12_0 (x0:(List (ByteArray×((List ByteArray)×(Int×Unit))))) (x1:(List (Int×(ByteArray×(ByteArray×Unit))))) (x3:Int) (x4:Int) (b0_0:Int) (b0_1:Int):Walks (runBody (kf56 Go.Proofs.Tryz.prog).orc Go.Proofs.Tryz.prog 400 12 0 sh12_0 shb12_0 shr12_0 ((x0,x1,x3,x4,()),(b0_0,b0_1,()),())) (t12_0 x0 x1 x3 x4 b0_0 b0_1) [(bl 5 31,[1,1,1,1,1,1,1,1,1,1,1,2,2,2,2,4,6,8,10]),(bl 6 47,[1,2,2,2,2,2,2,2,2,2,2,4,4,4,4,6,8,10,12]),(bl 9 463,[2,8,8,8,8,4,8,8,8,6,8,8,8,10,10,10,10,12,14,16,18]),(bl 9 207,[2,8,8,8,8,4,8,8,8,6,8,8,8,10,10,10,10,12,14,16,18]),(bl 1 0,[2])] :=
  ⟨by kernel_rfl,by kernel_rfl,by kernel_rfl,by kernel_rfl,by kernel_rfl,trivial⟩

theorem ok12_0_t (x0:(List (ByteArray×((List ByteArray)×(Int×Unit))))) (x1:(List (Int×(ByteArray×(ByteArray×Unit))))) (x3:Int) (x4:Int) (b0_0:Int) (b0_1:Int):TrOk (BodyRuns Go.Proofs.Tryz.prog (kf56 Go.Proofs.Tryz.prog).orc 12 0 sh12_0 shb12_0 shr12_0 ((x0,x1,x3,x4,()),(b0_0,b0_1,()),())) (t12_0 x0 x1 x3 x4 b0_0 b0_1) :=
  Walks.ok (fun _ _ _=>BodyRuns.of) (wk12_0 x0 x1 x3 x4 b0_0 b0_1) (by kernel_rfl)

theorem ok12_0:LoopOk Go.Proofs.Tryz.prog 12 0 lc12_0:=loopOk_of (sh:=sh12_0) (shB:=shb12_0) (shR:=shr12_0) kf56_ok.base (T:=fun (d:sh12_0.data)=>t12_0 d.1.1 d.1.2.1 d.1.2.2.1 d.1.2.2.2.1 d.2.1.1 d.2.1.2.1) (by kernel_rfl) rfl (fun (d:sh12_0.data)=>ok12_0_t d.1.1 d.1.2.1 d.1.2.2.1 d.1.2.2.2.1 d.2.1.1 d.2.1.2.1) (fun _=>rfl)
def kl12_0 (P:Go.Program):Known:=(kf56 P).loop 12 0 lc12_0
theorem kl12_0_ok:KnownOk Go.Proofs.Tryz.prog (kl12_0 Go.Proofs.Tryz.prog):=kf56_ok.loop ok12_0

/-! loop 2 of ductility/ductilitylaw09.SafetyBehind -/

abbrev sh12_2:Sh:={ n:=244,slots:=[0,1,5,7,14,15,16,17],pats:=[.ty (.slice (.pair .str (.pair (.slice .str) (.pair (.int .i64) .unit)))),.ty (.slice (.pair (.int .i64) (.pair .str (.pair .str .unit)))),.ptr 0 2 0,.ty (.int .i64),.acc (.pair (.int .i64) (.pair .str (.pair .str .unit))),.acc (.pair (.int .i64) (.pair .str (.pair .str .unit))),.ty (.int .i64),.ty (.int .i64)],boxes:=[.row [.ty (.int .i64),.ty (.int .i64)]] }
abbrev shb12_2:Sh:={ n:=244,slots:=[0,1,5,7,14,15,16],pats:=[.ty (.slice (.pair .str (.pair (.slice .str) (.pair (.int .i64) .unit)))),.ty (.slice (.pair (.int .i64) (.pair .str (.pair .str .unit)))),.ptr 0 2 0,.ty (.int .i64),.acc (.pair (.int .i64) (.pair .str (.pair .str .unit))),.acc (.pair (.int .i64) (.pair .str (.pair .str .unit))),.ty (.int .i64)],boxes:=[.row [.ty (.int .i64),.ty (.int .i64)]] }
abbrev shr12_2:Sh:={ n:=244,slots:=[],pats:=[],boxes:=[.row [.ty (.int .i64),.ty (.int .i64)]] }

def t12_2 (x0:(List (ByteArray×((List ByteArray)×(Int×Unit))))) (x1:(List (Int×(ByteArray×(ByteArray×Unit))))) (x3:Int) (x4:(List (Int×(ByteArray×(ByteArray×Unit))))) (x5:(List (Int×(ByteArray×(ByteArray×Unit))))) (x6:Int) (x7:Int) (b0_0:Int) (b0_1:Int):Tr (Out sh12_2.data shb12_2.data shr12_2.data) :=
  Tr.test ((leF (0:Int) x7:Bool))
    (Tr.test (decide ((0:Int) ≤ x7) && decide (x7 < (↑(List.length x1):Int)))
      (Tr.test ((Nat.ble (((2:Nat) * (List.length x4 + (1:Nat)) + (192:Nat)) * (40:Nat)) (281474976710656:Nat) && Nat.ble (List.length x4 + (1:Nat)) (281474976710656:Nat):Bool))
        (Tr.test ((!eqF (List.getD x1 (Int.toNat x7) ((0:Int),{ data:={ toList:=[] } },{ data:={ toList:=[] } },())).1 x6:Bool))
          (Tr.test ((Nat.ble (((2:Nat) * (List.length x5 + (1:Nat)) + (192:Nat)) * (40:Nat)) (281474976710656:Nat) && Nat.ble (List.length x5 + (1:Nat)) (281474976710656:Nat):Bool))
            (Tr.fin (.again ((x0,(x1,(x3,((x4++[((List.getD x1 (Int.toNat x7) ((0:Int),{ data:={ toList:=[] } },{ data:={ toList:=[] } },())).1,(List.getD x1 (Int.toNat x7) ((0:Int),{ data:={ toList:=[] } },{ data:={ toList:=[] } },())).2.1,(List.getD x1 (Int.toNat x7) ((0:Int),{ data:={ toList:=[] } },{ data:={ toList:=[] } },())).2.2.1,())]:List (Int×ByteArray×ByteArray×PUnit)),((x5++[((List.getD x1 (Int.toNat x7) ((0:Int),{ data:={ toList:=[] } },{ data:={ toList:=[] } },())).1,(List.getD x1 (Int.toNat x7) ((0:Int),{ data:={ toList:=[] } },{ data:={ toList:=[] } },())).2.1,(List.getD x1 (Int.toNat x7) ((0:Int),{ data:={ toList:=[] } },{ data:={ toList:=[] } },())).2.2.1,())]:List (Int×ByteArray×ByteArray×PUnit)),(x6,((wrap64 (x7 - (1:Int)):Int),()))))))),((b0_0,(b0_1,())),()))))
            (Tr.stop))
          (Tr.fin (.again ((x0,(x1,(x3,((x4++[((List.getD x1 (Int.toNat x7) ((0:Int),{ data:={ toList:=[] } },{ data:={ toList:=[] } },())).1,(List.getD x1 (Int.toNat x7) ((0:Int),{ data:={ toList:=[] } },{ data:={ toList:=[] } },())).2.1,(List.getD x1 (Int.toNat x7) ((0:Int),{ data:={ toList:=[] } },{ data:={ toList:=[] } },())).2.2.1,())]:List (Int×ByteArray×ByteArray×PUnit)),(x5,(x6,((wrap64 (x7 - (1:Int)):Int),()))))))),((b0_0,(b0_1,())),())))))
        (Tr.stop))
      (Tr.stop))
    (Tr.fin (.brk ((x0,(x1,(x3,(x4,(x5,(x6,())))))),((b0_0,(b0_1,())),()))))

def s12_2 (d:sh12_2.data):Option (Out sh12_2.data shb12_2.data shr12_2.data):=(t12_2 d.1.1 d.1.2.1 d.1.2.2.1 d.1.2.2.2.1 d.1.2.2.2.2.1 d.1.2.2.2.2.2.1 d.1.2.2.2.2.2.2.1 d.2.1.1 d.2.1.2.1).val
def l12_2 (d:sh12_2.data):Option (shb12_2.data ⊕ shr12_2.data):=itr s12_2 rounds d
def b12_2 (d:sh12_2.data):shb12_2.data:=outB shb12_2.dflt (l12_2 d)
def lc12_2:LoopC:=lcB sh12_2 shb12_2 shr12_2 l12_2 b12_2

theorem wk12_2 (x0:(List (ByteArray×((List ByteArray)×(Int×Unit))))) (x1:(List (Int×(ByteArray×(ByteArray×Unit))))) (x3:Int) (x4:(List (Int×(ByteArray×(ByteArray×Unit))))) (x5:(List (Int×(ByteArray×(ByteArray×Unit))))) (x6:Int) (x7:Int) (b0_0:Int) (b0_1:Int):Walks (runBody (kl12_0 Go.Proofs.Tryz.prog).orc Go.Proofs.Tryz.prog 400 12 2 sh12_2 shb12_2 shr12_2 ((x0,x1,x3,x4,x5,x6,x7,()),(b0_0,b0_1,()),())) (t12_2 x0 x1 x3 x4 x5 x6 x7 b0_0 b0_1) [(bl 5 31,[2,8,4,8,6,8,10]),(bl 4 7,[2,6,4,6,8]),(bl 1 0,[2])] :=
  ⟨by kernel_rfl,by kernel_rfl,by kernel_rfl,trivial⟩

theorem ok12_2_t (x0:(List (ByteArray×((List ByteArray)×(Int×Unit))))) (x1:(List (Int×(ByteArray×(ByteArray×Unit))))) (x3:Int) (x4:(List (Int×(ByteArray×(ByteArray×Unit))))) (x5:(List (Int×(ByteArray×(ByteArray×Unit))))) (x6:Int) (x7:Int) (b0_0:Int) (b0_1:Int):TrOk (BodyRuns Go.Proofs.Tryz.prog (kl12_0 Go.Proofs.Tryz.prog).orc 12 2 sh12_2 shb12_2 shr12_2 ((x0,x1,x3,x4,x5,x6,x7,()),(b0_0,b0_1,()),())) (t12_2 x0 x1 x3 x4 x5 x6 x7 b0_0 b0_1) :=
  Walks.ok (fun _ _ _=>BodyRuns.of) (wk12_2 x0 x1 x3 x4 x5 x6 x7 b0_0 b0_1) (by kernel_rfl)

theorem ok12_2:LoopOk Go.Proofs.Tryz.prog 12 2 lc12_2:=loopOk_ofB (sh:=sh12_2) (shB:=shb12_2) (shR:=shr12_2) kl12_0_ok.base (T:=fun (d:sh12_2.data)=>t12_2 d.1.1 d.1.2.1 d.1.2.2.1 d.1.2.2.2.1 d.1.2.2.2.2.1 d.1.2.2.2.2.2.1 d.1.2.2.2.2.2.2.1 d.2.1.1 d.2.1.2.1) (by kernel_rfl) rfl (fun (d:sh12_2.data)=>ok12_2_t d.1.1 d.1.2.1 d.1.2.2.1 d.1.2.2.2.1 d.1.2.2.2.2.1 d.1.2.2.2.2.2.1 d.1.2.2.2.2.2.2.1 d.2.1.1 d.2.1.2.1) (fun _=>rfl)
def kl12_2 (P:Go.Program):Known:=(kl12_0 P).loop 12 2 lc12_2
theorem kl12_2_ok:KnownOk Go.Proofs.Tryz.prog (kl12_2 Go.Proofs.Tryz.prog):=kl12_0_ok.loop ok12_2

end Go.Vm.Mo
