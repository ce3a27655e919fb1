import Derived.Test.YtiodahganfihkaaGreatA4
import Derived.Test.YtiodahganfihkaaGreatA5
import Derived.KernelRfl
import Derived.Test.YtiodahganfihkaaGreatProg
import Derived.Test.YtiodahganfihkaaGreatRsFe
set_option linter.unusedVariables false
set_option linter.unusedSimpArgs false

namespace Go.Vm.Mo
open Go
set_option linter.unusedVariables false

/-! loop 0 of ductility/ductilitybase.IsName -/

abbrev sh95_0:Sh:={ n:=55,slots:=[0,3],pats:=[.ty .str,.ty (.int .i64)],boxes:=[] }
abbrev shb95_0:Sh:={ n:=55,slots:=[],pats:=[],boxes:=[] }
abbrev shr95_0:Sh:={ n:=55,slots:=[2],pats:=[.ty .bool],boxes:=[] }

def t95_0 (x0:ByteArray) (x1:Int):Tr (Out sh95_0.data shb95_0.data shr95_0.data) :=
  Tr.test ((!leF (↑(ByteArray.size x0):Int) x1:Bool))
    (Tr.test (decide ((0:Int) ≤ x1) && decide (x1 < (↑(ByteArray.size x0):Int)))
      (Tr.test ((decide ((97:Int) ≤ (↑(List.getD x0.data.toList (Int.toNat x1) (0:UInt8)).toBitVec.toFin.1:Int)):Bool))
        (Tr.test ((decide ((↑(List.getD x0.data.toList (Int.toNat x1) (0:UInt8)).toBitVec.toFin.1:Int) ≤ (122:Int)):Bool))
          (Tr.fin (.again ((x0,((wrap64 (x1 + (1:Int)):Int),())),())))
          (Tr.test ((decide ((65:Int) ≤ (↑(List.getD x0.data.toList (Int.toNat x1) (0:UInt8)).toBitVec.toFin.1:Int)):Bool))
            (Tr.test ((!decide ((↑(List.getD x0.data.toList (Int.toNat x1) (0:UInt8)).toBitVec.toFin.1:Int) ≤ (90:Int)):Bool))
              (Tr.test ((eqF x1 0:Bool))
                (Tr.fin (.ret (((false:Bool),()),())))
                (Tr.test ((!(↑(List.getD x0.data.toList (Int.toNat x1) (0:UInt8)).toBitVec.toFin.1:Int) == (45:Int):Bool))
                  (Tr.test ((decide ((↑(List.getD x0.data.toList (Int.toNat x1) (0:UInt8)).toBitVec.toFin.1:Int) < (48:Int)):Bool))
                    (Tr.fin (.ret (((false:Bool),()),())))
                    (Tr.test ((decide ((57:Int) < (↑(List.getD x0.data.toList (Int.toNat x1) (0:UInt8)).toBitVec.toFin.1:Int)):Bool))
                      (Tr.fin (.ret (((false:Bool),()),())))
                      (Tr.fin (.again ((x0,((wrap64 (x1 + (1:Int)):Int),())),())))))
                  (Tr.fin (.again ((x0,((wrap64 (x1 + (1:Int)):Int),())),())))))
              (Tr.fin (.again ((x0,((wrap64 (x1 + (1:Int)):Int),())),()))))
            (Tr.test ((eqF x1 0:Bool))
              (Tr.fin (.ret (((false:Bool),()),())))
              (Tr.test ((!(↑(List.getD x0.data.toList (Int.toNat x1) (0:UInt8)).toBitVec.toFin.1:Int) == (45:Int):Bool))
                (Tr.test ((decide ((↑(List.getD x0.data.toList (Int.toNat x1) (0:UInt8)).toBitVec.toFin.1:Int) < (48:Int)):Bool))
                  (Tr.fin (.ret (((false:Bool),()),())))
                  (Tr.test ((decide ((57:Int) < (↑(List.getD x0.data.toList (Int.toNat x1) (0:UInt8)).toBitVec.toFin.1:Int)):Bool))
                    (Tr.fin (.ret (((false:Bool),()),())))
                    (Tr.fin (.again ((x0,((wrap64 (x1 + (1:Int)):Int),())),())))))
                (Tr.fin (.again ((x0,((wrap64 (x1 + (1:Int)):Int),())),())))))))
        (Tr.test ((decide ((65:Int) ≤ (↑(List.getD x0.data.toList (Int.toNat x1) (0:UInt8)).toBitVec.toFin.1:Int)):Bool))
          (Tr.test ((!decide ((↑(List.getD x0.data.toList (Int.toNat x1) (0:UInt8)).toBitVec.toFin.1:Int) ≤ (90:Int)):Bool))
            (Tr.test ((eqF x1 0:Bool))
              (Tr.fin (.ret (((false:Bool),()),())))
              (Tr.test ((!(↑(List.getD x0.data.toList (Int.toNat x1) (0:UInt8)).toBitVec.toFin.1:Int) == (45:Int):Bool))
                (Tr.test ((decide ((↑(List.getD x0.data.toList (Int.toNat x1) (0:UInt8)).toBitVec.toFin.1:Int) < (48:Int)):Bool))
                  (Tr.fin (.ret (((false:Bool),()),())))
                  (Tr.test ((decide ((57:Int) < (↑(List.getD x0.data.toList (Int.toNat x1) (0:UInt8)).toBitVec.toFin.1:Int)):Bool))
                    (Tr.fin (.ret (((false:Bool),()),())))
                    (Tr.fin (.again ((x0,((wrap64 (x1 + (1:Int)):Int),())),())))))
                (Tr.fin (.again ((x0,((wrap64 (x1 + (1:Int)):Int),())),())))))
            (Tr.fin (.again ((x0,((wrap64 (x1 + (1:Int)):Int),())),()))))
          (Tr.test ((eqF x1 0:Bool))
            (Tr.fin (.ret (((false:Bool),()),())))
            (Tr.test ((!(↑(List.getD x0.data.toList (Int.toNat x1) (0:UInt8)).toBitVec.toFin.1:Int) == (45:Int):Bool))
              (Tr.test ((decide ((↑(List.getD x0.data.toList (Int.toNat x1) (0:UInt8)).toBitVec.toFin.1:Int) < (48:Int)):Bool))
                (Tr.fin (.ret (((false:Bool),()),())))
                (Tr.test ((decide ((57:Int) < (↑(List.getD x0.data.toList (Int.toNat x1) (0:UInt8)).toBitVec.toFin.1:Int)):Bool))
                  (Tr.fin (.ret (((false:Bool),()),())))
                  (Tr.fin (.again ((x0,((wrap64 (x1 + (1:Int)):Int),())),())))))
              (Tr.fin (.again ((x0,((wrap64 (x1 + (1:Int)):Int),())),())))))))
      (Tr.stop))
    (Tr.fin (.brk ((),())))

def s95_0 (d:sh95_0.data):Option (Out sh95_0.data shb95_0.data shr95_0.data):=(t95_0 d.1.1 d.1.2.1).val
def l95_0 (d:sh95_0.data):Option (shb95_0.data ⊕ shr95_0.data):=itr s95_0 rounds d
def b95_0 (d:sh95_0.data):shb95_0.data:=outB shb95_0.dflt (l95_0 d)
def r95_0 (d:sh95_0.data):shr95_0.data:=outR shr95_0.dflt (l95_0 d)
def lc95_0:LoopC:=lcOf sh95_0 shb95_0 shr95_0 l95_0 b95_0 r95_0

theorem wk95_0n0 (x0:ByteArray) (x1:Int):Walks (runBody (kf20 Go.Proofs.Tryz.prog).orc Go.Proofs.Tryz.prog 400 95 0 sh95_0 shb95_0 shr95_0 ((x0,x1,()),())) (t95_0 x0 x1) [(bl 4 15,[0,0,0,0,0,0,2,2,2,2,2,4,4,4,6,8]),(bl 7 119,[1,4,2,4,2,2,2,2,4,4,4,8,6,8,6,6,8,8,8,10,10,10,12,14]),(bl 9 439,[1,8,6,8,4,6,2,4,2,2,4,4,4,6,6,6,8,8,8,12,10,12,10,10,12,12,12,14,14,14,16,18]),(bl 10 695,[2,10,8,10,6,8,4,6,4,4,6,6,6,8,8,8,10,10,10,14,12,14,12,12,14,14,14,16,16,16,18,20]),(bl 10 183,[2,10,8,10,6,8,4,6,4,4,6,6,6,8,8,8,10,10,10,14,12,14,12,12,14,14,14,16,16,16,18,20]),(bl 8 55,[0,6,4,6,2,4,2,2,2,2,4,4,4,6,6,6,10,8,10,8,8,10,10,10,12,12,12,14,16]),(bl 6 23,[0,2,2,2,2,2,6,4,6,4,4,6,6,6,8,8,8,10,12]),(bl 6 39,[1,1,2,1,2,2,2,2,1,1,1,6,4,6,4,4,6,6,6,8,8,8,10,12]),(bl 8 199,[1,1,6,1,4,6,2,4,2,2,4,4,4,6,6,6,1,1,1,10,8,10,8,8,10,10,10,12,12,12,14,16]),(bl 9 327,[2,1,8,1,6,8,4,6,4,4,6,6,6,8,8,8,1,1,1,12,10,12,10,10,12,12,12,14,14,14,16,18]),(bl 9 71,[2,1,8,1,6,8,4,6,4,4,6,6,6,8,8,8,1,1,1,12,10,12,10,10,12,12,12,14,14,14,16,18]),(bl 7 7,[0,1,4,1,2,4,2,2,2,2,4,4,4,1,1,1,8,6,8,6,6,8,8,8,10,10,10,12,14]),(bl 6 59,[1,4,2,4,2,2,2,2,4,4,4,0,6,0,6,6,0,0,0,8,8,8,10,12]),(bl 8 219,[1,8,6,8,4,6,2,4,2,2,4,4,4,6,6,6,8,8,8,0,10,0,10,10,0,0,0,12,12,12,14,16]),(bl 9 347,[2,10,8,10,6,8,4,6,4,4,6,6,6,8,8,8,10,10,10,0,12,0,12,12,0,0,0,14,14,14,16,18]),(bl 9 91,[2,10,8,10,6,8,4,6,4,4,6,6,6,8,8,8,10,10,10,0,12,0,12,12,0,0,0,14,14,14,16,18])] :=
  ⟨by kernel_rfl,by kernel_rfl,by kernel_rfl,by kernel_rfl,by kernel_rfl,by kernel_rfl,by kernel_rfl,by kernel_rfl,by kernel_rfl,by kernel_rfl,by kernel_rfl,by kernel_rfl,by kernel_rfl,by kernel_rfl,by kernel_rfl,by kernel_rfl,trivial⟩

theorem wk95_0n1 (x0:ByteArray) (x1:Int):Walks (runBody (kf20 Go.Proofs.Tryz.prog).orc Go.Proofs.Tryz.prog 400 95 0 sh95_0 shb95_0 shr95_0 ((x0,x1,()),())) (t95_0 x0 x1) [(bl 7 27,[0,6,4,6,2,4,2,2,2,2,4,4,4,6,6,6,0,8,0,8,8,0,0,0,10,10,10,12,14]),(bl 5 11,[0,2,2,2,2,2,0,4,0,4,4,0,0,0,6,6,6,8,10]),(bl 5 19,[1,1,2,1,2,2,2,2,1,1,1,0,4,0,4,4,0,0,0,6,6,6,8,10]),(bl 7 99,[1,1,6,1,4,6,2,4,2,2,4,4,4,6,6,6,1,1,1,0,8,0,8,8,0,0,0,10,10,10,12,14]),(bl 8 163,[2,1,8,1,6,8,4,6,4,4,6,6,6,8,8,8,1,1,1,0,10,0,10,10,0,0,0,12,12,12,14,16]),(bl 8 35,[2,1,8,1,6,8,4,6,4,4,6,6,6,8,8,8,1,1,1,0,10,0,10,10,0,0,0,12,12,12,14,16]),(bl 6 3,[0,1,4,1,2,4,2,2,2,2,4,4,4,1,1,1,0,6,0,6,6,0,0,0,8,8,8,10,12]),(bl 1 0,[2])] :=
  ⟨by kernel_rfl,by kernel_rfl,by kernel_rfl,by kernel_rfl,by kernel_rfl,by kernel_rfl,by kernel_rfl,by kernel_rfl,trivial⟩

theorem ok95_0_t (x0:ByteArray) (x1:Int):TrOk (BodyRuns Go.Proofs.Tryz.prog (kf20 Go.Proofs.Tryz.prog).orc 95 0 sh95_0 shb95_0 shr95_0 ((x0,x1,()),())) (t95_0 x0 x1) :=
  Walks.ok (fun _ _ _=>BodyRuns.of) ((wk95_0n0 x0 x1).append (wk95_0n1 x0 x1)) (by kernel_rfl)

theorem ok95_0:LoopOk Go.Proofs.Tryz.prog 95 0 lc95_0:=loopOk_of (sh:=sh95_0) (shB:=shb95_0) (shR:=shr95_0) kf20_ok.base (T:=fun (d:sh95_0.data)=>t95_0 d.1.1 d.1.2.1) (by kernel_rfl) rfl (fun (d:sh95_0.data)=>ok95_0_t d.1.1 d.1.2.1) (fun _=>rfl)
def kl95_0 (P:Go.Program):Known:=(kf20 P).loop 95 0 lc95_0
theorem kl95_0_ok:KnownOk Go.Proofs.Tryz.prog (kl95_0 Go.Proofs.Tryz.prog):=kf20_ok.loop ok95_0

/-! ductility/ductilitybase.IsName -/

abbrev as95:List Ty:=[.str]
abbrev rs95:List Ty:=[.bool]

def t95 (x0:ByteArray):Tr (Tys.data rs95) :=
  Tr.test ((!leF (1:Int) (↑(ByteArray.size x0):Int):Bool))
    (Tr.fin ((false,())))
    (Tr.test (!leF (↑(ByteArray.size x0):Int) (12:Int))
      (Tr.fin (((false:Bool),())))
      (Tr.test (Option.isSome (l95_0 ((x0,((0:Int),())),())))
        (Tr.test (isRet (l95_0 ((x0,((0:Int),())),())))
          (let r0:=r95_0 ((x0,((0:Int),())),());
          Tr.fin ((r0.1.1,())))
          (Tr.fin (((true:Bool),()))))
        (Tr.stop)))

def f95 (d:Tys.data as95):Option (Tys.data rs95):=(t95 d.1).val
def g95 (d:Tys.data as95):Tys.data rs95:=(f95 d).getD (Tys.dflt rs95)
def p95:PureC:=pcOf as95 rs95 f95 g95

theorem wk95 (x0:ByteArray):Walks (runPure (kl95_0 Go.Proofs.Tryz.prog).orc Go.Proofs.Tryz.prog 400 95 as95 rs95 (x0,())) (t95 x0) [(bl 1 1,[1,2,2,2,2]),(bl 2 2,[2,4,4,4,4]),(bl 4 12,[2,4,6,8,8,8,8]),(bl 4 4,[2,4,6,8,8,8,8])] :=
  ⟨by kernel_rfl,by kernel_rfl,by kernel_rfl,by kernel_rfl,trivial⟩

theorem ok95_t (x0:ByteArray):TrOk (PureRuns Go.Proofs.Tryz.prog (kl95_0 Go.Proofs.Tryz.prog).orc 95 as95 rs95 (x0,())) (t95 x0) :=
  Walks.ok (fun _ _ _=>PureRuns.of) (wk95 x0) (by kernel_rfl)

theorem ok95:PureOk Go.Proofs.Tryz.prog 95 p95:=pureOk_of kl95_0_ok.base (T:=fun (d:Tys.data as95)=>t95 d.1) (by kernel_rfl) (fun (d:Tys.data as95)=>ok95_t d.1)
def kf95 (P:Go.Program):Known:=(kl95_0 P).func 95 p95
theorem kf95_ok:KnownOk Go.Proofs.Tryz.prog (kf95 Go.Proofs.Tryz.prog):=kl95_0_ok.func ok95

/-! loop 0 of ductility/ductilitybase.HasText -/

abbrev sh96_0:Sh:={ n:=18,slots:=[0,1,5],pats:=[.ty (.slice .str),.ty .str,.ty (.int .i64)],boxes:=[] }
abbrev shb96_0:Sh:={ n:=18,slots:=[],pats:=[],boxes:=[] }
abbrev shr96_0:Sh:={ n:=18,slots:=[4],pats:=[.ty .bool],boxes:=[] }

def t96_0 (x0:(List ByteArray)) (x1:ByteArray) (x2:Int):Tr (Out sh96_0.data shb96_0.data shr96_0.data) :=
  Tr.test ((!leF (↑(List.length x0):Int) x2:Bool))
    (Tr.test (decide ((0:Int) ≤ x2) && decide (x2 < (↑(List.length x0):Int)))
      (Tr.test ((strEq (List.getD x0 (Int.toNat x2) { data:={ toList:=[] } }) x1:Bool))
        (Tr.fin (.ret (((true:Bool),()),())))
        (Tr.fin (.again ((x0,(x1,((wrap64 (x2 + (1:Int)):Int),()))),()))))
      (Tr.stop))
    (Tr.fin (.brk ((),())))

def s96_0 (d:sh96_0.data):Option (Out sh96_0.data shb96_0.data shr96_0.data):=(t96_0 d.1.1 d.1.2.1 d.1.2.2.1).val
def l96_0 (d:sh96_0.data):Option (shb96_0.data ⊕ shr96_0.data):=itr s96_0 rounds d
def b96_0 (d:sh96_0.data):shb96_0.data:=outB shb96_0.dflt (l96_0 d)
def r96_0 (d:sh96_0.data):shr96_0.data:=outR shr96_0.dflt (l96_0 d)
def lc96_0:LoopC:=lcOf sh96_0 shb96_0 shr96_0 l96_0 b96_0 r96_0

theorem wk96_0 (x0:(List ByteArray)) (x1:ByteArray) (x2:Int):Walks (runBody (kf95 Go.Proofs.Tryz.prog).orc Go.Proofs.Tryz.prog 400 96 0 sh96_0 shb96_0 shr96_0 ((x0,x1,x2,()),())) (t96_0 x0 x1 x2) [(bl 3 7,[2,4,6]),(bl 3 3,[2,4,6]),(bl 1 0,[2])] :=
  ⟨by kernel_rfl,by kernel_rfl,by kernel_rfl,trivial⟩

theorem ok96_0_t (x0:(List ByteArray)) (x1:ByteArray) (x2:Int):TrOk (BodyRuns Go.Proofs.Tryz.prog (kf95 Go.Proofs.Tryz.prog).orc 96 0 sh96_0 shb96_0 shr96_0 ((x0,x1,x2,()),())) (t96_0 x0 x1 x2) :=
  Walks.ok (fun _ _ _=>BodyRuns.of) (wk96_0 x0 x1 x2) (by kernel_rfl)

theorem ok96_0:LoopOk Go.Proofs.Tryz.prog 96 0 lc96_0:=loopOk_of (sh:=sh96_0) (shB:=shb96_0) (shR:=shr96_0) kf95_ok.base (T:=fun (d:sh96_0.data)=>t96_0 d.1.1 d.1.2.1 d.1.2.2.1) (by kernel_rfl) rfl (fun (d:sh96_0.data)=>ok96_0_t d.1.1 d.1.2.1 d.1.2.2.1) (fun _=>rfl)
def kl96_0 (P:Go.Program):Known:=(kf95 P).loop 96 0 lc96_0
theorem kl96_0_ok:KnownOk Go.Proofs.Tryz.prog (kl96_0 Go.Proofs.Tryz.prog):=kf95_ok.loop ok96_0

/-! ductility/ductilitybase.HasText -/

abbrev as96:List Ty:=[(.slice .str),.str]
abbrev rs96:List Ty:=[.bool]

def t96 (x0:(List ByteArray)) (x1:ByteArray):Tr (Tys.data rs96) :=
  Tr.test (Option.isSome (l96_0 ((x0,(x1,((0:Int),()))),())))
    (Tr.test (isRet (l96_0 ((x0,(x1,((0:Int),()))),())))
      (let r0:=r96_0 ((x0,(x1,((0:Int),()))),());
      Tr.fin ((r0.1.1,())))
      (Tr.fin (((false:Bool),()))))
    (Tr.stop)

def f96 (d:Tys.data as96):Option (Tys.data rs96):=(t96 d.1 d.2.1).val
def g96 (d:Tys.data as96):Tys.data rs96:=(f96 d).getD (Tys.dflt rs96)
def p96:PureC:=pcOf as96 rs96 f96 g96

theorem wk96 (x0:(List ByteArray)) (x1:ByteArray):Walks (runPure (kl96_0 Go.Proofs.Tryz.prog).orc Go.Proofs.Tryz.prog 400 96 as96 rs96 (x0,x1,())) (t96 x0 x1) [(bl 2 3,[2,4]),(bl 2 1,[2,4])] :=
  ⟨by kernel_rfl,by kernel_rfl,trivial⟩

theorem ok96_t (x0:(List ByteArray)) (x1:ByteArray):TrOk (PureRuns Go.Proofs.Tryz.prog (kl96_0 Go.Proofs.Tryz.prog).orc 96 as96 rs96 (x0,x1,())) (t96 x0 x1) :=
  Walks.ok (fun _ _ _=>PureRuns.of) (wk96 x0 x1) (by kernel_rfl)

theorem ok96:PureOk Go.Proofs.Tryz.prog 96 p96:=pureOk_of kl96_0_ok.base (T:=fun (d:Tys.data as96)=>t96 d.1 d.2.1) (by kernel_rfl) (fun (d:Tys.data as96)=>ok96_t d.1 d.2.1)
def kf96 (P:Go.Program):Known:=(kl96_0 P).func 96 p96
theorem kf96_ok:KnownOk Go.Proofs.Tryz.prog (kf96 Go.Proofs.Tryz.prog):=kl96_0_ok.func ok96

/-! ductility/ductilitybase.Within -/

abbrev as25:List Ty:=[(.int .i64),(.int .i64),(.int .i64)]
abbrev rs25:List Ty:=[.bool]

def t25 (x0:Int) (x1:Int) (x2:Int):Tr (Tys.data rs25) :=
  Tr.test ((leF x1 x0:Bool))
    (Tr.fin ((leF x0 x2,())))
    (Tr.fin ((false,())))

def f25 (d:Tys.data as25):Option (Tys.data rs25):=(t25 d.1 d.2.1 d.2.2.1).val
def g25 (d:Tys.data as25):Tys.data rs25:=(f25 d).getD (Tys.dflt rs25)
def p25:PureC:=pcOf as25 rs25 f25 g25

theorem wk25 (x0:Int) (x1:Int) (x2:Int):Walks (runPure (kf96 Go.Proofs.Tryz.prog).orc Go.Proofs.Tryz.prog 400 25 as25 rs25 (x0,x1,x2,())) (t25 x0 x1 x2) [(bl 1 1,[2,2,2,2]),(bl 1 0,[2,2,2,2])] :=
  ⟨by kernel_rfl,by kernel_rfl,trivial⟩

theorem ok25_t (x0:Int) (x1:Int) (x2:Int):TrOk (PureRuns Go.Proofs.Tryz.prog (kf96 Go.Proofs.Tryz.prog).orc 25 as25 rs25 (x0,x1,x2,())) (t25 x0 x1 x2) :=
  Walks.ok (fun _ _ _=>PureRuns.of) (wk25 x0 x1 x2) (by kernel_rfl)

theorem ok25:PureOk Go.Proofs.Tryz.prog 25 p25:=pureOk_of kf96_ok.base (T:=fun (d:Tys.data as25)=>t25 d.1 d.2.1 d.2.2.1) (by kernel_rfl) (fun (d:Tys.data as25)=>ok25_t d.1 d.2.1 d.2.2.1)
def kf25 (P:Go.Program):Known:=(kf96 P).func 25 p25
theorem kf25_ok:KnownOk Go.Proofs.Tryz.prog (kf25 Go.Proofs.Tryz.prog):=kf96_ok.func ok25

/-! loop 0 of ductility/ductilityref09.indexesErr -/

abbrev sh150_0:Sh:={ n:=34,slots:=[0,1,5],pats:=[.ty (.slice (.int .i64)),.ty (.int .i64),.ty (.int .i64)],boxes:=[] }
abbrev shb150_0:Sh:={ n:=34,slots:=[],pats:=[],boxes:=[] }
abbrev shr150_0:Sh:={ n:=34,slots:=[4],pats:=[.ty (.int .i64)],boxes:=[] }

def t150_0 (x0:(List Int)) (x1:Int) (x2:Int):Tr (Out sh150_0.data shb150_0.data shr150_0.data) :=
  Tr.test ((!leF (↑(List.length x0):Int) x2:Bool))
    (Tr.test (decide ((0:Int) ≤ x2) && decide (x2 < (↑(List.length x0):Int)))
      (Tr.test (Option.isSome (f25 ((List.getD x0 (Int.toNat x2) (0:Int):Int),((0:Int),((wrap64 (x1 - (1:Int)):Int),())))))
        (let r0:=g25 ((List.getD x0 (Int.toNat x2) (0:Int):Int),((0:Int),((wrap64 (x1 - (1:Int)):Int),())));
        Tr.test ((!r0.1:Bool))
          (Tr.fin (.ret (((6:Int),()),())))
          (Tr.test ((!leF x2 0:Bool))
            (Tr.test ((decide ((0:Int) ≤ wrap64 (x2 - (1:Int))) && decide (wrap64 (x2 - (1:Int)) < (↑(List.length x0):Int)):Bool))
              (Tr.test ((leF (List.getD x0 (Int.toNat x2) (0:Int)) (List.getD x0 (Int.toNat (wrap64 (x2 - (1:Int)))) (0:Int)):Bool))
                (Tr.fin (.ret (((9:Int),()),())))
                (Tr.fin (.again ((x0,(x1,((wrap64 (x2 + (1:Int)):Int),()))),()))))
              (Tr.stop))
            (Tr.fin (.again ((x0,(x1,((wrap64 (x2 + (1:Int)):Int),()))),())))))
        (Tr.stop))
      (Tr.stop))
    (Tr.fin (.brk ((),())))

def s150_0 (d:sh150_0.data):Option (Out sh150_0.data shb150_0.data shr150_0.data):=(t150_0 d.1.1 d.1.2.1 d.1.2.2.1).val
def l150_0 (d:sh150_0.data):Option (shb150_0.data ⊕ shr150_0.data):=itr s150_0 rounds d
def b150_0 (d:sh150_0.data):shb150_0.data:=outB shb150_0.dflt (l150_0 d)
def r150_0 (d:sh150_0.data):shr150_0.data:=outR shr150_0.dflt (l150_0 d)
def lc150_0:LoopC:=lcOf sh150_0 shb150_0 shr150_0 l150_0 b150_0 r150_0

theorem wk150_0 (x0:(List Int)) (x1:Int) (x2:Int):Walks (runBody (kf25 Go.Proofs.Tryz.prog).orc Go.Proofs.Tryz.prog 400 150 0 sh150_0 shb150_0 shr150_0 ((x0,x1,x2,()),())) (t150_0 x0 x1 x2) [(bl 4 15,[2,4,6,8]),(bl 7 119,[2,6,6,6,4,6,6,6,6,6,12,6,6,6,8,10,12,14]),(bl 7 55,[2,6,6,6,4,6,6,6,6,6,12,6,6,6,8,10,12,14]),(bl 5 7,[0,2,2,2,2,2,2,2,2,2,2,2,4,6,8,10]),(bl 1 0,[2])] :=
  ⟨by kernel_rfl,by kernel_rfl,by kernel_rfl,by kernel_rfl,by kernel_rfl,trivial⟩

theorem ok150_0_t (x0:(List Int)) (x1:Int) (x2:Int):TrOk (BodyRuns Go.Proofs.Tryz.prog (kf25 Go.Proofs.Tryz.prog).orc 150 0 sh150_0 shb150_0 shr150_0 ((x0,x1,x2,()),())) (t150_0 x0 x1 x2) :=
  Walks.ok (fun _ _ _=>BodyRuns.of) (wk150_0 x0 x1 x2) (by kernel_rfl)

theorem ok150_0:LoopOk Go.Proofs.Tryz.prog 150 0 lc150_0:=loopOk_of (sh:=sh150_0) (shB:=shb150_0) (shR:=shr150_0) kf25_ok.base (T:=fun (d:sh150_0.data)=>t150_0 d.1.1 d.1.2.1 d.1.2.2.1) (by kernel_rfl) rfl (fun (d:sh150_0.data)=>ok150_0_t d.1.1 d.1.2.1 d.1.2.2.1) (fun _=>rfl)
def kl150_0 (P:Go.Program):Known:=(kf25 P).loop 150 0 lc150_0
theorem kl150_0_ok:KnownOk Go.Proofs.Tryz.prog (kl150_0 Go.Proofs.Tryz.prog):=kf25_ok.loop ok150_0

/-! ductility/ductilityref09.indexesErr -/

abbrev as150:List Ty:=[(.slice (.int .i64)),(.int .i64)]
abbrev rs150:List Ty:=[(.int .i64)]

def t150 (x0:(List Int)) (x1:Int):Tr (Tys.data rs150) :=
  Tr.test (Option.isSome (l150_0 ((x0,(x1,((0:Int),()))),())))
    (Tr.test (isRet (l150_0 ((x0,(x1,((0:Int),()))),())))
      (let r0:=r150_0 ((x0,(x1,((0:Int),()))),());
      Tr.fin ((r0.1.1,())))
      (Tr.fin (((0:Int),()))))
    (Tr.stop)

def f150 (d:Tys.data as150):Option (Tys.data rs150):=(t150 d.1 d.2.1).val
def g150 (d:Tys.data as150):Tys.data rs150:=(f150 d).getD (Tys.dflt rs150)
def p150:PureC:=pcOf as150 rs150 f150 g150

theorem wk150 (x0:(List Int)) (x1:Int):Walks (runPure (kl150_0 Go.Proofs.Tryz.prog).orc Go.Proofs.Tryz.prog 400 150 as150 rs150 (x0,x1,())) (t150 x0 x1) [(bl 2 3,[2,4]),(bl 2 1,[2,4])] :=
  ⟨by kernel_rfl,by kernel_rfl,trivial⟩

theorem ok150_t (x0:(List Int)) (x1:Int):TrOk (PureRuns Go.Proofs.Tryz.prog (kl150_0 Go.Proofs.Tryz.prog).orc 150 as150 rs150 (x0,x1,())) (t150 x0 x1) :=
  Walks.ok (fun _ _ _=>PureRuns.of) (wk150 x0 x1) (by kernel_rfl)

theorem ok150:PureOk Go.Proofs.Tryz.prog 150 p150:=pureOk_of kl150_0_ok.base (T:=fun (d:Tys.data as150)=>t150 d.1 d.2.1) (by kernel_rfl) (fun (d:Tys.data as150)=>ok150_t d.1 d.2.1)
def kf150 (P:Go.Program):Known:=(kl150_0 P).func 150 p150
theorem kf150_ok:KnownOk Go.Proofs.Tryz.prog (kf150 Go.Proofs.Tryz.prog):=kl150_0_ok.func ok150

/-! loop 0 of ductility/ductilitybase.Has -/

abbrev sh51_0:Sh:={ n:=18,slots:=[0,1,5],pats:=[.ty (.slice (.int .i64)),.ty (.int .i64),.ty (.int .i64)],boxes:=[] }
abbrev shb51_0:Sh:={ n:=18,slots:=[],pats:=[],boxes:=[] }
abbrev shr51_0:Sh:={ n:=18,slots:=[4],pats:=[.ty .bool],boxes:=[] }

def t51_0 (x0:(List Int)) (x1:Int) (x2:Int):Tr (Out sh51_0.data shb51_0.data shr51_0.data) :=
  Tr.test ((!leF (↑(List.length x0):Int) x2:Bool))
    (Tr.test (decide ((0:Int) ≤ x2) && decide (x2 < (↑(List.length x0):Int)))
      (Tr.test ((eqF (List.getD x0 (Int.toNat x2) (0:Int)) x1:Bool))
        (Tr.fin (.ret (((true:Bool),()),())))
        (Tr.fin (.again ((x0,(x1,((wrap64 (x2 + (1:Int)):Int),()))),()))))
      (Tr.stop))
    (Tr.fin (.brk ((),())))

def s51_0 (d:sh51_0.data):Option (Out sh51_0.data shb51_0.data shr51_0.data):=(t51_0 d.1.1 d.1.2.1 d.1.2.2.1).val
def l51_0 (d:sh51_0.data):Option (shb51_0.data ⊕ shr51_0.data):=itr s51_0 rounds d
def b51_0 (d:sh51_0.data):shb51_0.data:=outB shb51_0.dflt (l51_0 d)
def r51_0 (d:sh51_0.data):shr51_0.data:=outR shr51_0.dflt (l51_0 d)
def lc51_0:LoopC:=lcOf sh51_0 shb51_0 shr51_0 l51_0 b51_0 r51_0

theorem wk51_0 (x0:(List Int)) (x1:Int) (x2:Int):Walks (runBody (kf150 Go.Proofs.Tryz.prog).orc Go.Proofs.Tryz.prog 400 51 0 sh51_0 shb51_0 shr51_0 ((x0,x1,x2,()),())) (t51_0 x0 x1 x2) [(bl 3 7,[2,4,6]),(bl 3 3,[2,4,6]),(bl 1 0,[2])] :=
  ⟨by kernel_rfl,by kernel_rfl,by kernel_rfl,trivial⟩

theorem ok51_0_t (x0:(List Int)) (x1:Int) (x2:Int):TrOk (BodyRuns Go.Proofs.Tryz.prog (kf150 Go.Proofs.Tryz.prog).orc 51 0 sh51_0 shb51_0 shr51_0 ((x0,x1,x2,()),())) (t51_0 x0 x1 x2) :=
  Walks.ok (fun _ _ _=>BodyRuns.of) (wk51_0 x0 x1 x2) (by kernel_rfl)

theorem ok51_0:LoopOk Go.Proofs.Tryz.prog 51 0 lc51_0:=loopOk_of (sh:=sh51_0) (shB:=shb51_0) (shR:=shr51_0) kf150_ok.base (T:=fun (d:sh51_0.data)=>t51_0 d.1.1 d.1.2.1 d.1.2.2.1) (by kernel_rfl) rfl (fun (d:sh51_0.data)=>ok51_0_t d.1.1 d.1.2.1 d.1.2.2.1) (fun _=>rfl)
def kl51_0 (P:Go.Program):Known:=(kf150 P).loop 51 0 lc51_0
theorem kl51_0_ok:KnownOk Go.Proofs.Tryz.prog (kl51_0 Go.Proofs.Tryz.prog):=kf150_ok.loop ok51_0

/-! ductility/ductilitybase.Has -/

abbrev as51:List Ty:=[(.slice (.int .i64)),(.int .i64)]
abbrev rs51:List Ty:=[.bool]

def t51 (x0:(List Int)) (x1:Int):Tr (Tys.data rs51) :=
  Tr.test (Option.isSome (l51_0 ((x0,(x1,((0:Int),()))),())))
    (Tr.test (isRet (l51_0 ((x0,(x1,((0:Int),()))),())))
      (let r0:=r51_0 ((x0,(x1,((0:Int),()))),());
      Tr.fin ((r0.1.1,())))
      (Tr.fin (((false:Bool),()))))
    (Tr.stop)

def f51 (d:Tys.data as51):Option (Tys.data rs51):=(t51 d.1 d.2.1).val
def g51 (d:Tys.data as51):Tys.data rs51:=(f51 d).getD (Tys.dflt rs51)
def p51:PureC:=pcOf as51 rs51 f51 g51

theorem wk51 (x0:(List Int)) (x1:Int):Walks (runPure (kl51_0 Go.Proofs.Tryz.prog).orc Go.Proofs.Tryz.prog 400 51 as51 rs51 (x0,x1,())) (t51 x0 x1) [(bl 2 3,[2,4]),(bl 2 1,[2,4])] :=
  ⟨by kernel_rfl,by kernel_rfl,trivial⟩

theorem ok51_t (x0:(List Int)) (x1:Int):TrOk (PureRuns Go.Proofs.Tryz.prog (kl51_0 Go.Proofs.Tryz.prog).orc 51 as51 rs51 (x0,x1,())) (t51 x0 x1) :=
  Walks.ok (fun _ _ _=>PureRuns.of) (wk51 x0 x1) (by kernel_rfl)

theorem ok51:PureOk Go.Proofs.Tryz.prog 51 p51:=pureOk_of kl51_0_ok.base (T:=fun (d:Tys.data as51)=>t51 d.1 d.2.1) (by kernel_rfl) (fun (d:Tys.data as51)=>ok51_t d.1 d.2.1)
def kf51 (P:Go.Program):Known:=(kl51_0 P).func 51 p51
theorem kf51_ok:KnownOk Go.Proofs.Tryz.prog (kf51 Go.Proofs.Tryz.prog):=kl51_0_ok.func ok51

/-! loop 0 of ductility/ductilityref09.TestErr -/

abbrev sh97_0:Sh:={ n:=37,slots:=[2,7],pats:=[.ptr 0 2 0,.ty (.int .i64)],boxes:=[.row [.ty (.slice (.int .i64)),.ty (.slice (.int .i64))]] }
abbrev shb97_0:Sh:={ n:=37,slots:=[],pats:=[],boxes:=[.row [.ty (.slice (.int .i64)),.ty (.slice (.int .i64))]] }
abbrev shr97_0:Sh:={ n:=37,slots:=[4],pats:=[.ty (.int .i64)],boxes:=[.row [.ty (.slice (.int .i64)),.ty (.slice (.int .i64))]] }

def t97_0 (x1:Int) (b0_0:(List Int)) (b0_1:(List Int)):Tr (Out sh97_0.data shb97_0.data shr97_0.data) :=
  Tr.test ((!leF (↑(List.length b0_0):Int) x1:Bool))
    (Tr.test (decide ((0:Int) ≤ x1) && decide (x1 < (↑(List.length b0_0):Int)))
      (Tr.test (Option.isSome (f51 (b0_1,((List.getD b0_0 (Int.toNat x1) (0:Int):Int),()))))
        (let r0:=g51 (b0_1,((List.getD b0_0 (Int.toNat x1) (0:Int):Int),()));
        Tr.test (r0.1)
          (Tr.fin (.ret (((13:Int),()),((b0_0,(b0_1,())),()))))
          (Tr.fin (.again (((wrap64 (x1 + (1:Int)):Int),()),((b0_0,(b0_1,())),())))))
        (Tr.stop))
      (Tr.stop))
    (Tr.fin (.brk ((),((b0_0,(b0_1,())),()))))

def s97_0 (d:sh97_0.data):Option (Out sh97_0.data shb97_0.data shr97_0.data):=(t97_0 d.1.1 d.2.1.1 d.2.1.2.1).val
def l97_0 (d:sh97_0.data):Option (shb97_0.data ⊕ shr97_0.data):=itr s97_0 rounds d
def b97_0 (d:sh97_0.data):shb97_0.data:=outB shb97_0.dflt (l97_0 d)
def r97_0 (d:sh97_0.data):shr97_0.data:=outR shr97_0.dflt (l97_0 d)
def lc97_0:LoopC:=lcOf sh97_0 shb97_0 shr97_0 l97_0 b97_0 r97_0

theorem wk97_0 (x1:Int) (b0_0:(List Int)) (b0_1:(List Int)):Walks (runBody (kf51 Go.Proofs.Tryz.prog).orc Go.Proofs.Tryz.prog 400 97 0 sh97_0 shb97_0 shr97_0 ((x1,()),(b0_0,b0_1,()),())) (t97_0 x1 b0_0 b0_1) [(bl 4 15,[2,4,6,8]),(bl 4 7,[2,4,6,8]),(bl 1 0,[2])] :=
  ⟨by kernel_rfl,by kernel_rfl,by kernel_rfl,trivial⟩

theorem ok97_0_t (x1:Int) (b0_0:(List Int)) (b0_1:(List Int)):TrOk (BodyRuns Go.Proofs.Tryz.prog (kf51 Go.Proofs.Tryz.prog).orc 97 0 sh97_0 shb97_0 shr97_0 ((x1,()),(b0_0,b0_1,()),())) (t97_0 x1 b0_0 b0_1) :=
  Walks.ok (fun _ _ _=>BodyRuns.of) (wk97_0 x1 b0_0 b0_1) (by kernel_rfl)

theorem ok97_0:LoopOk Go.Proofs.Tryz.prog 97 0 lc97_0:=loopOk_of (sh:=sh97_0) (shB:=shb97_0) (shR:=shr97_0) kf51_ok.base (T:=fun (d:sh97_0.data)=>t97_0 d.1.1 d.2.1.1 d.2.1.2.1) (by kernel_rfl) rfl (fun (d:sh97_0.data)=>ok97_0_t d.1.1 d.2.1.1 d.2.1.2.1) (fun _=>rfl)
def kl97_0 (P:Go.Program):Known:=(kf51 P).loop 97 0 lc97_0
theorem kl97_0_ok:KnownOk Go.Proofs.Tryz.prog (kl97_0 Go.Proofs.Tryz.prog):=kf51_ok.loop ok97_0

/-! ductility/ductilityref09.TestErr -/

abbrev as97:List Ty:=[(.pair (.slice (.int .i64)) (.pair (.slice (.int .i64)) .unit)),(.int .i64)]
abbrev rs97:List Ty:=[(.int .i64)]

def t97 (x0:(List Int)) (x0':(List Int)) (x1:Int):Tr (Tys.data rs97) :=
  Tr.test (Option.isSome (f150 (x0,(x1,()))))
    (let r0:=g150 (x0,(x1,()));
    Tr.test ((!eqF r0.1 0:Bool))
      (Tr.fin ((r0.1,())))
      (Tr.test (Option.isSome (f150 (x0',(x1,()))))
        (let r1:=g150 (x0',(x1,()));
        Tr.test ((!eqF r1.1 0:Bool))
          (Tr.fin ((r1.1,())))
          (Tr.test (Option.isSome (l97_0 (((0:Int),()),((x0,(x0',())),()))))
            (Tr.test (isRet (l97_0 (((0:Int),()),((x0,(x0',())),()))))
              (let r2:=r97_0 (((0:Int),()),((x0,(x0',())),()));
              Tr.fin ((r2.1.1,())))
              (Tr.fin (((0:Int),()))))
            (Tr.stop)))
        (Tr.stop)))
    (Tr.stop)

def f97 (d:Tys.data as97):Option (Tys.data rs97):=(t97 d.1.1 d.1.2.1 d.2.1).val
def g97 (d:Tys.data as97):Tys.data rs97:=(f97 d).getD (Tys.dflt rs97)
def p97:PureC:=pcOf as97 rs97 f97 g97

theorem wk97 (x0:(List Int)) (x0':(List Int)) (x1:Int):Walks (runPure (kl97_0 Go.Proofs.Tryz.prog).orc Go.Proofs.Tryz.prog 400 97 as97 rs97 ((x0,x0',()),x1,())) (t97 x0 x0' x1) [(bl 2 3,[2,4]),(bl 4 13,[2,4,6,8]),(bl 6 53,[2,4,6,8,10,12]),(bl 6 21,[2,4,6,8,10,12])] :=
  ⟨by kernel_rfl,by kernel_rfl,by kernel_rfl,by kernel_rfl,trivial⟩

theorem ok97_t (x0:(List Int)) (x0':(List Int)) (x1:Int):TrOk (PureRuns Go.Proofs.Tryz.prog (kl97_0 Go.Proofs.Tryz.prog).orc 97 as97 rs97 ((x0,x0',()),x1,())) (t97 x0 x0' x1) :=
  Walks.ok (fun _ _ _=>PureRuns.of) (wk97 x0 x0' x1) (by kernel_rfl)

theorem ok97:PureOk Go.Proofs.Tryz.prog 97 p97:=pureOk_of kl97_0_ok.base (T:=fun (d:Tys.data as97)=>t97 d.1.1 d.1.2.1 d.2.1) (by kernel_rfl) (fun (d:Tys.data as97)=>ok97_t d.1.1 d.1.2.1 d.2.1)
def kf97 (P:Go.Program):Known:=(kl97_0 P).func 97 p97
theorem kf97_ok:KnownOk Go.Proofs.Tryz.prog (kf97 Go.Proofs.Tryz.prog):=kl97_0_ok.func ok97

/-! loop 0 of ductility/ductilityref09.CheckMachine -/

abbrev sh21_0:Sh:={ n:=130,slots:=[1,4],pats:=[.ptr 0 3 0,.ty (.int .i64)],boxes:=[.row [.ty (.slice .str),.ty (.slice (.pair .str (.pair (.pair (.slice (.int .i64)) (.pair (.slice (.int .i64)) .unit)) (.pair (.pair (.slice (.int .i64)) (.pair (.slice (.int .i64)) .unit)) .unit)))),.ty (.slice (.pair (.slice (.int .i64)) (.pair (.slice (.int .i64)) .unit)))]] }
abbrev shb21_0:Sh:={ n:=130,slots:=[1],pats:=[.ptr 0 3 0],boxes:=[.row [.ty (.slice .str),.ty (.slice (.pair .str (.pair (.pair (.slice (.int .i64)) (.pair (.slice (.int .i64)) .unit)) (.pair (.pair (.slice (.int .i64)) (.pair (.slice (.int .i64)) .unit)) .unit)))),.ty (.slice (.pair (.slice (.int .i64)) (.pair (.slice (.int .i64)) .unit)))]] }
abbrev shr21_0:Sh:={ n:=130,slots:=[2,3],pats:=[.ty (.int .i64),.ty (.int .i64)],boxes:=[.row [.ty (.slice .str),.ty (.slice (.pair .str (.pair (.pair (.slice (.int .i64)) (.pair (.slice (.int .i64)) .unit)) (.pair (.pair (.slice (.int .i64)) (.pair (.slice (.int .i64)) .unit)) .unit)))),.ty (.slice (.pair (.slice (.int .i64)) (.pair (.slice (.int .i64)) .unit)))]] }

def t21_0 (x1:Int) (b0_0:(List ByteArray)) (b0_1:(List (ByteArray×(((List Int)×((List Int)×Unit))×(((List Int)×((List Int)×Unit))×Unit))))) (b0_2:(List ((List Int)×((List Int)×Unit)))):Tr (Out sh21_0.data shb21_0.data shr21_0.data) :=
  Tr.test ((!leF (↑(List.length b0_0):Int) x1:Bool))
    (Tr.test (decide ((0:Int) ≤ x1) && decide (x1 < (↑(List.length b0_0):Int)))
      (Tr.test (Option.isSome (f95 ((List.getD b0_0 (Int.toNat x1) { data:={ toList:=[] } }:ByteArray),())))
        (let r0:=g95 ((List.getD b0_0 (Int.toNat x1) { data:={ toList:=[] } }:ByteArray),());
        Tr.test ((!r0.1:Bool))
          (Tr.fin (.ret ((x1,((4:Int),())),((b0_0,(b0_1,(b0_2,()))),()))))
          (Tr.test ((decide ((0:Int) ≤ x1) && decide (x1 ≤ (↑(List.length b0_0):Int)):Bool))
            (Tr.test (Option.isSome (f96 ((List.take (Int.toNat x1) b0_0:List ByteArray),((List.getD b0_0 (Int.toNat x1) { data:={ toList:=[] } }:ByteArray),()))))
              (let r1:=g96 ((List.take (Int.toNat x1) b0_0:List ByteArray),((List.getD b0_0 (Int.toNat x1) { data:={ toList:=[] } }:ByteArray),()));
              Tr.test (r1.1)
                (Tr.fin (.ret ((x1,((5:Int),())),((b0_0,(b0_1,(b0_2,()))),()))))
                (Tr.fin (.again (((wrap64 (x1 + (1:Int)):Int),()),((b0_0,(b0_1,(b0_2,()))),())))))
              (Tr.stop))
            (Tr.stop)))
        (Tr.stop))
      (Tr.stop))
    (Tr.fin (.brk ((),((b0_0,(b0_1,(b0_2,()))),()))))

def s21_0 (d:sh21_0.data):Option (Out sh21_0.data shb21_0.data shr21_0.data):=(t21_0 d.1.1 d.2.1.1 d.2.1.2.1 d.2.1.2.2.1).val
def l21_0 (d:sh21_0.data):Option (shb21_0.data ⊕ shr21_0.data):=itr s21_0 rounds d
def b21_0 (d:sh21_0.data):shb21_0.data:=outB shb21_0.dflt (l21_0 d)
def r21_0 (d:sh21_0.data):shr21_0.data:=outR shr21_0.dflt (l21_0 d)
def lc21_0:LoopC:=lcOf sh21_0 shb21_0 shr21_0 l21_0 b21_0 r21_0

theorem wk21_0 (x1:Int) (b0_0:(List ByteArray)) (b0_1:(List (ByteArray×(((List Int)×((List Int)×Unit))×(((List Int)×((List Int)×Unit))×Unit))))) (b0_2:(List ((List Int)×((List Int)×Unit)))):Walks (runBody (kf97 Go.Proofs.Tryz.prog).orc Go.Proofs.Tryz.prog 400 21 0 sh21_0 shb21_0 shr21_0 ((x1,()),(b0_0,b0_1,b0_2,()),())) (t21_0 x1 b0_0 b0_1 b0_2) [(bl 4 15,[2,4,6,8]),(bl 7 119,[2,4,12,6,8,10,12,14]),(bl 7 55,[2,4,12,6,8,10,12,14]),(bl 1 0,[2])] :=
  ⟨by kernel_rfl,by kernel_rfl,by kernel_rfl,by kernel_rfl,trivial⟩

theorem ok21_0_t (x1:Int) (b0_0:(List ByteArray)) (b0_1:(List (ByteArray×(((List Int)×((List Int)×Unit))×(((List Int)×((List Int)×Unit))×Unit))))) (b0_2:(List ((List Int)×((List Int)×Unit)))):TrOk (BodyRuns Go.Proofs.Tryz.prog (kf97 Go.Proofs.Tryz.prog).orc 21 0 sh21_0 shb21_0 shr21_0 ((x1,()),(b0_0,b0_1,b0_2,()),())) (t21_0 x1 b0_0 b0_1 b0_2) :=
  Walks.ok (fun _ _ _=>BodyRuns.of) (wk21_0 x1 b0_0 b0_1 b0_2) (by kernel_rfl)

theorem ok21_0:LoopOk Go.Proofs.Tryz.prog 21 0 lc21_0:=loopOk_of (sh:=sh21_0) (shB:=shb21_0) (shR:=shr21_0) kf97_ok.base (T:=fun (d:sh21_0.data)=>t21_0 d.1.1 d.2.1.1 d.2.1.2.1 d.2.1.2.2.1) (by kernel_rfl) rfl (fun (d:sh21_0.data)=>ok21_0_t d.1.1 d.2.1.1 d.2.1.2.1 d.2.1.2.2.1) (fun _=>rfl)
def kl21_0 (P:Go.Program):Known:=(kf97 P).loop 21 0 lc21_0
theorem kl21_0_ok:KnownOk Go.Proofs.Tryz.prog (kl21_0 Go.Proofs.Tryz.prog):=kf97_ok.loop ok21_0

/-! loop 4 of ductility/ductilityref09.CheckMachine -/

abbrev sh21_4:Sh:={ n:=130,slots:=[1,5,6,7],pats:=[.ptr 0 3 0,.ty (.int .i64),.ptr 1 5 0,.ty (.int .i64)],boxes:=[.row [.ty (.slice .str),.ty (.slice (.pair .str (.pair (.pair (.slice (.int .i64)) (.pair (.slice (.int .i64)) .unit)) (.pair (.pair (.slice (.int .i64)) (.pair (.slice (.int .i64)) .unit)) .unit)))),.ty (.slice (.pair (.slice (.int .i64)) (.pair (.slice (.int .i64)) .unit)))],.row [.ty .str,.ty (.slice (.int .i64)),.ty (.slice (.int .i64)),.ty (.slice (.int .i64)),.ty (.slice (.int .i64))]] }
abbrev shb21_4:Sh:={ n:=130,slots:=[1,5,6],pats:=[.ptr 0 3 0,.ty (.int .i64),.ptr 1 5 0],boxes:=[.row [.ty (.slice .str),.ty (.slice (.pair .str (.pair (.pair (.slice (.int .i64)) (.pair (.slice (.int .i64)) .unit)) (.pair (.pair (.slice (.int .i64)) (.pair (.slice (.int .i64)) .unit)) .unit)))),.ty (.slice (.pair (.slice (.int .i64)) (.pair (.slice (.int .i64)) .unit)))],.row [.ty .str,.ty (.slice (.int .i64)),.ty (.slice (.int .i64)),.ty (.slice (.int .i64)),.ty (.slice (.int .i64))]] }
abbrev shr21_4:Sh:={ n:=130,slots:=[2,3],pats:=[.ty (.int .i64),.ty (.int .i64)],boxes:=[.row [.ty (.slice .str),.ty (.slice (.pair .str (.pair (.pair (.slice (.int .i64)) (.pair (.slice (.int .i64)) .unit)) (.pair (.pair (.slice (.int .i64)) (.pair (.slice (.int .i64)) .unit)) .unit)))),.ty (.slice (.pair (.slice (.int .i64)) (.pair (.slice (.int .i64)) .unit)))],.row [.ty .str,.ty (.slice (.int .i64)),.ty (.slice (.int .i64)),.ty (.slice (.int .i64)),.ty (.slice (.int .i64))]] }

def t21_4 (x1:Int) (x3:Int) (b0_0:(List ByteArray)) (b0_1:(List (ByteArray×(((List Int)×((List Int)×Unit))×(((List Int)×((List Int)×Unit))×Unit))))) (b0_2:(List ((List Int)×((List Int)×Unit)))) (b1_0:ByteArray) (b1_1:(List Int)) (b1_2:(List Int)) (b1_3:(List Int)) (b1_4:(List Int)):Tr (Out sh21_4.data shb21_4.data shr21_4.data) :=
  Tr.test ((!leF x1 x3:Bool))
    (Tr.test (decide ((0:Int) ≤ x3) && decide (x3 < (↑(List.length b0_1):Int)))
      (Tr.test ((strEq (List.getD b0_1 (Int.toNat x3) ({ data:={ toList:=[] } },([],[],()),([],[],()),())).1 b1_0:Bool))
        (Tr.fin (.ret ((x1,((5:Int),())),((b0_0,(b0_1,(b0_2,()))),((b1_0,(b1_1,(b1_2,(b1_3,(b1_4,()))))),())))))
        (Tr.fin (.again ((x1,((wrap64 (x3 + (1:Int)):Int),())),((b0_0,(b0_1,(b0_2,()))),((b1_0,(b1_1,(b1_2,(b1_3,(b1_4,()))))),()))))))
      (Tr.stop))
    (Tr.fin (.brk ((x1,()),((b0_0,(b0_1,(b0_2,()))),((b1_0,(b1_1,(b1_2,(b1_3,(b1_4,()))))),())))))

def s21_4 (d:sh21_4.data):Option (Out sh21_4.data shb21_4.data shr21_4.data):=(t21_4 d.1.1 d.1.2.1 d.2.1.1 d.2.1.2.1 d.2.1.2.2.1 d.2.2.1.1 d.2.2.1.2.1 d.2.2.1.2.2.1 d.2.2.1.2.2.2.1 d.2.2.1.2.2.2.2.1).val
def l21_4 (d:sh21_4.data):Option (shb21_4.data ⊕ shr21_4.data):=itr s21_4 rounds d
def b21_4 (d:sh21_4.data):shb21_4.data:=outB shb21_4.dflt (l21_4 d)
def r21_4 (d:sh21_4.data):shr21_4.data:=outR shr21_4.dflt (l21_4 d)
def lc21_4:LoopC:=lcOf sh21_4 shb21_4 shr21_4 l21_4 b21_4 r21_4

theorem wk21_4 (x1:Int) (x3:Int) (b0_0:(List ByteArray)) (b0_1:(List (ByteArray×(((List Int)×((List Int)×Unit))×(((List Int)×((List Int)×Unit))×Unit))))) (b0_2:(List ((List Int)×((List Int)×Unit)))) (b1_0:ByteArray) (b1_1:(List Int)) (b1_2:(List Int)) (b1_3:(List Int)) (b1_4:(List Int)):Walks (runBody (kl21_0 Go.Proofs.Tryz.prog).orc Go.Proofs.Tryz.prog 400 21 4 sh21_4 shb21_4 shr21_4 ((x1,x3,()),(b0_0,b0_1,b0_2,()),(b1_0,b1_1,b1_2,b1_3,b1_4,()),())) (t21_4 x1 x3 b0_0 b0_1 b0_2 b1_0 b1_1 b1_2 b1_3 b1_4) [(bl 3 7,[2,4,6]),(bl 3 3,[2,4,6]),(bl 1 0,[2])] :=
  ⟨by kernel_rfl,by kernel_rfl,by kernel_rfl,trivial⟩

theorem ok21_4_t (x1:Int) (x3:Int) (b0_0:(List ByteArray)) (b0_1:(List (ByteArray×(((List Int)×((List Int)×Unit))×(((List Int)×((List Int)×Unit))×Unit))))) (b0_2:(List ((List Int)×((List Int)×Unit)))) (b1_0:ByteArray) (b1_1:(List Int)) (b1_2:(List Int)) (b1_3:(List Int)) (b1_4:(List Int)):TrOk (BodyRuns Go.Proofs.Tryz.prog (kl21_0 Go.Proofs.Tryz.prog).orc 21 4 sh21_4 shb21_4 shr21_4 ((x1,x3,()),(b0_0,b0_1,b0_2,()),(b1_0,b1_1,b1_2,b1_3,b1_4,()),())) (t21_4 x1 x3 b0_0 b0_1 b0_2 b1_0 b1_1 b1_2 b1_3 b1_4) :=
  Walks.ok (fun _ _ _=>BodyRuns.of) (wk21_4 x1 x3 b0_0 b0_1 b0_2 b1_0 b1_1 b1_2 b1_3 b1_4) (by kernel_rfl)

theorem ok21_4:LoopOk Go.Proofs.Tryz.prog 21 4 lc21_4:=loopOk_of (sh:=sh21_4) (shB:=shb21_4) (shR:=shr21_4) kl21_0_ok.base (T:=fun (d:sh21_4.data)=>t21_4 d.1.1 d.1.2.1 d.2.1.1 d.2.1.2.1 d.2.1.2.2.1 d.2.2.1.1 d.2.2.1.2.1 d.2.2.1.2.2.1 d.2.2.1.2.2.2.1 d.2.2.1.2.2.2.2.1) (by kernel_rfl) rfl (fun (d:sh21_4.data)=>ok21_4_t d.1.1 d.1.2.1 d.2.1.1 d.2.1.2.1 d.2.1.2.2.1 d.2.2.1.1 d.2.2.1.2.1 d.2.2.1.2.2.1 d.2.2.1.2.2.2.1 d.2.2.1.2.2.2.2.1) (fun _=>rfl)
def kl21_4 (P:Go.Program):Known:=(kl21_0 P).loop 21 4 lc21_4
theorem kl21_4_ok:KnownOk Go.Proofs.Tryz.prog (kl21_4 Go.Proofs.Tryz.prog):=kl21_0_ok.loop ok21_4

end Go.Vm.Mo
