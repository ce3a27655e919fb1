import Derived.Test.YtappjfcejjmdeaaA3
import Derived.KernelRfl
import Derived.Test.YtappjfcejjmdeaaProg
set_option linter.unusedVariables false
set_option linter.unusedSimpArgs false

namespace Go.Vm.Mo
open Go
set_option linter.unusedVariables false

def kn0 : Known := ⟨[], []⟩

theorem plainP : Plain Go.Proofs.Try.prog := by
  have h : (Go.Proofs.Try.prog.funcs.toList.all fun fn => !(fn.body.isSome && fn.name == "runtime.NumGoroutine")) = true := by kernel_rfl
  intro f fn hf hb
  have hm : fn ∈ Go.Proofs.Try.prog.funcs.toList := by
    have := Array.getElem?_eq_some_iff.1 hf
    obtain ⟨hlt, rfl⟩ := this
    simp
  have := List.all_eq_true.1 h fn hm
  rw [hb] at this
  simpa using this

theorem kn0_ok : KnownOk Go.Proofs.Try.prog kn0 := ⟨plainP, by kernel_rfl, (fun _ h => by cases h), (fun _ h => by cases h)⟩

/-! ductility/ductilitylaw02.awake -/

abbrev as15 : List Ty := []
abbrev rs15 : List Ty := [.bool]
def f15 (_ : Tys.data as15) : Option (Tys.data rs15) := some (true, ())
def g15 (_ : Tys.data as15) : Tys.data rs15 := (true, ())
def p15 : PureC := pcOf as15 rs15 f15 g15

theorem e15 : runAsk kn0.orc Go.Proofs.Try.prog 400 15 as15 rs15 () none = some ((true, ()), []) := by kernel_rfl
theorem ok15 : PureOk Go.Proofs.Try.prog 15 p15 := pureOk_closed kn0_ok.base (by kernel_rfl) e15 All.nil
def kf15 : Known := kn0.func 15 p15
theorem kf15_ok : KnownOk Go.Proofs.Try.prog kf15 := kn0_ok.func ok15

/-! ductility/ductilitylaw02.few -/

abbrev as16 : List Ty := [(.pair (.int .i64) (.pair (.slice (.int .i64)) .unit))]
abbrev rs16 : List Ty := [.bool]

def t16 (x0 : Int) (x0' : (List Int)) : Tr (Tys.data rs16) :=
  Tr.fin (((leF (↑(List.length x0') : Int) (26 : Int) : Bool), ()))

def f16 (d : Tys.data as16) : Option (Tys.data rs16) := (t16 d.1.1 d.1.2.1).val
def g16 (d : Tys.data as16) : Tys.data rs16 := (f16 d).getD (Tys.dflt rs16)
def p16 : PureC := pcOf as16 rs16 f16 g16

theorem e16_0 (x0 : Int) (x0' : (List Int)) : runPure kf15.orc Go.Proofs.Try.prog 400 16 as16 rs16 ((x0, x0', ()), ()) [] =
    (some (((leF (↑(List.length x0') : Int) (26 : Int) : Bool), ()), [])) := by kernel_rfl

theorem ok16_t (x0 : Int) (x0' : (List Int)) : TrOk (PureRuns Go.Proofs.Try.prog kf15.orc 16 as16 rs16 ((x0, x0', ()), ())) (t16 x0 x0') :=
  TrOk.ofFin (PureRuns.of (e16_0 x0 x0') (All.nil))

theorem ok16 : PureOk Go.Proofs.Try.prog 16 p16 := pureOk_of kf15_ok.base (T := fun (d : Tys.data as16) => t16 d.1.1 d.1.2.1) (by kernel_rfl) (fun (d : Tys.data as16) => ok16_t d.1.1 d.1.2.1)
def kf16 : Known := kf15.func 16 p16
theorem kf16_ok : KnownOk Go.Proofs.Try.prog kf16 := kf15_ok.func ok16

/-! ductility/ductilitybase.CopyInts -/

abbrev as70 : List Ty := [(.slice (.int .i64))]
abbrev rs70 : List Ty := [(.slice (.int .i64))]

def t70 (x0 : (List Int)) : Tr (Tys.data rs70) :=
  Tr.test ((Nat.beq (List.length x0) (0 : Nat) : Bool))
    (Tr.fin ((([] : List Int), ())))
    (Tr.test ((Nat.ble ((0 : Nat) + List.length x0) (0 : Nat) : Bool))
      (Tr.stop /- none [op 2 of region 1 of F70] -/)
      (Tr.test ((Nat.ble (((2 : Nat) * ((0 : Nat) + List.length x0) + (192 : Nat)) * (8 : Nat)) (281474976710656 : Nat) && Nat.ble ((0 : Nat) + List.length x0) (281474976710656 : Nat) : Bool))
        (Tr.test ((Nat.beq ((0 : Nat) + List.length x0) (List.length ([] ++ x0)) : Bool))
          (Tr.fin ((([] ++ x0 : List Int), ())))
          (Tr.test ((Nat.ble ((0 : Nat) + List.length x0) (List.length ([] ++ x0)) : Bool))
            (Tr.fin (((List.take ((0 : Nat) + List.length x0) ([] ++ x0) : List Int), ())))
            (Tr.stop /- none [result] -/)))
        (Tr.stop /- none [op 2 of region 1 of F70] -/)))

def f70 (d : Tys.data as70) : Option (Tys.data rs70) := (t70 d.1).val
def g70 (d : Tys.data as70) : Tys.data rs70 := (f70 d).getD (Tys.dflt rs70)
def p70 : PureC := pcOf as70 rs70 f70 g70

theorem e70_0 (x0 : (List Int)) : runPure kf16.orc Go.Proofs.Try.prog 400 70 as70 rs70 (x0, ()) [true, true] =
    (some ((([] : List Int), ()), [((true : Bool), true), ((Nat.beq (List.length x0) (0 : Nat) : Bool), true)])) := by kernel_rfl
theorem e70_2 (x0 : (List Int)) : runPure kf16.orc Go.Proofs.Try.prog 400 70 as70 rs70 (x0, ()) [false, false, true, true, true] =
    (some ((([] ++ x0 : List Int), ()), [((Nat.beq ((0 : Nat) + List.length x0) (List.length ([] ++ x0)) : Bool), true), ((true : Bool), true), ((Nat.ble (((2 : Nat) * ((0 : Nat) + List.length x0) + (192 : Nat)) * (8 : Nat)) (281474976710656 : Nat) && Nat.ble ((0 : Nat) + List.length x0) (281474976710656 : Nat) : Bool), true), ((Nat.ble ((0 : Nat) + List.length x0) (0 : Nat) : Bool), false), ((Nat.beq (List.length x0) (0 : Nat) : Bool), false)])) := by kernel_rfl
theorem e70_3 (x0 : (List Int)) : runPure kf16.orc Go.Proofs.Try.prog 400 70 as70 rs70 (x0, ()) [false, false, true, true, false, true] =
    (some (((List.take ((0 : Nat) + List.length x0) ([] ++ x0) : List Int), ()), [((Nat.ble ((0 : Nat) + List.length x0) (List.length ([] ++ x0)) : Bool), true), ((Nat.beq ((0 : Nat) + List.length x0) (List.length ([] ++ x0)) : Bool), false), ((true : Bool), true), ((Nat.ble (((2 : Nat) * ((0 : Nat) + List.length x0) + (192 : Nat)) * (8 : Nat)) (281474976710656 : Nat) && Nat.ble ((0 : Nat) + List.length x0) (281474976710656 : Nat) : Bool), true), ((Nat.ble ((0 : Nat) + List.length x0) (0 : Nat) : Bool), false), ((Nat.beq (List.length x0) (0 : Nat) : Bool), false)])) := by kernel_rfl

theorem ok70_t (x0 : (List Int)) : TrOk (PureRuns Go.Proofs.Try.prog kf16.orc 70 as70 rs70 (x0, ())) (t70 x0) :=
  TrOk.ofTest (fun h0 => TrOk.ofFin (PureRuns.of (e70_0 x0) (All.cons rfl (All.cons h0 (All.nil))))) (fun h0 => TrOk.ofTest (fun h1 => TrOk.ofStop) (fun h1 => TrOk.ofTest (fun h2 => TrOk.ofTest (fun h4 => TrOk.ofFin (PureRuns.of (e70_2 x0) (All.cons h4 (All.cons rfl (All.cons h2 (All.cons h1 (All.cons h0 (All.nil)))))))) (fun h4 => TrOk.ofTest (fun h5 => TrOk.ofFin (PureRuns.of (e70_3 x0) (All.cons h5 (All.cons h4 (All.cons rfl (All.cons h2 (All.cons h1 (All.cons h0 (All.nil))))))))) (fun h5 => TrOk.ofStop))) (fun h2 => TrOk.ofStop)))

theorem ok70 : PureOk Go.Proofs.Try.prog 70 p70 := pureOk_of kf16_ok.base (T := fun (d : Tys.data as70) => t70 d.1) (by kernel_rfl) (fun (d : Tys.data as70) => ok70_t d.1)
def kf70 : Known := kf16.func 70 p70
theorem kf70_ok : KnownOk Go.Proofs.Try.prog kf70 := kf16_ok.func ok70

/-! ductility/ductilityref02.Copy -/

abbrev as18 : List Ty := [(.pair (.int .i64) (.pair (.slice (.int .i64)) .unit))]
abbrev rs18 : List Ty := [(.pair (.int .i64) (.pair (.slice (.int .i64)) .unit))]

def t18 (x0 : Int) (x0' : (List Int)) : Tr (Tys.data rs18) :=
  Tr.test (Option.isSome (f70 (x0', ())))
    (let r0 : List Int × PUnit := g70 (x0', ());
    Tr.fin (((x0, ((r0.fst : List Int), ())), ())))
    (Tr.stop)

def f18 (d : Tys.data as18) : Option (Tys.data rs18) := (t18 d.1.1 d.1.2.1).val
def g18 (d : Tys.data as18) : Tys.data rs18 := (f18 d).getD (Tys.dflt rs18)
def p18 : PureC := pcOf as18 rs18 f18 g18

theorem e18_0 (x0 : Int) (x0' : (List Int)) : runPure kf70.orc Go.Proofs.Try.prog 400 18 as18 rs18 ((x0, x0', ()), ()) [true] =
    (let r0 : List Int × PUnit := g70 (x0', ()); some (((x0, ((r0.fst : List Int), ())), ()), [(Option.isSome (f70 (x0', ())), true)])) := by kernel_rfl

theorem ok18_t (x0 : Int) (x0' : (List Int)) : TrOk (PureRuns Go.Proofs.Try.prog kf70.orc 18 as18 rs18 ((x0, x0', ()), ())) (t18 x0 x0') :=
  TrOk.ofTest (fun h0 => TrOk.ofFin (PureRuns.of (e18_0 x0 x0') (All.cons h0 (All.nil)))) (fun h0 => TrOk.ofStop)

theorem ok18 : PureOk Go.Proofs.Try.prog 18 p18 := pureOk_of kf70_ok.base (T := fun (d : Tys.data as18) => t18 d.1.1 d.1.2.1) (by kernel_rfl) (fun (d : Tys.data as18) => ok18_t d.1.1 d.1.2.1)
def kf18 : Known := kf70.func 18 p18
theorem kf18_ok : KnownOk Go.Proofs.Try.prog kf18 := kf70_ok.func ok18

/-! ductility/motion.when -/

abbrev as86 : List Ty := [.bool, (.int .i64)]
abbrev rs86 : List Ty := [(.int .i64)]

def t86 (x0 : Bool) (x1 : Int) : Tr (Tys.data rs86) :=
  Tr.test (x0)
    (Tr.fin ((x1, ())))
    (Tr.fin (((0 : Int), ())))

def f86 (d : Tys.data as86) : Option (Tys.data rs86) := (t86 d.1 d.2.1).val
def g86 (d : Tys.data as86) : Tys.data rs86 := (f86 d).getD (Tys.dflt rs86)
def p86 : PureC := pcOf as86 rs86 f86 g86

theorem e86_0 (x0 : Bool) (x1 : Int) : runPure kf18.orc Go.Proofs.Try.prog 400 86 as86 rs86 (x0, x1, ()) [true] =
    (some ((x1, ()), [(x0, true)])) := by kernel_rfl
theorem e86_1 (x0 : Bool) (x1 : Int) : runPure kf18.orc Go.Proofs.Try.prog 400 86 as86 rs86 (x0, x1, ()) [false] =
    (some (((0 : Int), ()), [(x0, false)])) := by kernel_rfl

theorem ok86_t (x0 : Bool) (x1 : Int) : TrOk (PureRuns Go.Proofs.Try.prog kf18.orc 86 as86 rs86 (x0, x1, ())) (t86 x0 x1) :=
  TrOk.ofTest (fun h0 => TrOk.ofFin (PureRuns.of (e86_0 x0 x1) (All.cons h0 (All.nil)))) (fun h0 => TrOk.ofFin (PureRuns.of (e86_1 x0 x1) (All.cons h0 (All.nil))))

theorem ok86 : PureOk Go.Proofs.Try.prog 86 p86 := pureOk_of kf18_ok.base (T := fun (d : Tys.data as86) => t86 d.1 d.2.1) (by kernel_rfl) (fun (d : Tys.data as86) => ok86_t d.1 d.2.1)
def kf86 : Known := kf18.func 86 p86
theorem kf86_ok : KnownOk Go.Proofs.Try.prog kf86 := kf18_ok.func ok86

/-! loop 0 of ductility/motion.firstOf -/

abbrev sh85_0 : Sh := { n := 15, slots := [5, 6, 7], pats := [.ty (.slice (.int .i64)), .ty (.int .i64), .ty (.int .i64)], boxes := [] }
abbrev shb85_0 : Sh := { n := 15, slots := [], pats := [], boxes := [] }
abbrev shr85_0 : Sh := { n := 15, slots := [2], pats := [.ty (.int .i64)], boxes := [] }

def t85_0 (x0 : (List Int)) (x1 : Int) (x2 : Int) : Tr (Out sh85_0.data shb85_0.data shr85_0.data) :=
  Tr.test ((!leF x1 x2 : Bool))
    (Tr.test ((decide ((0 : Int) ≤ x2) && decide (x2 < (↑(List.length x0) : Int)) : Bool))
      (Tr.test ((!eqF (List.getD x0 (Int.toNat x2) (0 : Int)) (0 : Int) : Bool))
        (Tr.fin (.ret (((List.getD x0 (Int.toNat x2) (0 : Int) : Int), ()), ())))
        (Tr.fin (.again ((x0, (x1, ((wrap64 (x2 + (1 : Int)) : Int), ()))), ()))))
      (Tr.stop /- none [op 0 of region 3 of F85] -/))
    (Tr.fin (.brk ((), ())))

def s85_0 (d : sh85_0.data) : Option (Out sh85_0.data shb85_0.data shr85_0.data) := (t85_0 d.1.1 d.1.2.1 d.1.2.2.1).val
def l85_0 (d : sh85_0.data) : Option (shb85_0.data ⊕ shr85_0.data) := itr s85_0 rounds d
def b85_0 (d : sh85_0.data) : shb85_0.data := outB shb85_0.dflt (l85_0 d)
def r85_0 (d : sh85_0.data) : shr85_0.data := outR shr85_0.dflt (l85_0 d)
def lc85_0 : LoopC := lcOf sh85_0 shb85_0 shr85_0 l85_0 b85_0 r85_0

theorem e85_0_0 (x0 : (List Int)) (x1 : Int) (x2 : Int) : runBody kf86.orc Go.Proofs.Try.prog 400 85 0 sh85_0 shb85_0 shr85_0 ((x0, x1, x2, ()), ()) [true, true, true] =
    (some (.ret (((List.getD x0 (Int.toNat x2) (0 : Int) : Int), ()), ()), [((!eqF (List.getD x0 (Int.toNat x2) (0 : Int)) (0 : Int) : Bool), true), ((decide ((0 : Int) ≤ x2) && decide (x2 < (↑(List.length x0) : Int)) : Bool), true), ((!leF x1 x2 : Bool), true)])) := by kernel_rfl
theorem e85_0_1 (x0 : (List Int)) (x1 : Int) (x2 : Int) : runBody kf86.orc Go.Proofs.Try.prog 400 85 0 sh85_0 shb85_0 shr85_0 ((x0, x1, x2, ()), ()) [true, true, false] =
    (some (.again ((x0, (x1, ((wrap64 (x2 + (1 : Int)) : Int), ()))), ()), [((!eqF (List.getD x0 (Int.toNat x2) (0 : Int)) (0 : Int) : Bool), false), ((decide ((0 : Int) ≤ x2) && decide (x2 < (↑(List.length x0) : Int)) : Bool), true), ((!leF x1 x2 : Bool), true)])) := by kernel_rfl
theorem e85_0_3 (x0 : (List Int)) (x1 : Int) (x2 : Int) : runBody kf86.orc Go.Proofs.Try.prog 400 85 0 sh85_0 shb85_0 shr85_0 ((x0, x1, x2, ()), ()) [false] =
    (some (.brk ((), ()), [((!leF x1 x2 : Bool), false)])) := by kernel_rfl

theorem ok85_0_t (x0 : (List Int)) (x1 : Int) (x2 : Int) : TrOk (BodyRuns Go.Proofs.Try.prog kf86.orc 85 0 sh85_0 shb85_0 shr85_0 ((x0, x1, x2, ()), ())) (t85_0 x0 x1 x2) :=
  TrOk.ofTest (fun h0 => TrOk.ofTest (fun h1 => TrOk.ofTest (fun h2 => TrOk.ofFin (BodyRuns.of (e85_0_0 x0 x1 x2) (All.cons h2 (All.cons h1 (All.cons h0 (All.nil)))))) (fun h2 => TrOk.ofFin (BodyRuns.of (e85_0_1 x0 x1 x2) (All.cons h2 (All.cons h1 (All.cons h0 (All.nil))))))) (fun h1 => TrOk.ofStop)) (fun h0 => TrOk.ofFin (BodyRuns.of (e85_0_3 x0 x1 x2) (All.cons h0 (All.nil))))

theorem ok85_0 : LoopOk Go.Proofs.Try.prog 85 0 lc85_0 := loopOk_of kf86_ok.base (T := fun (d : sh85_0.data) => t85_0 d.1.1 d.1.2.1 d.1.2.2.1) (by kernel_rfl) rfl (fun (d : sh85_0.data) => ok85_0_t d.1.1 d.1.2.1 d.1.2.2.1) (fun _ => rfl)
def kl85_0 : Known := kf86.loop 85 0 lc85_0
theorem kl85_0_ok : KnownOk Go.Proofs.Try.prog kl85_0 := kf86_ok.loop ok85_0

/-! ductility/motion.firstOf -/

abbrev as85 : List Ty := [(.slice (.int .i64))]
abbrev rs85 : List Ty := [(.int .i64)]

def t85 (x0 : (List Int)) : Tr (Tys.data rs85) :=
  Tr.test (Option.isSome (l85_0 ((x0, ((↑(List.length x0) : Int), ((0 : Int), ()))), ())))
    (Tr.test (isRet (l85_0 ((x0, ((↑(List.length x0) : Int), ((0 : Int), ()))), ())))
      (let r0 : (Int × PUnit) × PUnit := r85_0 ((x0, ((↑(List.length x0) : Int), ((0 : Int), ()))), ());
      Tr.fin (((r0.fst.fst : Int), ())))
      (Tr.fin (((0 : Int), ()))))
    (Tr.stop)

def f85 (d : Tys.data as85) : Option (Tys.data rs85) := (t85 d.1).val
def g85 (d : Tys.data as85) : Tys.data rs85 := (f85 d).getD (Tys.dflt rs85)
def p85 : PureC := pcOf as85 rs85 f85 g85

theorem e85_0 (x0 : (List Int)) : runPure kl85_0.orc Go.Proofs.Try.prog 400 85 as85 rs85 (x0, ()) [true, true] =
    (let r0 : (Int × PUnit) × PUnit := r85_0 ((x0, ((↑(List.length x0) : Int), ((0 : Int), ()))), ()); some (((r0.fst.fst : Int), ()), [(isRet (l85_0 ((x0, ((↑(List.length x0) : Int), ((0 : Int), ()))), ())), true), (Option.isSome (l85_0 ((x0, ((↑(List.length x0) : Int), ((0 : Int), ()))), ())), true)])) := by kernel_rfl
theorem e85_1 (x0 : (List Int)) : runPure kl85_0.orc Go.Proofs.Try.prog 400 85 as85 rs85 (x0, ()) [true, false] =
    (some (((0 : Int), ()), [(isRet (l85_0 ((x0, ((↑(List.length x0) : Int), ((0 : Int), ()))), ())), false), (Option.isSome (l85_0 ((x0, ((↑(List.length x0) : Int), ((0 : Int), ()))), ())), true)])) := by kernel_rfl

theorem ok85_t (x0 : (List Int)) : TrOk (PureRuns Go.Proofs.Try.prog kl85_0.orc 85 as85 rs85 (x0, ())) (t85 x0) :=
  TrOk.ofTest (fun h0 => TrOk.ofTest (fun h1 => TrOk.ofFin (PureRuns.of (e85_0 x0) (All.cons h1 (All.cons h0 (All.nil))))) (fun h1 => TrOk.ofFin (PureRuns.of (e85_1 x0) (All.cons h1 (All.cons h0 (All.nil)))))) (fun h0 => TrOk.ofStop)

theorem ok85 : PureOk Go.Proofs.Try.prog 85 p85 := pureOk_of kl85_0_ok.base (T := fun (d : Tys.data as85) => t85 d.1) (by kernel_rfl) (fun (d : Tys.data as85) => ok85_t d.1)
def kf85 : Known := kl85_0.func 85 p85
theorem kf85_ok : KnownOk Go.Proofs.Try.prog kf85 := kl85_0_ok.func ok85

/-! loop 0 of ductility/motion.areWithin -/

abbrev sh94_0 : Sh := { n := 24, slots := [0, 1, 9, 10, 11], pats := [.ty (.int .i64), .ty (.int .i64), .sli 0 1, .ty (.int .i64), .ty (.int .i64)], boxes := [.arr (.int .i64)] }
abbrev shb94_0 : Sh := { n := 24, slots := [], pats := [], boxes := [.arr (.int .i64)] }
abbrev shr94_0 : Sh := { n := 24, slots := [6], pats := [.ty .bool], boxes := [.arr (.int .i64)] }

def t94_0 (x0 : Int) (x1 : Int) (x2n : Nat) (x2c : Nat) (x3 : Int) (x4 : Int) (b0 : (List Int)) : Tr (Out sh94_0.data shb94_0.data shr94_0.data) :=
  Tr.test ((!leF x3 x4 : Bool))
    (Tr.test ((decide ((0 : Int) ≤ x4) && decide (x4 < (↑x2n : Int)) : Bool))
      (Tr.test ((Nat.ble ((0 : Nat) + Int.toNat x4 + (1 : Nat)) (List.length b0) : Bool))
        (Tr.test ((!leF x0 (List.getD b0 ((0 : Nat) + Int.toNat x4) (0 : Int)) : Bool))
          (Tr.fin (.ret (((false : Bool), ()), (b0, ()))))
          (Tr.test ((!leF (List.getD b0 ((0 : Nat) + Int.toNat x4) (0 : Int)) x1 : Bool))
            (Tr.fin (.ret (((false : Bool), ()), (b0, ()))))
            (Tr.fin (.again ((x0, (x1, ((x2n, x2c), (x3, ((wrap64 (x4 + (1 : Int)) : Int), ()))))), (b0, ()))))))
        (Tr.stop /- none [op 1 of region 3 of F94] -/))
      (Tr.stop /- none [op 0 of region 3 of F94] -/))
    (Tr.fin (.brk ((), (b0, ()))))

def s94_0 (d : sh94_0.data) : Option (Out sh94_0.data shb94_0.data shr94_0.data) := (t94_0 d.1.1 d.1.2.1 d.1.2.2.1.1 d.1.2.2.1.2 d.1.2.2.2.1 d.1.2.2.2.2.1 d.2.1).val
def l94_0 (d : sh94_0.data) : Option (shb94_0.data ⊕ shr94_0.data) := itr s94_0 rounds d
def b94_0 (d : sh94_0.data) : shb94_0.data := outB shb94_0.dflt (l94_0 d)
def r94_0 (d : sh94_0.data) : shr94_0.data := outR shr94_0.dflt (l94_0 d)
def lc94_0 : LoopC := lcOf sh94_0 shb94_0 shr94_0 l94_0 b94_0 r94_0

theorem e94_0_0 (x0 : Int) (x1 : Int) (x2n : Nat) (x2c : Nat) (x3 : Int) (x4 : Int) (b0 : (List Int)) : runBody kf85.orc Go.Proofs.Try.prog 400 94 0 sh94_0 shb94_0 shr94_0 ((x0, x1, (x2n, x2c), x3, x4, ()), b0, ()) [true, true, true, true, true, true, true, true] =
    (some (.ret (((false : Bool), ()), (b0, ())), [((true : Bool), true), ((!leF x0 (List.getD b0 ((0 : Nat) + Int.toNat x4) (0 : Int)) : Bool), true), ((!leF x0 (List.getD b0 ((0 : Nat) + Int.toNat x4) (0 : Int)) : Bool), true), ((!leF x0 (List.getD b0 ((0 : Nat) + Int.toNat x4) (0 : Int)) : Bool), true), ((!leF x0 (List.getD b0 ((0 : Nat) + Int.toNat x4) (0 : Int)) : Bool), true), ((Nat.ble ((0 : Nat) + Int.toNat x4 + (1 : Nat)) (List.length b0) : Bool), true), ((decide ((0 : Int) ≤ x4) && decide (x4 < (↑x2n : Int)) : Bool), true), ((!leF x3 x4 : Bool), true)])) := by kernel_rfl
theorem e94_0_1 (x0 : Int) (x1 : Int) (x2n : Nat) (x2c : Nat) (x3 : Int) (x4 : Int) (b0 : (List Int)) : runBody kf85.orc Go.Proofs.Try.prog 400 94 0 sh94_0 shb94_0 shr94_0 ((x0, x1, (x2n, x2c), x3, x4, ()), b0, ()) [true, true, true, false, false, false, false, true] =
    (some (.ret (((false : Bool), ()), (b0, ())), [((!leF (List.getD b0 ((0 : Nat) + Int.toNat x4) (0 : Int)) x1 : Bool), true), ((!leF x0 (List.getD b0 ((0 : Nat) + Int.toNat x4) (0 : Int)) : Bool), false), ((!leF x0 (List.getD b0 ((0 : Nat) + Int.toNat x4) (0 : Int)) : Bool), false), ((!leF x0 (List.getD b0 ((0 : Nat) + Int.toNat x4) (0 : Int)) : Bool), false), ((!leF x0 (List.getD b0 ((0 : Nat) + Int.toNat x4) (0 : Int)) : Bool), false), ((Nat.ble ((0 : Nat) + Int.toNat x4 + (1 : Nat)) (List.length b0) : Bool), true), ((decide ((0 : Int) ≤ x4) && decide (x4 < (↑x2n : Int)) : Bool), true), ((!leF x3 x4 : Bool), true)])) := by kernel_rfl
theorem e94_0_2 (x0 : Int) (x1 : Int) (x2n : Nat) (x2c : Nat) (x3 : Int) (x4 : Int) (b0 : (List Int)) : runBody kf85.orc Go.Proofs.Try.prog 400 94 0 sh94_0 shb94_0 shr94_0 ((x0, x1, (x2n, x2c), x3, x4, ()), b0, ()) [true, true, true, false, false, false, false, false] =
    (some (.again ((x0, (x1, ((x2n, x2c), (x3, ((wrap64 (x4 + (1 : Int)) : Int), ()))))), (b0, ())), [((!leF (List.getD b0 ((0 : Nat) + Int.toNat x4) (0 : Int)) x1 : Bool), false), ((!leF x0 (List.getD b0 ((0 : Nat) + Int.toNat x4) (0 : Int)) : Bool), false), ((!leF x0 (List.getD b0 ((0 : Nat) + Int.toNat x4) (0 : Int)) : Bool), false), ((!leF x0 (List.getD b0 ((0 : Nat) + Int.toNat x4) (0 : Int)) : Bool), false), ((!leF x0 (List.getD b0 ((0 : Nat) + Int.toNat x4) (0 : Int)) : Bool), false), ((Nat.ble ((0 : Nat) + Int.toNat x4 + (1 : Nat)) (List.length b0) : Bool), true), ((decide ((0 : Int) ≤ x4) && decide (x4 < (↑x2n : Int)) : Bool), true), ((!leF x3 x4 : Bool), true)])) := by kernel_rfl
theorem e94_0_5 (x0 : Int) (x1 : Int) (x2n : Nat) (x2c : Nat) (x3 : Int) (x4 : Int) (b0 : (List Int)) : runBody kf85.orc Go.Proofs.Try.prog 400 94 0 sh94_0 shb94_0 shr94_0 ((x0, x1, (x2n, x2c), x3, x4, ()), b0, ()) [false] =
    (some (.brk ((), (b0, ())), [((!leF x3 x4 : Bool), false)])) := by kernel_rfl

theorem ok94_0_t (x0 : Int) (x1 : Int) (x2n : Nat) (x2c : Nat) (x3 : Int) (x4 : Int) (b0 : (List Int)) : TrOk (BodyRuns Go.Proofs.Try.prog kf85.orc 94 0 sh94_0 shb94_0 shr94_0 ((x0, x1, (x2n, x2c), x3, x4, ()), b0, ())) (t94_0 x0 x1 x2n x2c x3 x4 b0) :=
  TrOk.ofTest (fun h0 => TrOk.ofTest (fun h1 => TrOk.ofTest (fun h2 => TrOk.ofTest (fun h3 => TrOk.ofFin (BodyRuns.of (e94_0_0 x0 x1 x2n x2c x3 x4 b0) (All.cons rfl (All.cons h3 (All.cons h3 (All.cons h3 (All.cons h3 (All.cons h2 (All.cons h1 (All.cons h0 (All.nil))))))))))) (fun h3 => TrOk.ofTest (fun h7 => TrOk.ofFin (BodyRuns.of (e94_0_1 x0 x1 x2n x2c x3 x4 b0) (All.cons h7 (All.cons h3 (All.cons h3 (All.cons h3 (All.cons h3 (All.cons h2 (All.cons h1 (All.cons h0 (All.nil))))))))))) (fun h7 => TrOk.ofFin (BodyRuns.of (e94_0_2 x0 x1 x2n x2c x3 x4 b0) (All.cons h7 (All.cons h3 (All.cons h3 (All.cons h3 (All.cons h3 (All.cons h2 (All.cons h1 (All.cons h0 (All.nil))))))))))))) (fun h2 => TrOk.ofStop)) (fun h1 => TrOk.ofStop)) (fun h0 => TrOk.ofFin (BodyRuns.of (e94_0_5 x0 x1 x2n x2c x3 x4 b0) (All.cons h0 (All.nil))))

theorem ok94_0 : LoopOk Go.Proofs.Try.prog 94 0 lc94_0 := loopOk_of kf85_ok.base (T := fun (d : sh94_0.data) => t94_0 d.1.1 d.1.2.1 d.1.2.2.1.1 d.1.2.2.1.2 d.1.2.2.2.1 d.1.2.2.2.2.1 d.2.1) (by kernel_rfl) rfl (fun (d : sh94_0.data) => ok94_0_t d.1.1 d.1.2.1 d.1.2.2.1.1 d.1.2.2.1.2 d.1.2.2.2.1 d.1.2.2.2.2.1 d.2.1) (fun _ => rfl)
def kl94_0 : Known := kf85.loop 94 0 lc94_0
theorem kl94_0_ok : KnownOk Go.Proofs.Try.prog kl94_0 := kf85_ok.loop ok94_0

/-! loop 0 of ductility/motion.checkItems[int] -/

abbrev sh106_0 : Sh := { n := 25, slots := [1, 9, 10, 11], pats := [.fn 140 [], .ty (.slice (.int .i64)), .ty (.int .i64), .ty (.int .i64)], boxes := [] }
abbrev shb106_0 : Sh := { n := 25, slots := [], pats := [], boxes := [] }
abbrev shr106_0 : Sh := { n := 25, slots := [4, 5], pats := [.ty (.int .i64), .ty (.int .i64)], boxes := [] }

def t106_0 (x1 : (List Int)) (x2 : Int) (x3 : Int) : Tr (Out sh106_0.data shb106_0.data shr106_0.data) :=
  Tr.test ((!leF x2 x3 : Bool))
    (Tr.test ((decide ((0 : Int) ≤ x3) && decide (x3 < (↑(List.length x1) : Int)) : Bool))
      (Tr.test (Option.isSome (l94_0 (((-1000 : Int), ((1000 : Int), (((1 : Nat), (1 : Nat)), ((1 : Int), ((0 : Int), ()))))), (([List.getD x1 (Int.toNat x3) (0 : Int)] : List Int), ()))))
        (Tr.test (isRet (l94_0 (((-1000 : Int), ((1000 : Int), (((1 : Nat), (1 : Nat)), ((1 : Int), ((0 : Int), ()))))), (([List.getD x1 (Int.toNat x3) (0 : Int)] : List Int), ()))))
          (let r0 : (Bool × PUnit) × List Int × PUnit := r94_0 (((-1000 : Int), ((1000 : Int), (((1 : Nat), (1 : Nat)), ((1 : Int), ((0 : Int), ()))))), (([List.getD x1 (Int.toNat x3) (0 : Int)] : List Int), ()));
          Tr.test (Option.isSome (f86 ((!r0.fst.fst : Bool), ((2 : Int), ()))))
            (let r1 : Int × PUnit := g86 ((!r0.fst.fst : Bool), ((2 : Int), ()));
            Tr.test ((!eqF r1.fst (0 : Int) : Bool))
              (Tr.fin (.ret ((x3, ((r1.fst : Int), ())), ())))
              (Tr.fin (.again ((x1, (x2, ((wrap64 (x3 + (1 : Int)) : Int), ()))), ()))))
            (Tr.stop))
          (Tr.test (Option.isSome (f86 ((false : Bool), ((2 : Int), ()))))
            (let r2 : Int × PUnit := g86 ((false : Bool), ((2 : Int), ()));
            Tr.test ((!eqF r2.fst (0 : Int) : Bool))
              (Tr.fin (.ret ((x3, ((r2.fst : Int), ())), ())))
              (Tr.fin (.again ((x1, (x2, ((wrap64 (x3 + (1 : Int)) : Int), ()))), ()))))
            (Tr.stop)))
        (Tr.stop))
      (Tr.stop /- none [op 1 of region 3 of F106] -/))
    (Tr.fin (.brk ((), ())))

def s106_0 (d : sh106_0.data) : Option (Out sh106_0.data shb106_0.data shr106_0.data) := (t106_0 d.1.1 d.1.2.1 d.1.2.2.1).val
def l106_0 (d : sh106_0.data) : Option (shb106_0.data ⊕ shr106_0.data) := itr s106_0 rounds d
def b106_0 (d : sh106_0.data) : shb106_0.data := outB shb106_0.dflt (l106_0 d)
def r106_0 (d : sh106_0.data) : shr106_0.data := outR shr106_0.dflt (l106_0 d)
def lc106_0 : LoopC := lcOf sh106_0 shb106_0 shr106_0 l106_0 b106_0 r106_0

theorem e106_0_0 (x1 : (List Int)) (x2 : Int) (x3 : Int) : runBody kl94_0.orc Go.Proofs.Try.prog 400 106 0 sh106_0 shb106_0 shr106_0 ((x1, x2, x3, ()), ()) [true, true, true, true, true, true] =
    (let r0 : (Bool × PUnit) × List Int × PUnit := r94_0 (((-1000 : Int), ((1000 : Int), (((1 : Nat), (1 : Nat)), ((1 : Int), ((0 : Int), ()))))), (([List.getD x1 (Int.toNat x3) (0 : Int)] : List Int), ())); let r1 : Int × PUnit := g86 ((!r0.fst.fst : Bool), ((2 : Int), ())); some (.ret ((x3, ((r1.fst : Int), ())), ()), [((!eqF r1.fst (0 : Int) : Bool), true), (Option.isSome (f86 ((!r0.fst.fst : Bool), ((2 : Int), ()))), true), (isRet (l94_0 (((-1000 : Int), ((1000 : Int), (((1 : Nat), (1 : Nat)), ((1 : Int), ((0 : Int), ()))))), (([List.getD x1 (Int.toNat x3) (0 : Int)] : List Int), ()))), true), (Option.isSome (l94_0 (((-1000 : Int), ((1000 : Int), (((1 : Nat), (1 : Nat)), ((1 : Int), ((0 : Int), ()))))), (([List.getD x1 (Int.toNat x3) (0 : Int)] : List Int), ()))), true), ((decide ((0 : Int) ≤ x3) && decide (x3 < (↑(List.length x1) : Int)) : Bool), true), ((!leF x2 x3 : Bool), true)])) := by kernel_rfl
theorem e106_0_1 (x1 : (List Int)) (x2 : Int) (x3 : Int) : runBody kl94_0.orc Go.Proofs.Try.prog 400 106 0 sh106_0 shb106_0 shr106_0 ((x1, x2, x3, ()), ()) [true, true, true, true, true, false] =
    (let r0 : (Bool × PUnit) × List Int × PUnit := r94_0 (((-1000 : Int), ((1000 : Int), (((1 : Nat), (1 : Nat)), ((1 : Int), ((0 : Int), ()))))), (([List.getD x1 (Int.toNat x3) (0 : Int)] : List Int), ())); let r1 : Int × PUnit := g86 ((!r0.fst.fst : Bool), ((2 : Int), ())); some (.again ((x1, (x2, ((wrap64 (x3 + (1 : Int)) : Int), ()))), ()), [((!eqF r1.fst (0 : Int) : Bool), false), (Option.isSome (f86 ((!r0.fst.fst : Bool), ((2 : Int), ()))), true), (isRet (l94_0 (((-1000 : Int), ((1000 : Int), (((1 : Nat), (1 : Nat)), ((1 : Int), ((0 : Int), ()))))), (([List.getD x1 (Int.toNat x3) (0 : Int)] : List Int), ()))), true), (Option.isSome (l94_0 (((-1000 : Int), ((1000 : Int), (((1 : Nat), (1 : Nat)), ((1 : Int), ((0 : Int), ()))))), (([List.getD x1 (Int.toNat x3) (0 : Int)] : List Int), ()))), true), ((decide ((0 : Int) ≤ x3) && decide (x3 < (↑(List.length x1) : Int)) : Bool), true), ((!leF x2 x3 : Bool), true)])) := by kernel_rfl
theorem e106_0_2 (x1 : (List Int)) (x2 : Int) (x3 : Int) : runBody kl94_0.orc Go.Proofs.Try.prog 400 106 0 sh106_0 shb106_0 shr106_0 ((x1, x2, x3, ()), ()) [true, true, true, false, true, true] =
    (let r2 : Int × PUnit := g86 ((false : Bool), ((2 : Int), ())); some (.ret ((x3, ((r2.fst : Int), ())), ()), [((!eqF r2.fst (0 : Int) : Bool), true), (Option.isSome (f86 ((false : Bool), ((2 : Int), ()))), true), (isRet (l94_0 (((-1000 : Int), ((1000 : Int), (((1 : Nat), (1 : Nat)), ((1 : Int), ((0 : Int), ()))))), (([List.getD x1 (Int.toNat x3) (0 : Int)] : List Int), ()))), false), (Option.isSome (l94_0 (((-1000 : Int), ((1000 : Int), (((1 : Nat), (1 : Nat)), ((1 : Int), ((0 : Int), ()))))), (([List.getD x1 (Int.toNat x3) (0 : Int)] : List Int), ()))), true), ((decide ((0 : Int) ≤ x3) && decide (x3 < (↑(List.length x1) : Int)) : Bool), true), ((!leF x2 x3 : Bool), true)])) := by kernel_rfl
theorem e106_0_3 (x1 : (List Int)) (x2 : Int) (x3 : Int) : runBody kl94_0.orc Go.Proofs.Try.prog 400 106 0 sh106_0 shb106_0 shr106_0 ((x1, x2, x3, ()), ()) [true, true, true, false, true, false] =
    (let r2 : Int × PUnit := g86 ((false : Bool), ((2 : Int), ())); some (.again ((x1, (x2, ((wrap64 (x3 + (1 : Int)) : Int), ()))), ()), [((!eqF r2.fst (0 : Int) : Bool), false), (Option.isSome (f86 ((false : Bool), ((2 : Int), ()))), true), (isRet (l94_0 (((-1000 : Int), ((1000 : Int), (((1 : Nat), (1 : Nat)), ((1 : Int), ((0 : Int), ()))))), (([List.getD x1 (Int.toNat x3) (0 : Int)] : List Int), ()))), false), (Option.isSome (l94_0 (((-1000 : Int), ((1000 : Int), (((1 : Nat), (1 : Nat)), ((1 : Int), ((0 : Int), ()))))), (([List.getD x1 (Int.toNat x3) (0 : Int)] : List Int), ()))), true), ((decide ((0 : Int) ≤ x3) && decide (x3 < (↑(List.length x1) : Int)) : Bool), true), ((!leF x2 x3 : Bool), true)])) := by kernel_rfl
theorem e106_0_5 (x1 : (List Int)) (x2 : Int) (x3 : Int) : runBody kl94_0.orc Go.Proofs.Try.prog 400 106 0 sh106_0 shb106_0 shr106_0 ((x1, x2, x3, ()), ()) [false] =
    (some (.brk ((), ()), [((!leF x2 x3 : Bool), false)])) := by kernel_rfl

theorem ok106_0_t (x1 : (List Int)) (x2 : Int) (x3 : Int) : TrOk (BodyRuns Go.Proofs.Try.prog kl94_0.orc 106 0 sh106_0 shb106_0 shr106_0 ((x1, x2, x3, ()), ())) (t106_0 x1 x2 x3) :=
  TrOk.ofTest (fun h0 => TrOk.ofTest (fun h1 => TrOk.ofTest (fun h2 => TrOk.ofTest (fun h3 => TrOk.ofTest (fun h4 => TrOk.ofTest (fun h5 => TrOk.ofFin (BodyRuns.of (e106_0_0 x1 x2 x3) (All.cons h5 (All.cons h4 (All.cons h3 (All.cons h2 (All.cons h1 (All.cons h0 (All.nil))))))))) (fun h5 => TrOk.ofFin (BodyRuns.of (e106_0_1 x1 x2 x3) (All.cons h5 (All.cons h4 (All.cons h3 (All.cons h2 (All.cons h1 (All.cons h0 (All.nil)))))))))) (fun h4 => TrOk.ofStop)) (fun h3 => TrOk.ofTest (fun h4 => TrOk.ofTest (fun h5 => TrOk.ofFin (BodyRuns.of (e106_0_2 x1 x2 x3) (All.cons h5 (All.cons h4 (All.cons h3 (All.cons h2 (All.cons h1 (All.cons h0 (All.nil))))))))) (fun h5 => TrOk.ofFin (BodyRuns.of (e106_0_3 x1 x2 x3) (All.cons h5 (All.cons h4 (All.cons h3 (All.cons h2 (All.cons h1 (All.cons h0 (All.nil)))))))))) (fun h4 => TrOk.ofStop))) (fun h2 => TrOk.ofStop)) (fun h1 => TrOk.ofStop)) (fun h0 => TrOk.ofFin (BodyRuns.of (e106_0_5 x1 x2 x3) (All.cons h0 (All.nil))))

theorem ok106_0 : LoopOk Go.Proofs.Try.prog 106 0 lc106_0 := loopOk_of kl94_0_ok.base (T := fun (d : sh106_0.data) => t106_0 d.1.1 d.1.2.1 d.1.2.2.1) (by kernel_rfl) rfl (fun (d : sh106_0.data) => ok106_0_t d.1.1 d.1.2.1 d.1.2.2.1) (fun _ => rfl)
def kl106_0 : Known := kl94_0.loop 106 0 lc106_0
theorem kl106_0_ok : KnownOk Go.Proofs.Try.prog kl106_0 := kl94_0_ok.loop ok106_0

/-! ductility/motion.checkSamples -/

abbrev as87 : List Ty := [(.slice (.int .i64))]
abbrev rs87 : List Ty := [(.int .i64), (.int .i64)]

def t87 (x0 : (List Int)) : Tr (Tys.data rs87) :=
  Tr.test (Option.isSome (l106_0 ((x0, ((↑(List.length x0) : Int), ((0 : Int), ()))), ())))
    (Tr.test (isRet (l106_0 ((x0, ((↑(List.length x0) : Int), ((0 : Int), ()))), ())))
      (let r0 : (Int × Int × PUnit) × PUnit := r106_0 ((x0, ((↑(List.length x0) : Int), ((0 : Int), ()))), ());
      Tr.fin (((r0.fst.fst : Int), ((r0.fst.snd.fst : Int), ()))))
      (Tr.fin (((0 : Int), ((0 : Int), ())))))
    (Tr.stop)

def f87 (d : Tys.data as87) : Option (Tys.data rs87) := (t87 d.1).val
def g87 (d : Tys.data as87) : Tys.data rs87 := (f87 d).getD (Tys.dflt rs87)
def p87 : PureC := pcOf as87 rs87 f87 g87

theorem e87_0 (x0 : (List Int)) : runPure kl106_0.orc Go.Proofs.Try.prog 400 87 as87 rs87 (x0, ()) [true, true] =
    (let r0 : (Int × Int × PUnit) × PUnit := r106_0 ((x0, ((↑(List.length x0) : Int), ((0 : Int), ()))), ()); some (((r0.fst.fst : Int), ((r0.fst.snd.fst : Int), ())), [(isRet (l106_0 ((x0, ((↑(List.length x0) : Int), ((0 : Int), ()))), ())), true), (Option.isSome (l106_0 ((x0, ((↑(List.length x0) : Int), ((0 : Int), ()))), ())), true)])) := by kernel_rfl
theorem e87_1 (x0 : (List Int)) : runPure kl106_0.orc Go.Proofs.Try.prog 400 87 as87 rs87 (x0, ()) [true, false] =
    (some (((0 : Int), ((0 : Int), ())), [(isRet (l106_0 ((x0, ((↑(List.length x0) : Int), ((0 : Int), ()))), ())), false), (Option.isSome (l106_0 ((x0, ((↑(List.length x0) : Int), ((0 : Int), ()))), ())), true)])) := by kernel_rfl

theorem ok87_t (x0 : (List Int)) : TrOk (PureRuns Go.Proofs.Try.prog kl106_0.orc 87 as87 rs87 (x0, ())) (t87 x0) :=
  TrOk.ofTest (fun h0 => TrOk.ofTest (fun h1 => TrOk.ofFin (PureRuns.of (e87_0 x0) (All.cons h1 (All.cons h0 (All.nil))))) (fun h1 => TrOk.ofFin (PureRuns.of (e87_1 x0) (All.cons h1 (All.cons h0 (All.nil)))))) (fun h0 => TrOk.ofStop)

theorem ok87 : PureOk Go.Proofs.Try.prog 87 p87 := pureOk_of kl106_0_ok.base (T := fun (d : Tys.data as87) => t87 d.1) (by kernel_rfl) (fun (d : Tys.data as87) => ok87_t d.1)
def kf87 : Known := kl106_0.func 87 p87
theorem kf87_ok : KnownOk Go.Proofs.Try.prog kf87 := kl106_0_ok.func ok87

/-! ductility/motion.CheckRecord -/

abbrev as17 : List Ty := [(.pair (.int .i64) (.pair (.slice (.int .i64)) .unit))]
abbrev rs17 : List Ty := [(.int .i64), (.int .i64)]

def t17 (x0 : Int) (x0' : (List Int)) : Tr (Tys.data rs17) :=
  Tr.test ((!leF (1 : Int) x0 : Bool))
    (Tr.test (Option.isSome (f86 ((true : Bool), ((2 : Int), ()))))
      (Tr.test (Option.isSome (f86 ((!leF (2 : Int) (↑(List.length x0') : Int) : Bool), ((10 : Int), ()))))
        (Tr.test (Option.isSome (f86 ((!leF (↑(List.length x0') : Int) (24 : Int) : Bool), ((8 : Int), ()))))
          (let r0 : Int × PUnit := g86 ((true : Bool), ((2 : Int), ()));
          let r2 : Int × PUnit := g86 ((!leF (2 : Int) (↑(List.length x0') : Int) : Bool), ((10 : Int), ()));
          let r3 : Int × PUnit := g86 ((!leF (↑(List.length x0') : Int) (24 : Int) : Bool), ((8 : Int), ()));
          Tr.test (Option.isSome (f85 (([r0.fst, r2.fst, r3.fst] : List Int), ())))
            (let r4 : Int × PUnit := g85 (([r0.fst, r2.fst, r3.fst] : List Int), ());
            Tr.test ((!eqF r4.fst (0 : Int) : Bool))
              (Tr.fin (((0 : Int), ((r4.fst : Int), ()))))
              (Tr.test (Option.isSome (f87 (x0', ())))
                (let r6 : Int × Int × PUnit := g87 (x0', ());
                Tr.fin (((r6.fst : Int), ((r6.snd.fst : Int), ()))))
                (Tr.stop)))
            (Tr.stop))
          (Tr.stop))
        (Tr.stop))
      (Tr.stop))
    (Tr.test (Option.isSome (f86 ((!leF x0 (1000000 : Int) : Bool), ((2 : Int), ()))))
      (Tr.test (Option.isSome (f86 ((!leF (2 : Int) (↑(List.length x0') : Int) : Bool), ((10 : Int), ()))))
        (Tr.test (Option.isSome (f86 ((!leF (↑(List.length x0') : Int) (24 : Int) : Bool), ((8 : Int), ()))))
          (let r1 : Int × PUnit := g86 ((!leF x0 (1000000 : Int) : Bool), ((2 : Int), ()));
          let r2 : Int × PUnit := g86 ((!leF (2 : Int) (↑(List.length x0') : Int) : Bool), ((10 : Int), ()));
          let r3 : Int × PUnit := g86 ((!leF (↑(List.length x0') : Int) (24 : Int) : Bool), ((8 : Int), ()));
          Tr.test (Option.isSome (f85 (([r1.fst, r2.fst, r3.fst] : List Int), ())))
            (let r5 : Int × PUnit := g85 (([r1.fst, r2.fst, r3.fst] : List Int), ());
            Tr.test ((!eqF r5.fst (0 : Int) : Bool))
              (Tr.fin (((0 : Int), ((r5.fst : Int), ()))))
              (Tr.test (Option.isSome (f87 (x0', ())))
                (let r6 : Int × Int × PUnit := g87 (x0', ());
                Tr.fin (((r6.fst : Int), ((r6.snd.fst : Int), ()))))
                (Tr.stop)))
            (Tr.stop))
          (Tr.stop))
        (Tr.stop))
      (Tr.stop))

def f17 (d : Tys.data as17) : Option (Tys.data rs17) := (t17 d.1.1 d.1.2.1).val
def g17 (d : Tys.data as17) : Tys.data rs17 := (f17 d).getD (Tys.dflt rs17)
def p17 : PureC := pcOf as17 rs17 f17 g17

theorem e17_0 (x0 : Int) (x0' : (List Int)) : runPure kf87.orc Go.Proofs.Try.prog 400 17 as17 rs17 ((x0, x0', ()), ()) [true, true, true, true, true, true, true, true, true, true] =
    (let r0 : Int × PUnit := g86 ((true : Bool), ((2 : Int), ())); let r2 : Int × PUnit := g86 ((!leF (2 : Int) (↑(List.length x0') : Int) : Bool), ((10 : Int), ())); let r3 : Int × PUnit := g86 ((!leF (↑(List.length x0') : Int) (24 : Int) : Bool), ((8 : Int), ())); let r4 : Int × PUnit := g85 (([r0.fst, r2.fst, r3.fst] : List Int), ()); some (((0 : Int), ((r4.fst : Int), ())), [((!eqF r4.fst (0 : Int) : Bool), true), (Option.isSome (f85 (([r0.fst, r2.fst, r3.fst] : List Int), ())), true), ((true : Bool), true), (Option.isSome (f86 ((!leF (↑(List.length x0') : Int) (24 : Int) : Bool), ((8 : Int), ()))), true), (Option.isSome (f86 ((!leF (2 : Int) (↑(List.length x0') : Int) : Bool), ((10 : Int), ()))), true), (Option.isSome (f86 ((true : Bool), ((2 : Int), ()))), true), ((!leF (1 : Int) x0 : Bool), true), ((!leF (1 : Int) x0 : Bool), true), ((!leF (1 : Int) x0 : Bool), true), ((!leF (1 : Int) x0 : Bool), true)])) := by kernel_rfl
theorem e17_1 (x0 : Int) (x0' : (List Int)) : runPure kf87.orc Go.Proofs.Try.prog 400 17 as17 rs17 ((x0, x0', ()), ()) [true, true, true, true, true, true, true, true, true, false, true] =
    (let r0 : Int × PUnit := g86 ((true : Bool), ((2 : Int), ())); let r2 : Int × PUnit := g86 ((!leF (2 : Int) (↑(List.length x0') : Int) : Bool), ((10 : Int), ())); let r3 : Int × PUnit := g86 ((!leF (↑(List.length x0') : Int) (24 : Int) : Bool), ((8 : Int), ())); let r4 : Int × PUnit := g85 (([r0.fst, r2.fst, r3.fst] : List Int), ()); let r6 : Int × Int × PUnit := g87 (x0', ()); some (((r6.fst : Int), ((r6.snd.fst : Int), ())), [(Option.isSome (f87 (x0', ())), true), ((!eqF r4.fst (0 : Int) : Bool), false), (Option.isSome (f85 (([r0.fst, r2.fst, r3.fst] : List Int), ())), true), ((true : Bool), true), (Option.isSome (f86 ((!leF (↑(List.length x0') : Int) (24 : Int) : Bool), ((8 : Int), ()))), true), (Option.isSome (f86 ((!leF (2 : Int) (↑(List.length x0') : Int) : Bool), ((10 : Int), ()))), true), (Option.isSome (f86 ((true : Bool), ((2 : Int), ()))), true), ((!leF (1 : Int) x0 : Bool), true), ((!leF (1 : Int) x0 : Bool), true), ((!leF (1 : Int) x0 : Bool), true), ((!leF (1 : Int) x0 : Bool), true)])) := by kernel_rfl
theorem e17_2 (x0 : Int) (x0' : (List Int)) : runPure kf87.orc Go.Proofs.Try.prog 400 17 as17 rs17 ((x0, x0', ()), ()) [false, false, false, false, true, true, true, true, true, true] =
    (let r1 : Int × PUnit := g86 ((!leF x0 (1000000 : Int) : Bool), ((2 : Int), ())); let r2 : Int × PUnit := g86 ((!leF (2 : Int) (↑(List.length x0') : Int) : Bool), ((10 : Int), ())); let r3 : Int × PUnit := g86 ((!leF (↑(List.length x0') : Int) (24 : Int) : Bool), ((8 : Int), ())); let r5 : Int × PUnit := g85 (([r1.fst, r2.fst, r3.fst] : List Int), ()); some (((0 : Int), ((r5.fst : Int), ())), [((!eqF r5.fst (0 : Int) : Bool), true), (Option.isSome (f85 (([r1.fst, r2.fst, r3.fst] : List Int), ())), true), ((true : Bool), true), (Option.isSome (f86 ((!leF (↑(List.length x0') : Int) (24 : Int) : Bool), ((8 : Int), ()))), true), (Option.isSome (f86 ((!leF (2 : Int) (↑(List.length x0') : Int) : Bool), ((10 : Int), ()))), true), (Option.isSome (f86 ((!leF x0 (1000000 : Int) : Bool), ((2 : Int), ()))), true), ((!leF (1 : Int) x0 : Bool), false), ((!leF (1 : Int) x0 : Bool), false), ((!leF (1 : Int) x0 : Bool), false), ((!leF (1 : Int) x0 : Bool), false)])) := by kernel_rfl
theorem e17_3 (x0 : Int) (x0' : (List Int)) : runPure kf87.orc Go.Proofs.Try.prog 400 17 as17 rs17 ((x0, x0', ()), ()) [false, false, false, false, true, true, true, true, true, false, true] =
    (let r1 : Int × PUnit := g86 ((!leF x0 (1000000 : Int) : Bool), ((2 : Int), ())); let r2 : Int × PUnit := g86 ((!leF (2 : Int) (↑(List.length x0') : Int) : Bool), ((10 : Int), ())); let r3 : Int × PUnit := g86 ((!leF (↑(List.length x0') : Int) (24 : Int) : Bool), ((8 : Int), ())); let r5 : Int × PUnit := g85 (([r1.fst, r2.fst, r3.fst] : List Int), ()); let r6 : Int × Int × PUnit := g87 (x0', ()); some (((r6.fst : Int), ((r6.snd.fst : Int), ())), [(Option.isSome (f87 (x0', ())), true), ((!eqF r5.fst (0 : Int) : Bool), false), (Option.isSome (f85 (([r1.fst, r2.fst, r3.fst] : List Int), ())), true), ((true : Bool), true), (Option.isSome (f86 ((!leF (↑(List.length x0') : Int) (24 : Int) : Bool), ((8 : Int), ()))), true), (Option.isSome (f86 ((!leF (2 : Int) (↑(List.length x0') : Int) : Bool), ((10 : Int), ()))), true), (Option.isSome (f86 ((!leF x0 (1000000 : Int) : Bool), ((2 : Int), ()))), true), ((!leF (1 : Int) x0 : Bool), false), ((!leF (1 : Int) x0 : Bool), false), ((!leF (1 : Int) x0 : Bool), false), ((!leF (1 : Int) x0 : Bool), false)])) := by kernel_rfl

theorem ok17_t (x0 : Int) (x0' : (List Int)) : TrOk (PureRuns Go.Proofs.Try.prog kf87.orc 17 as17 rs17 ((x0, x0', ()), ())) (t17 x0 x0') :=
  TrOk.ofTest (fun h0 => TrOk.ofTest (fun h4 => TrOk.ofTest (fun h5 => TrOk.ofTest (fun h6 => TrOk.ofTest (fun h8 => TrOk.ofTest (fun h9 => TrOk.ofFin (PureRuns.of (e17_0 x0 x0') (All.cons h9 (All.cons h8 (All.cons rfl (All.cons h6 (All.cons h5 (All.cons h4 (All.cons h0 (All.cons h0 (All.cons h0 (All.cons h0 (All.nil))))))))))))) (fun h9 => TrOk.ofTest (fun h10 => TrOk.ofFin (PureRuns.of (e17_1 x0 x0') (All.cons h10 (All.cons h9 (All.cons h8 (All.cons rfl (All.cons h6 (All.cons h5 (All.cons h4 (All.cons h0 (All.cons h0 (All.cons h0 (All.cons h0 (All.nil)))))))))))))) (fun h10 => TrOk.ofStop))) (fun h8 => TrOk.ofStop)) (fun h6 => TrOk.ofStop)) (fun h5 => TrOk.ofStop)) (fun h4 => TrOk.ofStop)) (fun h0 => TrOk.ofTest (fun h4 => TrOk.ofTest (fun h5 => TrOk.ofTest (fun h6 => TrOk.ofTest (fun h8 => TrOk.ofTest (fun h9 => TrOk.ofFin (PureRuns.of (e17_2 x0 x0') (All.cons h9 (All.cons h8 (All.cons rfl (All.cons h6 (All.cons h5 (All.cons h4 (All.cons h0 (All.cons h0 (All.cons h0 (All.cons h0 (All.nil))))))))))))) (fun h9 => TrOk.ofTest (fun h10 => TrOk.ofFin (PureRuns.of (e17_3 x0 x0') (All.cons h10 (All.cons h9 (All.cons h8 (All.cons rfl (All.cons h6 (All.cons h5 (All.cons h4 (All.cons h0 (All.cons h0 (All.cons h0 (All.cons h0 (All.nil)))))))))))))) (fun h10 => TrOk.ofStop))) (fun h8 => TrOk.ofStop)) (fun h6 => TrOk.ofStop)) (fun h5 => TrOk.ofStop)) (fun h4 => TrOk.ofStop))

theorem ok17 : PureOk Go.Proofs.Try.prog 17 p17 := pureOk_of kf87_ok.base (T := fun (d : Tys.data as17) => t17 d.1.1 d.1.2.1) (by kernel_rfl) (fun (d : Tys.data as17) => ok17_t d.1.1 d.1.2.1)
def kf17 : Known := kf87.func 17 p17
theorem kf17_ok : KnownOk Go.Proofs.Try.prog kf17 := kf87_ok.func ok17

/-! ductility/motion.recordError -/

abbrev as88 : List Ty := [(.pair (.int .i64) (.pair (.slice (.int .i64)) .unit))]
abbrev rs88 : List Ty := [(.int .i64)]

def t88 (x0 : Int) (x0' : (List Int)) : Tr (Tys.data rs88) :=
  Tr.test (Option.isSome (f17 ((x0, (x0', ())), ())))
    (let r0 : Int × Int × PUnit := g17 ((x0, (x0', ())), ());
    Tr.fin (((r0.snd.fst : Int), ())))
    (Tr.stop)

def f88 (d : Tys.data as88) : Option (Tys.data rs88) := (t88 d.1.1 d.1.2.1).val
def g88 (d : Tys.data as88) : Tys.data rs88 := (f88 d).getD (Tys.dflt rs88)
def p88 : PureC := pcOf as88 rs88 f88 g88

theorem e88_0 (x0 : Int) (x0' : (List Int)) : runPure kf17.orc Go.Proofs.Try.prog 400 88 as88 rs88 ((x0, x0', ()), ()) [true] =
    (let r0 : Int × Int × PUnit := g17 ((x0, (x0', ())), ()); some (((r0.snd.fst : Int), ()), [(Option.isSome (f17 ((x0, (x0', ())), ())), true)])) := by kernel_rfl

theorem ok88_t (x0 : Int) (x0' : (List Int)) : TrOk (PureRuns Go.Proofs.Try.prog kf17.orc 88 as88 rs88 ((x0, x0', ()), ())) (t88 x0 x0') :=
  TrOk.ofTest (fun h0 => TrOk.ofFin (PureRuns.of (e88_0 x0 x0') (All.cons h0 (All.nil)))) (fun h0 => TrOk.ofStop)

theorem ok88 : PureOk Go.Proofs.Try.prog 88 p88 := pureOk_of kf17_ok.base (T := fun (d : Tys.data as88) => t88 d.1.1 d.1.2.1) (by kernel_rfl) (fun (d : Tys.data as88) => ok88_t d.1.1 d.1.2.1)
def kf88 : Known := kf17.func 88 p88
theorem kf88_ok : KnownOk Go.Proofs.Try.prog kf88 := kf17_ok.func ok88

/-! loop 0 of ductility/motion.sumsOf -/

abbrev sh89_0 : Sh := { n := 22, slots := [3, 4, 7, 8, 9], pats := [.acc (.int .i64), .ty (.int .i64), .ty (.slice (.int .i64)), .ty (.int .i64), .ty (.int .i64)], boxes := [] }
abbrev shb89_0 : Sh := { n := 22, slots := [3], pats := [.acc (.int .i64)], boxes := [] }
abbrev shr89_0 : Sh := { n := 22, slots := [], pats := [], boxes := [] }

def t89_0 (x0 : (List Int)) (x1 : Int) (x2 : (List Int)) (x3 : Int) (x4 : Int) : Tr (Out sh89_0.data shb89_0.data shr89_0.data) :=
  Tr.test ((!leF x3 x4 : Bool))
    (Tr.test ((decide ((0 : Int) ≤ x4) && decide (x4 < (↑(List.length x2) : Int)) : Bool))
      (Tr.test ((Nat.ble (((2 : Nat) * (List.length x0 + (1 : Nat)) + (192 : Nat)) * (8 : Nat)) (281474976710656 : Nat) && Nat.ble (List.length x0 + (1 : Nat)) (281474976710656 : Nat) : Bool))
        (Tr.fin (.again (((x0 ++ [wrap64 (x1 + List.getD x2 (Int.toNat x4) (0 : Int))] : List Int), ((wrap64 (x1 + List.getD x2 (Int.toNat x4) (0 : Int)) : Int), (x2, (x3, ((wrap64 (x4 + (1 : Int)) : Int), ()))))), ())))
        (Tr.stop /- none [op 3 of region 7 of F89] -/))
      (Tr.stop /- none [op 0 of region 5 of F89] -/))
    (Tr.fin (.brk ((x0, ()), ())))

def s89_0 (d : sh89_0.data) : Option (Out sh89_0.data shb89_0.data shr89_0.data) := (t89_0 d.1.1 d.1.2.1 d.1.2.2.1 d.1.2.2.2.1 d.1.2.2.2.2.1).val
def l89_0 (d : sh89_0.data) : Option (shb89_0.data ⊕ shr89_0.data) := itr s89_0 rounds d
def b89_0 (d : sh89_0.data) : shb89_0.data := outB shb89_0.dflt (l89_0 d)
def r89_0 (d : sh89_0.data) : shr89_0.data := outR shr89_0.dflt (l89_0 d)
def lc89_0 : LoopC := lcB sh89_0 shb89_0 shr89_0 l89_0 b89_0

theorem e89_0_0 (x0 : (List Int)) (x1 : Int) (x2 : (List Int)) (x3 : Int) (x4 : Int) : runBody kf88.orc Go.Proofs.Try.prog 400 89 0 sh89_0 shb89_0 shr89_0 ((x0, x1, x2, x3, x4, ()), ()) [true, true, false, true, true] =
    (some (.again (((x0 ++ [wrap64 (x1 + List.getD x2 (Int.toNat x4) (0 : Int))] : List Int), ((wrap64 (x1 + List.getD x2 (Int.toNat x4) (0 : Int)) : Int), (x2, (x3, ((wrap64 (x4 + (1 : Int)) : Int), ()))))), ()), [((true : Bool), true), ((Nat.ble (((2 : Nat) * (List.length x0 + (1 : Nat)) + (192 : Nat)) * (8 : Nat)) (281474976710656 : Nat) && Nat.ble (List.length x0 + (1 : Nat)) (281474976710656 : Nat) : Bool), true), ((false : Bool), false), ((decide ((0 : Int) ≤ x4) && decide (x4 < (↑(List.length x2) : Int)) : Bool), true), ((!leF x3 x4 : Bool), true)])) := by kernel_rfl
theorem e89_0_3 (x0 : (List Int)) (x1 : Int) (x2 : (List Int)) (x3 : Int) (x4 : Int) : runBody kf88.orc Go.Proofs.Try.prog 400 89 0 sh89_0 shb89_0 shr89_0 ((x0, x1, x2, x3, x4, ()), ()) [false] =
    (some (.brk ((x0, ()), ()), [((!leF x3 x4 : Bool), false)])) := by kernel_rfl

theorem ok89_0_t (x0 : (List Int)) (x1 : Int) (x2 : (List Int)) (x3 : Int) (x4 : Int) : TrOk (BodyRuns Go.Proofs.Try.prog kf88.orc 89 0 sh89_0 shb89_0 shr89_0 ((x0, x1, x2, x3, x4, ()), ())) (t89_0 x0 x1 x2 x3 x4) :=
  TrOk.ofTest (fun h0 => TrOk.ofTest (fun h1 => TrOk.ofTest (fun h3 => TrOk.ofFin (BodyRuns.of (e89_0_0 x0 x1 x2 x3 x4) (All.cons rfl (All.cons h3 (All.cons rfl (All.cons h1 (All.cons h0 (All.nil)))))))) (fun h3 => TrOk.ofStop)) (fun h1 => TrOk.ofStop)) (fun h0 => TrOk.ofFin (BodyRuns.of (e89_0_3 x0 x1 x2 x3 x4) (All.cons h0 (All.nil))))

theorem ok89_0 : LoopOk Go.Proofs.Try.prog 89 0 lc89_0 := loopOk_ofB kf88_ok.base (T := fun (d : sh89_0.data) => t89_0 d.1.1 d.1.2.1 d.1.2.2.1 d.1.2.2.2.1 d.1.2.2.2.2.1) (by kernel_rfl) rfl (fun (d : sh89_0.data) => ok89_0_t d.1.1 d.1.2.1 d.1.2.2.1 d.1.2.2.2.1 d.1.2.2.2.2.1) (fun _ => rfl)
def kl89_0 : Known := kf88.loop 89 0 lc89_0
theorem kl89_0_ok : KnownOk Go.Proofs.Try.prog kl89_0 := kf88_ok.loop ok89_0

/-! ductility/motion.sumsOf -/

abbrev as89 : List Ty := [(.slice (.int .i64))]
abbrev rs89 : List Ty := [(.slice (.int .i64))]

def t89 (x0 : (List Int)) : Tr (Tys.data rs89) :=
  Tr.test (isBrk (l89_0 ((([] : List Int), ((0 : Int), (x0, ((↑(List.length x0) : Int), ((0 : Int), ()))))), ())))
    (let r0 : (List Int × PUnit) × PUnit := b89_0 ((([] : List Int), ((0 : Int), (x0, ((↑(List.length x0) : Int), ((0 : Int), ()))))), ());
    Tr.fin (((r0.fst.fst : List Int), ())))
    (Tr.stop)

def f89 (d : Tys.data as89) : Option (Tys.data rs89) := (t89 d.1).val
def g89 (d : Tys.data as89) : Tys.data rs89 := (f89 d).getD (Tys.dflt rs89)
def p89 : PureC := pcOf as89 rs89 f89 g89

theorem e89_0 (x0 : (List Int)) : runPure kl89_0.orc Go.Proofs.Try.prog 400 89 as89 rs89 (x0, ()) [true, true] =
    (let r0 : (List Int × PUnit) × PUnit := b89_0 ((([] : List Int), ((0 : Int), (x0, ((↑(List.length x0) : Int), ((0 : Int), ()))))), ()); some (((r0.fst.fst : List Int), ()), [((true : Bool), true), (isBrk (l89_0 ((([] : List Int), ((0 : Int), (x0, ((↑(List.length x0) : Int), ((0 : Int), ()))))), ())), true)])) := by kernel_rfl

theorem ok89_t (x0 : (List Int)) : TrOk (PureRuns Go.Proofs.Try.prog kl89_0.orc 89 as89 rs89 (x0, ())) (t89 x0) :=
  TrOk.ofTest (fun h0 => TrOk.ofFin (PureRuns.of (e89_0 x0) (All.cons rfl (All.cons h0 (All.nil))))) (fun h0 => TrOk.ofStop)

theorem ok89 : PureOk Go.Proofs.Try.prog 89 p89 := pureOk_of kl89_0_ok.base (T := fun (d : Tys.data as89) => t89 d.1) (by kernel_rfl) (fun (d : Tys.data as89) => ok89_t d.1)
def kf89 : Known := kl89_0.func 89 p89
theorem kf89_ok : KnownOk Go.Proofs.Try.prog kf89 := kl89_0_ok.func ok89

/-! ductility/motion.VelocitiesOf -/

abbrev as19 : List Ty := [(.pair (.int .i64) (.pair (.slice (.int .i64)) .unit))]
abbrev rs19 : List Ty := [(.slice (.int .i64)), (.int .i64)]

def t19 (x0 : Int) (x0' : (List Int)) : Tr (Tys.data rs19) :=
  Tr.test (Option.isSome (f88 ((x0, (x0', ())), ())))
    (let r0 : Int × PUnit := g88 ((x0, (x0', ())), ());
    Tr.test ((!eqF r0.fst (0 : Int) : Bool))
      (Tr.fin ((([] : List Int), ((r0.fst : Int), ()))))
      (Tr.test (Option.isSome (f89 (x0', ())))
        (let r1 : List Int × PUnit := g89 (x0', ());
        Tr.fin (((r1.fst : List Int), ((0 : Int), ()))))
        (Tr.stop)))
    (Tr.stop)

def f19 (d : Tys.data as19) : Option (Tys.data rs19) := (t19 d.1.1 d.1.2.1).val
def g19 (d : Tys.data as19) : Tys.data rs19 := (f19 d).getD (Tys.dflt rs19)
def p19 : PureC := pcOf as19 rs19 f19 g19

theorem e19_0 (x0 : Int) (x0' : (List Int)) : runPure kf89.orc Go.Proofs.Try.prog 400 19 as19 rs19 ((x0, x0', ()), ()) [true, true] =
    (let r0 : Int × PUnit := g88 ((x0, (x0', ())), ()); some ((([] : List Int), ((r0.fst : Int), ())), [((!eqF r0.fst (0 : Int) : Bool), true), (Option.isSome (f88 ((x0, (x0', ())), ())), true)])) := by kernel_rfl
theorem e19_1 (x0 : Int) (x0' : (List Int)) : runPure kf89.orc Go.Proofs.Try.prog 400 19 as19 rs19 ((x0, x0', ()), ()) [true, false, true] =
    (let r0 : Int × PUnit := g88 ((x0, (x0', ())), ()); let r1 : List Int × PUnit := g89 (x0', ()); some (((r1.fst : List Int), ((0 : Int), ())), [(Option.isSome (f89 (x0', ())), true), ((!eqF r0.fst (0 : Int) : Bool), false), (Option.isSome (f88 ((x0, (x0', ())), ())), true)])) := by kernel_rfl

theorem ok19_t (x0 : Int) (x0' : (List Int)) : TrOk (PureRuns Go.Proofs.Try.prog kf89.orc 19 as19 rs19 ((x0, x0', ()), ())) (t19 x0 x0') :=
  TrOk.ofTest (fun h0 => TrOk.ofTest (fun h1 => TrOk.ofFin (PureRuns.of (e19_0 x0 x0') (All.cons h1 (All.cons h0 (All.nil))))) (fun h1 => TrOk.ofTest (fun h2 => TrOk.ofFin (PureRuns.of (e19_1 x0 x0') (All.cons h2 (All.cons h1 (All.cons h0 (All.nil)))))) (fun h2 => TrOk.ofStop))) (fun h0 => TrOk.ofStop)

theorem ok19 : PureOk Go.Proofs.Try.prog 19 p19 := pureOk_of kf89_ok.base (T := fun (d : Tys.data as19) => t19 d.1.1 d.1.2.1) (by kernel_rfl) (fun (d : Tys.data as19) => ok19_t d.1.1 d.1.2.1)
def kf19 : Known := kf89.func 19 p19
theorem kf19_ok : KnownOk Go.Proofs.Try.prog kf19 := kf89_ok.func ok19

/-! ductility/motion.DisplacementsOf -/

abbrev as20 : List Ty := [(.pair (.int .i64) (.pair (.slice (.int .i64)) .unit))]
abbrev rs20 : List Ty := [(.slice (.int .i64)), (.int .i64)]

def t20 (x0 : Int) (x0' : (List Int)) : Tr (Tys.data rs20) :=
  Tr.test (Option.isSome (f88 ((x0, (x0', ())), ())))
    (let r0 : Int × PUnit := g88 ((x0, (x0', ())), ());
    Tr.test ((!eqF r0.fst (0 : Int) : Bool))
      (Tr.fin ((([] : List Int), ((r0.fst : Int), ()))))
      (Tr.test (Option.isSome (f89 (x0', ())))
        (let r1 : List Int × PUnit := g89 (x0', ());
        Tr.test (Option.isSome (f89 ((r1.fst : List Int), ())))
          (let r2 : List Int × PUnit := g89 ((r1.fst : List Int), ());
          Tr.fin (((r2.fst : List Int), ((0 : Int), ()))))
          (Tr.stop))
        (Tr.stop)))
    (Tr.stop)

def f20 (d : Tys.data as20) : Option (Tys.data rs20) := (t20 d.1.1 d.1.2.1).val
def g20 (d : Tys.data as20) : Tys.data rs20 := (f20 d).getD (Tys.dflt rs20)
def p20 : PureC := pcOf as20 rs20 f20 g20

theorem e20_0 (x0 : Int) (x0' : (List Int)) : runPure kf19.orc Go.Proofs.Try.prog 400 20 as20 rs20 ((x0, x0', ()), ()) [true, true] =
    (let r0 : Int × PUnit := g88 ((x0, (x0', ())), ()); some ((([] : List Int), ((r0.fst : Int), ())), [((!eqF r0.fst (0 : Int) : Bool), true), (Option.isSome (f88 ((x0, (x0', ())), ())), true)])) := by kernel_rfl
theorem e20_1 (x0 : Int) (x0' : (List Int)) : runPure kf19.orc Go.Proofs.Try.prog 400 20 as20 rs20 ((x0, x0', ()), ()) [true, false, true, true] =
    (let r0 : Int × PUnit := g88 ((x0, (x0', ())), ()); let r1 : List Int × PUnit := g89 (x0', ()); let r2 : List Int × PUnit := g89 ((r1.fst : List Int), ()); some (((r2.fst : List Int), ((0 : Int), ())), [(Option.isSome (f89 ((r1.fst : List Int), ())), true), (Option.isSome (f89 (x0', ())), true), ((!eqF r0.fst (0 : Int) : Bool), false), (Option.isSome (f88 ((x0, (x0', ())), ())), true)])) := by kernel_rfl

theorem ok20_t (x0 : Int) (x0' : (List Int)) : TrOk (PureRuns Go.Proofs.Try.prog kf19.orc 20 as20 rs20 ((x0, x0', ()), ())) (t20 x0 x0') :=
  TrOk.ofTest (fun h0 => TrOk.ofTest (fun h1 => TrOk.ofFin (PureRuns.of (e20_0 x0 x0') (All.cons h1 (All.cons h0 (All.nil))))) (fun h1 => TrOk.ofTest (fun h2 => TrOk.ofTest (fun h3 => TrOk.ofFin (PureRuns.of (e20_1 x0 x0') (All.cons h3 (All.cons h2 (All.cons h1 (All.cons h0 (All.nil))))))) (fun h3 => TrOk.ofStop)) (fun h2 => TrOk.ofStop))) (fun h0 => TrOk.ofStop)

theorem ok20 : PureOk Go.Proofs.Try.prog 20 p20 := pureOk_of kf19_ok.base (T := fun (d : Tys.data as20) => t20 d.1.1 d.1.2.1) (by kernel_rfl) (fun (d : Tys.data as20) => ok20_t d.1.1 d.1.2.1)
def kf20 : Known := kf19.func 20 p20
theorem kf20_ok : KnownOk Go.Proofs.Try.prog kf20 := kf19_ok.func ok20

/-! loop 0 of ductility/motion.endOf -/

abbrev sh90_0 : Sh := { n := 25, slots := [2, 3, 6, 7, 8], pats := [.ptr 0 2 0, .ptr 1 2 0, .ty (.slice (.int .i64)), .ty (.int .i64), .ty (.int .i64)], boxes := [.row [.ty (.int .i64), .ty (.int .i64)], .row [.ty (.int .i64), .ty (.int .i64)]] }
abbrev shb90_0 : Sh := { n := 25, slots := [2, 3], pats := [.ptr 0 2 0, .ptr 1 2 0], boxes := [.row [.ty (.int .i64), .ty (.int .i64)], .row [.ty (.int .i64), .ty (.int .i64)]] }
abbrev shr90_0 : Sh := { n := 25, slots := [], pats := [], boxes := [.row [.ty (.int .i64), .ty (.int .i64)], .row [.ty (.int .i64), .ty (.int .i64)]] }

def t90_0 (x2 : (List Int)) (x3 : Int) (x4 : Int) (b0_0 : Int) (b0_1 : Int) (b1_0 : Int) (b1_1 : Int) : Tr (Out sh90_0.data shb90_0.data shr90_0.data) :=
  Tr.test ((!leF x3 x4 : Bool))
    (Tr.test ((decide ((0 : Int) ≤ x4) && decide (x4 < (↑(List.length x2) : Int)) : Bool))
      (Tr.fin (.again ((x2, (x3, ((wrap64 (x4 + (1 : Int)) : Int), ()))), ((b0_0, (b0_1, ())), (((wrap64 (b1_0 + List.getD x2 (Int.toNat x4) (0 : Int)) : Int), ((wrap64 (b1_1 + wrap64 (b1_0 + List.getD x2 (Int.toNat x4) (0 : Int))) : Int), ())), ())))))
      (Tr.stop /- none [op 0 of region 4 of F90] -/))
    (Tr.fin (.brk ((), ((b0_0, (b0_1, ())), ((b1_0, (b1_1, ())), ())))))

def s90_0 (d : sh90_0.data) : Option (Out sh90_0.data shb90_0.data shr90_0.data) := (t90_0 d.1.1 d.1.2.1 d.1.2.2.1 d.2.1.1 d.2.1.2.1 d.2.2.1.1 d.2.2.1.2.1).val
def l90_0 (d : sh90_0.data) : Option (shb90_0.data ⊕ shr90_0.data) := itr s90_0 rounds d
def b90_0 (d : sh90_0.data) : shb90_0.data := outB shb90_0.dflt (l90_0 d)
def r90_0 (d : sh90_0.data) : shr90_0.data := outR shr90_0.dflt (l90_0 d)
def lc90_0 : LoopC := lcB sh90_0 shb90_0 shr90_0 l90_0 b90_0

theorem e90_0_0 (x2 : (List Int)) (x3 : Int) (x4 : Int) (b0_0 : Int) (b0_1 : Int) (b1_0 : Int) (b1_1 : Int) : runBody kf20.orc Go.Proofs.Try.prog 400 90 0 sh90_0 shb90_0 shr90_0 ((x2, x3, x4, ()), (b0_0, b0_1, ()), (b1_0, b1_1, ()), ()) [true, true] =
    (some (.again ((x2, (x3, ((wrap64 (x4 + (1 : Int)) : Int), ()))), ((b0_0, (b0_1, ())), (((wrap64 (b1_0 + List.getD x2 (Int.toNat x4) (0 : Int)) : Int), ((wrap64 (b1_1 + wrap64 (b1_0 + List.getD x2 (Int.toNat x4) (0 : Int))) : Int), ())), ()))), [((decide ((0 : Int) ≤ x4) && decide (x4 < (↑(List.length x2) : Int)) : Bool), true), ((!leF x3 x4 : Bool), true)])) := by kernel_rfl
theorem e90_0_2 (x2 : (List Int)) (x3 : Int) (x4 : Int) (b0_0 : Int) (b0_1 : Int) (b1_0 : Int) (b1_1 : Int) : runBody kf20.orc Go.Proofs.Try.prog 400 90 0 sh90_0 shb90_0 shr90_0 ((x2, x3, x4, ()), (b0_0, b0_1, ()), (b1_0, b1_1, ()), ()) [false] =
    (some (.brk ((), ((b0_0, (b0_1, ())), ((b1_0, (b1_1, ())), ()))), [((!leF x3 x4 : Bool), false)])) := by kernel_rfl

theorem ok90_0_t (x2 : (List Int)) (x3 : Int) (x4 : Int) (b0_0 : Int) (b0_1 : Int) (b1_0 : Int) (b1_1 : Int) : TrOk (BodyRuns Go.Proofs.Try.prog kf20.orc 90 0 sh90_0 shb90_0 shr90_0 ((x2, x3, x4, ()), (b0_0, b0_1, ()), (b1_0, b1_1, ()), ())) (t90_0 x2 x3 x4 b0_0 b0_1 b1_0 b1_1) :=
  TrOk.ofTest (fun h0 => TrOk.ofTest (fun h1 => TrOk.ofFin (BodyRuns.of (e90_0_0 x2 x3 x4 b0_0 b0_1 b1_0 b1_1) (All.cons h1 (All.cons h0 (All.nil))))) (fun h1 => TrOk.ofStop)) (fun h0 => TrOk.ofFin (BodyRuns.of (e90_0_2 x2 x3 x4 b0_0 b0_1 b1_0 b1_1) (All.cons h0 (All.nil))))

theorem ok90_0 : LoopOk Go.Proofs.Try.prog 90 0 lc90_0 := loopOk_ofB kf20_ok.base (T := fun (d : sh90_0.data) => t90_0 d.1.1 d.1.2.1 d.1.2.2.1 d.2.1.1 d.2.1.2.1 d.2.2.1.1 d.2.2.1.2.1) (by kernel_rfl) rfl (fun (d : sh90_0.data) => ok90_0_t d.1.1 d.1.2.1 d.1.2.2.1 d.2.1.1 d.2.1.2.1 d.2.2.1.1 d.2.2.1.2.1) (fun _ => rfl)
def kl90_0 : Known := kf20.loop 90 0 lc90_0
theorem kl90_0_ok : KnownOk Go.Proofs.Try.prog kl90_0 := kf20_ok.loop ok90_0

/-! ductility/motion.endOf -/

abbrev as90 : List Ty := [(.slice (.int .i64))]
abbrev rs90 : List Ty := [(.pair (.int .i64) (.pair (.int .i64) .unit))]

def t90 (x0 : (List Int)) : Tr (Tys.data rs90) :=
  Tr.test (isBrk (l90_0 ((x0, ((↑(List.length x0) : Int), ((0 : Int), ()))), (((0 : Int), ((0 : Int), ())), (((0 : Int), ((0 : Int), ())), ())))))
    (let r0 : PUnit × (Int × Int × PUnit) × (Int × Int × PUnit) × PUnit := b90_0 ((x0, ((↑(List.length x0) : Int), ((0 : Int), ()))), (((0 : Int), ((0 : Int), ())), (((0 : Int), ((0 : Int), ())), ())));
    Tr.fin ((((r0.snd.snd.fst.fst : Int), ((r0.snd.snd.fst.snd.fst : Int), ())), ())))
    (Tr.stop)

def f90 (d : Tys.data as90) : Option (Tys.data rs90) := (t90 d.1).val
def g90 (d : Tys.data as90) : Tys.data rs90 := (f90 d).getD (Tys.dflt rs90)
def p90 : PureC := pcOf as90 rs90 f90 g90

theorem e90_0 (x0 : (List Int)) : runPure kl90_0.orc Go.Proofs.Try.prog 400 90 as90 rs90 (x0, ()) [true, true] =
    (let r0 : PUnit × (Int × Int × PUnit) × (Int × Int × PUnit) × PUnit := b90_0 ((x0, ((↑(List.length x0) : Int), ((0 : Int), ()))), (((0 : Int), ((0 : Int), ())), (((0 : Int), ((0 : Int), ())), ()))); some ((((r0.snd.snd.fst.fst : Int), ((r0.snd.snd.fst.snd.fst : Int), ())), ()), [((true : Bool), true), (isBrk (l90_0 ((x0, ((↑(List.length x0) : Int), ((0 : Int), ()))), (((0 : Int), ((0 : Int), ())), (((0 : Int), ((0 : Int), ())), ())))), true)])) := by kernel_rfl

theorem ok90_t (x0 : (List Int)) : TrOk (PureRuns Go.Proofs.Try.prog kl90_0.orc 90 as90 rs90 (x0, ())) (t90 x0) :=
  TrOk.ofTest (fun h0 => TrOk.ofFin (PureRuns.of (e90_0 x0) (All.cons rfl (All.cons h0 (All.nil))))) (fun h0 => TrOk.ofStop)

theorem ok90 : PureOk Go.Proofs.Try.prog 90 p90 := pureOk_of kl90_0_ok.base (T := fun (d : Tys.data as90) => t90 d.1) (by kernel_rfl) (fun (d : Tys.data as90) => ok90_t d.1)
def kf90 : Known := kl90_0.func 90 p90
theorem kf90_ok : KnownOk Go.Proofs.Try.prog kf90 := kl90_0_ok.func ok90

/-! ductility/motion.EndOf -/

abbrev as21 : List Ty := [(.pair (.int .i64) (.pair (.slice (.int .i64)) .unit))]
abbrev rs21 : List Ty := [(.pair (.int .i64) (.pair (.int .i64) .unit)), (.int .i64)]

def t21 (x0 : Int) (x0' : (List Int)) : Tr (Tys.data rs21) :=
  Tr.test (Option.isSome (f88 ((x0, (x0', ())), ())))
    (let r0 : Int × PUnit := g88 ((x0, (x0', ())), ());
    Tr.test ((!eqF r0.fst (0 : Int) : Bool))
      (Tr.fin ((((0 : Int), ((0 : Int), ())), ((r0.fst : Int), ()))))
      (Tr.test (Option.isSome (f90 (x0', ())))
        (let r1 : (Int × Int × PUnit) × PUnit := g90 (x0', ());
        Tr.fin ((((r1.fst.fst : Int), ((r1.fst.snd.fst : Int), ())), ((0 : Int), ()))))
        (Tr.stop)))
    (Tr.stop)

def f21 (d : Tys.data as21) : Option (Tys.data rs21) := (t21 d.1.1 d.1.2.1).val
def g21 (d : Tys.data as21) : Tys.data rs21 := (f21 d).getD (Tys.dflt rs21)
def p21 : PureC := pcOf as21 rs21 f21 g21

theorem e21_0 (x0 : Int) (x0' : (List Int)) : runPure kf90.orc Go.Proofs.Try.prog 400 21 as21 rs21 ((x0, x0', ()), ()) [true, true] =
    (let r0 : Int × PUnit := g88 ((x0, (x0', ())), ()); some ((((0 : Int), ((0 : Int), ())), ((r0.fst : Int), ())), [((!eqF r0.fst (0 : Int) : Bool), true), (Option.isSome (f88 ((x0, (x0', ())), ())), true)])) := by kernel_rfl
theorem e21_1 (x0 : Int) (x0' : (List Int)) : runPure kf90.orc Go.Proofs.Try.prog 400 21 as21 rs21 ((x0, x0', ()), ()) [true, false, true] =
    (let r0 : Int × PUnit := g88 ((x0, (x0', ())), ()); let r1 : (Int × Int × PUnit) × PUnit := g90 (x0', ()); some ((((r1.fst.fst : Int), ((r1.fst.snd.fst : Int), ())), ((0 : Int), ())), [(Option.isSome (f90 (x0', ())), true), ((!eqF r0.fst (0 : Int) : Bool), false), (Option.isSome (f88 ((x0, (x0', ())), ())), true)])) := by kernel_rfl

theorem ok21_t (x0 : Int) (x0' : (List Int)) : TrOk (PureRuns Go.Proofs.Try.prog kf90.orc 21 as21 rs21 ((x0, x0', ()), ())) (t21 x0 x0') :=
  TrOk.ofTest (fun h0 => TrOk.ofTest (fun h1 => TrOk.ofFin (PureRuns.of (e21_0 x0 x0') (All.cons h1 (All.cons h0 (All.nil))))) (fun h1 => TrOk.ofTest (fun h2 => TrOk.ofFin (PureRuns.of (e21_1 x0 x0') (All.cons h2 (All.cons h1 (All.cons h0 (All.nil)))))) (fun h2 => TrOk.ofStop))) (fun h0 => TrOk.ofStop)

theorem ok21 : PureOk Go.Proofs.Try.prog 21 p21 := pureOk_of kf90_ok.base (T := fun (d : Tys.data as21) => t21 d.1.1 d.1.2.1) (by kernel_rfl) (fun (d : Tys.data as21) => ok21_t d.1.1 d.1.2.1)
def kf21 : Known := kf90.func 21 p21
theorem kf21_ok : KnownOk Go.Proofs.Try.prog kf21 := kf90_ok.func ok21

/-! ductility/ductilitybase.Within -/

abbrev as47 : List Ty := [(.int .i64), (.int .i64), (.int .i64)]
abbrev rs47 : List Ty := [.bool]

def t47 (x0 : Int) (x1 : Int) (x2 : Int) : Tr (Tys.data rs47) :=
  Tr.test ((leF x1 x0 : Bool))
    (Tr.fin (((leF x0 x2 : Bool), ())))
    (Tr.fin (((false : Bool), ())))

def f47 (d : Tys.data as47) : Option (Tys.data rs47) := (t47 d.1 d.2.1 d.2.2.1).val
def g47 (d : Tys.data as47) : Tys.data rs47 := (f47 d).getD (Tys.dflt rs47)
def p47 : PureC := pcOf as47 rs47 f47 g47

theorem e47_0 (x0 : Int) (x1 : Int) (x2 : Int) : runPure kf21.orc Go.Proofs.Try.prog 400 47 as47 rs47 (x0, x1, x2, ()) [true, true, true, true] =
    (some (((leF x0 x2 : Bool), ()), [((leF x1 x0 : Bool), true), ((leF x1 x0 : Bool), true), ((leF x1 x0 : Bool), true), ((leF x1 x0 : Bool), true)])) := by kernel_rfl
theorem e47_1 (x0 : Int) (x1 : Int) (x2 : Int) : runPure kf21.orc Go.Proofs.Try.prog 400 47 as47 rs47 (x0, x1, x2, ()) [false, false, false, false] =
    (some (((false : Bool), ()), [((leF x1 x0 : Bool), false), ((leF x1 x0 : Bool), false), ((leF x1 x0 : Bool), false), ((leF x1 x0 : Bool), false)])) := by kernel_rfl

theorem ok47_t (x0 : Int) (x1 : Int) (x2 : Int) : TrOk (PureRuns Go.Proofs.Try.prog kf21.orc 47 as47 rs47 (x0, x1, x2, ())) (t47 x0 x1 x2) :=
  TrOk.ofTest (fun h0 => TrOk.ofFin (PureRuns.of (e47_0 x0 x1 x2) (All.cons h0 (All.cons h0 (All.cons h0 (All.cons h0 (All.nil))))))) (fun h0 => TrOk.ofFin (PureRuns.of (e47_1 x0 x1 x2) (All.cons h0 (All.cons h0 (All.cons h0 (All.cons h0 (All.nil)))))))

theorem ok47 : PureOk Go.Proofs.Try.prog 47 p47 := pureOk_of kf21_ok.base (T := fun (d : Tys.data as47) => t47 d.1 d.2.1 d.2.2.1) (by kernel_rfl) (fun (d : Tys.data as47) => ok47_t d.1 d.2.1 d.2.2.1)
def kf47 : Known := kf21.func 47 p47
theorem kf47_ok : KnownOk Go.Proofs.Try.prog kf47 := kf21_ok.func ok47

/-! ductility/ductilityref02.IsSample -/

abbrev as54 : List Ty := [(.int .i64)]
abbrev rs54 : List Ty := [.bool]

def t54 (x0 : Int) : Tr (Tys.data rs54) :=
  Tr.test (Option.isSome (f47 (x0, ((-1000 : Int), ((1000 : Int), ())))))
    (let r0 : Bool × PUnit := g47 (x0, ((-1000 : Int), ((1000 : Int), ())));
    Tr.fin (((r0.fst : Bool), ())))
    (Tr.stop)

def f54 (d : Tys.data as54) : Option (Tys.data rs54) := (t54 d.1).val
def g54 (d : Tys.data as54) : Tys.data rs54 := (f54 d).getD (Tys.dflt rs54)
def p54 : PureC := pcOf as54 rs54 f54 g54

theorem e54_0 (x0 : Int) : runPure kf47.orc Go.Proofs.Try.prog 400 54 as54 rs54 (x0, ()) [true] =
    (let r0 : Bool × PUnit := g47 (x0, ((-1000 : Int), ((1000 : Int), ()))); some (((r0.fst : Bool), ()), [(Option.isSome (f47 (x0, ((-1000 : Int), ((1000 : Int), ())))), true)])) := by kernel_rfl

theorem ok54_t (x0 : Int) : TrOk (PureRuns Go.Proofs.Try.prog kf47.orc 54 as54 rs54 (x0, ())) (t54 x0) :=
  TrOk.ofTest (fun h0 => TrOk.ofFin (PureRuns.of (e54_0 x0) (All.cons h0 (All.nil)))) (fun h0 => TrOk.ofStop)

theorem ok54 : PureOk Go.Proofs.Try.prog 54 p54 := pureOk_of kf47_ok.base (T := fun (d : Tys.data as54) => t54 d.1) (by kernel_rfl) (fun (d : Tys.data as54) => ok54_t d.1)
def kf54 : Known := kf47.func 54 p54
theorem kf54_ok : KnownOk Go.Proofs.Try.prog kf54 := kf47_ok.func ok54

/-! loop 0 of ductility/ductilityref02.CheckRecord -/

abbrev sh22_0 : Sh := { n := 32, slots := [1, 4], pats := [.ptr 0 2 0, .ty (.int .i64)], boxes := [.row [.ty (.int .i64), .ty (.slice (.int .i64))]] }
abbrev shb22_0 : Sh := { n := 32, slots := [], pats := [], boxes := [.row [.ty (.int .i64), .ty (.slice (.int .i64))]] }
abbrev shr22_0 : Sh := { n := 32, slots := [2, 3], pats := [.ty (.int .i64), .ty (.int .i64)], boxes := [.row [.ty (.int .i64), .ty (.slice (.int .i64))]] }

def t22_0 (x1 : Int) (b0_0 : Int) (b0_1 : (List Int)) : Tr (Out sh22_0.data shb22_0.data shr22_0.data) :=
  Tr.test ((!leF (↑(List.length b0_1) : Int) x1 : Bool))
    (Tr.test ((decide ((0 : Int) ≤ x1) && decide (x1 < (↑(List.length b0_1) : Int)) : Bool))
      (Tr.test (Option.isSome (f54 ((List.getD b0_1 (Int.toNat x1) (0 : Int) : Int), ())))
        (let r0 : Bool × PUnit := g54 ((List.getD b0_1 (Int.toNat x1) (0 : Int) : Int), ());
        Tr.test ((!r0.fst : Bool))
          (Tr.fin (.ret ((x1, ((2 : Int), ())), ((b0_0, (b0_1, ())), ()))))
          (Tr.fin (.again (((wrap64 (x1 + (1 : Int)) : Int), ()), ((b0_0, (b0_1, ())), ())))))
        (Tr.stop))
      (Tr.stop /- none [op 3 of region 10 of F22] -/))
    (Tr.fin (.brk ((), ((b0_0, (b0_1, ())), ()))))

def s22_0 (d : sh22_0.data) : Option (Out sh22_0.data shb22_0.data shr22_0.data) := (t22_0 d.1.1 d.2.1.1 d.2.1.2.1).val
def l22_0 (d : sh22_0.data) : Option (shb22_0.data ⊕ shr22_0.data) := itr s22_0 rounds d
def b22_0 (d : sh22_0.data) : shb22_0.data := outB shb22_0.dflt (l22_0 d)
def r22_0 (d : sh22_0.data) : shr22_0.data := outR shr22_0.dflt (l22_0 d)
def lc22_0 : LoopC := lcOf sh22_0 shb22_0 shr22_0 l22_0 b22_0 r22_0

theorem e22_0_0 (x1 : Int) (b0_0 : Int) (b0_1 : (List Int)) : runBody kf54.orc Go.Proofs.Try.prog 400 22 0 sh22_0 shb22_0 shr22_0 ((x1, ()), (b0_0, b0_1, ()), ()) [true, true, true, true] =
    (let r0 : Bool × PUnit := g54 ((List.getD b0_1 (Int.toNat x1) (0 : Int) : Int), ()); some (.ret ((x1, ((2 : Int), ())), ((b0_0, (b0_1, ())), ())), [((!r0.fst : Bool), true), (Option.isSome (f54 ((List.getD b0_1 (Int.toNat x1) (0 : Int) : Int), ())), true), ((decide ((0 : Int) ≤ x1) && decide (x1 < (↑(List.length b0_1) : Int)) : Bool), true), ((!leF (↑(List.length b0_1) : Int) x1 : Bool), true)])) := by kernel_rfl
theorem e22_0_1 (x1 : Int) (b0_0 : Int) (b0_1 : (List Int)) : runBody kf54.orc Go.Proofs.Try.prog 400 22 0 sh22_0 shb22_0 shr22_0 ((x1, ()), (b0_0, b0_1, ()), ()) [true, true, true, false] =
    (let r0 : Bool × PUnit := g54 ((List.getD b0_1 (Int.toNat x1) (0 : Int) : Int), ()); some (.again (((wrap64 (x1 + (1 : Int)) : Int), ()), ((b0_0, (b0_1, ())), ())), [((!r0.fst : Bool), false), (Option.isSome (f54 ((List.getD b0_1 (Int.toNat x1) (0 : Int) : Int), ())), true), ((decide ((0 : Int) ≤ x1) && decide (x1 < (↑(List.length b0_1) : Int)) : Bool), true), ((!leF (↑(List.length b0_1) : Int) x1 : Bool), true)])) := by kernel_rfl
theorem e22_0_3 (x1 : Int) (b0_0 : Int) (b0_1 : (List Int)) : runBody kf54.orc Go.Proofs.Try.prog 400 22 0 sh22_0 shb22_0 shr22_0 ((x1, ()), (b0_0, b0_1, ()), ()) [false] =
    (some (.brk ((), ((b0_0, (b0_1, ())), ())), [((!leF (↑(List.length b0_1) : Int) x1 : Bool), false)])) := by kernel_rfl

theorem ok22_0_t (x1 : Int) (b0_0 : Int) (b0_1 : (List Int)) : TrOk (BodyRuns Go.Proofs.Try.prog kf54.orc 22 0 sh22_0 shb22_0 shr22_0 ((x1, ()), (b0_0, b0_1, ()), ())) (t22_0 x1 b0_0 b0_1) :=
  TrOk.ofTest (fun h0 => TrOk.ofTest (fun h1 => TrOk.ofTest (fun h2 => TrOk.ofTest (fun h3 => TrOk.ofFin (BodyRuns.of (e22_0_0 x1 b0_0 b0_1) (All.cons h3 (All.cons h2 (All.cons h1 (All.cons h0 (All.nil))))))) (fun h3 => TrOk.ofFin (BodyRuns.of (e22_0_1 x1 b0_0 b0_1) (All.cons h3 (All.cons h2 (All.cons h1 (All.cons h0 (All.nil)))))))) (fun h2 => TrOk.ofStop)) (fun h1 => TrOk.ofStop)) (fun h0 => TrOk.ofFin (BodyRuns.of (e22_0_3 x1 b0_0 b0_1) (All.cons h0 (All.nil))))

theorem ok22_0 : LoopOk Go.Proofs.Try.prog 22 0 lc22_0 := loopOk_of kf54_ok.base (T := fun (d : sh22_0.data) => t22_0 d.1.1 d.2.1.1 d.2.1.2.1) (by kernel_rfl) rfl (fun (d : sh22_0.data) => ok22_0_t d.1.1 d.2.1.1 d.2.1.2.1) (fun _ => rfl)
def kl22_0 : Known := kf54.loop 22 0 lc22_0
theorem kl22_0_ok : KnownOk Go.Proofs.Try.prog kl22_0 := kf54_ok.loop ok22_0

/-! ductility/ductilityref02.CheckRecord -/

abbrev as22 : List Ty := [(.pair (.int .i64) (.pair (.slice (.int .i64)) .unit))]
abbrev rs22 : List Ty := [(.int .i64), (.int .i64)]

def t22 (x0 : Int) (x0' : (List Int)) : Tr (Tys.data rs22) :=
  Tr.test (Option.isSome (f47 (x0, ((1 : Int), ((1000000 : Int), ())))))
    (let r0 : Bool × PUnit := g47 (x0, ((1 : Int), ((1000000 : Int), ())));
    Tr.test ((!r0.fst : Bool))
      (Tr.fin (((0 : Int), ((2 : Int), ()))))
      (Tr.test ((!leF (2 : Int) (↑(List.length x0') : Int) : Bool))
        (Tr.fin (((0 : Int), ((10 : Int), ()))))
        (Tr.test ((!leF (↑(List.length x0') : Int) (24 : Int) : Bool))
          (Tr.fin (((0 : Int), ((8 : Int), ()))))
          (Tr.test (Option.isSome (l22_0 (((0 : Int), ()), ((x0, (x0', ())), ()))))
            (Tr.test (isRet (l22_0 (((0 : Int), ()), ((x0, (x0', ())), ()))))
              (let r1 : (Int × Int × PUnit) × (Int × List Int × PUnit) × PUnit := r22_0 (((0 : Int), ()), ((x0, (x0', ())), ()));
              Tr.fin (((r1.fst.fst : Int), ((r1.fst.snd.fst : Int), ()))))
              (Tr.fin (((0 : Int), ((0 : Int), ())))))
            (Tr.stop)))))
    (Tr.stop)

def f22 (d : Tys.data as22) : Option (Tys.data rs22) := (t22 d.1.1 d.1.2.1).val
def g22 (d : Tys.data as22) : Tys.data rs22 := (f22 d).getD (Tys.dflt rs22)
def p22 : PureC := pcOf as22 rs22 f22 g22

theorem e22_0 (x0 : Int) (x0' : (List Int)) : runPure kl22_0.orc Go.Proofs.Try.prog 400 22 as22 rs22 ((x0, x0', ()), ()) [true, true] =
    (let r0 : Bool × PUnit := g47 (x0, ((1 : Int), ((1000000 : Int), ()))); some (((0 : Int), ((2 : Int), ())), [((!r0.fst : Bool), true), (Option.isSome (f47 (x0, ((1 : Int), ((1000000 : Int), ())))), true)])) := by kernel_rfl
theorem e22_1 (x0 : Int) (x0' : (List Int)) : runPure kl22_0.orc Go.Proofs.Try.prog 400 22 as22 rs22 ((x0, x0', ()), ()) [true, false, true] =
    (let r0 : Bool × PUnit := g47 (x0, ((1 : Int), ((1000000 : Int), ()))); some (((0 : Int), ((10 : Int), ())), [((!leF (2 : Int) (↑(List.length x0') : Int) : Bool), true), ((!r0.fst : Bool), false), (Option.isSome (f47 (x0, ((1 : Int), ((1000000 : Int), ())))), true)])) := by kernel_rfl
theorem e22_2 (x0 : Int) (x0' : (List Int)) : runPure kl22_0.orc Go.Proofs.Try.prog 400 22 as22 rs22 ((x0, x0', ()), ()) [true, false, false, true] =
    (let r0 : Bool × PUnit := g47 (x0, ((1 : Int), ((1000000 : Int), ()))); some (((0 : Int), ((8 : Int), ())), [((!leF (↑(List.length x0') : Int) (24 : Int) : Bool), true), ((!leF (2 : Int) (↑(List.length x0') : Int) : Bool), false), ((!r0.fst : Bool), false), (Option.isSome (f47 (x0, ((1 : Int), ((1000000 : Int), ())))), true)])) := by kernel_rfl
theorem e22_3 (x0 : Int) (x0' : (List Int)) : runPure kl22_0.orc Go.Proofs.Try.prog 400 22 as22 rs22 ((x0, x0', ()), ()) [true, false, false, false, true, true] =
    (let r0 : Bool × PUnit := g47 (x0, ((1 : Int), ((1000000 : Int), ()))); let r1 : (Int × Int × PUnit) × (Int × List Int × PUnit) × PUnit := r22_0 (((0 : Int), ()), ((x0, (x0', ())), ())); some (((r1.fst.fst : Int), ((r1.fst.snd.fst : Int), ())), [(isRet (l22_0 (((0 : Int), ()), ((x0, (x0', ())), ()))), true), (Option.isSome (l22_0 (((0 : Int), ()), ((x0, (x0', ())), ()))), true), ((!leF (↑(List.length x0') : Int) (24 : Int) : Bool), false), ((!leF (2 : Int) (↑(List.length x0') : Int) : Bool), false), ((!r0.fst : Bool), false), (Option.isSome (f47 (x0, ((1 : Int), ((1000000 : Int), ())))), true)])) := by kernel_rfl
theorem e22_4 (x0 : Int) (x0' : (List Int)) : runPure kl22_0.orc Go.Proofs.Try.prog 400 22 as22 rs22 ((x0, x0', ()), ()) [true, false, false, false, true, false] =
    (let r0 : Bool × PUnit := g47 (x0, ((1 : Int), ((1000000 : Int), ()))); some (((0 : Int), ((0 : Int), ())), [(isRet (l22_0 (((0 : Int), ()), ((x0, (x0', ())), ()))), false), (Option.isSome (l22_0 (((0 : Int), ()), ((x0, (x0', ())), ()))), true), ((!leF (↑(List.length x0') : Int) (24 : Int) : Bool), false), ((!leF (2 : Int) (↑(List.length x0') : Int) : Bool), false), ((!r0.fst : Bool), false), (Option.isSome (f47 (x0, ((1 : Int), ((1000000 : Int), ())))), true)])) := by kernel_rfl

theorem ok22_t (x0 : Int) (x0' : (List Int)) : TrOk (PureRuns Go.Proofs.Try.prog kl22_0.orc 22 as22 rs22 ((x0, x0', ()), ())) (t22 x0 x0') :=
  TrOk.ofTest (fun h0 => TrOk.ofTest (fun h1 => TrOk.ofFin (PureRuns.of (e22_0 x0 x0') (All.cons h1 (All.cons h0 (All.nil))))) (fun h1 => TrOk.ofTest (fun h2 => TrOk.ofFin (PureRuns.of (e22_1 x0 x0') (All.cons h2 (All.cons h1 (All.cons h0 (All.nil)))))) (fun h2 => TrOk.ofTest (fun h3 => TrOk.ofFin (PureRuns.of (e22_2 x0 x0') (All.cons h3 (All.cons h2 (All.cons h1 (All.cons h0 (All.nil))))))) (fun h3 => TrOk.ofTest (fun h4 => TrOk.ofTest (fun h5 => TrOk.ofFin (PureRuns.of (e22_3 x0 x0') (All.cons h5 (All.cons h4 (All.cons h3 (All.cons h2 (All.cons h1 (All.cons h0 (All.nil))))))))) (fun h5 => TrOk.ofFin (PureRuns.of (e22_4 x0 x0') (All.cons h5 (All.cons h4 (All.cons h3 (All.cons h2 (All.cons h1 (All.cons h0 (All.nil)))))))))) (fun h4 => TrOk.ofStop))))) (fun h0 => TrOk.ofStop)

theorem ok22 : PureOk Go.Proofs.Try.prog 22 p22 := pureOk_of kl22_0_ok.base (T := fun (d : Tys.data as22) => t22 d.1.1 d.1.2.1) (by kernel_rfl) (fun (d : Tys.data as22) => ok22_t d.1.1 d.1.2.1)
def kf22 : Known := kl22_0.func 22 p22
theorem kf22_ok : KnownOk Go.Proofs.Try.prog kf22 := kl22_0_ok.func ok22

/-! loop 0 of ductility/ductilityref02.Sums -/

abbrev sh91_0 : Sh := { n := 23, slots := [0, 3, 4, 5], pats := [.ty (.slice (.int .i64)), .acc (.int .i64), .ty (.int .i64), .ty (.int .i64)], boxes := [] }
abbrev shb91_0 : Sh := { n := 23, slots := [3], pats := [.acc (.int .i64)], boxes := [] }
abbrev shr91_0 : Sh := { n := 23, slots := [], pats := [], boxes := [] }

def t91_0 (x0 : (List Int)) (x1 : (List Int)) (x2 : Int) (x3 : Int) : Tr (Out sh91_0.data shb91_0.data shr91_0.data) :=
  Tr.test ((!leF (↑(List.length x0) : Int) x3 : Bool))
    (Tr.test ((decide ((0 : Int) ≤ x3) && decide (x3 < (↑(List.length x0) : Int)) : Bool))
      (Tr.test ((Nat.ble (((2 : Nat) * (List.length x1 + (1 : Nat)) + (192 : Nat)) * (8 : Nat)) (281474976710656 : Nat) && Nat.ble (List.length x1 + (1 : Nat)) (281474976710656 : Nat) : Bool))
        (Tr.fin (.again ((x0, ((x1 ++ [wrap64 (x2 + List.getD x0 (Int.toNat x3) (0 : Int))] : List Int), ((wrap64 (x2 + List.getD x0 (Int.toNat x3) (0 : Int)) : Int), ((wrap64 (x3 + (1 : Int)) : Int), ())))), ())))
        (Tr.stop /- none [op 3 of region 7 of F91] -/))
      (Tr.stop /- none [op 3 of region 6 of F91] -/))
    (Tr.fin (.brk ((x1, ()), ())))

def s91_0 (d : sh91_0.data) : Option (Out sh91_0.data shb91_0.data shr91_0.data) := (t91_0 d.1.1 d.1.2.1 d.1.2.2.1 d.1.2.2.2.1).val
def l91_0 (d : sh91_0.data) : Option (shb91_0.data ⊕ shr91_0.data) := itr s91_0 rounds d
def b91_0 (d : sh91_0.data) : shb91_0.data := outB shb91_0.dflt (l91_0 d)
def r91_0 (d : sh91_0.data) : shr91_0.data := outR shr91_0.dflt (l91_0 d)
def lc91_0 : LoopC := lcB sh91_0 shb91_0 shr91_0 l91_0 b91_0

theorem e91_0_0 (x0 : (List Int)) (x1 : (List Int)) (x2 : Int) (x3 : Int) : runBody kf22.orc Go.Proofs.Try.prog 400 91 0 sh91_0 shb91_0 shr91_0 ((x0, x1, x2, x3, ()), ()) [true, true, false, true, true] =
    (some (.again ((x0, ((x1 ++ [wrap64 (x2 + List.getD x0 (Int.toNat x3) (0 : Int))] : List Int), ((wrap64 (x2 + List.getD x0 (Int.toNat x3) (0 : Int)) : Int), ((wrap64 (x3 + (1 : Int)) : Int), ())))), ()), [((true : Bool), true), ((Nat.ble (((2 : Nat) * (List.length x1 + (1 : Nat)) + (192 : Nat)) * (8 : Nat)) (281474976710656 : Nat) && Nat.ble (List.length x1 + (1 : Nat)) (281474976710656 : Nat) : Bool), true), ((false : Bool), false), ((decide ((0 : Int) ≤ x3) && decide (x3 < (↑(List.length x0) : Int)) : Bool), true), ((!leF (↑(List.length x0) : Int) x3 : Bool), true)])) := by kernel_rfl
theorem e91_0_3 (x0 : (List Int)) (x1 : (List Int)) (x2 : Int) (x3 : Int) : runBody kf22.orc Go.Proofs.Try.prog 400 91 0 sh91_0 shb91_0 shr91_0 ((x0, x1, x2, x3, ()), ()) [false] =
    (some (.brk ((x1, ()), ()), [((!leF (↑(List.length x0) : Int) x3 : Bool), false)])) := by kernel_rfl

theorem ok91_0_t (x0 : (List Int)) (x1 : (List Int)) (x2 : Int) (x3 : Int) : TrOk (BodyRuns Go.Proofs.Try.prog kf22.orc 91 0 sh91_0 shb91_0 shr91_0 ((x0, x1, x2, x3, ()), ())) (t91_0 x0 x1 x2 x3) :=
  TrOk.ofTest (fun h0 => TrOk.ofTest (fun h1 => TrOk.ofTest (fun h3 => TrOk.ofFin (BodyRuns.of (e91_0_0 x0 x1 x2 x3) (All.cons rfl (All.cons h3 (All.cons rfl (All.cons h1 (All.cons h0 (All.nil)))))))) (fun h3 => TrOk.ofStop)) (fun h1 => TrOk.ofStop)) (fun h0 => TrOk.ofFin (BodyRuns.of (e91_0_3 x0 x1 x2 x3) (All.cons h0 (All.nil))))

theorem ok91_0 : LoopOk Go.Proofs.Try.prog 91 0 lc91_0 := loopOk_ofB kf22_ok.base (T := fun (d : sh91_0.data) => t91_0 d.1.1 d.1.2.1 d.1.2.2.1 d.1.2.2.2.1) (by kernel_rfl) rfl (fun (d : sh91_0.data) => ok91_0_t d.1.1 d.1.2.1 d.1.2.2.1 d.1.2.2.2.1) (fun _ => rfl)
def kl91_0 : Known := kf22.loop 91 0 lc91_0
theorem kl91_0_ok : KnownOk Go.Proofs.Try.prog kl91_0 := kf22_ok.loop ok91_0

/-! ductility/ductilityref02.Sums -/

abbrev as91 : List Ty := [(.slice (.int .i64))]
abbrev rs91 : List Ty := [(.slice (.int .i64))]

def t91 (x0 : (List Int)) : Tr (Tys.data rs91) :=
  Tr.test (isBrk (l91_0 ((x0, (([] : List Int), ((0 : Int), ((0 : Int), ())))), ())))
    (let r0 : (List Int × PUnit) × PUnit := b91_0 ((x0, (([] : List Int), ((0 : Int), ((0 : Int), ())))), ());
    Tr.fin (((r0.fst.fst : List Int), ())))
    (Tr.stop)

def f91 (d : Tys.data as91) : Option (Tys.data rs91) := (t91 d.1).val
def g91 (d : Tys.data as91) : Tys.data rs91 := (f91 d).getD (Tys.dflt rs91)
def p91 : PureC := pcOf as91 rs91 f91 g91

theorem e91_0 (x0 : (List Int)) : runPure kl91_0.orc Go.Proofs.Try.prog 400 91 as91 rs91 (x0, ()) [true, true] =
    (let r0 : (List Int × PUnit) × PUnit := b91_0 ((x0, (([] : List Int), ((0 : Int), ((0 : Int), ())))), ()); some (((r0.fst.fst : List Int), ()), [((true : Bool), true), (isBrk (l91_0 ((x0, (([] : List Int), ((0 : Int), ((0 : Int), ())))), ())), true)])) := by kernel_rfl

theorem ok91_t (x0 : (List Int)) : TrOk (PureRuns Go.Proofs.Try.prog kl91_0.orc 91 as91 rs91 (x0, ())) (t91 x0) :=
  TrOk.ofTest (fun h0 => TrOk.ofFin (PureRuns.of (e91_0 x0) (All.cons rfl (All.cons h0 (All.nil))))) (fun h0 => TrOk.ofStop)

theorem ok91 : PureOk Go.Proofs.Try.prog 91 p91 := pureOk_of kl91_0_ok.base (T := fun (d : Tys.data as91) => t91 d.1) (by kernel_rfl) (fun (d : Tys.data as91) => ok91_t d.1)
def kf91 : Known := kl91_0.func 91 p91
theorem kf91_ok : KnownOk Go.Proofs.Try.prog kf91 := kl91_0_ok.func ok91

/-! ductility/ductilityref02.Velocities -/

abbrev as24 : List Ty := [(.slice (.int .i64))]
abbrev rs24 : List Ty := [(.slice (.int .i64))]

def t24 (x0 : (List Int)) : Tr (Tys.data rs24) :=
  Tr.test (Option.isSome (f91 (x0, ())))
    (let r0 : List Int × PUnit := g91 (x0, ());
    Tr.fin (((r0.fst : List Int), ())))
    (Tr.stop)

def f24 (d : Tys.data as24) : Option (Tys.data rs24) := (t24 d.1).val
def g24 (d : Tys.data as24) : Tys.data rs24 := (f24 d).getD (Tys.dflt rs24)
def p24 : PureC := pcOf as24 rs24 f24 g24

theorem e24_0 (x0 : (List Int)) : runPure kf91.orc Go.Proofs.Try.prog 400 24 as24 rs24 (x0, ()) [true] =
    (let r0 : List Int × PUnit := g91 (x0, ()); some (((r0.fst : List Int), ()), [(Option.isSome (f91 (x0, ())), true)])) := by kernel_rfl

theorem ok24_t (x0 : (List Int)) : TrOk (PureRuns Go.Proofs.Try.prog kf91.orc 24 as24 rs24 (x0, ())) (t24 x0) :=
  TrOk.ofTest (fun h0 => TrOk.ofFin (PureRuns.of (e24_0 x0) (All.cons h0 (All.nil)))) (fun h0 => TrOk.ofStop)

theorem ok24 : PureOk Go.Proofs.Try.prog 24 p24 := pureOk_of kf91_ok.base (T := fun (d : Tys.data as24) => t24 d.1) (by kernel_rfl) (fun (d : Tys.data as24) => ok24_t d.1)
def kf24 : Known := kf91.func 24 p24
theorem kf24_ok : KnownOk Go.Proofs.Try.prog kf24 := kf91_ok.func ok24

/-! loop 0 of ductility/ductilitybase.Ints -/

abbrev sh23_0 : Sh := { n := 26, slots := [0, 1, 5], pats := [.ty (.slice (.int .i64)), .ty (.slice (.int .i64)), .ty (.int .i64)], boxes := [] }
abbrev shb23_0 : Sh := { n := 26, slots := [], pats := [], boxes := [] }
abbrev shr23_0 : Sh := { n := 26, slots := [4], pats := [.ty .bool], boxes := [] }

def t23_0 (x0 : (List Int)) (x1 : (List Int)) (x2 : Int) : Tr (Out sh23_0.data shb23_0.data shr23_0.data) :=
  Tr.test ((!leF (↑(List.length x0) : Int) x2 : Bool))
    (Tr.test ((decide ((0 : Int) ≤ x2) && decide (x2 < (↑(List.length x0) : Int)) : Bool))
      (Tr.test ((decide ((0 : Int) ≤ x2) && decide (x2 < (↑(List.length x1) : Int)) : Bool))
        (Tr.test ((!eqF (List.getD x0 (Int.toNat x2) (0 : Int)) (List.getD x1 (Int.toNat x2) (0 : Int)) : Bool))
          (Tr.fin (.ret (((false : Bool), ()), ())))
          (Tr.fin (.again ((x0, (x1, ((wrap64 (x2 + (1 : Int)) : Int), ()))), ()))))
        (Tr.stop /- none [op 6 of region 6 of F23] -/))
      (Tr.stop /- none [op 2 of region 6 of F23] -/))
    (Tr.fin (.brk ((), ())))

def s23_0 (d : sh23_0.data) : Option (Out sh23_0.data shb23_0.data shr23_0.data) := (t23_0 d.1.1 d.1.2.1 d.1.2.2.1).val
def l23_0 (d : sh23_0.data) : Option (shb23_0.data ⊕ shr23_0.data) := itr s23_0 rounds d
def b23_0 (d : sh23_0.data) : shb23_0.data := outB shb23_0.dflt (l23_0 d)
def r23_0 (d : sh23_0.data) : shr23_0.data := outR shr23_0.dflt (l23_0 d)
def lc23_0 : LoopC := lcOf sh23_0 shb23_0 shr23_0 l23_0 b23_0 r23_0

theorem e23_0_0 (x0 : (List Int)) (x1 : (List Int)) (x2 : Int) : runBody kf24.orc Go.Proofs.Try.prog 400 23 0 sh23_0 shb23_0 shr23_0 ((x0, x1, x2, ()), ()) [true, true, true, true] =
    (some (.ret (((false : Bool), ()), ()), [((!eqF (List.getD x0 (Int.toNat x2) (0 : Int)) (List.getD x1 (Int.toNat x2) (0 : Int)) : Bool), true), ((decide ((0 : Int) ≤ x2) && decide (x2 < (↑(List.length x1) : Int)) : Bool), true), ((decide ((0 : Int) ≤ x2) && decide (x2 < (↑(List.length x0) : Int)) : Bool), true), ((!leF (↑(List.length x0) : Int) x2 : Bool), true)])) := by kernel_rfl
theorem e23_0_1 (x0 : (List Int)) (x1 : (List Int)) (x2 : Int) : runBody kf24.orc Go.Proofs.Try.prog 400 23 0 sh23_0 shb23_0 shr23_0 ((x0, x1, x2, ()), ()) [true, true, true, false] =
    (some (.again ((x0, (x1, ((wrap64 (x2 + (1 : Int)) : Int), ()))), ()), [((!eqF (List.getD x0 (Int.toNat x2) (0 : Int)) (List.getD x1 (Int.toNat x2) (0 : Int)) : Bool), false), ((decide ((0 : Int) ≤ x2) && decide (x2 < (↑(List.length x1) : Int)) : Bool), true), ((decide ((0 : Int) ≤ x2) && decide (x2 < (↑(List.length x0) : Int)) : Bool), true), ((!leF (↑(List.length x0) : Int) x2 : Bool), true)])) := by kernel_rfl
theorem e23_0_4 (x0 : (List Int)) (x1 : (List Int)) (x2 : Int) : runBody kf24.orc Go.Proofs.Try.prog 400 23 0 sh23_0 shb23_0 shr23_0 ((x0, x1, x2, ()), ()) [false] =
    (some (.brk ((), ()), [((!leF (↑(List.length x0) : Int) x2 : Bool), false)])) := by kernel_rfl

theorem ok23_0_t (x0 : (List Int)) (x1 : (List Int)) (x2 : Int) : TrOk (BodyRuns Go.Proofs.Try.prog kf24.orc 23 0 sh23_0 shb23_0 shr23_0 ((x0, x1, x2, ()), ())) (t23_0 x0 x1 x2) :=
  TrOk.ofTest (fun h0 => TrOk.ofTest (fun h1 => TrOk.ofTest (fun h2 => TrOk.ofTest (fun h3 => TrOk.ofFin (BodyRuns.of (e23_0_0 x0 x1 x2) (All.cons h3 (All.cons h2 (All.cons h1 (All.cons h0 (All.nil))))))) (fun h3 => TrOk.ofFin (BodyRuns.of (e23_0_1 x0 x1 x2) (All.cons h3 (All.cons h2 (All.cons h1 (All.cons h0 (All.nil)))))))) (fun h2 => TrOk.ofStop)) (fun h1 => TrOk.ofStop)) (fun h0 => TrOk.ofFin (BodyRuns.of (e23_0_4 x0 x1 x2) (All.cons h0 (All.nil))))

theorem ok23_0 : LoopOk Go.Proofs.Try.prog 23 0 lc23_0 := loopOk_of kf24_ok.base (T := fun (d : sh23_0.data) => t23_0 d.1.1 d.1.2.1 d.1.2.2.1) (by kernel_rfl) rfl (fun (d : sh23_0.data) => ok23_0_t d.1.1 d.1.2.1 d.1.2.2.1) (fun _ => rfl)
def kl23_0 : Known := kf24.loop 23 0 lc23_0
theorem kl23_0_ok : KnownOk Go.Proofs.Try.prog kl23_0 := kf24_ok.loop ok23_0

/-! ductility/ductilitybase.Ints -/

abbrev as23 : List Ty := [(.slice (.int .i64)), (.slice (.int .i64))]
abbrev rs23 : List Ty := [.bool]

def t23 (x0 : (List Int)) (x1 : (List Int)) : Tr (Tys.data rs23) :=
  Tr.test ((!eqF (↑(List.length x0) : Int) (↑(List.length x1) : Int) : Bool))
    (Tr.fin (((false : Bool), ())))
    (Tr.test (Option.isSome (l23_0 ((x0, (x1, ((0 : Int), ()))), ())))
      (Tr.test (isRet (l23_0 ((x0, (x1, ((0 : Int), ()))), ())))
        (let r0 : (Bool × PUnit) × PUnit := r23_0 ((x0, (x1, ((0 : Int), ()))), ());
        Tr.fin (((r0.fst.fst : Bool), ())))
        (Tr.fin (((true : Bool), ()))))
      (Tr.stop))

def f23 (d : Tys.data as23) : Option (Tys.data rs23) := (t23 d.1 d.2.1).val
def g23 (d : Tys.data as23) : Tys.data rs23 := (f23 d).getD (Tys.dflt rs23)
def p23 : PureC := pcOf as23 rs23 f23 g23

theorem e23_0 (x0 : (List Int)) (x1 : (List Int)) : runPure kl23_0.orc Go.Proofs.Try.prog 400 23 as23 rs23 (x0, x1, ()) [true] =
    (some (((false : Bool), ()), [((!eqF (↑(List.length x0) : Int) (↑(List.length x1) : Int) : Bool), true)])) := by kernel_rfl
theorem e23_1 (x0 : (List Int)) (x1 : (List Int)) : runPure kl23_0.orc Go.Proofs.Try.prog 400 23 as23 rs23 (x0, x1, ()) [false, true, true] =
    (let r0 : (Bool × PUnit) × PUnit := r23_0 ((x0, (x1, ((0 : Int), ()))), ()); some (((r0.fst.fst : Bool), ()), [(isRet (l23_0 ((x0, (x1, ((0 : Int), ()))), ())), true), (Option.isSome (l23_0 ((x0, (x1, ((0 : Int), ()))), ())), true), ((!eqF (↑(List.length x0) : Int) (↑(List.length x1) : Int) : Bool), false)])) := by kernel_rfl
theorem e23_2 (x0 : (List Int)) (x1 : (List Int)) : runPure kl23_0.orc Go.Proofs.Try.prog 400 23 as23 rs23 (x0, x1, ()) [false, true, false] =
    (some (((true : Bool), ()), [(isRet (l23_0 ((x0, (x1, ((0 : Int), ()))), ())), false), (Option.isSome (l23_0 ((x0, (x1, ((0 : Int), ()))), ())), true), ((!eqF (↑(List.length x0) : Int) (↑(List.length x1) : Int) : Bool), false)])) := by kernel_rfl

theorem ok23_t (x0 : (List Int)) (x1 : (List Int)) : TrOk (PureRuns Go.Proofs.Try.prog kl23_0.orc 23 as23 rs23 (x0, x1, ())) (t23 x0 x1) :=
  TrOk.ofTest (fun h0 => TrOk.ofFin (PureRuns.of (e23_0 x0 x1) (All.cons h0 (All.nil)))) (fun h0 => TrOk.ofTest (fun h1 => TrOk.ofTest (fun h2 => TrOk.ofFin (PureRuns.of (e23_1 x0 x1) (All.cons h2 (All.cons h1 (All.cons h0 (All.nil)))))) (fun h2 => TrOk.ofFin (PureRuns.of (e23_2 x0 x1) (All.cons h2 (All.cons h1 (All.cons h0 (All.nil))))))) (fun h1 => TrOk.ofStop))

theorem ok23 : PureOk Go.Proofs.Try.prog 23 p23 := pureOk_of kl23_0_ok.base (T := fun (d : Tys.data as23) => t23 d.1 d.2.1) (by kernel_rfl) (fun (d : Tys.data as23) => ok23_t d.1 d.2.1)
def kf23 : Known := kl23_0.func 23 p23
theorem kf23_ok : KnownOk Go.Proofs.Try.prog kf23 := kl23_0_ok.func ok23

/-! ductility/ductilityref02.Displacements -/

abbrev as25 : List Ty := [(.slice (.int .i64))]
abbrev rs25 : List Ty := [(.slice (.int .i64))]

def t25 (x0 : (List Int)) : Tr (Tys.data rs25) :=
  Tr.test (Option.isSome (f91 (x0, ())))
    (let r0 : List Int × PUnit := g91 (x0, ());
    Tr.test (Option.isSome (f91 ((r0.fst : List Int), ())))
      (let r1 : List Int × PUnit := g91 ((r0.fst : List Int), ());
      Tr.fin (((r1.fst : List Int), ())))
      (Tr.stop))
    (Tr.stop)

def f25 (d : Tys.data as25) : Option (Tys.data rs25) := (t25 d.1).val
def g25 (d : Tys.data as25) : Tys.data rs25 := (f25 d).getD (Tys.dflt rs25)
def p25 : PureC := pcOf as25 rs25 f25 g25

theorem e25_0 (x0 : (List Int)) : runPure kf23.orc Go.Proofs.Try.prog 400 25 as25 rs25 (x0, ()) [true, true] =
    (let r0 : List Int × PUnit := g91 (x0, ()); let r1 : List Int × PUnit := g91 ((r0.fst : List Int), ()); some (((r1.fst : List Int), ()), [(Option.isSome (f91 ((r0.fst : List Int), ())), true), (Option.isSome (f91 (x0, ())), true)])) := by kernel_rfl

theorem ok25_t (x0 : (List Int)) : TrOk (PureRuns Go.Proofs.Try.prog kf23.orc 25 as25 rs25 (x0, ())) (t25 x0) :=
  TrOk.ofTest (fun h0 => TrOk.ofTest (fun h1 => TrOk.ofFin (PureRuns.of (e25_0 x0) (All.cons h1 (All.cons h0 (All.nil))))) (fun h1 => TrOk.ofStop)) (fun h0 => TrOk.ofStop)

theorem ok25 : PureOk Go.Proofs.Try.prog 25 p25 := pureOk_of kf23_ok.base (T := fun (d : Tys.data as25) => t25 d.1) (by kernel_rfl) (fun (d : Tys.data as25) => ok25_t d.1)
def kf25 : Known := kf23.func 25 p25
theorem kf25_ok : KnownOk Go.Proofs.Try.prog kf25 := kf23_ok.func ok25

/-! loop 0 of ductility/ductilityref02.End -/

abbrev sh26_0 : Sh := { n := 33, slots := [0, 2, 3, 4], pats := [.ty (.slice (.int .i64)), .ptr 0 2 0, .ptr 1 2 0, .ty (.int .i64)], boxes := [.row [.ty (.int .i64), .ty (.int .i64)], .row [.ty (.int .i64), .ty (.int .i64)]] }
abbrev shb26_0 : Sh := { n := 33, slots := [2, 3], pats := [.ptr 0 2 0, .ptr 1 2 0], boxes := [.row [.ty (.int .i64), .ty (.int .i64)], .row [.ty (.int .i64), .ty (.int .i64)]] }
abbrev shr26_0 : Sh := { n := 33, slots := [], pats := [], boxes := [.row [.ty (.int .i64), .ty (.int .i64)], .row [.ty (.int .i64), .ty (.int .i64)]] }

def t26_0 (x0 : (List Int)) (x3 : Int) (b0_0 : Int) (b0_1 : Int) (b1_0 : Int) (b1_1 : Int) : Tr (Out sh26_0.data shb26_0.data shr26_0.data) :=
  Tr.test ((!leF (↑(List.length x0) : Int) x3 : Bool))
    (Tr.test ((decide ((0 : Int) ≤ x3) && decide (x3 < (↑(List.length x0) : Int)) : Bool))
      (Tr.fin (.again ((x0, ((wrap64 (x3 + (1 : Int)) : Int), ())), ((b0_0, (b0_1, ())), (((wrap64 (b1_0 + List.getD x0 (Int.toNat x3) (0 : Int)) : Int), ((wrap64 (b1_1 + wrap64 (wrap64 ((↑(List.length x0) : Int) - x3) * List.getD x0 (Int.toNat x3) (0 : Int))) : Int), ())), ())))))
      (Tr.stop /- none [op 4 of region 5 of F26] -/))
    (Tr.fin (.brk ((), ((b0_0, (b0_1, ())), ((b1_0, (b1_1, ())), ())))))

def s26_0 (d : sh26_0.data) : Option (Out sh26_0.data shb26_0.data shr26_0.data) := (t26_0 d.1.1 d.1.2.1 d.2.1.1 d.2.1.2.1 d.2.2.1.1 d.2.2.1.2.1).val
def l26_0 (d : sh26_0.data) : Option (shb26_0.data ⊕ shr26_0.data) := itr s26_0 rounds d
def b26_0 (d : sh26_0.data) : shb26_0.data := outB shb26_0.dflt (l26_0 d)
def r26_0 (d : sh26_0.data) : shr26_0.data := outR shr26_0.dflt (l26_0 d)
def lc26_0 : LoopC := lcB sh26_0 shb26_0 shr26_0 l26_0 b26_0

theorem e26_0_0 (x0 : (List Int)) (x3 : Int) (b0_0 : Int) (b0_1 : Int) (b1_0 : Int) (b1_1 : Int) : runBody kf25.orc Go.Proofs.Try.prog 400 26 0 sh26_0 shb26_0 shr26_0 ((x0, x3, ()), (b0_0, b0_1, ()), (b1_0, b1_1, ()), ()) [true, true, true] =
    (some (.again ((x0, ((wrap64 (x3 + (1 : Int)) : Int), ())), ((b0_0, (b0_1, ())), (((wrap64 (b1_0 + List.getD x0 (Int.toNat x3) (0 : Int)) : Int), ((wrap64 (b1_1 + wrap64 (wrap64 ((↑(List.length x0) : Int) - x3) * List.getD x0 (Int.toNat x3) (0 : Int))) : Int), ())), ()))), [((decide ((0 : Int) ≤ x3) && decide (x3 < (↑(List.length x0) : Int)) : Bool), true), ((decide ((0 : Int) ≤ x3) && decide (x3 < (↑(List.length x0) : Int)) : Bool), true), ((!leF (↑(List.length x0) : Int) x3 : Bool), true)])) := by kernel_rfl
theorem e26_0_2 (x0 : (List Int)) (x3 : Int) (b0_0 : Int) (b0_1 : Int) (b1_0 : Int) (b1_1 : Int) : runBody kf25.orc Go.Proofs.Try.prog 400 26 0 sh26_0 shb26_0 shr26_0 ((x0, x3, ()), (b0_0, b0_1, ()), (b1_0, b1_1, ()), ()) [false] =
    (some (.brk ((), ((b0_0, (b0_1, ())), ((b1_0, (b1_1, ())), ()))), [((!leF (↑(List.length x0) : Int) x3 : Bool), false)])) := by kernel_rfl

theorem ok26_0_t (x0 : (List Int)) (x3 : Int) (b0_0 : Int) (b0_1 : Int) (b1_0 : Int) (b1_1 : Int) : TrOk (BodyRuns Go.Proofs.Try.prog kf25.orc 26 0 sh26_0 shb26_0 shr26_0 ((x0, x3, ()), (b0_0, b0_1, ()), (b1_0, b1_1, ()), ())) (t26_0 x0 x3 b0_0 b0_1 b1_0 b1_1) :=
  TrOk.ofTest (fun h0 => TrOk.ofTest (fun h1 => TrOk.ofFin (BodyRuns.of (e26_0_0 x0 x3 b0_0 b0_1 b1_0 b1_1) (All.cons h1 (All.cons h1 (All.cons h0 (All.nil)))))) (fun h1 => TrOk.ofStop)) (fun h0 => TrOk.ofFin (BodyRuns.of (e26_0_2 x0 x3 b0_0 b0_1 b1_0 b1_1) (All.cons h0 (All.nil))))

theorem ok26_0 : LoopOk Go.Proofs.Try.prog 26 0 lc26_0 := loopOk_ofB kf25_ok.base (T := fun (d : sh26_0.data) => t26_0 d.1.1 d.1.2.1 d.2.1.1 d.2.1.2.1 d.2.2.1.1 d.2.2.1.2.1) (by kernel_rfl) rfl (fun (d : sh26_0.data) => ok26_0_t d.1.1 d.1.2.1 d.2.1.1 d.2.1.2.1 d.2.2.1.1 d.2.2.1.2.1) (fun _ => rfl)
def kl26_0 : Known := kf25.loop 26 0 lc26_0
theorem kl26_0_ok : KnownOk Go.Proofs.Try.prog kl26_0 := kf25_ok.loop ok26_0

/-! ductility/ductilityref02.End -/

abbrev as26 : List Ty := [(.slice (.int .i64))]
abbrev rs26 : List Ty := [(.pair (.int .i64) (.pair (.int .i64) .unit))]

def t26 (x0 : (List Int)) : Tr (Tys.data rs26) :=
  Tr.test (isBrk (l26_0 ((x0, ((0 : Int), ())), (((0 : Int), ((0 : Int), ())), (((0 : Int), ((0 : Int), ())), ())))))
    (let r0 : PUnit × (Int × Int × PUnit) × (Int × Int × PUnit) × PUnit := b26_0 ((x0, ((0 : Int), ())), (((0 : Int), ((0 : Int), ())), (((0 : Int), ((0 : Int), ())), ())));
    Tr.fin ((((r0.snd.snd.fst.fst : Int), ((r0.snd.snd.fst.snd.fst : Int), ())), ())))
    (Tr.stop)

def f26 (d : Tys.data as26) : Option (Tys.data rs26) := (t26 d.1).val
def g26 (d : Tys.data as26) : Tys.data rs26 := (f26 d).getD (Tys.dflt rs26)
def p26 : PureC := pcOf as26 rs26 f26 g26

theorem e26_0 (x0 : (List Int)) : runPure kl26_0.orc Go.Proofs.Try.prog 400 26 as26 rs26 (x0, ()) [true, true] =
    (let r0 : PUnit × (Int × Int × PUnit) × (Int × Int × PUnit) × PUnit := b26_0 ((x0, ((0 : Int), ())), (((0 : Int), ((0 : Int), ())), (((0 : Int), ((0 : Int), ())), ()))); some ((((r0.snd.snd.fst.fst : Int), ((r0.snd.snd.fst.snd.fst : Int), ())), ()), [((true : Bool), true), (isBrk (l26_0 ((x0, ((0 : Int), ())), (((0 : Int), ((0 : Int), ())), (((0 : Int), ((0 : Int), ())), ())))), true)])) := by kernel_rfl

theorem ok26_t (x0 : (List Int)) : TrOk (PureRuns Go.Proofs.Try.prog kl26_0.orc 26 as26 rs26 (x0, ())) (t26 x0) :=
  TrOk.ofTest (fun h0 => TrOk.ofFin (PureRuns.of (e26_0 x0) (All.cons rfl (All.cons h0 (All.nil))))) (fun h0 => TrOk.ofStop)

theorem ok26 : PureOk Go.Proofs.Try.prog 26 p26 := pureOk_of kl26_0_ok.base (T := fun (d : Tys.data as26) => t26 d.1) (by kernel_rfl) (fun (d : Tys.data as26) => ok26_t d.1)
def kf26 : Known := kl26_0.func 26 p26
theorem kf26_ok : KnownOk Go.Proofs.Try.prog kf26 := kl26_0_ok.func ok26

/-! ductility/ductilitylaw02.MotionRecords -/

abbrev as3 : List Ty := [(.pair (.int .i64) (.pair (.slice (.int .i64)) .unit))]
abbrev rs3 : List Ty := [.bool]

def t3 (x0 : Int) (x0' : (List Int)) : Tr (Tys.data rs3) :=
  Tr.test (Option.isSome (f16 ((x0, (x0', ())), ())))
    (let r0 : Bool × PUnit := g16 ((x0, (x0', ())), ());
    Tr.test ((!r0.fst : Bool))
      (Tr.fin (((true : Bool), ())))
      (Tr.test (Option.isSome (f18 ((x0, (x0', ())), ())))
        (let r1 : (Int × List Int × PUnit) × PUnit := g18 ((x0, (x0', ())), ());
        Tr.test (Option.isSome (f17 (((r1.fst.fst : Int), ((r1.fst.snd.fst : List Int), ())), ())))
          (Tr.test (Option.isSome (f19 (((r1.fst.fst : Int), ((r1.fst.snd.fst : List Int), ())), ())))
            (Tr.test (Option.isSome (f20 (((r1.fst.fst : Int), ((r1.fst.snd.fst : List Int), ())), ())))
              (Tr.test (Option.isSome (f21 (((r1.fst.fst : Int), ((r1.fst.snd.fst : List Int), ())), ())))
                (Tr.test (Option.isSome (f22 ((x0, (x0', ())), ())))
                  (let r2 : Int × Int × PUnit := g17 (((r1.fst.fst : Int), ((r1.fst.snd.fst : List Int), ())), ());
                  let r6 : Int × Int × PUnit := g22 ((x0, (x0', ())), ());
                  Tr.test ((!eqF r2.snd.fst r6.snd.fst : Bool))
                    (Tr.fin (((false : Bool), ())))
                    (Tr.test ((!eqF r2.fst r6.fst : Bool))
                      (Tr.fin (((false : Bool), ())))
                      (Tr.test ((!eqF r6.snd.fst (0 : Int) : Bool))
                        (let r3 : List Int × Int × PUnit := g19 (((r1.fst.fst : Int), ((r1.fst.snd.fst : List Int), ())), ());
                        Tr.test ((eqF r3.snd.fst r6.snd.fst : Bool))
                          (Tr.test ((eqF (↑(List.length r3.fst) : Int) (0 : Int) : Bool))
                            (let r4 : List Int × Int × PUnit := g20 (((r1.fst.fst : Int), ((r1.fst.snd.fst : List Int), ())), ());
                            Tr.test ((eqF r4.snd.fst r6.snd.fst : Bool))
                              (Tr.test ((eqF (↑(List.length r4.fst) : Int) (0 : Int) : Bool))
                                (let r5 : (Int × Int × PUnit) × Int × PUnit := g21 (((r1.fst.fst : Int), ((r1.fst.snd.fst : List Int), ())), ());
                                Tr.test ((eqF r5.snd.fst r6.snd.fst : Bool))
                                  (Tr.fin (((r5.fst.fst == (0 : Int) && (r5.fst.snd.fst == (0 : Int) && true) : Bool), ())))
                                  (Tr.fin (((false : Bool), ()))))
                                (Tr.fin (((false : Bool), ()))))
                              (Tr.fin (((false : Bool), ()))))
                            (Tr.fin (((false : Bool), ()))))
                          (Tr.fin (((false : Bool), ()))))
                        (let r3 : List Int × Int × PUnit := g19 (((r1.fst.fst : Int), ((r1.fst.snd.fst : List Int), ())), ());
                        Tr.test ((!eqF r3.snd.fst (0 : Int) : Bool))
                          (Tr.fin (((false : Bool), ())))
                          (Tr.test (Option.isSome (f24 (x0', ())))
                            (let r7 : List Int × PUnit := g24 (x0', ());
                            Tr.test (Option.isSome (f23 ((r3.fst : List Int), ((r7.fst : List Int), ()))))
                              (let r8 : Bool × PUnit := g23 ((r3.fst : List Int), ((r7.fst : List Int), ()));
                              Tr.test ((!r8.fst : Bool))
                                (Tr.fin (((false : Bool), ())))
                                (let r4 : List Int × Int × PUnit := g20 (((r1.fst.fst : Int), ((r1.fst.snd.fst : List Int), ())), ());
                                Tr.test ((!eqF r4.snd.fst (0 : Int) : Bool))
                                  (Tr.fin (((false : Bool), ())))
                                  (Tr.test (Option.isSome (f25 (x0', ())))
                                    (let r9 : List Int × PUnit := g25 (x0', ());
                                    Tr.test (Option.isSome (f23 ((r4.fst : List Int), ((r9.fst : List Int), ()))))
                                      (let r10 : Bool × PUnit := g23 ((r4.fst : List Int), ((r9.fst : List Int), ()));
                                      Tr.test ((!r10.fst : Bool))
                                        (Tr.fin (((false : Bool), ())))
                                        (let r5 : (Int × Int × PUnit) × Int × PUnit := g21 (((r1.fst.fst : Int), ((r1.fst.snd.fst : List Int), ())), ());
                                        Tr.test ((!eqF r5.snd.fst (0 : Int) : Bool))
                                          (Tr.fin (((false : Bool), ())))
                                          (Tr.test (Option.isSome (f26 (x0', ())))
                                            (let r11 : (Int × Int × PUnit) × PUnit := g26 (x0', ());
                                            Tr.test ((!(r5.fst.fst == r11.fst.fst && (r5.fst.snd.fst == r11.fst.snd.fst && true)) : Bool))
                                              (Tr.fin (((false : Bool), ())))
                                              (Tr.test ((decide ((0 : Int) ≤ wrap64 ((↑(List.length r3.fst) : Int) - (1 : Int))) && decide (wrap64 ((↑(List.length r3.fst) : Int) - (1 : Int)) < (↑(List.length r3.fst) : Int)) : Bool))
                                                (Tr.test ((eqF r5.fst.fst (List.getD r3.fst (Int.toNat (wrap64 ((↑(List.length r3.fst) : Int) - (1 : Int)))) (0 : Int)) : Bool))
                                                  (Tr.test ((decide ((0 : Int) ≤ wrap64 ((↑(List.length r4.fst) : Int) - (1 : Int))) && decide (wrap64 ((↑(List.length r4.fst) : Int) - (1 : Int)) < (↑(List.length r4.fst) : Int)) : Bool))
                                                    (Tr.fin (((eqF r5.fst.snd.fst (List.getD r4.fst (Int.toNat (wrap64 ((↑(List.length r4.fst) : Int) - (1 : Int)))) (0 : Int)) : Bool), ())))
                                                    (Tr.stop /- none [op 16 of region 16 of F3] -/))
                                                  (Tr.fin (((false : Bool), ()))))
                                                (Tr.stop /- none [op 6 of region 16 of F3] -/)))
                                            (Tr.stop))))
                                      (Tr.stop))
                                    (Tr.stop))))
                              (Tr.stop))
                            (Tr.stop))))))
                  (Tr.stop))
                (Tr.stop))
              (Tr.stop))
            (Tr.stop))
          (Tr.stop))
        (Tr.stop)))
    (Tr.stop)

def f3 (d : Tys.data as3) : Option (Tys.data rs3) := (t3 d.1.1 d.1.2.1).val
def g3 (d : Tys.data as3) : Tys.data rs3 := (f3 d).getD (Tys.dflt rs3)
def p3 : PureC := pcOf as3 rs3 f3 g3

theorem e3_0 (x0 : Int) (x0' : (List Int)) : runPure kf26.orc Go.Proofs.Try.prog 400 3 as3 rs3 ((x0, x0', ()), ()) [true, false, true, true] =
    (let r0 : Bool × PUnit := g16 ((x0, (x0', ())), ()); some (((true : Bool), ()), [((!r0.fst : Bool), true), (Option.isSome (f16 ((x0, (x0', ())), ())), true), ((false : Bool), false), ((true : Bool), true)])) := by kernel_rfl
theorem e3_1 (x0 : Int) (x0' : (List Int)) : runPure kf26.orc Go.Proofs.Try.prog 400 3 as3 rs3 ((x0, x0', ()), ()) [true, false, true, false, true, true, true, true, true, true, true, true, true, true, true, true, true, true] =
    (let r0 : Bool × PUnit := g16 ((x0, (x0', ())), ()); let r1 : (Int × List Int × PUnit) × PUnit := g18 ((x0, (x0', ())), ()); let r2 : Int × Int × PUnit := g17 (((r1.fst.fst : Int), ((r1.fst.snd.fst : List Int), ())), ()); let r6 : Int × Int × PUnit := g22 ((x0, (x0', ())), ()); some (((false : Bool), ()), [((true : Bool), true), ((!eqF r2.snd.fst r6.snd.fst : Bool), true), ((!eqF r2.snd.fst r6.snd.fst : Bool), true), ((!eqF r2.snd.fst r6.snd.fst : Bool), true), ((!eqF r2.snd.fst r6.snd.fst : Bool), true), (Option.isSome (f22 ((x0, (x0', ())), ())), true), (Option.isSome (f21 (((r1.fst.fst : Int), ((r1.fst.snd.fst : List Int), ())), ())), true), (Option.isSome (f18 ((x0, (x0', ())), ())), true), (Option.isSome (f20 (((r1.fst.fst : Int), ((r1.fst.snd.fst : List Int), ())), ())), true), (Option.isSome (f18 ((x0, (x0', ())), ())), true), (Option.isSome (f19 (((r1.fst.fst : Int), ((r1.fst.snd.fst : List Int), ())), ())), true), (Option.isSome (f18 ((x0, (x0', ())), ())), true), (Option.isSome (f17 (((r1.fst.fst : Int), ((r1.fst.snd.fst : List Int), ())), ())), true), (Option.isSome (f18 ((x0, (x0', ())), ())), true), ((!r0.fst : Bool), false), (Option.isSome (f16 ((x0, (x0', ())), ())), true), ((false : Bool), false), ((true : Bool), true)])) := by kernel_rfl
theorem e3_2 (x0 : Int) (x0' : (List Int)) : runPure kf26.orc Go.Proofs.Try.prog 400 3 as3 rs3 ((x0, x0', ()), ()) [true, false, true, false, true, true, true, true, true, true, true, true, true, false, false, false, false, true] =
    (let r0 : Bool × PUnit := g16 ((x0, (x0', ())), ()); let r1 : (Int × List Int × PUnit) × PUnit := g18 ((x0, (x0', ())), ()); let r2 : Int × Int × PUnit := g17 (((r1.fst.fst : Int), ((r1.fst.snd.fst : List Int), ())), ()); let r6 : Int × Int × PUnit := g22 ((x0, (x0', ())), ()); some (((false : Bool), ()), [((!eqF r2.fst r6.fst : Bool), true), ((!eqF r2.snd.fst r6.snd.fst : Bool), false), ((!eqF r2.snd.fst r6.snd.fst : Bool), false), ((!eqF r2.snd.fst r6.snd.fst : Bool), false), ((!eqF r2.snd.fst r6.snd.fst : Bool), false), (Option.isSome (f22 ((x0, (x0', ())), ())), true), (Option.isSome (f21 (((r1.fst.fst : Int), ((r1.fst.snd.fst : List Int), ())), ())), true), (Option.isSome (f18 ((x0, (x0', ())), ())), true), (Option.isSome (f20 (((r1.fst.fst : Int), ((r1.fst.snd.fst : List Int), ())), ())), true), (Option.isSome (f18 ((x0, (x0', ())), ())), true), (Option.isSome (f19 (((r1.fst.fst : Int), ((r1.fst.snd.fst : List Int), ())), ())), true), (Option.isSome (f18 ((x0, (x0', ())), ())), true), (Option.isSome (f17 (((r1.fst.fst : Int), ((r1.fst.snd.fst : List Int), ())), ())), true), (Option.isSome (f18 ((x0, (x0', ())), ())), true), ((!r0.fst : Bool), false), (Option.isSome (f16 ((x0, (x0', ())), ())), true), ((false : Bool), false), ((true : Bool), true)])) := by kernel_rfl
theorem e3_3 (x0 : Int) (x0' : (List Int)) : runPure kf26.orc Go.Proofs.Try.prog 400 3 as3 rs3 ((x0, x0', ()), ()) [true, false, true, false, true, true, true, true, true, true, true, true, true, false, false, false, false, false, true, true, true, true, true, true, true, true, true, true, true, true, true, true, true, true, true, true, true, true, true] =
    (let r0 : Bool × PUnit := g16 ((x0, (x0', ())), ()); let r1 : (Int × List Int × PUnit) × PUnit := g18 ((x0, (x0', ())), ()); let r2 : Int × Int × PUnit := g17 (((r1.fst.fst : Int), ((r1.fst.snd.fst : List Int), ())), ()); let r6 : Int × Int × PUnit := g22 ((x0, (x0', ())), ()); let r3 : List Int × Int × PUnit := g19 (((r1.fst.fst : Int), ((r1.fst.snd.fst : List Int), ())), ()); let r4 : List Int × Int × PUnit := g20 (((r1.fst.fst : Int), ((r1.fst.snd.fst : List Int), ())), ()); let r5 : (Int × Int × PUnit) × Int × PUnit := g21 (((r1.fst.fst : Int), ((r1.fst.snd.fst : List Int), ())), ()); some (((r5.fst.fst == (0 : Int) && (r5.fst.snd.fst == (0 : Int) && true) : Bool), ()), [((eqF r5.snd.fst r6.snd.fst : Bool), true), ((eqF r5.snd.fst r6.snd.fst : Bool), true), ((eqF r5.snd.fst r6.snd.fst : Bool), true), ((eqF r5.snd.fst r6.snd.fst : Bool), true), ((eqF (↑(List.length r4.fst) : Int) (0 : Int) : Bool), true), ((eqF (↑(List.length r4.fst) : Int) (0 : Int) : Bool), true), ((eqF (↑(List.length r4.fst) : Int) (0 : Int) : Bool), true), ((eqF (↑(List.length r4.fst) : Int) (0 : Int) : Bool), true), ((eqF r4.snd.fst r6.snd.fst : Bool), true), ((eqF r4.snd.fst r6.snd.fst : Bool), true), ((eqF r4.snd.fst r6.snd.fst : Bool), true), ((eqF r4.snd.fst r6.snd.fst : Bool), true), ((eqF (↑(List.length r3.fst) : Int) (0 : Int) : Bool), true), ((eqF (↑(List.length r3.fst) : Int) (0 : Int) : Bool), true), ((eqF (↑(List.length r3.fst) : Int) (0 : Int) : Bool), true), ((eqF (↑(List.length r3.fst) : Int) (0 : Int) : Bool), true), ((eqF r3.snd.fst r6.snd.fst : Bool), true), ((eqF r3.snd.fst r6.snd.fst : Bool), true), ((eqF r3.snd.fst r6.snd.fst : Bool), true), ((eqF r3.snd.fst r6.snd.fst : Bool), true), ((!eqF r6.snd.fst (0 : Int) : Bool), true), ((!eqF r2.fst r6.fst : Bool), false), ((!eqF r2.snd.fst r6.snd.fst : Bool), false), ((!eqF r2.snd.fst r6.snd.fst : Bool), false), ((!eqF r2.snd.fst r6.snd.fst : Bool), false), ((!eqF r2.snd.fst r6.snd.fst : Bool), false), (Option.isSome (f22 ((x0, (x0', ())), ())), true), (Option.isSome (f21 (((r1.fst.fst : Int), ((r1.fst.snd.fst : List Int), ())), ())), true), (Option.isSome (f18 ((x0, (x0', ())), ())), true), (Option.isSome (f20 (((r1.fst.fst : Int), ((r1.fst.snd.fst : List Int), ())), ())), true), (Option.isSome (f18 ((x0, (x0', ())), ())), true), (Option.isSome (f19 (((r1.fst.fst : Int), ((r1.fst.snd.fst : List Int), ())), ())), true), (Option.isSome (f18 ((x0, (x0', ())), ())), true), (Option.isSome (f17 (((r1.fst.fst : Int), ((r1.fst.snd.fst : List Int), ())), ())), true), (Option.isSome (f18 ((x0, (x0', ())), ())), true), ((!r0.fst : Bool), false), (Option.isSome (f16 ((x0, (x0', ())), ())), true), ((false : Bool), false), ((true : Bool), true)])) := by kernel_rfl
theorem e3_4 (x0 : Int) (x0' : (List Int)) : runPure kf26.orc Go.Proofs.Try.prog 400 3 as3 rs3 ((x0, x0', ()), ()) [true, false, true, false, true, true, true, true, true, true, true, true, true, false, false, false, false, false, true, true, true, true, true, true, true, true, true, true, true, true, true, true, true, true, true, false, false, false, false] =
    (let r0 : Bool × PUnit := g16 ((x0, (x0', ())), ()); let r1 : (Int × List Int × PUnit) × PUnit := g18 ((x0, (x0', ())), ()); let r2 : Int × Int × PUnit := g17 (((r1.fst.fst : Int), ((r1.fst.snd.fst : List Int), ())), ()); let r6 : Int × Int × PUnit := g22 ((x0, (x0', ())), ()); let r3 : List Int × Int × PUnit := g19 (((r1.fst.fst : Int), ((r1.fst.snd.fst : List Int), ())), ()); let r4 : List Int × Int × PUnit := g20 (((r1.fst.fst : Int), ((r1.fst.snd.fst : List Int), ())), ()); let r5 : (Int × Int × PUnit) × Int × PUnit := g21 (((r1.fst.fst : Int), ((r1.fst.snd.fst : List Int), ())), ()); some (((false : Bool), ()), [((eqF r5.snd.fst r6.snd.fst : Bool), false), ((eqF r5.snd.fst r6.snd.fst : Bool), false), ((eqF r5.snd.fst r6.snd.fst : Bool), false), ((eqF r5.snd.fst r6.snd.fst : Bool), false), ((eqF (↑(List.length r4.fst) : Int) (0 : Int) : Bool), true), ((eqF (↑(List.length r4.fst) : Int) (0 : Int) : Bool), true), ((eqF (↑(List.length r4.fst) : Int) (0 : Int) : Bool), true), ((eqF (↑(List.length r4.fst) : Int) (0 : Int) : Bool), true), ((eqF r4.snd.fst r6.snd.fst : Bool), true), ((eqF r4.snd.fst r6.snd.fst : Bool), true), ((eqF r4.snd.fst r6.snd.fst : Bool), true), ((eqF r4.snd.fst r6.snd.fst : Bool), true), ((eqF (↑(List.length r3.fst) : Int) (0 : Int) : Bool), true), ((eqF (↑(List.length r3.fst) : Int) (0 : Int) : Bool), true), ((eqF (↑(List.length r3.fst) : Int) (0 : Int) : Bool), true), ((eqF (↑(List.length r3.fst) : Int) (0 : Int) : Bool), true), ((eqF r3.snd.fst r6.snd.fst : Bool), true), ((eqF r3.snd.fst r6.snd.fst : Bool), true), ((eqF r3.snd.fst r6.snd.fst : Bool), true), ((eqF r3.snd.fst r6.snd.fst : Bool), true), ((!eqF r6.snd.fst (0 : Int) : Bool), true), ((!eqF r2.fst r6.fst : Bool), false), ((!eqF r2.snd.fst r6.snd.fst : Bool), false), ((!eqF r2.snd.fst r6.snd.fst : Bool), false), ((!eqF r2.snd.fst r6.snd.fst : Bool), false), ((!eqF r2.snd.fst r6.snd.fst : Bool), false), (Option.isSome (f22 ((x0, (x0', ())), ())), true), (Option.isSome (f21 (((r1.fst.fst : Int), ((r1.fst.snd.fst : List Int), ())), ())), true), (Option.isSome (f18 ((x0, (x0', ())), ())), true), (Option.isSome (f20 (((r1.fst.fst : Int), ((r1.fst.snd.fst : List Int), ())), ())), true), (Option.isSome (f18 ((x0, (x0', ())), ())), true), (Option.isSome (f19 (((r1.fst.fst : Int), ((r1.fst.snd.fst : List Int), ())), ())), true), (Option.isSome (f18 ((x0, (x0', ())), ())), true), (Option.isSome (f17 (((r1.fst.fst : Int), ((r1.fst.snd.fst : List Int), ())), ())), true), (Option.isSome (f18 ((x0, (x0', ())), ())), true), ((!r0.fst : Bool), false), (Option.isSome (f16 ((x0, (x0', ())), ())), true), ((false : Bool), false), ((true : Bool), true)])) := by kernel_rfl
theorem e3_5 (x0 : Int) (x0' : (List Int)) : runPure kf26.orc Go.Proofs.Try.prog 400 3 as3 rs3 ((x0, x0', ()), ()) [true, false, true, false, true, true, true, true, true, true, true, true, true, false, false, false, false, false, true, true, true, true, true, true, true, true, true, true, true, true, true, false, false, false, false, false, false, false, false] =
    (let r0 : Bool × PUnit := g16 ((x0, (x0', ())), ()); let r1 : (Int × List Int × PUnit) × PUnit := g18 ((x0, (x0', ())), ()); let r2 : Int × Int × PUnit := g17 (((r1.fst.fst : Int), ((r1.fst.snd.fst : List Int), ())), ()); let r6 : Int × Int × PUnit := g22 ((x0, (x0', ())), ()); let r3 : List Int × Int × PUnit := g19 (((r1.fst.fst : Int), ((r1.fst.snd.fst : List Int), ())), ()); let r4 : List Int × Int × PUnit := g20 (((r1.fst.fst : Int), ((r1.fst.snd.fst : List Int), ())), ()); some (((false : Bool), ()), [((false : Bool), false), ((false : Bool), false), ((false : Bool), false), ((false : Bool), false), ((eqF (↑(List.length r4.fst) : Int) (0 : Int) : Bool), false), ((eqF (↑(List.length r4.fst) : Int) (0 : Int) : Bool), false), ((eqF (↑(List.length r4.fst) : Int) (0 : Int) : Bool), false), ((eqF (↑(List.length r4.fst) : Int) (0 : Int) : Bool), false), ((eqF r4.snd.fst r6.snd.fst : Bool), true), ((eqF r4.snd.fst r6.snd.fst : Bool), true), ((eqF r4.snd.fst r6.snd.fst : Bool), true), ((eqF r4.snd.fst r6.snd.fst : Bool), true), ((eqF (↑(List.length r3.fst) : Int) (0 : Int) : Bool), true), ((eqF (↑(List.length r3.fst) : Int) (0 : Int) : Bool), true), ((eqF (↑(List.length r3.fst) : Int) (0 : Int) : Bool), true), ((eqF (↑(List.length r3.fst) : Int) (0 : Int) : Bool), true), ((eqF r3.snd.fst r6.snd.fst : Bool), true), ((eqF r3.snd.fst r6.snd.fst : Bool), true), ((eqF r3.snd.fst r6.snd.fst : Bool), true), ((eqF r3.snd.fst r6.snd.fst : Bool), true), ((!eqF r6.snd.fst (0 : Int) : Bool), true), ((!eqF r2.fst r6.fst : Bool), false), ((!eqF r2.snd.fst r6.snd.fst : Bool), false), ((!eqF r2.snd.fst r6.snd.fst : Bool), false), ((!eqF r2.snd.fst r6.snd.fst : Bool), false), ((!eqF r2.snd.fst r6.snd.fst : Bool), false), (Option.isSome (f22 ((x0, (x0', ())), ())), true), (Option.isSome (f21 (((r1.fst.fst : Int), ((r1.fst.snd.fst : List Int), ())), ())), true), (Option.isSome (f18 ((x0, (x0', ())), ())), true), (Option.isSome (f20 (((r1.fst.fst : Int), ((r1.fst.snd.fst : List Int), ())), ())), true), (Option.isSome (f18 ((x0, (x0', ())), ())), true), (Option.isSome (f19 (((r1.fst.fst : Int), ((r1.fst.snd.fst : List Int), ())), ())), true), (Option.isSome (f18 ((x0, (x0', ())), ())), true), (Option.isSome (f17 (((r1.fst.fst : Int), ((r1.fst.snd.fst : List Int), ())), ())), true), (Option.isSome (f18 ((x0, (x0', ())), ())), true), ((!r0.fst : Bool), false), (Option.isSome (f16 ((x0, (x0', ())), ())), true), ((false : Bool), false), ((true : Bool), true)])) := by kernel_rfl
theorem e3_6 (x0 : Int) (x0' : (List Int)) : runPure kf26.orc Go.Proofs.Try.prog 400 3 as3 rs3 ((x0, x0', ()), ()) [true, false, true, false, true, true, true, true, true, true, true, true, true, false, false, false, false, false, true, true, true, true, true, true, true, true, true, false, false, false, false, false, false, false, false, false, false, false, false] =
    (let r0 : Bool × PUnit := g16 ((x0, (x0', ())), ()); let r1 : (Int × List Int × PUnit) × PUnit := g18 ((x0, (x0', ())), ()); let r2 : Int × Int × PUnit := g17 (((r1.fst.fst : Int), ((r1.fst.snd.fst : List Int), ())), ()); let r6 : Int × Int × PUnit := g22 ((x0, (x0', ())), ()); let r3 : List Int × Int × PUnit := g19 (((r1.fst.fst : Int), ((r1.fst.snd.fst : List Int), ())), ()); let r4 : List Int × Int × PUnit := g20 (((r1.fst.fst : Int), ((r1.fst.snd.fst : List Int), ())), ()); some (((false : Bool), ()), [((false : Bool), false), ((false : Bool), false), ((false : Bool), false), ((false : Bool), false), ((false : Bool), false), ((false : Bool), false), ((false : Bool), false), ((false : Bool), false), ((eqF r4.snd.fst r6.snd.fst : Bool), false), ((eqF r4.snd.fst r6.snd.fst : Bool), false), ((eqF r4.snd.fst r6.snd.fst : Bool), false), ((eqF r4.snd.fst r6.snd.fst : Bool), false), ((eqF (↑(List.length r3.fst) : Int) (0 : Int) : Bool), true), ((eqF (↑(List.length r3.fst) : Int) (0 : Int) : Bool), true), ((eqF (↑(List.length r3.fst) : Int) (0 : Int) : Bool), true), ((eqF (↑(List.length r3.fst) : Int) (0 : Int) : Bool), true), ((eqF r3.snd.fst r6.snd.fst : Bool), true), ((eqF r3.snd.fst r6.snd.fst : Bool), true), ((eqF r3.snd.fst r6.snd.fst : Bool), true), ((eqF r3.snd.fst r6.snd.fst : Bool), true), ((!eqF r6.snd.fst (0 : Int) : Bool), true), ((!eqF r2.fst r6.fst : Bool), false), ((!eqF r2.snd.fst r6.snd.fst : Bool), false), ((!eqF r2.snd.fst r6.snd.fst : Bool), false), ((!eqF r2.snd.fst r6.snd.fst : Bool), false), ((!eqF r2.snd.fst r6.snd.fst : Bool), false), (Option.isSome (f22 ((x0, (x0', ())), ())), true), (Option.isSome (f21 (((r1.fst.fst : Int), ((r1.fst.snd.fst : List Int), ())), ())), true), (Option.isSome (f18 ((x0, (x0', ())), ())), true), (Option.isSome (f20 (((r1.fst.fst : Int), ((r1.fst.snd.fst : List Int), ())), ())), true), (Option.isSome (f18 ((x0, (x0', ())), ())), true), (Option.isSome (f19 (((r1.fst.fst : Int), ((r1.fst.snd.fst : List Int), ())), ())), true), (Option.isSome (f18 ((x0, (x0', ())), ())), true), (Option.isSome (f17 (((r1.fst.fst : Int), ((r1.fst.snd.fst : List Int), ())), ())), true), (Option.isSome (f18 ((x0, (x0', ())), ())), true), ((!r0.fst : Bool), false), (Option.isSome (f16 ((x0, (x0', ())), ())), true), ((false : Bool), false), ((true : Bool), true)])) := by kernel_rfl
theorem e3_7 (x0 : Int) (x0' : (List Int)) : runPure kf26.orc Go.Proofs.Try.prog 400 3 as3 rs3 ((x0, x0', ()), ()) [true, false, true, false, true, true, true, true, true, true, true, true, true, false, false, false, false, false, true, true, true, true, true, false, false, false, false, false, false, false, false, false, false, false, false, false, false, false, false] =
    (let r0 : Bool × PUnit := g16 ((x0, (x0', ())), ()); let r1 : (Int × List Int × PUnit) × PUnit := g18 ((x0, (x0', ())), ()); let r2 : Int × Int × PUnit := g17 (((r1.fst.fst : Int), ((r1.fst.snd.fst : List Int), ())), ()); let r6 : Int × Int × PUnit := g22 ((x0, (x0', ())), ()); let r3 : List Int × Int × PUnit := g19 (((r1.fst.fst : Int), ((r1.fst.snd.fst : List Int), ())), ()); some (((false : Bool), ()), [((false : Bool), false), ((false : Bool), false), ((false : Bool), false), ((false : Bool), false), ((false : Bool), false), ((false : Bool), false), ((false : Bool), false), ((false : Bool), false), ((false : Bool), false), ((false : Bool), false), ((false : Bool), false), ((false : Bool), false), ((eqF (↑(List.length r3.fst) : Int) (0 : Int) : Bool), false), ((eqF (↑(List.length r3.fst) : Int) (0 : Int) : Bool), false), ((eqF (↑(List.length r3.fst) : Int) (0 : Int) : Bool), false), ((eqF (↑(List.length r3.fst) : Int) (0 : Int) : Bool), false), ((eqF r3.snd.fst r6.snd.fst : Bool), true), ((eqF r3.snd.fst r6.snd.fst : Bool), true), ((eqF r3.snd.fst r6.snd.fst : Bool), true), ((eqF r3.snd.fst r6.snd.fst : Bool), true), ((!eqF r6.snd.fst (0 : Int) : Bool), true), ((!eqF r2.fst r6.fst : Bool), false), ((!eqF r2.snd.fst r6.snd.fst : Bool), false), ((!eqF r2.snd.fst r6.snd.fst : Bool), false), ((!eqF r2.snd.fst r6.snd.fst : Bool), false), ((!eqF r2.snd.fst r6.snd.fst : Bool), false), (Option.isSome (f22 ((x0, (x0', ())), ())), true), (Option.isSome (f21 (((r1.fst.fst : Int), ((r1.fst.snd.fst : List Int), ())), ())), true), (Option.isSome (f18 ((x0, (x0', ())), ())), true), (Option.isSome (f20 (((r1.fst.fst : Int), ((r1.fst.snd.fst : List Int), ())), ())), true), (Option.isSome (f18 ((x0, (x0', ())), ())), true), (Option.isSome (f19 (((r1.fst.fst : Int), ((r1.fst.snd.fst : List Int), ())), ())), true), (Option.isSome (f18 ((x0, (x0', ())), ())), true), (Option.isSome (f17 (((r1.fst.fst : Int), ((r1.fst.snd.fst : List Int), ())), ())), true), (Option.isSome (f18 ((x0, (x0', ())), ())), true), ((!r0.fst : Bool), false), (Option.isSome (f16 ((x0, (x0', ())), ())), true), ((false : Bool), false), ((true : Bool), true)])) := by kernel_rfl
theorem e3_8 (x0 : Int) (x0' : (List Int)) : runPure kf26.orc Go.Proofs.Try.prog 400 3 as3 rs3 ((x0, x0', ()), ()) [true, false, true, false, true, true, true, true, true, true, true, true, true, false, false, false, false, false, true, false, false, false, false, false, false, false, false, false, false, false, false, false, false, false, false, false, false, false, false] =
    (let r0 : Bool × PUnit := g16 ((x0, (x0', ())), ()); let r1 : (Int × List Int × PUnit) × PUnit := g18 ((x0, (x0', ())), ()); let r2 : Int × Int × PUnit := g17 (((r1.fst.fst : Int), ((r1.fst.snd.fst : List Int), ())), ()); let r6 : Int × Int × PUnit := g22 ((x0, (x0', ())), ()); let r3 : List Int × Int × PUnit := g19 (((r1.fst.fst : Int), ((r1.fst.snd.fst : List Int), ())), ()); some (((false : Bool), ()), [((false : Bool), false), ((false : Bool), false), ((false : Bool), false), ((false : Bool), false), ((false : Bool), false), ((false : Bool), false), ((false : Bool), false), ((false : Bool), false), ((false : Bool), false), ((false : Bool), false), ((false : Bool), false), ((false : Bool), false), ((false : Bool), false), ((false : Bool), false), ((false : Bool), false), ((false : Bool), false), ((eqF r3.snd.fst r6.snd.fst : Bool), false), ((eqF r3.snd.fst r6.snd.fst : Bool), false), ((eqF r3.snd.fst r6.snd.fst : Bool), false), ((eqF r3.snd.fst r6.snd.fst : Bool), false), ((!eqF r6.snd.fst (0 : Int) : Bool), true), ((!eqF r2.fst r6.fst : Bool), false), ((!eqF r2.snd.fst r6.snd.fst : Bool), false), ((!eqF r2.snd.fst r6.snd.fst : Bool), false), ((!eqF r2.snd.fst r6.snd.fst : Bool), false), ((!eqF r2.snd.fst r6.snd.fst : Bool), false), (Option.isSome (f22 ((x0, (x0', ())), ())), true), (Option.isSome (f21 (((r1.fst.fst : Int), ((r1.fst.snd.fst : List Int), ())), ())), true), (Option.isSome (f18 ((x0, (x0', ())), ())), true), (Option.isSome (f20 (((r1.fst.fst : Int), ((r1.fst.snd.fst : List Int), ())), ())), true), (Option.isSome (f18 ((x0, (x0', ())), ())), true), (Option.isSome (f19 (((r1.fst.fst : Int), ((r1.fst.snd.fst : List Int), ())), ())), true), (Option.isSome (f18 ((x0, (x0', ())), ())), true), (Option.isSome (f17 (((r1.fst.fst : Int), ((r1.fst.snd.fst : List Int), ())), ())), true), (Option.isSome (f18 ((x0, (x0', ())), ())), true), ((!r0.fst : Bool), false), (Option.isSome (f16 ((x0, (x0', ())), ())), true), ((false : Bool), false), ((true : Bool), true)])) := by kernel_rfl
theorem e3_9 (x0 : Int) (x0' : (List Int)) : runPure kf26.orc Go.Proofs.Try.prog 400 3 as3 rs3 ((x0, x0', ()), ()) [true, false, true, false, true, true, true, true, true, true, true, true, true, false, false, false, false, false, false, true, true, true, true, true, true, true, true, true, true, true, true, true, true, true, true, true, true, true, true, true, true, true, true, true, true, true] =
    (let r0 : Bool × PUnit := g16 ((x0, (x0', ())), ()); let r1 : (Int × List Int × PUnit) × PUnit := g18 ((x0, (x0', ())), ()); let r2 : Int × Int × PUnit := g17 (((r1.fst.fst : Int), ((r1.fst.snd.fst : List Int), ())), ()); let r6 : Int × Int × PUnit := g22 ((x0, (x0', ())), ()); let r3 : List Int × Int × PUnit := g19 (((r1.fst.fst : Int), ((r1.fst.snd.fst : List Int), ())), ()); some (((false : Bool), ()), [((true : Bool), true), ((true : Bool), true), ((true : Bool), true), ((true : Bool), true), ((true : Bool), true), ((true : Bool), true), ((true : Bool), true), ((true : Bool), true), ((true : Bool), true), ((true : Bool), true), ((true : Bool), true), ((true : Bool), true), ((true : Bool), true), ((true : Bool), true), ((true : Bool), true), ((true : Bool), true), ((true : Bool), true), ((true : Bool), true), ((true : Bool), true), ((true : Bool), true), ((!eqF r3.snd.fst (0 : Int) : Bool), true), ((!eqF r3.snd.fst (0 : Int) : Bool), true), ((!eqF r3.snd.fst (0 : Int) : Bool), true), ((!eqF r3.snd.fst (0 : Int) : Bool), true), ((!eqF r3.snd.fst (0 : Int) : Bool), true), ((!eqF r3.snd.fst (0 : Int) : Bool), true), ((!eqF r3.snd.fst (0 : Int) : Bool), true), ((!eqF r6.snd.fst (0 : Int) : Bool), false), ((!eqF r2.fst r6.fst : Bool), false), ((!eqF r2.snd.fst r6.snd.fst : Bool), false), ((!eqF r2.snd.fst r6.snd.fst : Bool), false), ((!eqF r2.snd.fst r6.snd.fst : Bool), false), ((!eqF r2.snd.fst r6.snd.fst : Bool), false), (Option.isSome (f22 ((x0, (x0', ())), ())), true), (Option.isSome (f21 (((r1.fst.fst : Int), ((r1.fst.snd.fst : List Int), ())), ())), true), (Option.isSome (f18 ((x0, (x0', ())), ())), true), (Option.isSome (f20 (((r1.fst.fst : Int), ((r1.fst.snd.fst : List Int), ())), ())), true), (Option.isSome (f18 ((x0, (x0', ())), ())), true), (Option.isSome (f19 (((r1.fst.fst : Int), ((r1.fst.snd.fst : List Int), ())), ())), true), (Option.isSome (f18 ((x0, (x0', ())), ())), true), (Option.isSome (f17 (((r1.fst.fst : Int), ((r1.fst.snd.fst : List Int), ())), ())), true), (Option.isSome (f18 ((x0, (x0', ())), ())), true), ((!r0.fst : Bool), false), (Option.isSome (f16 ((x0, (x0', ())), ())), true), ((false : Bool), false), ((true : Bool), true)])) := by kernel_rfl
theorem e3_10 (x0 : Int) (x0' : (List Int)) : runPure kf26.orc Go.Proofs.Try.prog 400 3 as3 rs3 ((x0, x0', ()), ()) [true, false, true, false, true, true, true, true, true, true, true, true, true, false, false, false, false, false, false, false, false, false, false, true, false, true, false, false, true, true, true, true, true, true, true, true, true, true, true, true, true, true, true, true, true, true, true, true] =
    (let r0 : Bool × PUnit := g16 ((x0, (x0', ())), ()); let r1 : (Int × List Int × PUnit) × PUnit := g18 ((x0, (x0', ())), ()); let r2 : Int × Int × PUnit := g17 (((r1.fst.fst : Int), ((r1.fst.snd.fst : List Int), ())), ()); let r6 : Int × Int × PUnit := g22 ((x0, (x0', ())), ()); let r3 : List Int × Int × PUnit := g19 (((r1.fst.fst : Int), ((r1.fst.snd.fst : List Int), ())), ()); let r7 : List Int × PUnit := g24 (x0', ()); let r8 : Bool × PUnit := g23 ((r3.fst : List Int), ((r7.fst : List Int), ())); some (((false : Bool), ()), [((true : Bool), true), ((true : Bool), true), ((true : Bool), true), ((true : Bool), true), ((true : Bool), true), ((true : Bool), true), ((true : Bool), true), ((true : Bool), true), ((true : Bool), true), ((true : Bool), true), ((true : Bool), true), ((true : Bool), true), ((true : Bool), true), ((true : Bool), true), ((true : Bool), true), ((true : Bool), true), ((true : Bool), true), ((!r8.fst : Bool), true), ((!r8.fst : Bool), true), ((!r8.fst : Bool), true), ((!eqF r3.snd.fst (0 : Int) : Bool), false), ((!eqF r3.snd.fst (0 : Int) : Bool), false), (Option.isSome (f23 ((r3.fst : List Int), ((r7.fst : List Int), ()))), true), ((!eqF r3.snd.fst (0 : Int) : Bool), false), (Option.isSome (f24 (x0', ())), true), ((!eqF r3.snd.fst (0 : Int) : Bool), false), ((!eqF r3.snd.fst (0 : Int) : Bool), false), ((!eqF r3.snd.fst (0 : Int) : Bool), false), ((!eqF r3.snd.fst (0 : Int) : Bool), false), ((!eqF r6.snd.fst (0 : Int) : Bool), false), ((!eqF r2.fst r6.fst : Bool), false), ((!eqF r2.snd.fst r6.snd.fst : Bool), false), ((!eqF r2.snd.fst r6.snd.fst : Bool), false), ((!eqF r2.snd.fst r6.snd.fst : Bool), false), ((!eqF r2.snd.fst r6.snd.fst : Bool), false), (Option.isSome (f22 ((x0, (x0', ())), ())), true), (Option.isSome (f21 (((r1.fst.fst : Int), ((r1.fst.snd.fst : List Int), ())), ())), true), (Option.isSome (f18 ((x0, (x0', ())), ())), true), (Option.isSome (f20 (((r1.fst.fst : Int), ((r1.fst.snd.fst : List Int), ())), ())), true), (Option.isSome (f18 ((x0, (x0', ())), ())), true), (Option.isSome (f19 (((r1.fst.fst : Int), ((r1.fst.snd.fst : List Int), ())), ())), true), (Option.isSome (f18 ((x0, (x0', ())), ())), true), (Option.isSome (f17 (((r1.fst.fst : Int), ((r1.fst.snd.fst : List Int), ())), ())), true), (Option.isSome (f18 ((x0, (x0', ())), ())), true), ((!r0.fst : Bool), false), (Option.isSome (f16 ((x0, (x0', ())), ())), true), ((false : Bool), false), ((true : Bool), true)])) := by kernel_rfl
theorem e3_11 (x0 : Int) (x0' : (List Int)) : runPure kf26.orc Go.Proofs.Try.prog 400 3 as3 rs3 ((x0, x0', ()), ()) [true, false, true, false, true, true, true, true, true, true, true, true, true, false, false, false, false, false, false, false, false, false, false, true, false, true, false, false, false, false, false, true, true, true, true, true, true, true, true, true, true, true, true, true, true, true, true, true] =
    (let r0 : Bool × PUnit := g16 ((x0, (x0', ())), ()); let r1 : (Int × List Int × PUnit) × PUnit := g18 ((x0, (x0', ())), ()); let r2 : Int × Int × PUnit := g17 (((r1.fst.fst : Int), ((r1.fst.snd.fst : List Int), ())), ()); let r6 : Int × Int × PUnit := g22 ((x0, (x0', ())), ()); let r3 : List Int × Int × PUnit := g19 (((r1.fst.fst : Int), ((r1.fst.snd.fst : List Int), ())), ()); let r7 : List Int × PUnit := g24 (x0', ()); let r8 : Bool × PUnit := g23 ((r3.fst : List Int), ((r7.fst : List Int), ())); let r4 : List Int × Int × PUnit := g20 (((r1.fst.fst : Int), ((r1.fst.snd.fst : List Int), ())), ()); some (((false : Bool), ()), [((true : Bool), true), ((true : Bool), true), ((true : Bool), true), ((true : Bool), true), ((true : Bool), true), ((true : Bool), true), ((true : Bool), true), ((true : Bool), true), ((true : Bool), true), ((true : Bool), true), ((!eqF r4.snd.fst (0 : Int) : Bool), true), ((!eqF r4.snd.fst (0 : Int) : Bool), true), ((!eqF r4.snd.fst (0 : Int) : Bool), true), ((!eqF r4.snd.fst (0 : Int) : Bool), true), ((!eqF r4.snd.fst (0 : Int) : Bool), true), ((!eqF r4.snd.fst (0 : Int) : Bool), true), ((!eqF r4.snd.fst (0 : Int) : Bool), true), ((!r8.fst : Bool), false), ((!r8.fst : Bool), false), ((!r8.fst : Bool), false), ((!eqF r3.snd.fst (0 : Int) : Bool), false), ((!eqF r3.snd.fst (0 : Int) : Bool), false), (Option.isSome (f23 ((r3.fst : List Int), ((r7.fst : List Int), ()))), true), ((!eqF r3.snd.fst (0 : Int) : Bool), false), (Option.isSome (f24 (x0', ())), true), ((!eqF r3.snd.fst (0 : Int) : Bool), false), ((!eqF r3.snd.fst (0 : Int) : Bool), false), ((!eqF r3.snd.fst (0 : Int) : Bool), false), ((!eqF r3.snd.fst (0 : Int) : Bool), false), ((!eqF r6.snd.fst (0 : Int) : Bool), false), ((!eqF r2.fst r6.fst : Bool), false), ((!eqF r2.snd.fst r6.snd.fst : Bool), false), ((!eqF r2.snd.fst r6.snd.fst : Bool), false), ((!eqF r2.snd.fst r6.snd.fst : Bool), false), ((!eqF r2.snd.fst r6.snd.fst : Bool), false), (Option.isSome (f22 ((x0, (x0', ())), ())), true), (Option.isSome (f21 (((r1.fst.fst : Int), ((r1.fst.snd.fst : List Int), ())), ())), true), (Option.isSome (f18 ((x0, (x0', ())), ())), true), (Option.isSome (f20 (((r1.fst.fst : Int), ((r1.fst.snd.fst : List Int), ())), ())), true), (Option.isSome (f18 ((x0, (x0', ())), ())), true), (Option.isSome (f19 (((r1.fst.fst : Int), ((r1.fst.snd.fst : List Int), ())), ())), true), (Option.isSome (f18 ((x0, (x0', ())), ())), true), (Option.isSome (f17 (((r1.fst.fst : Int), ((r1.fst.snd.fst : List Int), ())), ())), true), (Option.isSome (f18 ((x0, (x0', ())), ())), true), ((!r0.fst : Bool), false), (Option.isSome (f16 ((x0, (x0', ())), ())), true), ((false : Bool), false), ((true : Bool), true)])) := by kernel_rfl
theorem e3_12 (x0 : Int) (x0' : (List Int)) : runPure kf26.orc Go.Proofs.Try.prog 400 3 as3 rs3 ((x0, x0', ()), ()) [true, false, true, false, true, true, true, true, true, true, true, true, true, false, false, false, false, false, false, false, false, false, false, true, false, true, false, false, false, false, false, false, false, false, false, true, false, true, false, false, true, true, true, true, true, true, true, true, true, true] =
    (let r0 : Bool × PUnit := g16 ((x0, (x0', ())), ()); let r1 : (Int × List Int × PUnit) × PUnit := g18 ((x0, (x0', ())), ()); let r2 : Int × Int × PUnit := g17 (((r1.fst.fst : Int), ((r1.fst.snd.fst : List Int), ())), ()); let r6 : Int × Int × PUnit := g22 ((x0, (x0', ())), ()); let r3 : List Int × Int × PUnit := g19 (((r1.fst.fst : Int), ((r1.fst.snd.fst : List Int), ())), ()); let r7 : List Int × PUnit := g24 (x0', ()); let r8 : Bool × PUnit := g23 ((r3.fst : List Int), ((r7.fst : List Int), ())); let r4 : List Int × Int × PUnit := g20 (((r1.fst.fst : Int), ((r1.fst.snd.fst : List Int), ())), ()); let r9 : List Int × PUnit := g25 (x0', ()); let r10 : Bool × PUnit := g23 ((r4.fst : List Int), ((r9.fst : List Int), ())); some (((false : Bool), ()), [((true : Bool), true), ((true : Bool), true), ((true : Bool), true), ((true : Bool), true), ((true : Bool), true), ((true : Bool), true), ((true : Bool), true), ((!r10.fst : Bool), true), ((!r10.fst : Bool), true), ((!r10.fst : Bool), true), ((!eqF r4.snd.fst (0 : Int) : Bool), false), ((!eqF r4.snd.fst (0 : Int) : Bool), false), (Option.isSome (f23 ((r4.fst : List Int), ((r9.fst : List Int), ()))), true), ((!eqF r4.snd.fst (0 : Int) : Bool), false), (Option.isSome (f25 (x0', ())), true), ((!eqF r4.snd.fst (0 : Int) : Bool), false), ((!eqF r4.snd.fst (0 : Int) : Bool), false), ((!eqF r4.snd.fst (0 : Int) : Bool), false), ((!eqF r4.snd.fst (0 : Int) : Bool), false), ((!r8.fst : Bool), false), ((!r8.fst : Bool), false), ((!r8.fst : Bool), false), ((!eqF r3.snd.fst (0 : Int) : Bool), false), ((!eqF r3.snd.fst (0 : Int) : Bool), false), (Option.isSome (f23 ((r3.fst : List Int), ((r7.fst : List Int), ()))), true), ((!eqF r3.snd.fst (0 : Int) : Bool), false), (Option.isSome (f24 (x0', ())), true), ((!eqF r3.snd.fst (0 : Int) : Bool), false), ((!eqF r3.snd.fst (0 : Int) : Bool), false), ((!eqF r3.snd.fst (0 : Int) : Bool), false), ((!eqF r3.snd.fst (0 : Int) : Bool), false), ((!eqF r6.snd.fst (0 : Int) : Bool), false), ((!eqF r2.fst r6.fst : Bool), false), ((!eqF r2.snd.fst r6.snd.fst : Bool), false), ((!eqF r2.snd.fst r6.snd.fst : Bool), false), ((!eqF r2.snd.fst r6.snd.fst : Bool), false), ((!eqF r2.snd.fst r6.snd.fst : Bool), false), (Option.isSome (f22 ((x0, (x0', ())), ())), true), (Option.isSome (f21 (((r1.fst.fst : Int), ((r1.fst.snd.fst : List Int), ())), ())), true), (Option.isSome (f18 ((x0, (x0', ())), ())), true), (Option.isSome (f20 (((r1.fst.fst : Int), ((r1.fst.snd.fst : List Int), ())), ())), true), (Option.isSome (f18 ((x0, (x0', ())), ())), true), (Option.isSome (f19 (((r1.fst.fst : Int), ((r1.fst.snd.fst : List Int), ())), ())), true), (Option.isSome (f18 ((x0, (x0', ())), ())), true), (Option.isSome (f17 (((r1.fst.fst : Int), ((r1.fst.snd.fst : List Int), ())), ())), true), (Option.isSome (f18 ((x0, (x0', ())), ())), true), ((!r0.fst : Bool), false), (Option.isSome (f16 ((x0, (x0', ())), ())), true), ((false : Bool), false), ((true : Bool), true)])) := by kernel_rfl
theorem e3_13 (x0 : Int) (x0' : (List Int)) : runPure kf26.orc Go.Proofs.Try.prog 400 3 as3 rs3 ((x0, x0', ()), ()) [true, false, true, false, true, true, true, true, true, true, true, true, true, false, false, false, false, false, false, false, false, false, false, true, false, true, false, false, false, false, false, false, false, false, false, true, false, true, false, false, false, false, false, true, true, true, true, true, true, true] =
    (let r0 : Bool × PUnit := g16 ((x0, (x0', ())), ()); let r1 : (Int × List Int × PUnit) × PUnit := g18 ((x0, (x0', ())), ()); let r2 : Int × Int × PUnit := g17 (((r1.fst.fst : Int), ((r1.fst.snd.fst : List Int), ())), ()); let r6 : Int × Int × PUnit := g22 ((x0, (x0', ())), ()); let r3 : List Int × Int × PUnit := g19 (((r1.fst.fst : Int), ((r1.fst.snd.fst : List Int), ())), ()); let r7 : List Int × PUnit := g24 (x0', ()); let r8 : Bool × PUnit := g23 ((r3.fst : List Int), ((r7.fst : List Int), ())); let r4 : List Int × Int × PUnit := g20 (((r1.fst.fst : Int), ((r1.fst.snd.fst : List Int), ())), ()); let r9 : List Int × PUnit := g25 (x0', ()); let r10 : Bool × PUnit := g23 ((r4.fst : List Int), ((r9.fst : List Int), ())); let r5 : (Int × Int × PUnit) × Int × PUnit := g21 (((r1.fst.fst : Int), ((r1.fst.snd.fst : List Int), ())), ()); some (((false : Bool), ()), [((true : Bool), true), ((!eqF r5.snd.fst (0 : Int) : Bool), true), ((!eqF r5.snd.fst (0 : Int) : Bool), true), ((!eqF r5.snd.fst (0 : Int) : Bool), true), ((!eqF r5.snd.fst (0 : Int) : Bool), true), ((!eqF r5.snd.fst (0 : Int) : Bool), true), ((!eqF r5.snd.fst (0 : Int) : Bool), true), ((!r10.fst : Bool), false), ((!r10.fst : Bool), false), ((!r10.fst : Bool), false), ((!eqF r4.snd.fst (0 : Int) : Bool), false), ((!eqF r4.snd.fst (0 : Int) : Bool), false), (Option.isSome (f23 ((r4.fst : List Int), ((r9.fst : List Int), ()))), true), ((!eqF r4.snd.fst (0 : Int) : Bool), false), (Option.isSome (f25 (x0', ())), true), ((!eqF r4.snd.fst (0 : Int) : Bool), false), ((!eqF r4.snd.fst (0 : Int) : Bool), false), ((!eqF r4.snd.fst (0 : Int) : Bool), false), ((!eqF r4.snd.fst (0 : Int) : Bool), false), ((!r8.fst : Bool), false), ((!r8.fst : Bool), false), ((!r8.fst : Bool), false), ((!eqF r3.snd.fst (0 : Int) : Bool), false), ((!eqF r3.snd.fst (0 : Int) : Bool), false), (Option.isSome (f23 ((r3.fst : List Int), ((r7.fst : List Int), ()))), true), ((!eqF r3.snd.fst (0 : Int) : Bool), false), (Option.isSome (f24 (x0', ())), true), ((!eqF r3.snd.fst (0 : Int) : Bool), false), ((!eqF r3.snd.fst (0 : Int) : Bool), false), ((!eqF r3.snd.fst (0 : Int) : Bool), false), ((!eqF r3.snd.fst (0 : Int) : Bool), false), ((!eqF r6.snd.fst (0 : Int) : Bool), false), ((!eqF r2.fst r6.fst : Bool), false), ((!eqF r2.snd.fst r6.snd.fst : Bool), false), ((!eqF r2.snd.fst r6.snd.fst : Bool), false), ((!eqF r2.snd.fst r6.snd.fst : Bool), false), ((!eqF r2.snd.fst r6.snd.fst : Bool), false), (Option.isSome (f22 ((x0, (x0', ())), ())), true), (Option.isSome (f21 (((r1.fst.fst : Int), ((r1.fst.snd.fst : List Int), ())), ())), true), (Option.isSome (f18 ((x0, (x0', ())), ())), true), (Option.isSome (f20 (((r1.fst.fst : Int), ((r1.fst.snd.fst : List Int), ())), ())), true), (Option.isSome (f18 ((x0, (x0', ())), ())), true), (Option.isSome (f19 (((r1.fst.fst : Int), ((r1.fst.snd.fst : List Int), ())), ())), true), (Option.isSome (f18 ((x0, (x0', ())), ())), true), (Option.isSome (f17 (((r1.fst.fst : Int), ((r1.fst.snd.fst : List Int), ())), ())), true), (Option.isSome (f18 ((x0, (x0', ())), ())), true), ((!r0.fst : Bool), false), (Option.isSome (f16 ((x0, (x0', ())), ())), true), ((false : Bool), false), ((true : Bool), true)])) := by kernel_rfl
theorem e3_14 (x0 : Int) (x0' : (List Int)) : runPure kf26.orc Go.Proofs.Try.prog 400 3 as3 rs3 ((x0, x0', ()), ()) [true, false, true, false, true, true, true, true, true, true, true, true, true, false, false, false, false, false, false, false, false, false, false, true, false, true, false, false, false, false, false, false, false, false, false, true, false, true, false, false, false, false, false, false, false, false, false, true, false, false, true] =
    (let r0 : Bool × PUnit := g16 ((x0, (x0', ())), ()); let r1 : (Int × List Int × PUnit) × PUnit := g18 ((x0, (x0', ())), ()); let r2 : Int × Int × PUnit := g17 (((r1.fst.fst : Int), ((r1.fst.snd.fst : List Int), ())), ()); let r6 : Int × Int × PUnit := g22 ((x0, (x0', ())), ()); let r3 : List Int × Int × PUnit := g19 (((r1.fst.fst : Int), ((r1.fst.snd.fst : List Int), ())), ()); let r7 : List Int × PUnit := g24 (x0', ()); let r8 : Bool × PUnit := g23 ((r3.fst : List Int), ((r7.fst : List Int), ())); let r4 : List Int × Int × PUnit := g20 (((r1.fst.fst : Int), ((r1.fst.snd.fst : List Int), ())), ()); let r9 : List Int × PUnit := g25 (x0', ()); let r10 : Bool × PUnit := g23 ((r4.fst : List Int), ((r9.fst : List Int), ())); let r5 : (Int × Int × PUnit) × Int × PUnit := g21 (((r1.fst.fst : Int), ((r1.fst.snd.fst : List Int), ())), ()); let r11 : (Int × Int × PUnit) × PUnit := g26 (x0', ()); some (((false : Bool), ()), [((!(r5.fst.fst == r11.fst.fst && (r5.fst.snd.fst == r11.fst.snd.fst && true)) : Bool), true), ((!eqF r5.snd.fst (0 : Int) : Bool), false), ((!eqF r5.snd.fst (0 : Int) : Bool), false), (Option.isSome (f26 (x0', ())), true), ((!eqF r5.snd.fst (0 : Int) : Bool), false), ((!eqF r5.snd.fst (0 : Int) : Bool), false), ((!eqF r5.snd.fst (0 : Int) : Bool), false), ((!eqF r5.snd.fst (0 : Int) : Bool), false), ((!r10.fst : Bool), false), ((!r10.fst : Bool), false), ((!r10.fst : Bool), false), ((!eqF r4.snd.fst (0 : Int) : Bool), false), ((!eqF r4.snd.fst (0 : Int) : Bool), false), (Option.isSome (f23 ((r4.fst : List Int), ((r9.fst : List Int), ()))), true), ((!eqF r4.snd.fst (0 : Int) : Bool), false), (Option.isSome (f25 (x0', ())), true), ((!eqF r4.snd.fst (0 : Int) : Bool), false), ((!eqF r4.snd.fst (0 : Int) : Bool), false), ((!eqF r4.snd.fst (0 : Int) : Bool), false), ((!eqF r4.snd.fst (0 : Int) : Bool), false), ((!r8.fst : Bool), false), ((!r8.fst : Bool), false), ((!r8.fst : Bool), false), ((!eqF r3.snd.fst (0 : Int) : Bool), false), ((!eqF r3.snd.fst (0 : Int) : Bool), false), (Option.isSome (f23 ((r3.fst : List Int), ((r7.fst : List Int), ()))), true), ((!eqF r3.snd.fst (0 : Int) : Bool), false), (Option.isSome (f24 (x0', ())), true), ((!eqF r3.snd.fst (0 : Int) : Bool), false), ((!eqF r3.snd.fst (0 : Int) : Bool), false), ((!eqF r3.snd.fst (0 : Int) : Bool), false), ((!eqF r3.snd.fst (0 : Int) : Bool), false), ((!eqF r6.snd.fst (0 : Int) : Bool), false), ((!eqF r2.fst r6.fst : Bool), false), ((!eqF r2.snd.fst r6.snd.fst : Bool), false), ((!eqF r2.snd.fst r6.snd.fst : Bool), false), ((!eqF r2.snd.fst r6.snd.fst : Bool), false), ((!eqF r2.snd.fst r6.snd.fst : Bool), false), (Option.isSome (f22 ((x0, (x0', ())), ())), true), (Option.isSome (f21 (((r1.fst.fst : Int), ((r1.fst.snd.fst : List Int), ())), ())), true), (Option.isSome (f18 ((x0, (x0', ())), ())), true), (Option.isSome (f20 (((r1.fst.fst : Int), ((r1.fst.snd.fst : List Int), ())), ())), true), (Option.isSome (f18 ((x0, (x0', ())), ())), true), (Option.isSome (f19 (((r1.fst.fst : Int), ((r1.fst.snd.fst : List Int), ())), ())), true), (Option.isSome (f18 ((x0, (x0', ())), ())), true), (Option.isSome (f17 (((r1.fst.fst : Int), ((r1.fst.snd.fst : List Int), ())), ())), true), (Option.isSome (f18 ((x0, (x0', ())), ())), true), ((!r0.fst : Bool), false), (Option.isSome (f16 ((x0, (x0', ())), ())), true), ((false : Bool), false), ((true : Bool), true)])) := by kernel_rfl
theorem e3_15 (x0 : Int) (x0' : (List Int)) : runPure kf26.orc Go.Proofs.Try.prog 400 3 as3 rs3 ((x0, x0', ()), ()) [true, false, true, false, true, true, true, true, true, true, true, true, true, false, false, false, false, false, false, false, false, false, false, true, false, true, false, false, false, false, false, false, false, false, false, true, false, true, false, false, false, false, false, false, false, false, false, true, false, false, false, true, true, true, true, true, true, true, true, true, true, true, true] =
    (let r0 : Bool × PUnit := g16 ((x0, (x0', ())), ()); let r1 : (Int × List Int × PUnit) × PUnit := g18 ((x0, (x0', ())), ()); let r2 : Int × Int × PUnit := g17 (((r1.fst.fst : Int), ((r1.fst.snd.fst : List Int), ())), ()); let r6 : Int × Int × PUnit := g22 ((x0, (x0', ())), ()); let r3 : List Int × Int × PUnit := g19 (((r1.fst.fst : Int), ((r1.fst.snd.fst : List Int), ())), ()); let r7 : List Int × PUnit := g24 (x0', ()); let r8 : Bool × PUnit := g23 ((r3.fst : List Int), ((r7.fst : List Int), ())); let r4 : List Int × Int × PUnit := g20 (((r1.fst.fst : Int), ((r1.fst.snd.fst : List Int), ())), ()); let r9 : List Int × PUnit := g25 (x0', ()); let r10 : Bool × PUnit := g23 ((r4.fst : List Int), ((r9.fst : List Int), ())); let r5 : (Int × Int × PUnit) × Int × PUnit := g21 (((r1.fst.fst : Int), ((r1.fst.snd.fst : List Int), ())), ()); let r11 : (Int × Int × PUnit) × PUnit := g26 (x0', ()); some (((eqF r5.fst.snd.fst (List.getD r4.fst (Int.toNat (wrap64 ((↑(List.length r4.fst) : Int) - (1 : Int)))) (0 : Int)) : Bool), ()), [((eqF r5.fst.fst (List.getD r3.fst (Int.toNat (wrap64 ((↑(List.length r3.fst) : Int) - (1 : Int)))) (0 : Int)) : Bool), true), ((eqF r5.fst.fst (List.getD r3.fst (Int.toNat (wrap64 ((↑(List.length r3.fst) : Int) - (1 : Int)))) (0 : Int)) : Bool), true), ((eqF r5.fst.fst (List.getD r3.fst (Int.toNat (wrap64 ((↑(List.length r3.fst) : Int) - (1 : Int)))) (0 : Int)) : Bool), true), ((decide ((0 : Int) ≤ wrap64 ((↑(List.length r4.fst) : Int) - (1 : Int))) && decide (wrap64 ((↑(List.length r4.fst) : Int) - (1 : Int)) < (↑(List.length r4.fst) : Int)) : Bool), true), ((eqF r5.fst.fst (List.getD r3.fst (Int.toNat (wrap64 ((↑(List.length r3.fst) : Int) - (1 : Int)))) (0 : Int)) : Bool), true), ((eqF r5.fst.fst (List.getD r3.fst (Int.toNat (wrap64 ((↑(List.length r3.fst) : Int) - (1 : Int)))) (0 : Int)) : Bool), true), ((eqF r5.fst.fst (List.getD r3.fst (Int.toNat (wrap64 ((↑(List.length r3.fst) : Int) - (1 : Int)))) (0 : Int)) : Bool), true), ((eqF r5.fst.fst (List.getD r3.fst (Int.toNat (wrap64 ((↑(List.length r3.fst) : Int) - (1 : Int)))) (0 : Int)) : Bool), true), ((eqF r5.fst.fst (List.getD r3.fst (Int.toNat (wrap64 ((↑(List.length r3.fst) : Int) - (1 : Int)))) (0 : Int)) : Bool), true), ((eqF r5.fst.fst (List.getD r3.fst (Int.toNat (wrap64 ((↑(List.length r3.fst) : Int) - (1 : Int)))) (0 : Int)) : Bool), true), ((eqF r5.fst.fst (List.getD r3.fst (Int.toNat (wrap64 ((↑(List.length r3.fst) : Int) - (1 : Int)))) (0 : Int)) : Bool), true), ((decide ((0 : Int) ≤ wrap64 ((↑(List.length r3.fst) : Int) - (1 : Int))) && decide (wrap64 ((↑(List.length r3.fst) : Int) - (1 : Int)) < (↑(List.length r3.fst) : Int)) : Bool), true), ((!(r5.fst.fst == r11.fst.fst && (r5.fst.snd.fst == r11.fst.snd.fst && true)) : Bool), false), ((!eqF r5.snd.fst (0 : Int) : Bool), false), ((!eqF r5.snd.fst (0 : Int) : Bool), false), (Option.isSome (f26 (x0', ())), true), ((!eqF r5.snd.fst (0 : Int) : Bool), false), ((!eqF r5.snd.fst (0 : Int) : Bool), false), ((!eqF r5.snd.fst (0 : Int) : Bool), false), ((!eqF r5.snd.fst (0 : Int) : Bool), false), ((!r10.fst : Bool), false), ((!r10.fst : Bool), false), ((!r10.fst : Bool), false), ((!eqF r4.snd.fst (0 : Int) : Bool), false), ((!eqF r4.snd.fst (0 : Int) : Bool), false), (Option.isSome (f23 ((r4.fst : List Int), ((r9.fst : List Int), ()))), true), ((!eqF r4.snd.fst (0 : Int) : Bool), false), (Option.isSome (f25 (x0', ())), true), ((!eqF r4.snd.fst (0 : Int) : Bool), false), ((!eqF r4.snd.fst (0 : Int) : Bool), false), ((!eqF r4.snd.fst (0 : Int) : Bool), false), ((!eqF r4.snd.fst (0 : Int) : Bool), false), ((!r8.fst : Bool), false), ((!r8.fst : Bool), false), ((!r8.fst : Bool), false), ((!eqF r3.snd.fst (0 : Int) : Bool), false), ((!eqF r3.snd.fst (0 : Int) : Bool), false), (Option.isSome (f23 ((r3.fst : List Int), ((r7.fst : List Int), ()))), true), ((!eqF r3.snd.fst (0 : Int) : Bool), false), (Option.isSome (f24 (x0', ())), true), ((!eqF r3.snd.fst (0 : Int) : Bool), false), ((!eqF r3.snd.fst (0 : Int) : Bool), false), ((!eqF r3.snd.fst (0 : Int) : Bool), false), ((!eqF r3.snd.fst (0 : Int) : Bool), false), ((!eqF r6.snd.fst (0 : Int) : Bool), false), ((!eqF r2.fst r6.fst : Bool), false), ((!eqF r2.snd.fst r6.snd.fst : Bool), false), ((!eqF r2.snd.fst r6.snd.fst : Bool), false), ((!eqF r2.snd.fst r6.snd.fst : Bool), false), ((!eqF r2.snd.fst r6.snd.fst : Bool), false), (Option.isSome (f22 ((x0, (x0', ())), ())), true), (Option.isSome (f21 (((r1.fst.fst : Int), ((r1.fst.snd.fst : List Int), ())), ())), true), (Option.isSome (f18 ((x0, (x0', ())), ())), true), (Option.isSome (f20 (((r1.fst.fst : Int), ((r1.fst.snd.fst : List Int), ())), ())), true), (Option.isSome (f18 ((x0, (x0', ())), ())), true), (Option.isSome (f19 (((r1.fst.fst : Int), ((r1.fst.snd.fst : List Int), ())), ())), true), (Option.isSome (f18 ((x0, (x0', ())), ())), true), (Option.isSome (f17 (((r1.fst.fst : Int), ((r1.fst.snd.fst : List Int), ())), ())), true), (Option.isSome (f18 ((x0, (x0', ())), ())), true), ((!r0.fst : Bool), false), (Option.isSome (f16 ((x0, (x0', ())), ())), true), ((false : Bool), false), ((true : Bool), true)])) := by kernel_rfl
theorem e3_17 (x0 : Int) (x0' : (List Int)) : runPure kf26.orc Go.Proofs.Try.prog 400 3 as3 rs3 ((x0, x0', ()), ()) [true, false, true, false, true, true, true, true, true, true, true, true, true, false, false, false, false, false, false, false, false, false, false, true, false, true, false, false, false, false, false, false, false, false, false, true, false, true, false, false, false, false, false, false, false, false, false, true, false, false, false, true, false, false, false, false, false, false, false, false, false, false] =
    (let r0 : Bool × PUnit := g16 ((x0, (x0', ())), ()); let r1 : (Int × List Int × PUnit) × PUnit := g18 ((x0, (x0', ())), ()); let r2 : Int × Int × PUnit := g17 (((r1.fst.fst : Int), ((r1.fst.snd.fst : List Int), ())), ()); let r6 : Int × Int × PUnit := g22 ((x0, (x0', ())), ()); let r3 : List Int × Int × PUnit := g19 (((r1.fst.fst : Int), ((r1.fst.snd.fst : List Int), ())), ()); let r7 : List Int × PUnit := g24 (x0', ()); let r8 : Bool × PUnit := g23 ((r3.fst : List Int), ((r7.fst : List Int), ())); let r4 : List Int × Int × PUnit := g20 (((r1.fst.fst : Int), ((r1.fst.snd.fst : List Int), ())), ()); let r9 : List Int × PUnit := g25 (x0', ()); let r10 : Bool × PUnit := g23 ((r4.fst : List Int), ((r9.fst : List Int), ())); let r5 : (Int × Int × PUnit) × Int × PUnit := g21 (((r1.fst.fst : Int), ((r1.fst.snd.fst : List Int), ())), ()); let r11 : (Int × Int × PUnit) × PUnit := g26 (x0', ()); some (((false : Bool), ()), [((eqF r5.fst.fst (List.getD r3.fst (Int.toNat (wrap64 ((↑(List.length r3.fst) : Int) - (1 : Int)))) (0 : Int)) : Bool), false), ((eqF r5.fst.fst (List.getD r3.fst (Int.toNat (wrap64 ((↑(List.length r3.fst) : Int) - (1 : Int)))) (0 : Int)) : Bool), false), ((eqF r5.fst.fst (List.getD r3.fst (Int.toNat (wrap64 ((↑(List.length r3.fst) : Int) - (1 : Int)))) (0 : Int)) : Bool), false), ((eqF r5.fst.fst (List.getD r3.fst (Int.toNat (wrap64 ((↑(List.length r3.fst) : Int) - (1 : Int)))) (0 : Int)) : Bool), false), ((eqF r5.fst.fst (List.getD r3.fst (Int.toNat (wrap64 ((↑(List.length r3.fst) : Int) - (1 : Int)))) (0 : Int)) : Bool), false), ((eqF r5.fst.fst (List.getD r3.fst (Int.toNat (wrap64 ((↑(List.length r3.fst) : Int) - (1 : Int)))) (0 : Int)) : Bool), false), ((eqF r5.fst.fst (List.getD r3.fst (Int.toNat (wrap64 ((↑(List.length r3.fst) : Int) - (1 : Int)))) (0 : Int)) : Bool), false), ((eqF r5.fst.fst (List.getD r3.fst (Int.toNat (wrap64 ((↑(List.length r3.fst) : Int) - (1 : Int)))) (0 : Int)) : Bool), false), ((eqF r5.fst.fst (List.getD r3.fst (Int.toNat (wrap64 ((↑(List.length r3.fst) : Int) - (1 : Int)))) (0 : Int)) : Bool), false), ((eqF r5.fst.fst (List.getD r3.fst (Int.toNat (wrap64 ((↑(List.length r3.fst) : Int) - (1 : Int)))) (0 : Int)) : Bool), false), ((decide ((0 : Int) ≤ wrap64 ((↑(List.length r3.fst) : Int) - (1 : Int))) && decide (wrap64 ((↑(List.length r3.fst) : Int) - (1 : Int)) < (↑(List.length r3.fst) : Int)) : Bool), true), ((!(r5.fst.fst == r11.fst.fst && (r5.fst.snd.fst == r11.fst.snd.fst && true)) : Bool), false), ((!eqF r5.snd.fst (0 : Int) : Bool), false), ((!eqF r5.snd.fst (0 : Int) : Bool), false), (Option.isSome (f26 (x0', ())), true), ((!eqF r5.snd.fst (0 : Int) : Bool), false), ((!eqF r5.snd.fst (0 : Int) : Bool), false), ((!eqF r5.snd.fst (0 : Int) : Bool), false), ((!eqF r5.snd.fst (0 : Int) : Bool), false), ((!r10.fst : Bool), false), ((!r10.fst : Bool), false), ((!r10.fst : Bool), false), ((!eqF r4.snd.fst (0 : Int) : Bool), false), ((!eqF r4.snd.fst (0 : Int) : Bool), false), (Option.isSome (f23 ((r4.fst : List Int), ((r9.fst : List Int), ()))), true), ((!eqF r4.snd.fst (0 : Int) : Bool), false), (Option.isSome (f25 (x0', ())), true), ((!eqF r4.snd.fst (0 : Int) : Bool), false), ((!eqF r4.snd.fst (0 : Int) : Bool), false), ((!eqF r4.snd.fst (0 : Int) : Bool), false), ((!eqF r4.snd.fst (0 : Int) : Bool), false), ((!r8.fst : Bool), false), ((!r8.fst : Bool), false), ((!r8.fst : Bool), false), ((!eqF r3.snd.fst (0 : Int) : Bool), false), ((!eqF r3.snd.fst (0 : Int) : Bool), false), (Option.isSome (f23 ((r3.fst : List Int), ((r7.fst : List Int), ()))), true), ((!eqF r3.snd.fst (0 : Int) : Bool), false), (Option.isSome (f24 (x0', ())), true), ((!eqF r3.snd.fst (0 : Int) : Bool), false), ((!eqF r3.snd.fst (0 : Int) : Bool), false), ((!eqF r3.snd.fst (0 : Int) : Bool), false), ((!eqF r3.snd.fst (0 : Int) : Bool), false), ((!eqF r6.snd.fst (0 : Int) : Bool), false), ((!eqF r2.fst r6.fst : Bool), false), ((!eqF r2.snd.fst r6.snd.fst : Bool), false), ((!eqF r2.snd.fst r6.snd.fst : Bool), false), ((!eqF r2.snd.fst r6.snd.fst : Bool), false), ((!eqF r2.snd.fst r6.snd.fst : Bool), false), (Option.isSome (f22 ((x0, (x0', ())), ())), true), (Option.isSome (f21 (((r1.fst.fst : Int), ((r1.fst.snd.fst : List Int), ())), ())), true), (Option.isSome (f18 ((x0, (x0', ())), ())), true), (Option.isSome (f20 (((r1.fst.fst : Int), ((r1.fst.snd.fst : List Int), ())), ())), true), (Option.isSome (f18 ((x0, (x0', ())), ())), true), (Option.isSome (f19 (((r1.fst.fst : Int), ((r1.fst.snd.fst : List Int), ())), ())), true), (Option.isSome (f18 ((x0, (x0', ())), ())), true), (Option.isSome (f17 (((r1.fst.fst : Int), ((r1.fst.snd.fst : List Int), ())), ())), true), (Option.isSome (f18 ((x0, (x0', ())), ())), true), ((!r0.fst : Bool), false), (Option.isSome (f16 ((x0, (x0', ())), ())), true), ((false : Bool), false), ((true : Bool), true)])) := by kernel_rfl

theorem ok3_t (x0 : Int) (x0' : (List Int)) : TrOk (PureRuns Go.Proofs.Try.prog kf26.orc 3 as3 rs3 ((x0, x0', ()), ())) (t3 x0 x0') :=
  TrOk.ofTest (fun h2 => TrOk.ofTest (fun h3 => TrOk.ofFin (PureRuns.of (e3_0 x0 x0') (All.cons h3 (All.cons h2 (All.cons rfl (All.cons rfl (All.nil))))))) (fun h3 => TrOk.ofTest (fun h4 => TrOk.ofTest (fun h5 => TrOk.ofTest (fun h7 => TrOk.ofTest (fun h9 => TrOk.ofTest (fun h11 => TrOk.ofTest (fun h12 => TrOk.ofTest (fun h13 => TrOk.ofFin (PureRuns.of (e3_1 x0 x0') (All.cons rfl (All.cons h13 (All.cons h13 (All.cons h13 (All.cons h13 (All.cons h12 (All.cons h11 (All.cons h4 (All.cons h9 (All.cons h4 (All.cons h7 (All.cons h4 (All.cons h5 (All.cons h4 (All.cons h3 (All.cons h2 (All.cons rfl (All.cons rfl (All.nil))))))))))))))))))))) (fun h13 => TrOk.ofTest (fun h17 => TrOk.ofFin (PureRuns.of (e3_2 x0 x0') (All.cons h17 (All.cons h13 (All.cons h13 (All.cons h13 (All.cons h13 (All.cons h12 (All.cons h11 (All.cons h4 (All.cons h9 (All.cons h4 (All.cons h7 (All.cons h4 (All.cons h5 (All.cons h4 (All.cons h3 (All.cons h2 (All.cons rfl (All.cons rfl (All.nil))))))))))))))))))))) (fun h17 => TrOk.ofTest (fun h18 => TrOk.ofTest (fun h19 => TrOk.ofTest (fun h23 => TrOk.ofTest (fun h27 => TrOk.ofTest (fun h31 => TrOk.ofTest (fun h35 => TrOk.ofFin (PureRuns.of (e3_3 x0 x0') (All.cons h35 (All.cons h35 (All.cons h35 (All.cons h35 (All.cons h31 (All.cons h31 (All.cons h31 (All.cons h31 (All.cons h27 (All.cons h27 (All.cons h27 (All.cons h27 (All.cons h23 (All.cons h23 (All.cons h23 (All.cons h23 (All.cons h19 (All.cons h19 (All.cons h19 (All.cons h19 (All.cons h18 (All.cons h17 (All.cons h13 (All.cons h13 (All.cons h13 (All.cons h13 (All.cons h12 (All.cons h11 (All.cons h4 (All.cons h9 (All.cons h4 (All.cons h7 (All.cons h4 (All.cons h5 (All.cons h4 (All.cons h3 (All.cons h2 (All.cons rfl (All.cons rfl (All.nil)))))))))))))))))))))))))))))))))))))))))) (fun h35 => TrOk.ofFin (PureRuns.of (e3_4 x0 x0') (All.cons h35 (All.cons h35 (All.cons h35 (All.cons h35 (All.cons h31 (All.cons h31 (All.cons h31 (All.cons h31 (All.cons h27 (All.cons h27 (All.cons h27 (All.cons h27 (All.cons h23 (All.cons h23 (All.cons h23 (All.cons h23 (All.cons h19 (All.cons h19 (All.cons h19 (All.cons h19 (All.cons h18 (All.cons h17 (All.cons h13 (All.cons h13 (All.cons h13 (All.cons h13 (All.cons h12 (All.cons h11 (All.cons h4 (All.cons h9 (All.cons h4 (All.cons h7 (All.cons h4 (All.cons h5 (All.cons h4 (All.cons h3 (All.cons h2 (All.cons rfl (All.cons rfl (All.nil))))))))))))))))))))))))))))))))))))))))))) (fun h31 => TrOk.ofFin (PureRuns.of (e3_5 x0 x0') (All.cons rfl (All.cons rfl (All.cons rfl (All.cons rfl (All.cons h31 (All.cons h31 (All.cons h31 (All.cons h31 (All.cons h27 (All.cons h27 (All.cons h27 (All.cons h27 (All.cons h23 (All.cons h23 (All.cons h23 (All.cons h23 (All.cons h19 (All.cons h19 (All.cons h19 (All.cons h19 (All.cons h18 (All.cons h17 (All.cons h13 (All.cons h13 (All.cons h13 (All.cons h13 (All.cons h12 (All.cons h11 (All.cons h4 (All.cons h9 (All.cons h4 (All.cons h7 (All.cons h4 (All.cons h5 (All.cons h4 (All.cons h3 (All.cons h2 (All.cons rfl (All.cons rfl (All.nil))))))))))))))))))))))))))))))))))))))))))) (fun h27 => TrOk.ofFin (PureRuns.of (e3_6 x0 x0') (All.cons rfl (All.cons rfl (All.cons rfl (All.cons rfl (All.cons rfl (All.cons rfl (All.cons rfl (All.cons rfl (All.cons h27 (All.cons h27 (All.cons h27 (All.cons h27 (All.cons h23 (All.cons h23 (All.cons h23 (All.cons h23 (All.cons h19 (All.cons h19 (All.cons h19 (All.cons h19 (All.cons h18 (All.cons h17 (All.cons h13 (All.cons h13 (All.cons h13 (All.cons h13 (All.cons h12 (All.cons h11 (All.cons h4 (All.cons h9 (All.cons h4 (All.cons h7 (All.cons h4 (All.cons h5 (All.cons h4 (All.cons h3 (All.cons h2 (All.cons rfl (All.cons rfl (All.nil))))))))))))))))))))))))))))))))))))))))))) (fun h23 => TrOk.ofFin (PureRuns.of (e3_7 x0 x0') (All.cons rfl (All.cons rfl (All.cons rfl (All.cons rfl (All.cons rfl (All.cons rfl (All.cons rfl (All.cons rfl (All.cons rfl (All.cons rfl (All.cons rfl (All.cons rfl (All.cons h23 (All.cons h23 (All.cons h23 (All.cons h23 (All.cons h19 (All.cons h19 (All.cons h19 (All.cons h19 (All.cons h18 (All.cons h17 (All.cons h13 (All.cons h13 (All.cons h13 (All.cons h13 (All.cons h12 (All.cons h11 (All.cons h4 (All.cons h9 (All.cons h4 (All.cons h7 (All.cons h4 (All.cons h5 (All.cons h4 (All.cons h3 (All.cons h2 (All.cons rfl (All.cons rfl (All.nil))))))))))))))))))))))))))))))))))))))))))) (fun h19 => TrOk.ofFin (PureRuns.of (e3_8 x0 x0') (All.cons rfl (All.cons rfl (All.cons rfl (All.cons rfl (All.cons rfl (All.cons rfl (All.cons rfl (All.cons rfl (All.cons rfl (All.cons rfl (All.cons rfl (All.cons rfl (All.cons rfl (All.cons rfl (All.cons rfl (All.cons rfl (All.cons h19 (All.cons h19 (All.cons h19 (All.cons h19 (All.cons h18 (All.cons h17 (All.cons h13 (All.cons h13 (All.cons h13 (All.cons h13 (All.cons h12 (All.cons h11 (All.cons h4 (All.cons h9 (All.cons h4 (All.cons h7 (All.cons h4 (All.cons h5 (All.cons h4 (All.cons h3 (All.cons h2 (All.cons rfl (All.cons rfl (All.nil))))))))))))))))))))))))))))))))))))))))))) (fun h18 => TrOk.ofTest (fun h19 => TrOk.ofFin (PureRuns.of (e3_9 x0 x0') (All.cons rfl (All.cons rfl (All.cons rfl (All.cons rfl (All.cons rfl (All.cons rfl (All.cons rfl (All.cons rfl (All.cons rfl (All.cons rfl (All.cons rfl (All.cons rfl (All.cons rfl (All.cons rfl (All.cons rfl (All.cons rfl (All.cons rfl (All.cons rfl (All.cons rfl (All.cons rfl (All.cons h19 (All.cons h19 (All.cons h19 (All.cons h19 (All.cons h19 (All.cons h19 (All.cons h19 (All.cons h18 (All.cons h17 (All.cons h13 (All.cons h13 (All.cons h13 (All.cons h13 (All.cons h12 (All.cons h11 (All.cons h4 (All.cons h9 (All.cons h4 (All.cons h7 (All.cons h4 (All.cons h5 (All.cons h4 (All.cons h3 (All.cons h2 (All.cons rfl (All.cons rfl (All.nil))))))))))))))))))))))))))))))))))))))))))))))))) (fun h19 => TrOk.ofTest (fun h23 => TrOk.ofTest (fun h25 => TrOk.ofTest (fun h28 => TrOk.ofFin (PureRuns.of (e3_10 x0 x0') (All.cons rfl (All.cons rfl (All.cons rfl (All.cons rfl (All.cons rfl (All.cons rfl (All.cons rfl (All.cons rfl (All.cons rfl (All.cons rfl (All.cons rfl (All.cons rfl (All.cons rfl (All.cons rfl (All.cons rfl (All.cons rfl (All.cons rfl (All.cons h28 (All.cons h28 (All.cons h28 (All.cons h19 (All.cons h19 (All.cons h25 (All.cons h19 (All.cons h23 (All.cons h19 (All.cons h19 (All.cons h19 (All.cons h19 (All.cons h18 (All.cons h17 (All.cons h13 (All.cons h13 (All.cons h13 (All.cons h13 (All.cons h12 (All.cons h11 (All.cons h4 (All.cons h9 (All.cons h4 (All.cons h7 (All.cons h4 (All.cons h5 (All.cons h4 (All.cons h3 (All.cons h2 (All.cons rfl (All.cons rfl (All.nil))))))))))))))))))))))))))))))))))))))))))))))))))) (fun h28 => TrOk.ofTest (fun h31 => TrOk.ofFin (PureRuns.of (e3_11 x0 x0') (All.cons rfl (All.cons rfl (All.cons rfl (All.cons rfl (All.cons rfl (All.cons rfl (All.cons rfl (All.cons rfl (All.cons rfl (All.cons rfl (All.cons h31 (All.cons h31 (All.cons h31 (All.cons h31 (All.cons h31 (All.cons h31 (All.cons h31 (All.cons h28 (All.cons h28 (All.cons h28 (All.cons h19 (All.cons h19 (All.cons h25 (All.cons h19 (All.cons h23 (All.cons h19 (All.cons h19 (All.cons h19 (All.cons h19 (All.cons h18 (All.cons h17 (All.cons h13 (All.cons h13 (All.cons h13 (All.cons h13 (All.cons h12 (All.cons h11 (All.cons h4 (All.cons h9 (All.cons h4 (All.cons h7 (All.cons h4 (All.cons h5 (All.cons h4 (All.cons h3 (All.cons h2 (All.cons rfl (All.cons rfl (All.nil))))))))))))))))))))))))))))))))))))))))))))))))))) (fun h31 => TrOk.ofTest (fun h35 => TrOk.ofTest (fun h37 => TrOk.ofTest (fun h40 => TrOk.ofFin (PureRuns.of (e3_12 x0 x0') (All.cons rfl (All.cons rfl (All.cons rfl (All.cons rfl (All.cons rfl (All.cons rfl (All.cons rfl (All.cons h40 (All.cons h40 (All.cons h40 (All.cons h31 (All.cons h31 (All.cons h37 (All.cons h31 (All.cons h35 (All.cons h31 (All.cons h31 (All.cons h31 (All.cons h31 (All.cons h28 (All.cons h28 (All.cons h28 (All.cons h19 (All.cons h19 (All.cons h25 (All.cons h19 (All.cons h23 (All.cons h19 (All.cons h19 (All.cons h19 (All.cons h19 (All.cons h18 (All.cons h17 (All.cons h13 (All.cons h13 (All.cons h13 (All.cons h13 (All.cons h12 (All.cons h11 (All.cons h4 (All.cons h9 (All.cons h4 (All.cons h7 (All.cons h4 (All.cons h5 (All.cons h4 (All.cons h3 (All.cons h2 (All.cons rfl (All.cons rfl (All.nil))))))))))))))))))))))))))))))))))))))))))))))))))))) (fun h40 => TrOk.ofTest (fun h43 => TrOk.ofFin (PureRuns.of (e3_13 x0 x0') (All.cons rfl (All.cons h43 (All.cons h43 (All.cons h43 (All.cons h43 (All.cons h43 (All.cons h43 (All.cons h40 (All.cons h40 (All.cons h40 (All.cons h31 (All.cons h31 (All.cons h37 (All.cons h31 (All.cons h35 (All.cons h31 (All.cons h31 (All.cons h31 (All.cons h31 (All.cons h28 (All.cons h28 (All.cons h28 (All.cons h19 (All.cons h19 (All.cons h25 (All.cons h19 (All.cons h23 (All.cons h19 (All.cons h19 (All.cons h19 (All.cons h19 (All.cons h18 (All.cons h17 (All.cons h13 (All.cons h13 (All.cons h13 (All.cons h13 (All.cons h12 (All.cons h11 (All.cons h4 (All.cons h9 (All.cons h4 (All.cons h7 (All.cons h4 (All.cons h5 (All.cons h4 (All.cons h3 (All.cons h2 (All.cons rfl (All.cons rfl (All.nil))))))))))))))))))))))))))))))))))))))))))))))))))))) (fun h43 => TrOk.ofTest (fun h47 => TrOk.ofTest (fun h50 => TrOk.ofFin (PureRuns.of (e3_14 x0 x0') (All.cons h50 (All.cons h43 (All.cons h43 (All.cons h47 (All.cons h43 (All.cons h43 (All.cons h43 (All.cons h43 (All.cons h40 (All.cons h40 (All.cons h40 (All.cons h31 (All.cons h31 (All.cons h37 (All.cons h31 (All.cons h35 (All.cons h31 (All.cons h31 (All.cons h31 (All.cons h31 (All.cons h28 (All.cons h28 (All.cons h28 (All.cons h19 (All.cons h19 (All.cons h25 (All.cons h19 (All.cons h23 (All.cons h19 (All.cons h19 (All.cons h19 (All.cons h19 (All.cons h18 (All.cons h17 (All.cons h13 (All.cons h13 (All.cons h13 (All.cons h13 (All.cons h12 (All.cons h11 (All.cons h4 (All.cons h9 (All.cons h4 (All.cons h7 (All.cons h4 (All.cons h5 (All.cons h4 (All.cons h3 (All.cons h2 (All.cons rfl (All.cons rfl (All.nil)))))))))))))))))))))))))))))))))))))))))))))))))))))) (fun h50 => TrOk.ofTest (fun h51 => TrOk.ofTest (fun h52 => TrOk.ofTest (fun h59 => TrOk.ofFin (PureRuns.of (e3_15 x0 x0') (All.cons h52 (All.cons h52 (All.cons h52 (All.cons h59 (All.cons h52 (All.cons h52 (All.cons h52 (All.cons h52 (All.cons h52 (All.cons h52 (All.cons h52 (All.cons h51 (All.cons h50 (All.cons h43 (All.cons h43 (All.cons h47 (All.cons h43 (All.cons h43 (All.cons h43 (All.cons h43 (All.cons h40 (All.cons h40 (All.cons h40 (All.cons h31 (All.cons h31 (All.cons h37 (All.cons h31 (All.cons h35 (All.cons h31 (All.cons h31 (All.cons h31 (All.cons h31 (All.cons h28 (All.cons h28 (All.cons h28 (All.cons h19 (All.cons h19 (All.cons h25 (All.cons h19 (All.cons h23 (All.cons h19 (All.cons h19 (All.cons h19 (All.cons h19 (All.cons h18 (All.cons h17 (All.cons h13 (All.cons h13 (All.cons h13 (All.cons h13 (All.cons h12 (All.cons h11 (All.cons h4 (All.cons h9 (All.cons h4 (All.cons h7 (All.cons h4 (All.cons h5 (All.cons h4 (All.cons h3 (All.cons h2 (All.cons rfl (All.cons rfl (All.nil)))))))))))))))))))))))))))))))))))))))))))))))))))))))))))))))))) (fun h59 => TrOk.ofStop)) (fun h52 => TrOk.ofFin (PureRuns.of (e3_17 x0 x0') (All.cons h52 (All.cons h52 (All.cons h52 (All.cons h52 (All.cons h52 (All.cons h52 (All.cons h52 (All.cons h52 (All.cons h52 (All.cons h52 (All.cons h51 (All.cons h50 (All.cons h43 (All.cons h43 (All.cons h47 (All.cons h43 (All.cons h43 (All.cons h43 (All.cons h43 (All.cons h40 (All.cons h40 (All.cons h40 (All.cons h31 (All.cons h31 (All.cons h37 (All.cons h31 (All.cons h35 (All.cons h31 (All.cons h31 (All.cons h31 (All.cons h31 (All.cons h28 (All.cons h28 (All.cons h28 (All.cons h19 (All.cons h19 (All.cons h25 (All.cons h19 (All.cons h23 (All.cons h19 (All.cons h19 (All.cons h19 (All.cons h19 (All.cons h18 (All.cons h17 (All.cons h13 (All.cons h13 (All.cons h13 (All.cons h13 (All.cons h12 (All.cons h11 (All.cons h4 (All.cons h9 (All.cons h4 (All.cons h7 (All.cons h4 (All.cons h5 (All.cons h4 (All.cons h3 (All.cons h2 (All.cons rfl (All.cons rfl (All.nil)))))))))))))))))))))))))))))))))))))))))))))))))))))))))))))))))) (fun h51 => TrOk.ofStop))) (fun h47 => TrOk.ofStop)))) (fun h37 => TrOk.ofStop)) (fun h35 => TrOk.ofStop)))) (fun h25 => TrOk.ofStop)) (fun h23 => TrOk.ofStop)))))) (fun h12 => TrOk.ofStop)) (fun h11 => TrOk.ofStop)) (fun h9 => TrOk.ofStop)) (fun h7 => TrOk.ofStop)) (fun h5 => TrOk.ofStop)) (fun h4 => TrOk.ofStop))) (fun h2 => TrOk.ofStop)

theorem ok3 : PureOk Go.Proofs.Try.prog 3 p3 := pureOk_of kf26_ok.base (T := fun (d : Tys.data as3) => t3 d.1.1 d.1.2.1) (by kernel_rfl) (fun (d : Tys.data as3) => ok3_t d.1.1 d.1.2.1)
def kf3 : Known := kf26.func 3 p3
theorem kf3_ok : KnownOk Go.Proofs.Try.prog kf3 := kf26_ok.func ok3

end Go.Vm.Mo
