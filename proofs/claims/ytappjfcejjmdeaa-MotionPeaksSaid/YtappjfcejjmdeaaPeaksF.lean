import Derived.Test.YtappjfcejjmdeaaA3
import Derived.KernelRfl
import Derived.Test.YtappjfcejjmdeaaProg
set_option linter.unusedVariables false
set_option linter.unusedSimpArgs false

namespace Go.Vm.Mo
open Go
set_option linter.unusedVariables false

def kn0 : Known := ⟨[], []⟩

theorem plainP : Plain Go.Proofs.Try.prog := by
  have h : (Go.Proofs.Try.prog.funcs.toList.all fun fn => !(fn.body.isSome && fn.name == "runtime.NumGoroutine")) = true := by kernel_rfl
  intro f fn hf hb
  have hm : fn ∈ Go.Proofs.Try.prog.funcs.toList := by
    have := Array.getElem?_eq_some_iff.1 hf
    obtain ⟨hlt, rfl⟩ := this
    simp
  have := List.all_eq_true.1 h fn hm
  rw [hb] at this
  simpa using this

theorem kn0_ok : KnownOk Go.Proofs.Try.prog kn0 := ⟨plainP, by kernel_rfl, (fun _ h => by cases h), (fun _ h => by cases h)⟩

/-! ductility/ductilitylaw02.awake -/

abbrev as15 : List Ty := []
abbrev rs15 : List Ty := [.bool]
def f15 (_ : Tys.data as15) : Option (Tys.data rs15) := some (true, ())
def g15 (_ : Tys.data as15) : Tys.data rs15 := (true, ())
def p15 : PureC := pcOf as15 rs15 f15 g15

theorem e15 : runAsk kn0.orc Go.Proofs.Try.prog 400 15 as15 rs15 () none = some ((true, ()), []) := by kernel_rfl
theorem ok15 : PureOk Go.Proofs.Try.prog 15 p15 := pureOk_closed kn0_ok.base (by kernel_rfl) e15 All.nil
def kf15 : Known := kn0.func 15 p15
theorem kf15_ok : KnownOk Go.Proofs.Try.prog kf15 := kn0_ok.func ok15

/-! ductility/ductilitylaw02.few -/

abbrev as16 : List Ty := [(.pair (.int .i64) (.pair (.slice (.int .i64)) .unit))]
abbrev rs16 : List Ty := [.bool]

def t16 (x0 : Int) (x0' : (List Int)) : Tr (Tys.data rs16) :=
  Tr.fin (((leF (↑(List.length x0') : Int) (26 : Int) : Bool), ()))

def f16 (d : Tys.data as16) : Option (Tys.data rs16) := (t16 d.1.1 d.1.2.1).val
def g16 (d : Tys.data as16) : Tys.data rs16 := (f16 d).getD (Tys.dflt rs16)
def p16 : PureC := pcOf as16 rs16 f16 g16

theorem e16_0 (x0 : Int) (x0' : (List Int)) : runPure kf15.orc Go.Proofs.Try.prog 400 16 as16 rs16 ((x0, x0', ()), ()) [] =
    (some (((leF (↑(List.length x0') : Int) (26 : Int) : Bool), ()), [])) := by kernel_rfl

theorem ok16_t (x0 : Int) (x0' : (List Int)) : TrOk (PureRuns Go.Proofs.Try.prog kf15.orc 16 as16 rs16 ((x0, x0', ()), ())) (t16 x0 x0') :=
  TrOk.ofFin (PureRuns.of (e16_0 x0 x0') (All.nil))

theorem ok16 : PureOk Go.Proofs.Try.prog 16 p16 := pureOk_of kf15_ok.base (T := fun (d : Tys.data as16) => t16 d.1.1 d.1.2.1) (by kernel_rfl) (fun (d : Tys.data as16) => ok16_t d.1.1 d.1.2.1)
def kf16 : Known := kf15.func 16 p16
theorem kf16_ok : KnownOk Go.Proofs.Try.prog kf16 := kf15_ok.func ok16

/-! ductility/ductilitybase.CopyInts -/

abbrev as70 : List Ty := [(.slice (.int .i64))]
abbrev rs70 : List Ty := [(.slice (.int .i64))]

def t70 (x0 : (List Int)) : Tr (Tys.data rs70) :=
  Tr.test ((Nat.beq (List.length x0) (0 : Nat) : Bool))
    (Tr.fin ((([] : List Int), ())))
    (Tr.test ((Nat.ble ((0 : Nat) + List.length x0) (0 : Nat) : Bool))
      (Tr.stop /- none [op 2 of region 1 of F70] -/)
      (Tr.test ((Nat.ble (((2 : Nat) * ((0 : Nat) + List.length x0) + (192 : Nat)) * (8 : Nat)) (281474976710656 : Nat) && Nat.ble ((0 : Nat) + List.length x0) (281474976710656 : Nat) : Bool))
        (Tr.test ((Nat.beq ((0 : Nat) + List.length x0) (List.length ([] ++ x0)) : Bool))
          (Tr.fin ((([] ++ x0 : List Int), ())))
          (Tr.test ((Nat.ble ((0 : Nat) + List.length x0) (List.length ([] ++ x0)) : Bool))
            (Tr.fin (((List.take ((0 : Nat) + List.length x0) ([] ++ x0) : List Int), ())))
            (Tr.stop /- none [result] -/)))
        (Tr.stop /- none [op 2 of region 1 of F70] -/)))

def f70 (d : Tys.data as70) : Option (Tys.data rs70) := (t70 d.1).val
def g70 (d : Tys.data as70) : Tys.data rs70 := (f70 d).getD (Tys.dflt rs70)
def p70 : PureC := pcOf as70 rs70 f70 g70

theorem e70_0 (x0 : (List Int)) : runPure kf16.orc Go.Proofs.Try.prog 400 70 as70 rs70 (x0, ()) [true, true] =
    (some ((([] : List Int), ()), [((true : Bool), true), ((Nat.beq (List.length x0) (0 : Nat) : Bool), true)])) := by kernel_rfl
theorem e70_2 (x0 : (List Int)) : runPure kf16.orc Go.Proofs.Try.prog 400 70 as70 rs70 (x0, ()) [false, false, true, true, true] =
    (some ((([] ++ x0 : List Int), ()), [((Nat.beq ((0 : Nat) + List.length x0) (List.length ([] ++ x0)) : Bool), true), ((true : Bool), true), ((Nat.ble (((2 : Nat) * ((0 : Nat) + List.length x0) + (192 : Nat)) * (8 : Nat)) (281474976710656 : Nat) && Nat.ble ((0 : Nat) + List.length x0) (281474976710656 : Nat) : Bool), true), ((Nat.ble ((0 : Nat) + List.length x0) (0 : Nat) : Bool), false), ((Nat.beq (List.length x0) (0 : Nat) : Bool), false)])) := by kernel_rfl
theorem e70_3 (x0 : (List Int)) : runPure kf16.orc Go.Proofs.Try.prog 400 70 as70 rs70 (x0, ()) [false, false, true, true, false, true] =
    (some (((List.take ((0 : Nat) + List.length x0) ([] ++ x0) : List Int), ()), [((Nat.ble ((0 : Nat) + List.length x0) (List.length ([] ++ x0)) : Bool), true), ((Nat.beq ((0 : Nat) + List.length x0) (List.length ([] ++ x0)) : Bool), false), ((true : Bool), true), ((Nat.ble (((2 : Nat) * ((0 : Nat) + List.length x0) + (192 : Nat)) * (8 : Nat)) (281474976710656 : Nat) && Nat.ble ((0 : Nat) + List.length x0) (281474976710656 : Nat) : Bool), true), ((Nat.ble ((0 : Nat) + List.length x0) (0 : Nat) : Bool), false), ((Nat.beq (List.length x0) (0 : Nat) : Bool), false)])) := by kernel_rfl

theorem ok70_t (x0 : (List Int)) : TrOk (PureRuns Go.Proofs.Try.prog kf16.orc 70 as70 rs70 (x0, ())) (t70 x0) :=
  TrOk.ofTest (fun h0 => TrOk.ofFin (PureRuns.of (e70_0 x0) (All.cons rfl (All.cons h0 (All.nil))))) (fun h0 => TrOk.ofTest (fun h1 => TrOk.ofStop) (fun h1 => TrOk.ofTest (fun h2 => TrOk.ofTest (fun h4 => TrOk.ofFin (PureRuns.of (e70_2 x0) (All.cons h4 (All.cons rfl (All.cons h2 (All.cons h1 (All.cons h0 (All.nil)))))))) (fun h4 => TrOk.ofTest (fun h5 => TrOk.ofFin (PureRuns.of (e70_3 x0) (All.cons h5 (All.cons h4 (All.cons rfl (All.cons h2 (All.cons h1 (All.cons h0 (All.nil))))))))) (fun h5 => TrOk.ofStop))) (fun h2 => TrOk.ofStop)))

theorem ok70 : PureOk Go.Proofs.Try.prog 70 p70 := pureOk_of kf16_ok.base (T := fun (d : Tys.data as70) => t70 d.1) (by kernel_rfl) (fun (d : Tys.data as70) => ok70_t d.1)
def kf70 : Known := kf16.func 70 p70
theorem kf70_ok : KnownOk Go.Proofs.Try.prog kf70 := kf16_ok.func ok70

/-! ductility/ductilityref02.Copy -/

abbrev as18 : List Ty := [(.pair (.int .i64) (.pair (.slice (.int .i64)) .unit))]
abbrev rs18 : List Ty := [(.pair (.int .i64) (.pair (.slice (.int .i64)) .unit))]

def t18 (x0 : Int) (x0' : (List Int)) : Tr (Tys.data rs18) :=
  Tr.test (Option.isSome (f70 (x0', ())))
    (let r0 : List Int × PUnit := g70 (x0', ());
    Tr.fin (((x0, ((r0.fst : List Int), ())), ())))
    (Tr.stop)

def f18 (d : Tys.data as18) : Option (Tys.data rs18) := (t18 d.1.1 d.1.2.1).val
def g18 (d : Tys.data as18) : Tys.data rs18 := (f18 d).getD (Tys.dflt rs18)
def p18 : PureC := pcOf as18 rs18 f18 g18

theorem e18_0 (x0 : Int) (x0' : (List Int)) : runPure kf70.orc Go.Proofs.Try.prog 400 18 as18 rs18 ((x0, x0', ()), ()) [true] =
    (let r0 : List Int × PUnit := g70 (x0', ()); some (((x0, ((r0.fst : List Int), ())), ()), [(Option.isSome (f70 (x0', ())), true)])) := by kernel_rfl

theorem ok18_t (x0 : Int) (x0' : (List Int)) : TrOk (PureRuns Go.Proofs.Try.prog kf70.orc 18 as18 rs18 ((x0, x0', ()), ())) (t18 x0 x0') :=
  TrOk.ofTest (fun h0 => TrOk.ofFin (PureRuns.of (e18_0 x0 x0') (All.cons h0 (All.nil)))) (fun h0 => TrOk.ofStop)

theorem ok18 : PureOk Go.Proofs.Try.prog 18 p18 := pureOk_of kf70_ok.base (T := fun (d : Tys.data as18) => t18 d.1.1 d.1.2.1) (by kernel_rfl) (fun (d : Tys.data as18) => ok18_t d.1.1 d.1.2.1)
def kf18 : Known := kf70.func 18 p18
theorem kf18_ok : KnownOk Go.Proofs.Try.prog kf18 := kf70_ok.func ok18

/-! ductility/motion.when -/

abbrev as86 : List Ty := [.bool, (.int .i64)]
abbrev rs86 : List Ty := [(.int .i64)]

def t86 (x0 : Bool) (x1 : Int) : Tr (Tys.data rs86) :=
  Tr.test (x0)
    (Tr.fin ((x1, ())))
    (Tr.fin (((0 : Int), ())))

def f86 (d : Tys.data as86) : Option (Tys.data rs86) := (t86 d.1 d.2.1).val
def g86 (d : Tys.data as86) : Tys.data rs86 := (f86 d).getD (Tys.dflt rs86)
def p86 : PureC := pcOf as86 rs86 f86 g86

theorem e86_0 (x0 : Bool) (x1 : Int) : runPure kf18.orc Go.Proofs.Try.prog 400 86 as86 rs86 (x0, x1, ()) [true] =
    (some ((x1, ()), [(x0, true)])) := by kernel_rfl
theorem e86_1 (x0 : Bool) (x1 : Int) : runPure kf18.orc Go.Proofs.Try.prog 400 86 as86 rs86 (x0, x1, ()) [false] =
    (some (((0 : Int), ()), [(x0, false)])) := by kernel_rfl

theorem ok86_t (x0 : Bool) (x1 : Int) : TrOk (PureRuns Go.Proofs.Try.prog kf18.orc 86 as86 rs86 (x0, x1, ())) (t86 x0 x1) :=
  TrOk.ofTest (fun h0 => TrOk.ofFin (PureRuns.of (e86_0 x0 x1) (All.cons h0 (All.nil)))) (fun h0 => TrOk.ofFin (PureRuns.of (e86_1 x0 x1) (All.cons h0 (All.nil))))

theorem ok86 : PureOk Go.Proofs.Try.prog 86 p86 := pureOk_of kf18_ok.base (T := fun (d : Tys.data as86) => t86 d.1 d.2.1) (by kernel_rfl) (fun (d : Tys.data as86) => ok86_t d.1 d.2.1)
def kf86 : Known := kf18.func 86 p86
theorem kf86_ok : KnownOk Go.Proofs.Try.prog kf86 := kf18_ok.func ok86

/-! loop 0 of ductility/motion.firstOf -/

abbrev sh85_0 : Sh := { n := 15, slots := [5, 6, 7], pats := [.ty (.slice (.int .i64)), .ty (.int .i64), .ty (.int .i64)], boxes := [] }
abbrev shb85_0 : Sh := { n := 15, slots := [], pats := [], boxes := [] }
abbrev shr85_0 : Sh := { n := 15, slots := [2], pats := [.ty (.int .i64)], boxes := [] }

def t85_0 (x0 : (List Int)) (x1 : Int) (x2 : Int) : Tr (Out sh85_0.data shb85_0.data shr85_0.data) :=
  Tr.test ((!leF x1 x2 : Bool))
    (Tr.test ((decide ((0 : Int) ≤ x2) && decide (x2 < (↑(List.length x0) : Int)) : Bool))
      (Tr.test ((!eqF (List.getD x0 (Int.toNat x2) (0 : Int)) (0 : Int) : Bool))
        (Tr.fin (.ret (((List.getD x0 (Int.toNat x2) (0 : Int) : Int), ()), ())))
        (Tr.fin (.again ((x0, (x1, ((wrap64 (x2 + (1 : Int)) : Int), ()))), ()))))
      (Tr.stop /- none [op 0 of region 3 of F85] -/))
    (Tr.fin (.brk ((), ())))

def s85_0 (d : sh85_0.data) : Option (Out sh85_0.data shb85_0.data shr85_0.data) := (t85_0 d.1.1 d.1.2.1 d.1.2.2.1).val
def l85_0 (d : sh85_0.data) : Option (shb85_0.data ⊕ shr85_0.data) := itr s85_0 rounds d
def b85_0 (d : sh85_0.data) : shb85_0.data := outB shb85_0.dflt (l85_0 d)
def r85_0 (d : sh85_0.data) : shr85_0.data := outR shr85_0.dflt (l85_0 d)
def lc85_0 : LoopC := lcOf sh85_0 shb85_0 shr85_0 l85_0 b85_0 r85_0

theorem e85_0_0 (x0 : (List Int)) (x1 : Int) (x2 : Int) : runBody kf86.orc Go.Proofs.Try.prog 400 85 0 sh85_0 shb85_0 shr85_0 ((x0, x1, x2, ()), ()) [true, true, true] =
    (some (.ret (((List.getD x0 (Int.toNat x2) (0 : Int) : Int), ()), ()), [((!eqF (List.getD x0 (Int.toNat x2) (0 : Int)) (0 : Int) : Bool), true), ((decide ((0 : Int) ≤ x2) && decide (x2 < (↑(List.length x0) : Int)) : Bool), true), ((!leF x1 x2 : Bool), true)])) := by kernel_rfl
theorem e85_0_1 (x0 : (List Int)) (x1 : Int) (x2 : Int) : runBody kf86.orc Go.Proofs.Try.prog 400 85 0 sh85_0 shb85_0 shr85_0 ((x0, x1, x2, ()), ()) [true, true, false] =
    (some (.again ((x0, (x1, ((wrap64 (x2 + (1 : Int)) : Int), ()))), ()), [((!eqF (List.getD x0 (Int.toNat x2) (0 : Int)) (0 : Int) : Bool), false), ((decide ((0 : Int) ≤ x2) && decide (x2 < (↑(List.length x0) : Int)) : Bool), true), ((!leF x1 x2 : Bool), true)])) := by kernel_rfl
theorem e85_0_3 (x0 : (List Int)) (x1 : Int) (x2 : Int) : runBody kf86.orc Go.Proofs.Try.prog 400 85 0 sh85_0 shb85_0 shr85_0 ((x0, x1, x2, ()), ()) [false] =
    (some (.brk ((), ()), [((!leF x1 x2 : Bool), false)])) := by kernel_rfl

theorem ok85_0_t (x0 : (List Int)) (x1 : Int) (x2 : Int) : TrOk (BodyRuns Go.Proofs.Try.prog kf86.orc 85 0 sh85_0 shb85_0 shr85_0 ((x0, x1, x2, ()), ())) (t85_0 x0 x1 x2) :=
  TrOk.ofTest (fun h0 => TrOk.ofTest (fun h1 => TrOk.ofTest (fun h2 => TrOk.ofFin (BodyRuns.of (e85_0_0 x0 x1 x2) (All.cons h2 (All.cons h1 (All.cons h0 (All.nil)))))) (fun h2 => TrOk.ofFin (BodyRuns.of (e85_0_1 x0 x1 x2) (All.cons h2 (All.cons h1 (All.cons h0 (All.nil))))))) (fun h1 => TrOk.ofStop)) (fun h0 => TrOk.ofFin (BodyRuns.of (e85_0_3 x0 x1 x2) (All.cons h0 (All.nil))))

theorem ok85_0 : LoopOk Go.Proofs.Try.prog 85 0 lc85_0 := loopOk_of kf86_ok.base (T := fun (d : sh85_0.data) => t85_0 d.1.1 d.1.2.1 d.1.2.2.1) (by kernel_rfl) rfl (fun (d : sh85_0.data) => ok85_0_t d.1.1 d.1.2.1 d.1.2.2.1) (fun _ => rfl)
def kl85_0 : Known := kf86.loop 85 0 lc85_0
theorem kl85_0_ok : KnownOk Go.Proofs.Try.prog kl85_0 := kf86_ok.loop ok85_0

/-! ductility/motion.firstOf -/

abbrev as85 : List Ty := [(.slice (.int .i64))]
abbrev rs85 : List Ty := [(.int .i64)]

def t85 (x0 : (List Int)) : Tr (Tys.data rs85) :=
  Tr.test (Option.isSome (l85_0 ((x0, ((↑(List.length x0) : Int), ((0 : Int), ()))), ())))
    (Tr.test (isRet (l85_0 ((x0, ((↑(List.length x0) : Int), ((0 : Int), ()))), ())))
      (let r0 : (Int × PUnit) × PUnit := r85_0 ((x0, ((↑(List.length x0) : Int), ((0 : Int), ()))), ());
      Tr.fin (((r0.fst.fst : Int), ())))
      (Tr.fin (((0 : Int), ()))))
    (Tr.stop)

def f85 (d : Tys.data as85) : Option (Tys.data rs85) := (t85 d.1).val
def g85 (d : Tys.data as85) : Tys.data rs85 := (f85 d).getD (Tys.dflt rs85)
def p85 : PureC := pcOf as85 rs85 f85 g85

theorem e85_0 (x0 : (List Int)) : runPure kl85_0.orc Go.Proofs.Try.prog 400 85 as85 rs85 (x0, ()) [true, true] =
    (let r0 : (Int × PUnit) × PUnit := r85_0 ((x0, ((↑(List.length x0) : Int), ((0 : Int), ()))), ()); some (((r0.fst.fst : Int), ()), [(isRet (l85_0 ((x0, ((↑(List.length x0) : Int), ((0 : Int), ()))), ())), true), (Option.isSome (l85_0 ((x0, ((↑(List.length x0) : Int), ((0 : Int), ()))), ())), true)])) := by kernel_rfl
theorem e85_1 (x0 : (List Int)) : runPure kl85_0.orc Go.Proofs.Try.prog 400 85 as85 rs85 (x0, ()) [true, false] =
    (some (((0 : Int), ()), [(isRet (l85_0 ((x0, ((↑(List.length x0) : Int), ((0 : Int), ()))), ())), false), (Option.isSome (l85_0 ((x0, ((↑(List.length x0) : Int), ((0 : Int), ()))), ())), true)])) := by kernel_rfl

theorem ok85_t (x0 : (List Int)) : TrOk (PureRuns Go.Proofs.Try.prog kl85_0.orc 85 as85 rs85 (x0, ())) (t85 x0) :=
  TrOk.ofTest (fun h0 => TrOk.ofTest (fun h1 => TrOk.ofFin (PureRuns.of (e85_0 x0) (All.cons h1 (All.cons h0 (All.nil))))) (fun h1 => TrOk.ofFin (PureRuns.of (e85_1 x0) (All.cons h1 (All.cons h0 (All.nil)))))) (fun h0 => TrOk.ofStop)

theorem ok85 : PureOk Go.Proofs.Try.prog 85 p85 := pureOk_of kl85_0_ok.base (T := fun (d : Tys.data as85) => t85 d.1) (by kernel_rfl) (fun (d : Tys.data as85) => ok85_t d.1)
def kf85 : Known := kl85_0.func 85 p85
theorem kf85_ok : KnownOk Go.Proofs.Try.prog kf85 := kl85_0_ok.func ok85

/-! loop 0 of ductility/motion.areWithin -/

abbrev sh94_0 : Sh := { n := 24, slots := [0, 1, 9, 10, 11], pats := [.ty (.int .i64), .ty (.int .i64), .ty (.slice (.int .i64)), .ty (.int .i64), .ty (.int .i64)], boxes := [] }
abbrev shb94_0 : Sh := { n := 24, slots := [], pats := [], boxes := [] }
abbrev shr94_0 : Sh := { n := 24, slots := [6], pats := [.ty .bool], boxes := [] }

def t94_0 (x0 : Int) (x1 : Int) (x2 : (List Int)) (x3 : Int) (x4 : Int) : Tr (Out sh94_0.data shb94_0.data shr94_0.data) :=
  Tr.test ((!leF x3 x4 : Bool))
    (Tr.test ((decide ((0 : Int) ≤ x4) && decide (x4 < (↑(List.length x2) : Int)) : Bool))
      (Tr.test ((!leF x0 (List.getD x2 (Int.toNat x4) (0 : Int)) : Bool))
        (Tr.fin (.ret (((false : Bool), ()), ())))
        (Tr.test ((!leF (List.getD x2 (Int.toNat x4) (0 : Int)) x1 : Bool))
          (Tr.fin (.ret (((false : Bool), ()), ())))
          (Tr.fin (.again ((x0, (x1, (x2, (x3, ((wrap64 (x4 + (1 : Int)) : Int), ()))))), ())))))
      (Tr.stop /- none [op 0 of region 3 of F94] -/))
    (Tr.fin (.brk ((), ())))

def s94_0 (d : sh94_0.data) : Option (Out sh94_0.data shb94_0.data shr94_0.data) := (t94_0 d.1.1 d.1.2.1 d.1.2.2.1 d.1.2.2.2.1 d.1.2.2.2.2.1).val
def l94_0 (d : sh94_0.data) : Option (shb94_0.data ⊕ shr94_0.data) := itr s94_0 rounds d
def b94_0 (d : sh94_0.data) : shb94_0.data := outB shb94_0.dflt (l94_0 d)
def r94_0 (d : sh94_0.data) : shr94_0.data := outR shr94_0.dflt (l94_0 d)
def lc94_0 : LoopC := lcOf sh94_0 shb94_0 shr94_0 l94_0 b94_0 r94_0

theorem e94_0_0 (x0 : Int) (x1 : Int) (x2 : (List Int)) (x3 : Int) (x4 : Int) : runBody kf85.orc Go.Proofs.Try.prog 400 94 0 sh94_0 shb94_0 shr94_0 ((x0, x1, x2, x3, x4, ()), ()) [true, true, true, true, true, true, true] =
    (some (.ret (((false : Bool), ()), ()), [((true : Bool), true), ((!leF x0 (List.getD x2 (Int.toNat x4) (0 : Int)) : Bool), true), ((!leF x0 (List.getD x2 (Int.toNat x4) (0 : Int)) : Bool), true), ((!leF x0 (List.getD x2 (Int.toNat x4) (0 : Int)) : Bool), true), ((!leF x0 (List.getD x2 (Int.toNat x4) (0 : Int)) : Bool), true), ((decide ((0 : Int) ≤ x4) && decide (x4 < (↑(List.length x2) : Int)) : Bool), true), ((!leF x3 x4 : Bool), true)])) := by kernel_rfl
theorem e94_0_1 (x0 : Int) (x1 : Int) (x2 : (List Int)) (x3 : Int) (x4 : Int) : runBody kf85.orc Go.Proofs.Try.prog 400 94 0 sh94_0 shb94_0 shr94_0 ((x0, x1, x2, x3, x4, ()), ()) [true, true, false, false, false, false, true] =
    (some (.ret (((false : Bool), ()), ()), [((!leF (List.getD x2 (Int.toNat x4) (0 : Int)) x1 : Bool), true), ((!leF x0 (List.getD x2 (Int.toNat x4) (0 : Int)) : Bool), false), ((!leF x0 (List.getD x2 (Int.toNat x4) (0 : Int)) : Bool), false), ((!leF x0 (List.getD x2 (Int.toNat x4) (0 : Int)) : Bool), false), ((!leF x0 (List.getD x2 (Int.toNat x4) (0 : Int)) : Bool), false), ((decide ((0 : Int) ≤ x4) && decide (x4 < (↑(List.length x2) : Int)) : Bool), true), ((!leF x3 x4 : Bool), true)])) := by kernel_rfl
theorem e94_0_2 (x0 : Int) (x1 : Int) (x2 : (List Int)) (x3 : Int) (x4 : Int) : runBody kf85.orc Go.Proofs.Try.prog 400 94 0 sh94_0 shb94_0 shr94_0 ((x0, x1, x2, x3, x4, ()), ()) [true, true, false, false, false, false, false] =
    (some (.again ((x0, (x1, (x2, (x3, ((wrap64 (x4 + (1 : Int)) : Int), ()))))), ()), [((!leF (List.getD x2 (Int.toNat x4) (0 : Int)) x1 : Bool), false), ((!leF x0 (List.getD x2 (Int.toNat x4) (0 : Int)) : Bool), false), ((!leF x0 (List.getD x2 (Int.toNat x4) (0 : Int)) : Bool), false), ((!leF x0 (List.getD x2 (Int.toNat x4) (0 : Int)) : Bool), false), ((!leF x0 (List.getD x2 (Int.toNat x4) (0 : Int)) : Bool), false), ((decide ((0 : Int) ≤ x4) && decide (x4 < (↑(List.length x2) : Int)) : Bool), true), ((!leF x3 x4 : Bool), true)])) := by kernel_rfl
theorem e94_0_4 (x0 : Int) (x1 : Int) (x2 : (List Int)) (x3 : Int) (x4 : Int) : runBody kf85.orc Go.Proofs.Try.prog 400 94 0 sh94_0 shb94_0 shr94_0 ((x0, x1, x2, x3, x4, ()), ()) [false] =
    (some (.brk ((), ()), [((!leF x3 x4 : Bool), false)])) := by kernel_rfl

theorem ok94_0_t (x0 : Int) (x1 : Int) (x2 : (List Int)) (x3 : Int) (x4 : Int) : TrOk (BodyRuns Go.Proofs.Try.prog kf85.orc 94 0 sh94_0 shb94_0 shr94_0 ((x0, x1, x2, x3, x4, ()), ())) (t94_0 x0 x1 x2 x3 x4) :=
  TrOk.ofTest (fun h0 => TrOk.ofTest (fun h1 => TrOk.ofTest (fun h2 => TrOk.ofFin (BodyRuns.of (e94_0_0 x0 x1 x2 x3 x4) (All.cons rfl (All.cons h2 (All.cons h2 (All.cons h2 (All.cons h2 (All.cons h1 (All.cons h0 (All.nil)))))))))) (fun h2 => TrOk.ofTest (fun h6 => TrOk.ofFin (BodyRuns.of (e94_0_1 x0 x1 x2 x3 x4) (All.cons h6 (All.cons h2 (All.cons h2 (All.cons h2 (All.cons h2 (All.cons h1 (All.cons h0 (All.nil)))))))))) (fun h6 => TrOk.ofFin (BodyRuns.of (e94_0_2 x0 x1 x2 x3 x4) (All.cons h6 (All.cons h2 (All.cons h2 (All.cons h2 (All.cons h2 (All.cons h1 (All.cons h0 (All.nil)))))))))))) (fun h1 => TrOk.ofStop)) (fun h0 => TrOk.ofFin (BodyRuns.of (e94_0_4 x0 x1 x2 x3 x4) (All.cons h0 (All.nil))))

theorem ok94_0 : LoopOk Go.Proofs.Try.prog 94 0 lc94_0 := loopOk_of kf85_ok.base (T := fun (d : sh94_0.data) => t94_0 d.1.1 d.1.2.1 d.1.2.2.1 d.1.2.2.2.1 d.1.2.2.2.2.1) (by kernel_rfl) rfl (fun (d : sh94_0.data) => ok94_0_t d.1.1 d.1.2.1 d.1.2.2.1 d.1.2.2.2.1 d.1.2.2.2.2.1) (fun _ => rfl)
def kl94_0 : Known := kf85.loop 94 0 lc94_0
theorem kl94_0_ok : KnownOk Go.Proofs.Try.prog kl94_0 := kf85_ok.loop ok94_0

/-! ductility/motion.areWithin -/

abbrev as94 : List Ty := [(.int .i64), (.int .i64), (.slice (.int .i64))]
abbrev rs94 : List Ty := [.bool]

def t94 (x0 : Int) (x1 : Int) (x2 : (List Int)) : Tr (Tys.data rs94) :=
  Tr.test (Option.isSome (l94_0 ((x0, (x1, (x2, ((↑(List.length x2) : Int), ((0 : Int), ()))))), ())))
    (Tr.test (isRet (l94_0 ((x0, (x1, (x2, ((↑(List.length x2) : Int), ((0 : Int), ()))))), ())))
      (let r0 : (Bool × PUnit) × PUnit := r94_0 ((x0, (x1, (x2, ((↑(List.length x2) : Int), ((0 : Int), ()))))), ());
      Tr.fin (((r0.fst.fst : Bool), ())))
      (Tr.fin (((true : Bool), ()))))
    (Tr.stop)

def f94 (d : Tys.data as94) : Option (Tys.data rs94) := (t94 d.1 d.2.1 d.2.2.1).val
def g94 (d : Tys.data as94) : Tys.data rs94 := (f94 d).getD (Tys.dflt rs94)
def p94 : PureC := pcOf as94 rs94 f94 g94

theorem e94_0 (x0 : Int) (x1 : Int) (x2 : (List Int)) : runPure kl94_0.orc Go.Proofs.Try.prog 400 94 as94 rs94 (x0, x1, x2, ()) [true, true] =
    (let r0 : (Bool × PUnit) × PUnit := r94_0 ((x0, (x1, (x2, ((↑(List.length x2) : Int), ((0 : Int), ()))))), ()); some (((r0.fst.fst : Bool), ()), [(isRet (l94_0 ((x0, (x1, (x2, ((↑(List.length x2) : Int), ((0 : Int), ()))))), ())), true), (Option.isSome (l94_0 ((x0, (x1, (x2, ((↑(List.length x2) : Int), ((0 : Int), ()))))), ())), true)])) := by kernel_rfl
theorem e94_1 (x0 : Int) (x1 : Int) (x2 : (List Int)) : runPure kl94_0.orc Go.Proofs.Try.prog 400 94 as94 rs94 (x0, x1, x2, ()) [true, false] =
    (some (((true : Bool), ()), [(isRet (l94_0 ((x0, (x1, (x2, ((↑(List.length x2) : Int), ((0 : Int), ()))))), ())), false), (Option.isSome (l94_0 ((x0, (x1, (x2, ((↑(List.length x2) : Int), ((0 : Int), ()))))), ())), true)])) := by kernel_rfl

theorem ok94_t (x0 : Int) (x1 : Int) (x2 : (List Int)) : TrOk (PureRuns Go.Proofs.Try.prog kl94_0.orc 94 as94 rs94 (x0, x1, x2, ())) (t94 x0 x1 x2) :=
  TrOk.ofTest (fun h0 => TrOk.ofTest (fun h1 => TrOk.ofFin (PureRuns.of (e94_0 x0 x1 x2) (All.cons h1 (All.cons h0 (All.nil))))) (fun h1 => TrOk.ofFin (PureRuns.of (e94_1 x0 x1 x2) (All.cons h1 (All.cons h0 (All.nil)))))) (fun h0 => TrOk.ofStop)

theorem ok94 : PureOk Go.Proofs.Try.prog 94 p94 := pureOk_of kl94_0_ok.base (T := fun (d : Tys.data as94) => t94 d.1 d.2.1 d.2.2.1) (by kernel_rfl) (fun (d : Tys.data as94) => ok94_t d.1 d.2.1 d.2.2.1)
def kf94 : Known := kl94_0.func 94 p94
theorem kf94_ok : KnownOk Go.Proofs.Try.prog kf94 := kl94_0_ok.func ok94

/-! ductility/motion.isBeyond -/

abbrev as141 : List Ty := [(.int .i64), (.slice (.int .i64))]
abbrev rs141 : List Ty := [.bool]

def t141 (x0 : Int) (x1 : (List Int)) : Tr (Tys.data rs141) :=
  Tr.test (Option.isSome (f94 ((Go.IntKind.wrap Go.IntKind.i64 ((0 : Int) - x0) : Int), (x0, (x1, ())))))
    (let r0 : Bool × PUnit := g94 ((Go.IntKind.wrap Go.IntKind.i64 ((0 : Int) - x0) : Int), (x0, (x1, ())));
    Tr.fin (((!r0.fst : Bool), ())))
    (Tr.stop)

def f141 (d : Tys.data as141) : Option (Tys.data rs141) := (t141 d.1 d.2.1).val
def g141 (d : Tys.data as141) : Tys.data rs141 := (f141 d).getD (Tys.dflt rs141)
def p141 : PureC := pcOf as141 rs141 f141 g141

theorem e141_0 (x0 : Int) (x1 : (List Int)) : runPure kf94.orc Go.Proofs.Try.prog 400 141 as141 rs141 (x0, x1, ()) [true] =
    (let r0 : Bool × PUnit := g94 ((Go.IntKind.wrap Go.IntKind.i64 ((0 : Int) - x0) : Int), (x0, (x1, ()))); some (((!r0.fst : Bool), ()), [(Option.isSome (f94 ((Go.IntKind.wrap Go.IntKind.i64 ((0 : Int) - x0) : Int), (x0, (x1, ())))), true)])) := by kernel_rfl

theorem ok141_t (x0 : Int) (x1 : (List Int)) : TrOk (PureRuns Go.Proofs.Try.prog kf94.orc 141 as141 rs141 (x0, x1, ())) (t141 x0 x1) :=
  TrOk.ofTest (fun h0 => TrOk.ofFin (PureRuns.of (e141_0 x0 x1) (All.cons h0 (All.nil)))) (fun h0 => TrOk.ofStop)

theorem ok141 : PureOk Go.Proofs.Try.prog 141 p141 := pureOk_of kf94_ok.base (T := fun (d : Tys.data as141) => t141 d.1 d.2.1) (by kernel_rfl) (fun (d : Tys.data as141) => ok141_t d.1 d.2.1)
def kf141 : Known := kf94.func 141 p141
theorem kf141_ok : KnownOk Go.Proofs.Try.prog kf141 := kf94_ok.func ok141

/-! ductility/motion.checkSamples$1 -/

abbrev as140 : List Ty := [(.int .i64), (.int .i64)]
abbrev rs140 : List Ty := [(.int .i64)]

def t140 (x0 : Int) (x1 : Int) : Tr (Tys.data rs140) :=
  Tr.test (Option.isSome (f141 ((1000 : Int), (([x1] : List Int), ()))))
    (let r0 : Bool × PUnit := g141 ((1000 : Int), (([x1] : List Int), ()));
    Tr.test (Option.isSome (f86 ((r0.fst : Bool), ((2 : Int), ()))))
      (let r1 : Int × PUnit := g86 ((r0.fst : Bool), ((2 : Int), ()));
      Tr.fin (((r1.fst : Int), ())))
      (Tr.stop))
    (Tr.stop)

def f140 (d : Tys.data as140) : Option (Tys.data rs140) := (t140 d.1 d.2.1).val
def g140 (d : Tys.data as140) : Tys.data rs140 := (f140 d).getD (Tys.dflt rs140)
def p140 : PureC := pcOf as140 rs140 f140 g140

theorem e140_0 (x0 : Int) (x1 : Int) : runPure kf141.orc Go.Proofs.Try.prog 400 140 as140 rs140 (x0, x1, ()) [true, true, true] =
    (let r0 : Bool × PUnit := g141 ((1000 : Int), (([x1] : List Int), ())); let r1 : Int × PUnit := g86 ((r0.fst : Bool), ((2 : Int), ())); some (((r1.fst : Int), ()), [(Option.isSome (f86 ((r0.fst : Bool), ((2 : Int), ()))), true), (Option.isSome (f141 ((1000 : Int), (([x1] : List Int), ()))), true), ((true : Bool), true)])) := by kernel_rfl

theorem ok140_t (x0 : Int) (x1 : Int) : TrOk (PureRuns Go.Proofs.Try.prog kf141.orc 140 as140 rs140 (x0, x1, ())) (t140 x0 x1) :=
  TrOk.ofTest (fun h1 => TrOk.ofTest (fun h2 => TrOk.ofFin (PureRuns.of (e140_0 x0 x1) (All.cons h2 (All.cons h1 (All.cons rfl (All.nil)))))) (fun h2 => TrOk.ofStop)) (fun h1 => TrOk.ofStop)

theorem ok140 : PureOk Go.Proofs.Try.prog 140 p140 := pureOk_of kf141_ok.base (T := fun (d : Tys.data as140) => t140 d.1 d.2.1) (by kernel_rfl) (fun (d : Tys.data as140) => ok140_t d.1 d.2.1)
def kf140 : Known := kf141.func 140 p140
theorem kf140_ok : KnownOk Go.Proofs.Try.prog kf140 := kf141_ok.func ok140

/-! loop 0 of ductility/motion.checkItems[int] -/

abbrev sh106_0 : Sh := { n := 25, slots := [1, 9, 10, 11], pats := [.fn 140 [], .ty (.slice (.int .i64)), .ty (.int .i64), .ty (.int .i64)], boxes := [] }
abbrev shb106_0 : Sh := { n := 25, slots := [], pats := [], boxes := [] }
abbrev shr106_0 : Sh := { n := 25, slots := [4, 5], pats := [.ty (.int .i64), .ty (.int .i64)], boxes := [] }

def t106_0 (x1 : (List Int)) (x2 : Int) (x3 : Int) : Tr (Out sh106_0.data shb106_0.data shr106_0.data) :=
  Tr.test ((!leF x2 x3 : Bool))
    (Tr.test ((decide ((0 : Int) ≤ x3) && decide (x3 < (↑(List.length x1) : Int)) : Bool))
      (Tr.test (Option.isSome (f140 (x3, ((List.getD x1 (Int.toNat x3) (0 : Int) : Int), ()))))
        (let r0 : Int × PUnit := g140 (x3, ((List.getD x1 (Int.toNat x3) (0 : Int) : Int), ()));
        Tr.test ((!eqF r0.fst (0 : Int) : Bool))
          (Tr.fin (.ret ((x3, ((r0.fst : Int), ())), ())))
          (Tr.fin (.again ((x1, (x2, ((wrap64 (x3 + (1 : Int)) : Int), ()))), ()))))
        (Tr.stop))
      (Tr.stop /- none [op 1 of region 3 of F106] -/))
    (Tr.fin (.brk ((), ())))

def s106_0 (d : sh106_0.data) : Option (Out sh106_0.data shb106_0.data shr106_0.data) := (t106_0 d.1.1 d.1.2.1 d.1.2.2.1).val
def l106_0 (d : sh106_0.data) : Option (shb106_0.data ⊕ shr106_0.data) := itr s106_0 rounds d
def b106_0 (d : sh106_0.data) : shb106_0.data := outB shb106_0.dflt (l106_0 d)
def r106_0 (d : sh106_0.data) : shr106_0.data := outR shr106_0.dflt (l106_0 d)
def lc106_0 : LoopC := lcOf sh106_0 shb106_0 shr106_0 l106_0 b106_0 r106_0

theorem e106_0_0 (x1 : (List Int)) (x2 : Int) (x3 : Int) : runBody kf140.orc Go.Proofs.Try.prog 400 106 0 sh106_0 shb106_0 shr106_0 ((x1, x2, x3, ()), ()) [true, true, true, true] =
    (let r0 : Int × PUnit := g140 (x3, ((List.getD x1 (Int.toNat x3) (0 : Int) : Int), ())); some (.ret ((x3, ((r0.fst : Int), ())), ()), [((!eqF r0.fst (0 : Int) : Bool), true), (Option.isSome (f140 (x3, ((List.getD x1 (Int.toNat x3) (0 : Int) : Int), ()))), true), ((decide ((0 : Int) ≤ x3) && decide (x3 < (↑(List.length x1) : Int)) : Bool), true), ((!leF x2 x3 : Bool), true)])) := by kernel_rfl
theorem e106_0_1 (x1 : (List Int)) (x2 : Int) (x3 : Int) : runBody kf140.orc Go.Proofs.Try.prog 400 106 0 sh106_0 shb106_0 shr106_0 ((x1, x2, x3, ()), ()) [true, true, true, false] =
    (let r0 : Int × PUnit := g140 (x3, ((List.getD x1 (Int.toNat x3) (0 : Int) : Int), ())); some (.again ((x1, (x2, ((wrap64 (x3 + (1 : Int)) : Int), ()))), ()), [((!eqF r0.fst (0 : Int) : Bool), false), (Option.isSome (f140 (x3, ((List.getD x1 (Int.toNat x3) (0 : Int) : Int), ()))), true), ((decide ((0 : Int) ≤ x3) && decide (x3 < (↑(List.length x1) : Int)) : Bool), true), ((!leF x2 x3 : Bool), true)])) := by kernel_rfl
theorem e106_0_3 (x1 : (List Int)) (x2 : Int) (x3 : Int) : runBody kf140.orc Go.Proofs.Try.prog 400 106 0 sh106_0 shb106_0 shr106_0 ((x1, x2, x3, ()), ()) [false] =
    (some (.brk ((), ()), [((!leF x2 x3 : Bool), false)])) := by kernel_rfl

theorem ok106_0_t (x1 : (List Int)) (x2 : Int) (x3 : Int) : TrOk (BodyRuns Go.Proofs.Try.prog kf140.orc 106 0 sh106_0 shb106_0 shr106_0 ((x1, x2, x3, ()), ())) (t106_0 x1 x2 x3) :=
  TrOk.ofTest (fun h0 => TrOk.ofTest (fun h1 => TrOk.ofTest (fun h2 => TrOk.ofTest (fun h3 => TrOk.ofFin (BodyRuns.of (e106_0_0 x1 x2 x3) (All.cons h3 (All.cons h2 (All.cons h1 (All.cons h0 (All.nil))))))) (fun h3 => TrOk.ofFin (BodyRuns.of (e106_0_1 x1 x2 x3) (All.cons h3 (All.cons h2 (All.cons h1 (All.cons h0 (All.nil)))))))) (fun h2 => TrOk.ofStop)) (fun h1 => TrOk.ofStop)) (fun h0 => TrOk.ofFin (BodyRuns.of (e106_0_3 x1 x2 x3) (All.cons h0 (All.nil))))

theorem ok106_0 : LoopOk Go.Proofs.Try.prog 106 0 lc106_0 := loopOk_of kf140_ok.base (T := fun (d : sh106_0.data) => t106_0 d.1.1 d.1.2.1 d.1.2.2.1) (by kernel_rfl) rfl (fun (d : sh106_0.data) => ok106_0_t d.1.1 d.1.2.1 d.1.2.2.1) (fun _ => rfl)
def kl106_0 : Known := kf140.loop 106 0 lc106_0
theorem kl106_0_ok : KnownOk Go.Proofs.Try.prog kl106_0 := kf140_ok.loop ok106_0

/-! ductility/motion.checkSamples -/

abbrev as87 : List Ty := [(.slice (.int .i64))]
abbrev rs87 : List Ty := [(.int .i64), (.int .i64)]

def t87 (x0 : (List Int)) : Tr (Tys.data rs87) :=
  Tr.test (Option.isSome (l106_0 ((x0, ((↑(List.length x0) : Int), ((0 : Int), ()))), ())))
    (Tr.test (isRet (l106_0 ((x0, ((↑(List.length x0) : Int), ((0 : Int), ()))), ())))
      (let r0 : (Int × Int × PUnit) × PUnit := r106_0 ((x0, ((↑(List.length x0) : Int), ((0 : Int), ()))), ());
      Tr.fin (((r0.fst.fst : Int), ((r0.fst.snd.fst : Int), ()))))
      (Tr.fin (((0 : Int), ((0 : Int), ())))))
    (Tr.stop)

def f87 (d : Tys.data as87) : Option (Tys.data rs87) := (t87 d.1).val
def g87 (d : Tys.data as87) : Tys.data rs87 := (f87 d).getD (Tys.dflt rs87)
def p87 : PureC := pcOf as87 rs87 f87 g87

theorem e87_0 (x0 : (List Int)) : runPure kl106_0.orc Go.Proofs.Try.prog 400 87 as87 rs87 (x0, ()) [true, true] =
    (let r0 : (Int × Int × PUnit) × PUnit := r106_0 ((x0, ((↑(List.length x0) : Int), ((0 : Int), ()))), ()); some (((r0.fst.fst : Int), ((r0.fst.snd.fst : Int), ())), [(isRet (l106_0 ((x0, ((↑(List.length x0) : Int), ((0 : Int), ()))), ())), true), (Option.isSome (l106_0 ((x0, ((↑(List.length x0) : Int), ((0 : Int), ()))), ())), true)])) := by kernel_rfl
theorem e87_1 (x0 : (List Int)) : runPure kl106_0.orc Go.Proofs.Try.prog 400 87 as87 rs87 (x0, ()) [true, false] =
    (some (((0 : Int), ((0 : Int), ())), [(isRet (l106_0 ((x0, ((↑(List.length x0) : Int), ((0 : Int), ()))), ())), false), (Option.isSome (l106_0 ((x0, ((↑(List.length x0) : Int), ((0 : Int), ()))), ())), true)])) := by kernel_rfl

theorem ok87_t (x0 : (List Int)) : TrOk (PureRuns Go.Proofs.Try.prog kl106_0.orc 87 as87 rs87 (x0, ())) (t87 x0) :=
  TrOk.ofTest (fun h0 => TrOk.ofTest (fun h1 => TrOk.ofFin (PureRuns.of (e87_0 x0) (All.cons h1 (All.cons h0 (All.nil))))) (fun h1 => TrOk.ofFin (PureRuns.of (e87_1 x0) (All.cons h1 (All.cons h0 (All.nil)))))) (fun h0 => TrOk.ofStop)

theorem ok87 : PureOk Go.Proofs.Try.prog 87 p87 := pureOk_of kl106_0_ok.base (T := fun (d : Tys.data as87) => t87 d.1) (by kernel_rfl) (fun (d : Tys.data as87) => ok87_t d.1)
def kf87 : Known := kl106_0.func 87 p87
theorem kf87_ok : KnownOk Go.Proofs.Try.prog kf87 := kl106_0_ok.func ok87

/-! ductility/motion.CheckRecord -/

abbrev as17 : List Ty := [(.pair (.int .i64) (.pair (.slice (.int .i64)) .unit))]
abbrev rs17 : List Ty := [(.int .i64), (.int .i64)]

def t17 (x0 : Int) (x0' : (List Int)) : Tr (Tys.data rs17) :=
  Tr.test ((!leF (1 : Int) x0 : Bool))
    (Tr.test (Option.isSome (f86 ((true : Bool), ((2 : Int), ()))))
      (Tr.test (Option.isSome (f86 ((!leF (2 : Int) (↑(List.length x0') : Int) : Bool), ((10 : Int), ()))))
        (Tr.test (Option.isSome (f86 ((!leF (↑(List.length x0') : Int) (24 : Int) : Bool), ((8 : Int), ()))))
          (let r0 : Int × PUnit := g86 ((true : Bool), ((2 : Int), ()));
          let r2 : Int × PUnit := g86 ((!leF (2 : Int) (↑(List.length x0') : Int) : Bool), ((10 : Int), ()));
          let r3 : Int × PUnit := g86 ((!leF (↑(List.length x0') : Int) (24 : Int) : Bool), ((8 : Int), ()));
          Tr.test (Option.isSome (f85 (([r0.fst, r2.fst, r3.fst] : List Int), ())))
            (let r4 : Int × PUnit := g85 (([r0.fst, r2.fst, r3.fst] : List Int), ());
            Tr.test ((!eqF r4.fst (0 : Int) : Bool))
              (Tr.fin (((0 : Int), ((r4.fst : Int), ()))))
              (Tr.test (Option.isSome (f87 (x0', ())))
                (let r6 : Int × Int × PUnit := g87 (x0', ());
                Tr.fin (((r6.fst : Int), ((r6.snd.fst : Int), ()))))
                (Tr.stop)))
            (Tr.stop))
          (Tr.stop))
        (Tr.stop))
      (Tr.stop))
    (Tr.test (Option.isSome (f86 ((!leF x0 (1000000 : Int) : Bool), ((2 : Int), ()))))
      (Tr.test (Option.isSome (f86 ((!leF (2 : Int) (↑(List.length x0') : Int) : Bool), ((10 : Int), ()))))
        (Tr.test (Option.isSome (f86 ((!leF (↑(List.length x0') : Int) (24 : Int) : Bool), ((8 : Int), ()))))
          (let r1 : Int × PUnit := g86 ((!leF x0 (1000000 : Int) : Bool), ((2 : Int), ()));
          let r2 : Int × PUnit := g86 ((!leF (2 : Int) (↑(List.length x0') : Int) : Bool), ((10 : Int), ()));
          let r3 : Int × PUnit := g86 ((!leF (↑(List.length x0') : Int) (24 : Int) : Bool), ((8 : Int), ()));
          Tr.test (Option.isSome (f85 (([r1.fst, r2.fst, r3.fst] : List Int), ())))
            (let r5 : Int × PUnit := g85 (([r1.fst, r2.fst, r3.fst] : List Int), ());
            Tr.test ((!eqF r5.fst (0 : Int) : Bool))
              (Tr.fin (((0 : Int), ((r5.fst : Int), ()))))
              (Tr.test (Option.isSome (f87 (x0', ())))
                (let r6 : Int × Int × PUnit := g87 (x0', ());
                Tr.fin (((r6.fst : Int), ((r6.snd.fst : Int), ()))))
                (Tr.stop)))
            (Tr.stop))
          (Tr.stop))
        (Tr.stop))
      (Tr.stop))

def f17 (d : Tys.data as17) : Option (Tys.data rs17) := (t17 d.1.1 d.1.2.1).val
def g17 (d : Tys.data as17) : Tys.data rs17 := (f17 d).getD (Tys.dflt rs17)
def p17 : PureC := pcOf as17 rs17 f17 g17

theorem e17_0 (x0 : Int) (x0' : (List Int)) : runPure kf87.orc Go.Proofs.Try.prog 400 17 as17 rs17 ((x0, x0', ()), ()) [true, true, true, true, true, true, true, true, true, true] =
    (let r0 : Int × PUnit := g86 ((true : Bool), ((2 : Int), ())); let r2 : Int × PUnit := g86 ((!leF (2 : Int) (↑(List.length x0') : Int) : Bool), ((10 : Int), ())); let r3 : Int × PUnit := g86 ((!leF (↑(List.length x0') : Int) (24 : Int) : Bool), ((8 : Int), ())); let r4 : Int × PUnit := g85 (([r0.fst, r2.fst, r3.fst] : List Int), ()); some (((0 : Int), ((r4.fst : Int), ())), [((!eqF r4.fst (0 : Int) : Bool), true), (Option.isSome (f85 (([r0.fst, r2.fst, r3.fst] : List Int), ())), true), ((true : Bool), true), (Option.isSome (f86 ((!leF (↑(List.length x0') : Int) (24 : Int) : Bool), ((8 : Int), ()))), true), (Option.isSome (f86 ((!leF (2 : Int) (↑(List.length x0') : Int) : Bool), ((10 : Int), ()))), true), (Option.isSome (f86 ((true : Bool), ((2 : Int), ()))), true), ((!leF (1 : Int) x0 : Bool), true), ((!leF (1 : Int) x0 : Bool), true), ((!leF (1 : Int) x0 : Bool), true), ((!leF (1 : Int) x0 : Bool), true)])) := by kernel_rfl
theorem e17_1 (x0 : Int) (x0' : (List Int)) : runPure kf87.orc Go.Proofs.Try.prog 400 17 as17 rs17 ((x0, x0', ()), ()) [true, true, true, true, true, true, true, true, true, false, true] =
    (let r0 : Int × PUnit := g86 ((true : Bool), ((2 : Int), ())); let r2 : Int × PUnit := g86 ((!leF (2 : Int) (↑(List.length x0') : Int) : Bool), ((10 : Int), ())); let r3 : Int × PUnit := g86 ((!leF (↑(List.length x0') : Int) (24 : Int) : Bool), ((8 : Int), ())); let r4 : Int × PUnit := g85 (([r0.fst, r2.fst, r3.fst] : List Int), ()); let r6 : Int × Int × PUnit := g87 (x0', ()); some (((r6.fst : Int), ((r6.snd.fst : Int), ())), [(Option.isSome (f87 (x0', ())), true), ((!eqF r4.fst (0 : Int) : Bool), false), (Option.isSome (f85 (([r0.fst, r2.fst, r3.fst] : List Int), ())), true), ((true : Bool), true), (Option.isSome (f86 ((!leF (↑(List.length x0') : Int) (24 : Int) : Bool), ((8 : Int), ()))), true), (Option.isSome (f86 ((!leF (2 : Int) (↑(List.length x0') : Int) : Bool), ((10 : Int), ()))), true), (Option.isSome (f86 ((true : Bool), ((2 : Int), ()))), true), ((!leF (1 : Int) x0 : Bool), true), ((!leF (1 : Int) x0 : Bool), true), ((!leF (1 : Int) x0 : Bool), true), ((!leF (1 : Int) x0 : Bool), true)])) := by kernel_rfl
theorem e17_2 (x0 : Int) (x0' : (List Int)) : runPure kf87.orc Go.Proofs.Try.prog 400 17 as17 rs17 ((x0, x0', ()), ()) [false, false, false, false, true, true, true, true, true, true] =
    (let r1 : Int × PUnit := g86 ((!leF x0 (1000000 : Int) : Bool), ((2 : Int), ())); let r2 : Int × PUnit := g86 ((!leF (2 : Int) (↑(List.length x0') : Int) : Bool), ((10 : Int), ())); let r3 : Int × PUnit := g86 ((!leF (↑(List.length x0') : Int) (24 : Int) : Bool), ((8 : Int), ())); let r5 : Int × PUnit := g85 (([r1.fst, r2.fst, r3.fst] : List Int), ()); some (((0 : Int), ((r5.fst : Int), ())), [((!eqF r5.fst (0 : Int) : Bool), true), (Option.isSome (f85 (([r1.fst, r2.fst, r3.fst] : List Int), ())), true), ((true : Bool), true), (Option.isSome (f86 ((!leF (↑(List.length x0') : Int) (24 : Int) : Bool), ((8 : Int), ()))), true), (Option.isSome (f86 ((!leF (2 : Int) (↑(List.length x0') : Int) : Bool), ((10 : Int), ()))), true), (Option.isSome (f86 ((!leF x0 (1000000 : Int) : Bool), ((2 : Int), ()))), true), ((!leF (1 : Int) x0 : Bool), false), ((!leF (1 : Int) x0 : Bool), false), ((!leF (1 : Int) x0 : Bool), false), ((!leF (1 : Int) x0 : Bool), false)])) := by kernel_rfl
theorem e17_3 (x0 : Int) (x0' : (List Int)) : runPure kf87.orc Go.Proofs.Try.prog 400 17 as17 rs17 ((x0, x0', ()), ()) [false, false, false, false, true, true, true, true, true, false, true] =
    (let r1 : Int × PUnit := g86 ((!leF x0 (1000000 : Int) : Bool), ((2 : Int), ())); let r2 : Int × PUnit := g86 ((!leF (2 : Int) (↑(List.length x0') : Int) : Bool), ((10 : Int), ())); let r3 : Int × PUnit := g86 ((!leF (↑(List.length x0') : Int) (24 : Int) : Bool), ((8 : Int), ())); let r5 : Int × PUnit := g85 (([r1.fst, r2.fst, r3.fst] : List Int), ()); let r6 : Int × Int × PUnit := g87 (x0', ()); some (((r6.fst : Int), ((r6.snd.fst : Int), ())), [(Option.isSome (f87 (x0', ())), true), ((!eqF r5.fst (0 : Int) : Bool), false), (Option.isSome (f85 (([r1.fst, r2.fst, r3.fst] : List Int), ())), true), ((true : Bool), true), (Option.isSome (f86 ((!leF (↑(List.length x0') : Int) (24 : Int) : Bool), ((8 : Int), ()))), true), (Option.isSome (f86 ((!leF (2 : Int) (↑(List.length x0') : Int) : Bool), ((10 : Int), ()))), true), (Option.isSome (f86 ((!leF x0 (1000000 : Int) : Bool), ((2 : Int), ()))), true), ((!leF (1 : Int) x0 : Bool), false), ((!leF (1 : Int) x0 : Bool), false), ((!leF (1 : Int) x0 : Bool), false), ((!leF (1 : Int) x0 : Bool), false)])) := by kernel_rfl

theorem ok17_t (x0 : Int) (x0' : (List Int)) : TrOk (PureRuns Go.Proofs.Try.prog kf87.orc 17 as17 rs17 ((x0, x0', ()), ())) (t17 x0 x0') :=
  TrOk.ofTest (fun h0 => TrOk.ofTest (fun h4 => TrOk.ofTest (fun h5 => TrOk.ofTest (fun h6 => TrOk.ofTest (fun h8 => TrOk.ofTest (fun h9 => TrOk.ofFin (PureRuns.of (e17_0 x0 x0') (All.cons h9 (All.cons h8 (All.cons rfl (All.cons h6 (All.cons h5 (All.cons h4 (All.cons h0 (All.cons h0 (All.cons h0 (All.cons h0 (All.nil))))))))))))) (fun h9 => TrOk.ofTest (fun h10 => TrOk.ofFin (PureRuns.of (e17_1 x0 x0') (All.cons h10 (All.cons h9 (All.cons h8 (All.cons rfl (All.cons h6 (All.cons h5 (All.cons h4 (All.cons h0 (All.cons h0 (All.cons h0 (All.cons h0 (All.nil)))))))))))))) (fun h10 => TrOk.ofStop))) (fun h8 => TrOk.ofStop)) (fun h6 => TrOk.ofStop)) (fun h5 => TrOk.ofStop)) (fun h4 => TrOk.ofStop)) (fun h0 => TrOk.ofTest (fun h4 => TrOk.ofTest (fun h5 => TrOk.ofTest (fun h6 => TrOk.ofTest (fun h8 => TrOk.ofTest (fun h9 => TrOk.ofFin (PureRuns.of (e17_2 x0 x0') (All.cons h9 (All.cons h8 (All.cons rfl (All.cons h6 (All.cons h5 (All.cons h4 (All.cons h0 (All.cons h0 (All.cons h0 (All.cons h0 (All.nil))))))))))))) (fun h9 => TrOk.ofTest (fun h10 => TrOk.ofFin (PureRuns.of (e17_3 x0 x0') (All.cons h10 (All.cons h9 (All.cons h8 (All.cons rfl (All.cons h6 (All.cons h5 (All.cons h4 (All.cons h0 (All.cons h0 (All.cons h0 (All.cons h0 (All.nil)))))))))))))) (fun h10 => TrOk.ofStop))) (fun h8 => TrOk.ofStop)) (fun h6 => TrOk.ofStop)) (fun h5 => TrOk.ofStop)) (fun h4 => TrOk.ofStop))

theorem ok17 : PureOk Go.Proofs.Try.prog 17 p17 := pureOk_of kf87_ok.base (T := fun (d : Tys.data as17) => t17 d.1.1 d.1.2.1) (by kernel_rfl) (fun (d : Tys.data as17) => ok17_t d.1.1 d.1.2.1)
def kf17 : Known := kf87.func 17 p17
theorem kf17_ok : KnownOk Go.Proofs.Try.prog kf17 := kf87_ok.func ok17

/-! ductility/motion.recordError -/

abbrev as88 : List Ty := [(.pair (.int .i64) (.pair (.slice (.int .i64)) .unit))]
abbrev rs88 : List Ty := [(.int .i64)]

def t88 (x0 : Int) (x0' : (List Int)) : Tr (Tys.data rs88) :=
  Tr.test (Option.isSome (f17 ((x0, (x0', ())), ())))
    (let r0 : Int × Int × PUnit := g17 ((x0, (x0', ())), ());
    Tr.fin (((r0.snd.fst : Int), ())))
    (Tr.stop)

def f88 (d : Tys.data as88) : Option (Tys.data rs88) := (t88 d.1.1 d.1.2.1).val
def g88 (d : Tys.data as88) : Tys.data rs88 := (f88 d).getD (Tys.dflt rs88)
def p88 : PureC := pcOf as88 rs88 f88 g88

theorem e88_0 (x0 : Int) (x0' : (List Int)) : runPure kf17.orc Go.Proofs.Try.prog 400 88 as88 rs88 ((x0, x0', ()), ()) [true] =
    (let r0 : Int × Int × PUnit := g17 ((x0, (x0', ())), ()); some (((r0.snd.fst : Int), ()), [(Option.isSome (f17 ((x0, (x0', ())), ())), true)])) := by kernel_rfl

theorem ok88_t (x0 : Int) (x0' : (List Int)) : TrOk (PureRuns Go.Proofs.Try.prog kf17.orc 88 as88 rs88 ((x0, x0', ()), ())) (t88 x0 x0') :=
  TrOk.ofTest (fun h0 => TrOk.ofFin (PureRuns.of (e88_0 x0 x0') (All.cons h0 (All.nil)))) (fun h0 => TrOk.ofStop)

theorem ok88 : PureOk Go.Proofs.Try.prog 88 p88 := pureOk_of kf17_ok.base (T := fun (d : Tys.data as88) => t88 d.1.1 d.1.2.1) (by kernel_rfl) (fun (d : Tys.data as88) => ok88_t d.1.1 d.1.2.1)
def kf88 : Known := kf17.func 88 p88
theorem kf88_ok : KnownOk Go.Proofs.Try.prog kf88 := kf17_ok.func ok88

/-! loop 0 of ductility/motion.sumsOf -/

abbrev sh89_0 : Sh := { n := 22, slots := [3, 4, 7, 8, 9], pats := [.acc (.int .i64), .ty (.int .i64), .ty (.slice (.int .i64)), .ty (.int .i64), .ty (.int .i64)], boxes := [] }
abbrev shb89_0 : Sh := { n := 22, slots := [3], pats := [.acc (.int .i64)], boxes := [] }
abbrev shr89_0 : Sh := { n := 22, slots := [], pats := [], boxes := [] }

def t89_0 (x0 : (List Int)) (x1 : Int) (x2 : (List Int)) (x3 : Int) (x4 : Int) : Tr (Out sh89_0.data shb89_0.data shr89_0.data) :=
  Tr.test ((!leF x3 x4 : Bool))
    (Tr.test ((decide ((0 : Int) ≤ x4) && decide (x4 < (↑(List.length x2) : Int)) : Bool))
      (Tr.test ((Nat.ble (((2 : Nat) * (List.length x0 + (1 : Nat)) + (192 : Nat)) * (8 : Nat)) (281474976710656 : Nat) && Nat.ble (List.length x0 + (1 : Nat)) (281474976710656 : Nat) : Bool))
        (Tr.fin (.again (((x0 ++ [wrap64 (x1 + List.getD x2 (Int.toNat x4) (0 : Int))] : List Int), ((wrap64 (x1 + List.getD x2 (Int.toNat x4) (0 : Int)) : Int), (x2, (x3, ((wrap64 (x4 + (1 : Int)) : Int), ()))))), ())))
        (Tr.stop /- none [op 3 of region 7 of F89] -/))
      (Tr.stop /- none [op 0 of region 5 of F89] -/))
    (Tr.fin (.brk ((x0, ()), ())))

def s89_0 (d : sh89_0.data) : Option (Out sh89_0.data shb89_0.data shr89_0.data) := (t89_0 d.1.1 d.1.2.1 d.1.2.2.1 d.1.2.2.2.1 d.1.2.2.2.2.1).val
def l89_0 (d : sh89_0.data) : Option (shb89_0.data ⊕ shr89_0.data) := itr s89_0 rounds d
def b89_0 (d : sh89_0.data) : shb89_0.data := outB shb89_0.dflt (l89_0 d)
def r89_0 (d : sh89_0.data) : shr89_0.data := outR shr89_0.dflt (l89_0 d)
def lc89_0 : LoopC := lcB sh89_0 shb89_0 shr89_0 l89_0 b89_0

theorem e89_0_0 (x0 : (List Int)) (x1 : Int) (x2 : (List Int)) (x3 : Int) (x4 : Int) : runBody kf88.orc Go.Proofs.Try.prog 400 89 0 sh89_0 shb89_0 shr89_0 ((x0, x1, x2, x3, x4, ()), ()) [true, true, false, true, true] =
    (some (.again (((x0 ++ [wrap64 (x1 + List.getD x2 (Int.toNat x4) (0 : Int))] : List Int), ((wrap64 (x1 + List.getD x2 (Int.toNat x4) (0 : Int)) : Int), (x2, (x3, ((wrap64 (x4 + (1 : Int)) : Int), ()))))), ()), [((true : Bool), true), ((Nat.ble (((2 : Nat) * (List.length x0 + (1 : Nat)) + (192 : Nat)) * (8 : Nat)) (281474976710656 : Nat) && Nat.ble (List.length x0 + (1 : Nat)) (281474976710656 : Nat) : Bool), true), ((false : Bool), false), ((decide ((0 : Int) ≤ x4) && decide (x4 < (↑(List.length x2) : Int)) : Bool), true), ((!leF x3 x4 : Bool), true)])) := by kernel_rfl
theorem e89_0_3 (x0 : (List Int)) (x1 : Int) (x2 : (List Int)) (x3 : Int) (x4 : Int) : runBody kf88.orc Go.Proofs.Try.prog 400 89 0 sh89_0 shb89_0 shr89_0 ((x0, x1, x2, x3, x4, ()), ()) [false] =
    (some (.brk ((x0, ()), ()), [((!leF x3 x4 : Bool), false)])) := by kernel_rfl

theorem ok89_0_t (x0 : (List Int)) (x1 : Int) (x2 : (List Int)) (x3 : Int) (x4 : Int) : TrOk (BodyRuns Go.Proofs.Try.prog kf88.orc 89 0 sh89_0 shb89_0 shr89_0 ((x0, x1, x2, x3, x4, ()), ())) (t89_0 x0 x1 x2 x3 x4) :=
  TrOk.ofTest (fun h0 => TrOk.ofTest (fun h1 => TrOk.ofTest (fun h3 => TrOk.ofFin (BodyRuns.of (e89_0_0 x0 x1 x2 x3 x4) (All.cons rfl (All.cons h3 (All.cons rfl (All.cons h1 (All.cons h0 (All.nil)))))))) (fun h3 => TrOk.ofStop)) (fun h1 => TrOk.ofStop)) (fun h0 => TrOk.ofFin (BodyRuns.of (e89_0_3 x0 x1 x2 x3 x4) (All.cons h0 (All.nil))))

theorem ok89_0 : LoopOk Go.Proofs.Try.prog 89 0 lc89_0 := loopOk_ofB kf88_ok.base (T := fun (d : sh89_0.data) => t89_0 d.1.1 d.1.2.1 d.1.2.2.1 d.1.2.2.2.1 d.1.2.2.2.2.1) (by kernel_rfl) rfl (fun (d : sh89_0.data) => ok89_0_t d.1.1 d.1.2.1 d.1.2.2.1 d.1.2.2.2.1 d.1.2.2.2.2.1) (fun _ => rfl)
def kl89_0 : Known := kf88.loop 89 0 lc89_0
theorem kl89_0_ok : KnownOk Go.Proofs.Try.prog kl89_0 := kf88_ok.loop ok89_0

/-! ductility/motion.sumsOf -/

abbrev as89 : List Ty := [(.slice (.int .i64))]
abbrev rs89 : List Ty := [(.slice (.int .i64))]

def t89 (x0 : (List Int)) : Tr (Tys.data rs89) :=
  Tr.test (isBrk (l89_0 ((([] : List Int), ((0 : Int), (x0, ((↑(List.length x0) : Int), ((0 : Int), ()))))), ())))
    (let r0 : (List Int × PUnit) × PUnit := b89_0 ((([] : List Int), ((0 : Int), (x0, ((↑(List.length x0) : Int), ((0 : Int), ()))))), ());
    Tr.fin (((r0.fst.fst : List Int), ())))
    (Tr.stop)

def f89 (d : Tys.data as89) : Option (Tys.data rs89) := (t89 d.1).val
def g89 (d : Tys.data as89) : Tys.data rs89 := (f89 d).getD (Tys.dflt rs89)
def p89 : PureC := pcOf as89 rs89 f89 g89

theorem e89_0 (x0 : (List Int)) : runPure kl89_0.orc Go.Proofs.Try.prog 400 89 as89 rs89 (x0, ()) [true, true] =
    (let r0 : (List Int × PUnit) × PUnit := b89_0 ((([] : List Int), ((0 : Int), (x0, ((↑(List.length x0) : Int), ((0 : Int), ()))))), ()); some (((r0.fst.fst : List Int), ()), [((true : Bool), true), (isBrk (l89_0 ((([] : List Int), ((0 : Int), (x0, ((↑(List.length x0) : Int), ((0 : Int), ()))))), ())), true)])) := by kernel_rfl

theorem ok89_t (x0 : (List Int)) : TrOk (PureRuns Go.Proofs.Try.prog kl89_0.orc 89 as89 rs89 (x0, ())) (t89 x0) :=
  TrOk.ofTest (fun h0 => TrOk.ofFin (PureRuns.of (e89_0 x0) (All.cons rfl (All.cons h0 (All.nil))))) (fun h0 => TrOk.ofStop)

theorem ok89 : PureOk Go.Proofs.Try.prog 89 p89 := pureOk_of kl89_0_ok.base (T := fun (d : Tys.data as89) => t89 d.1) (by kernel_rfl) (fun (d : Tys.data as89) => ok89_t d.1)
def kf89 : Known := kl89_0.func 89 p89
theorem kf89_ok : KnownOk Go.Proofs.Try.prog kf89 := kl89_0_ok.func ok89

/-! loop 0 of ductility/motion.peakOf -/

abbrev sh122_0 : Sh := { n := 19, slots := [3, 6, 7, 8], pats := [.ty (.int .i64), .ty (.slice (.int .i64)), .ty (.int .i64), .ty (.int .i64)], boxes := [] }
abbrev shb122_0 : Sh := { n := 19, slots := [3], pats := [.ty (.int .i64)], boxes := [] }
abbrev shr122_0 : Sh := { n := 19, slots := [], pats := [], boxes := [] }

def t122_0 (x0 : Int) (x1 : (List Int)) (x2 : Int) (x3 : Int) : Tr (Out sh122_0.data shb122_0.data shr122_0.data) :=
  Tr.test ((!leF x2 x3 : Bool))
    (Tr.test ((decide ((0 : Int) ≤ x3) && decide (x3 < (↑(List.length x1) : Int)) : Bool))
      (Tr.fin (.again (((if (if x0 < List.getD x1 (Int.toNat x3) (0 : Int) then List.getD x1 (Int.toNat x3) (0 : Int) else x0) < Go.IntKind.wrap Go.IntKind.i64 ((0 : Int) - List.getD x1 (Int.toNat x3) (0 : Int)) then Go.IntKind.wrap Go.IntKind.i64 ((0 : Int) - List.getD x1 (Int.toNat x3) (0 : Int)) else if x0 < List.getD x1 (Int.toNat x3) (0 : Int) then List.getD x1 (Int.toNat x3) (0 : Int) else x0 : Int), (x1, (x2, ((wrap64 (x3 + (1 : Int)) : Int), ())))), ())))
      (Tr.stop /- none [op 0 of region 4 of F122] -/))
    (Tr.fin (.brk ((x0, ()), ())))

def s122_0 (d : sh122_0.data) : Option (Out sh122_0.data shb122_0.data shr122_0.data) := (t122_0 d.1.1 d.1.2.1 d.1.2.2.1 d.1.2.2.2.1).val
def l122_0 (d : sh122_0.data) : Option (shb122_0.data ⊕ shr122_0.data) := itr s122_0 rounds d
def b122_0 (d : sh122_0.data) : shb122_0.data := outB shb122_0.dflt (l122_0 d)
def r122_0 (d : sh122_0.data) : shr122_0.data := outR shr122_0.dflt (l122_0 d)
def lc122_0 : LoopC := lcB sh122_0 shb122_0 shr122_0 l122_0 b122_0

theorem e122_0_0 (x0 : Int) (x1 : (List Int)) (x2 : Int) (x3 : Int) : runBody kf89.orc Go.Proofs.Try.prog 400 122 0 sh122_0 shb122_0 shr122_0 ((x0, x1, x2, x3, ()), ()) [true, true] =
    (some (.again (((if (if x0 < List.getD x1 (Int.toNat x3) (0 : Int) then List.getD x1 (Int.toNat x3) (0 : Int) else x0) < Go.IntKind.wrap Go.IntKind.i64 ((0 : Int) - List.getD x1 (Int.toNat x3) (0 : Int)) then Go.IntKind.wrap Go.IntKind.i64 ((0 : Int) - List.getD x1 (Int.toNat x3) (0 : Int)) else if x0 < List.getD x1 (Int.toNat x3) (0 : Int) then List.getD x1 (Int.toNat x3) (0 : Int) else x0 : Int), (x1, (x2, ((wrap64 (x3 + (1 : Int)) : Int), ())))), ()), [((decide ((0 : Int) ≤ x3) && decide (x3 < (↑(List.length x1) : Int)) : Bool), true), ((!leF x2 x3 : Bool), true)])) := by kernel_rfl
theorem e122_0_2 (x0 : Int) (x1 : (List Int)) (x2 : Int) (x3 : Int) : runBody kf89.orc Go.Proofs.Try.prog 400 122 0 sh122_0 shb122_0 shr122_0 ((x0, x1, x2, x3, ()), ()) [false] =
    (some (.brk ((x0, ()), ()), [((!leF x2 x3 : Bool), false)])) := by kernel_rfl

theorem ok122_0_t (x0 : Int) (x1 : (List Int)) (x2 : Int) (x3 : Int) : TrOk (BodyRuns Go.Proofs.Try.prog kf89.orc 122 0 sh122_0 shb122_0 shr122_0 ((x0, x1, x2, x3, ()), ())) (t122_0 x0 x1 x2 x3) :=
  TrOk.ofTest (fun h0 => TrOk.ofTest (fun h1 => TrOk.ofFin (BodyRuns.of (e122_0_0 x0 x1 x2 x3) (All.cons h1 (All.cons h0 (All.nil))))) (fun h1 => TrOk.ofStop)) (fun h0 => TrOk.ofFin (BodyRuns.of (e122_0_2 x0 x1 x2 x3) (All.cons h0 (All.nil))))

theorem ok122_0 : LoopOk Go.Proofs.Try.prog 122 0 lc122_0 := loopOk_ofB kf89_ok.base (T := fun (d : sh122_0.data) => t122_0 d.1.1 d.1.2.1 d.1.2.2.1 d.1.2.2.2.1) (by kernel_rfl) rfl (fun (d : sh122_0.data) => ok122_0_t d.1.1 d.1.2.1 d.1.2.2.1 d.1.2.2.2.1) (fun _ => rfl)
def kl122_0 : Known := kf89.loop 122 0 lc122_0
theorem kl122_0_ok : KnownOk Go.Proofs.Try.prog kl122_0 := kf89_ok.loop ok122_0

/-! ductility/motion.peakOf -/

abbrev as122 : List Ty := [(.slice (.int .i64))]
abbrev rs122 : List Ty := [(.int .i64)]

def t122 (x0 : (List Int)) : Tr (Tys.data rs122) :=
  Tr.test (isBrk (l122_0 (((0 : Int), (x0, ((↑(List.length x0) : Int), ((0 : Int), ())))), ())))
    (let r0 : (Int × PUnit) × PUnit := b122_0 (((0 : Int), (x0, ((↑(List.length x0) : Int), ((0 : Int), ())))), ());
    Tr.fin (((r0.fst.fst : Int), ())))
    (Tr.stop)

def f122 (d : Tys.data as122) : Option (Tys.data rs122) := (t122 d.1).val
def g122 (d : Tys.data as122) : Tys.data rs122 := (f122 d).getD (Tys.dflt rs122)
def p122 : PureC := pcOf as122 rs122 f122 g122

theorem e122_0 (x0 : (List Int)) : runPure kl122_0.orc Go.Proofs.Try.prog 400 122 as122 rs122 (x0, ()) [true, true] =
    (let r0 : (Int × PUnit) × PUnit := b122_0 (((0 : Int), (x0, ((↑(List.length x0) : Int), ((0 : Int), ())))), ()); some (((r0.fst.fst : Int), ()), [((true : Bool), true), (isBrk (l122_0 (((0 : Int), (x0, ((↑(List.length x0) : Int), ((0 : Int), ())))), ())), true)])) := by kernel_rfl

theorem ok122_t (x0 : (List Int)) : TrOk (PureRuns Go.Proofs.Try.prog kl122_0.orc 122 as122 rs122 (x0, ())) (t122 x0) :=
  TrOk.ofTest (fun h0 => TrOk.ofFin (PureRuns.of (e122_0 x0) (All.cons rfl (All.cons h0 (All.nil))))) (fun h0 => TrOk.ofStop)

theorem ok122 : PureOk Go.Proofs.Try.prog 122 p122 := pureOk_of kl122_0_ok.base (T := fun (d : Tys.data as122) => t122 d.1) (by kernel_rfl) (fun (d : Tys.data as122) => ok122_t d.1)
def kf122 : Known := kl122_0.func 122 p122
theorem kf122_ok : KnownOk Go.Proofs.Try.prog kf122 := kl122_0_ok.func ok122

/-! ductility/motion.peaksOf -/

abbrev as92 : List Ty := [(.slice (.int .i64))]
abbrev rs92 : List Ty := [(.pair (.int .i64) (.pair (.int .i64) (.pair (.int .i64) .unit)))]

def t92 (x0 : (List Int)) : Tr (Tys.data rs92) :=
  Tr.test (Option.isSome (f89 (x0, ())))
    (Tr.test (Option.isSome (f122 (x0, ())))
      (let r0 : List Int × PUnit := g89 (x0, ());
      Tr.test (Option.isSome (f122 ((r0.fst : List Int), ())))
        (Tr.test (Option.isSome (f89 ((r0.fst : List Int), ())))
          (let r3 : List Int × PUnit := g89 ((r0.fst : List Int), ());
          Tr.test (Option.isSome (f122 ((r3.fst : List Int), ())))
            (let r1 : Int × PUnit := g122 (x0, ());
            let r2 : Int × PUnit := g122 ((r0.fst : List Int), ());
            let r4 : Int × PUnit := g122 ((r3.fst : List Int), ());
            Tr.fin ((((r1.fst : Int), ((r2.fst : Int), ((r4.fst : Int), ()))), ())))
            (Tr.stop))
          (Tr.stop))
        (Tr.stop))
      (Tr.stop))
    (Tr.stop)

def f92 (d : Tys.data as92) : Option (Tys.data rs92) := (t92 d.1).val
def g92 (d : Tys.data as92) : Tys.data rs92 := (f92 d).getD (Tys.dflt rs92)
def p92 : PureC := pcOf as92 rs92 f92 g92

theorem e92_0 (x0 : (List Int)) : runPure kf122.orc Go.Proofs.Try.prog 400 92 as92 rs92 (x0, ()) [true, true, true, true, true] =
    (let r0 : List Int × PUnit := g89 (x0, ()); let r3 : List Int × PUnit := g89 ((r0.fst : List Int), ()); let r1 : Int × PUnit := g122 (x0, ()); let r2 : Int × PUnit := g122 ((r0.fst : List Int), ()); let r4 : Int × PUnit := g122 ((r3.fst : List Int), ()); some ((((r1.fst : Int), ((r2.fst : Int), ((r4.fst : Int), ()))), ()), [(Option.isSome (f122 ((r3.fst : List Int), ())), true), (Option.isSome (f89 ((r0.fst : List Int), ())), true), (Option.isSome (f122 ((r0.fst : List Int), ())), true), (Option.isSome (f122 (x0, ())), true), (Option.isSome (f89 (x0, ())), true)])) := by kernel_rfl

theorem ok92_t (x0 : (List Int)) : TrOk (PureRuns Go.Proofs.Try.prog kf122.orc 92 as92 rs92 (x0, ())) (t92 x0) :=
  TrOk.ofTest (fun h0 => TrOk.ofTest (fun h1 => TrOk.ofTest (fun h2 => TrOk.ofTest (fun h3 => TrOk.ofTest (fun h4 => TrOk.ofFin (PureRuns.of (e92_0 x0) (All.cons h4 (All.cons h3 (All.cons h2 (All.cons h1 (All.cons h0 (All.nil)))))))) (fun h4 => TrOk.ofStop)) (fun h3 => TrOk.ofStop)) (fun h2 => TrOk.ofStop)) (fun h1 => TrOk.ofStop)) (fun h0 => TrOk.ofStop)

theorem ok92 : PureOk Go.Proofs.Try.prog 92 p92 := pureOk_of kf122_ok.base (T := fun (d : Tys.data as92) => t92 d.1) (by kernel_rfl) (fun (d : Tys.data as92) => ok92_t d.1)
def kf92 : Known := kf122.func 92 p92
theorem kf92_ok : KnownOk Go.Proofs.Try.prog kf92 := kf122_ok.func ok92

/-! ductility/motion.PeaksOf -/

abbrev as27 : List Ty := [(.pair (.int .i64) (.pair (.slice (.int .i64)) .unit))]
abbrev rs27 : List Ty := [(.pair (.int .i64) (.pair (.int .i64) (.pair (.int .i64) .unit))), (.int .i64)]

def t27 (x0 : Int) (x0' : (List Int)) : Tr (Tys.data rs27) :=
  Tr.test (Option.isSome (f88 ((x0, (x0', ())), ())))
    (let r0 : Int × PUnit := g88 ((x0, (x0', ())), ());
    Tr.test ((!eqF r0.fst (0 : Int) : Bool))
      (Tr.fin ((((0 : Int), ((0 : Int), ((0 : Int), ()))), ((r0.fst : Int), ()))))
      (Tr.test (Option.isSome (f92 (x0', ())))
        (let r1 : (Int × Int × Int × PUnit) × PUnit := g92 (x0', ());
        Tr.fin ((((r1.fst.fst : Int), ((r1.fst.snd.fst : Int), ((r1.fst.snd.snd.fst : Int), ()))), ((0 : Int), ()))))
        (Tr.stop)))
    (Tr.stop)

def f27 (d : Tys.data as27) : Option (Tys.data rs27) := (t27 d.1.1 d.1.2.1).val
def g27 (d : Tys.data as27) : Tys.data rs27 := (f27 d).getD (Tys.dflt rs27)
def p27 : PureC := pcOf as27 rs27 f27 g27

theorem e27_0 (x0 : Int) (x0' : (List Int)) : runPure kf92.orc Go.Proofs.Try.prog 400 27 as27 rs27 ((x0, x0', ()), ()) [true, true] =
    (let r0 : Int × PUnit := g88 ((x0, (x0', ())), ()); some ((((0 : Int), ((0 : Int), ((0 : Int), ()))), ((r0.fst : Int), ())), [((!eqF r0.fst (0 : Int) : Bool), true), (Option.isSome (f88 ((x0, (x0', ())), ())), true)])) := by kernel_rfl
theorem e27_1 (x0 : Int) (x0' : (List Int)) : runPure kf92.orc Go.Proofs.Try.prog 400 27 as27 rs27 ((x0, x0', ()), ()) [true, false, true, true, true, true] =
    (let r0 : Int × PUnit := g88 ((x0, (x0', ())), ()); let r1 : (Int × Int × Int × PUnit) × PUnit := g92 (x0', ()); some ((((r1.fst.fst : Int), ((r1.fst.snd.fst : Int), ((r1.fst.snd.snd.fst : Int), ()))), ((0 : Int), ())), [((true : Bool), true), ((true : Bool), true), ((true : Bool), true), (Option.isSome (f92 (x0', ())), true), ((!eqF r0.fst (0 : Int) : Bool), false), (Option.isSome (f88 ((x0, (x0', ())), ())), true)])) := by kernel_rfl

theorem ok27_t (x0 : Int) (x0' : (List Int)) : TrOk (PureRuns Go.Proofs.Try.prog kf92.orc 27 as27 rs27 ((x0, x0', ()), ())) (t27 x0 x0') :=
  TrOk.ofTest (fun h0 => TrOk.ofTest (fun h1 => TrOk.ofFin (PureRuns.of (e27_0 x0 x0') (All.cons h1 (All.cons h0 (All.nil))))) (fun h1 => TrOk.ofTest (fun h2 => TrOk.ofFin (PureRuns.of (e27_1 x0 x0') (All.cons rfl (All.cons rfl (All.cons rfl (All.cons h2 (All.cons h1 (All.cons h0 (All.nil))))))))) (fun h2 => TrOk.ofStop))) (fun h0 => TrOk.ofStop)

theorem ok27 : PureOk Go.Proofs.Try.prog 27 p27 := pureOk_of kf92_ok.base (T := fun (d : Tys.data as27) => t27 d.1.1 d.1.2.1) (by kernel_rfl) (fun (d : Tys.data as27) => ok27_t d.1.1 d.1.2.1)
def kf27 : Known := kf92.func 27 p27
theorem kf27_ok : KnownOk Go.Proofs.Try.prog kf27 := kf92_ok.func ok27

/-! ductility/motion.limitsOf -/

abbrev as93 : List Ty := [(.pair (.int .i64) (.pair (.int .i64) (.pair (.int .i64) .unit)))]
abbrev rs93 : List Ty := [(.pair (.int .i64) (.pair (.int .i64) (.pair (.int .i64) .unit)))]

def t93 (x0 : Int) (x0' : Int) (x0'' : Int) : Tr (Tys.data rs93) :=
  Tr.fin (((x0, (x0', (x0'', ()))), ()))

def f93 (d : Tys.data as93) : Option (Tys.data rs93) := (t93 d.1.1 d.1.2.1 d.1.2.2.1).val
def g93 (d : Tys.data as93) : Tys.data rs93 := (f93 d).getD (Tys.dflt rs93)
def p93 : PureC := pcOf as93 rs93 f93 g93

theorem e93_0 (x0 : Int) (x0' : Int) (x0'' : Int) : runPure kf27.orc Go.Proofs.Try.prog 400 93 as93 rs93 ((x0, x0', x0'', ()), ()) [] =
    (some (((x0, (x0', (x0'', ()))), ()), [])) := by kernel_rfl

theorem ok93_t (x0 : Int) (x0' : Int) (x0'' : Int) : TrOk (PureRuns Go.Proofs.Try.prog kf27.orc 93 as93 rs93 ((x0, x0', x0'', ()), ())) (t93 x0 x0' x0'') :=
  TrOk.ofFin (PureRuns.of (e93_0 x0 x0' x0'') (All.nil))

theorem ok93 : PureOk Go.Proofs.Try.prog 93 p93 := pureOk_of kf27_ok.base (T := fun (d : Tys.data as93) => t93 d.1.1 d.1.2.1 d.1.2.2.1) (by kernel_rfl) (fun (d : Tys.data as93) => ok93_t d.1.1 d.1.2.1 d.1.2.2.1)
def kf93 : Known := kf27.func 93 p93
theorem kf93_ok : KnownOk Go.Proofs.Try.prog kf93 := kf27_ok.func ok93

/-! loop 2 of ductility/motion.divisorOf -/

abbrev sh144_2 : Sh := { n := 23, slots := [3, 5, 6, 7, 8], pats := [.ty (.int .i64), .ty (.int .i64), .ty (.slice (.int .i64)), .ty (.int .i64), .ty (.int .i64)], boxes := [] }
abbrev shb144_2 : Sh := { n := 23, slots := [3, 6, 7, 8], pats := [.ty (.int .i64), .ty (.slice (.int .i64)), .ty (.int .i64), .ty (.int .i64)], boxes := [] }
abbrev shr144_2 : Sh := { n := 23, slots := [], pats := [], boxes := [] }

def t144_2 (x0 : Int) (x1 : Int) (x2 : (List Int)) (x3 : Int) (x4 : Int) : Tr (Out sh144_2.data shb144_2.data shr144_2.data) :=
  Tr.test ((!eqF x1 (0 : Int) : Bool))
    (Tr.test ((x1 == (0 : Int) : Bool))
      (Tr.stop /- none [op 3 of region 6 of F144] -/)
      (Tr.fin (.again ((x1, ((Int.tmod x0 x1 : Int), (x2, (x3, (x4, ()))))), ()))))
    (Tr.fin (.brk ((x0, (x2, (x3, (x4, ())))), ())))

def s144_2 (d : sh144_2.data) : Option (Out sh144_2.data shb144_2.data shr144_2.data) := (t144_2 d.1.1 d.1.2.1 d.1.2.2.1 d.1.2.2.2.1 d.1.2.2.2.2.1).val
def l144_2 (d : sh144_2.data) : Option (shb144_2.data ⊕ shr144_2.data) := itr s144_2 rounds d
def b144_2 (d : sh144_2.data) : shb144_2.data := outB shb144_2.dflt (l144_2 d)
def r144_2 (d : sh144_2.data) : shr144_2.data := outR shr144_2.dflt (l144_2 d)
def lc144_2 : LoopC := lcB sh144_2 shb144_2 shr144_2 l144_2 b144_2

theorem e144_2_1 (x0 : Int) (x1 : Int) (x2 : (List Int)) (x3 : Int) (x4 : Int) : runBody kf93.orc Go.Proofs.Try.prog 400 144 2 sh144_2 shb144_2 shr144_2 ((x0, x1, x2, x3, x4, ()), ()) [true, false] =
    (some (.again ((x1, ((Int.tmod x0 x1 : Int), (x2, (x3, (x4, ()))))), ()), [((x1 == (0 : Int) : Bool), false), ((!eqF x1 (0 : Int) : Bool), true)])) := by kernel_rfl
theorem e144_2_2 (x0 : Int) (x1 : Int) (x2 : (List Int)) (x3 : Int) (x4 : Int) : runBody kf93.orc Go.Proofs.Try.prog 400 144 2 sh144_2 shb144_2 shr144_2 ((x0, x1, x2, x3, x4, ()), ()) [false] =
    (some (.brk ((x0, (x2, (x3, (x4, ())))), ()), [((!eqF x1 (0 : Int) : Bool), false)])) := by kernel_rfl

theorem ok144_2_t (x0 : Int) (x1 : Int) (x2 : (List Int)) (x3 : Int) (x4 : Int) : TrOk (BodyRuns Go.Proofs.Try.prog kf93.orc 144 2 sh144_2 shb144_2 shr144_2 ((x0, x1, x2, x3, x4, ()), ())) (t144_2 x0 x1 x2 x3 x4) :=
  TrOk.ofTest (fun h0 => TrOk.ofTest (fun h1 => TrOk.ofStop) (fun h1 => TrOk.ofFin (BodyRuns.of (e144_2_1 x0 x1 x2 x3 x4) (All.cons h1 (All.cons h0 (All.nil)))))) (fun h0 => TrOk.ofFin (BodyRuns.of (e144_2_2 x0 x1 x2 x3 x4) (All.cons h0 (All.nil))))

theorem ok144_2 : LoopOk Go.Proofs.Try.prog 144 2 lc144_2 := loopOk_ofB kf93_ok.base (T := fun (d : sh144_2.data) => t144_2 d.1.1 d.1.2.1 d.1.2.2.1 d.1.2.2.2.1 d.1.2.2.2.2.1) (by kernel_rfl) rfl (fun (d : sh144_2.data) => ok144_2_t d.1.1 d.1.2.1 d.1.2.2.1 d.1.2.2.2.1 d.1.2.2.2.2.1) (fun _ => rfl)
def kl144_2 : Known := kf93.loop 144 2 lc144_2
theorem kl144_2_ok : KnownOk Go.Proofs.Try.prog kl144_2 := kf93_ok.loop ok144_2

/-! loop 0 of ductility/motion.divisorOf -/

abbrev sh144_0 : Sh := { n := 23, slots := [3, 6, 7, 8], pats := [.ty (.int .i64), .ty (.slice (.int .i64)), .ty (.int .i64), .ty (.int .i64)], boxes := [] }
abbrev shb144_0 : Sh := { n := 23, slots := [3], pats := [.ty (.int .i64)], boxes := [] }
abbrev shr144_0 : Sh := { n := 23, slots := [], pats := [], boxes := [] }

def t144_0 (x0 : Int) (x1 : (List Int)) (x2 : Int) (x3 : Int) : Tr (Out sh144_0.data shb144_0.data shr144_0.data) :=
  Tr.test ((!leF x2 x3 : Bool))
    (Tr.test ((decide ((0 : Int) ≤ x3) && decide (x3 < (↑(List.length x1) : Int)) : Bool))
      (Tr.test (isBrk (l144_2 ((x0, ((List.getD x1 (Int.toNat x3) (0 : Int) : Int), (x1, (x2, (x3, ()))))), ())))
        (let r0 : (Int × List Int × Int × Int × PUnit) × PUnit := b144_2 ((x0, ((List.getD x1 (Int.toNat x3) (0 : Int) : Int), (x1, (x2, (x3, ()))))), ());
        Tr.fin (.again (((r0.fst.fst : Int), ((r0.fst.snd.fst : List Int), ((r0.fst.snd.snd.fst : Int), ((wrap64 (r0.fst.snd.snd.snd.fst + (1 : Int)) : Int), ())))), ())))
        (Tr.stop))
      (Tr.stop /- none [op 0 of region 4 of F144] -/))
    (Tr.fin (.brk ((x0, ()), ())))

def s144_0 (d : sh144_0.data) : Option (Out sh144_0.data shb144_0.data shr144_0.data) := (t144_0 d.1.1 d.1.2.1 d.1.2.2.1 d.1.2.2.2.1).val
def l144_0 (d : sh144_0.data) : Option (shb144_0.data ⊕ shr144_0.data) := itr s144_0 rounds d
def b144_0 (d : sh144_0.data) : shb144_0.data := outB shb144_0.dflt (l144_0 d)
def r144_0 (d : sh144_0.data) : shr144_0.data := outR shr144_0.dflt (l144_0 d)
def lc144_0 : LoopC := lcB sh144_0 shb144_0 shr144_0 l144_0 b144_0

theorem e144_0_0 (x0 : Int) (x1 : (List Int)) (x2 : Int) (x3 : Int) : runBody kl144_2.orc Go.Proofs.Try.prog 400 144 0 sh144_0 shb144_0 shr144_0 ((x0, x1, x2, x3, ()), ()) [true, true, true, true] =
    (let r0 : (Int × List Int × Int × Int × PUnit) × PUnit := b144_2 ((x0, ((List.getD x1 (Int.toNat x3) (0 : Int) : Int), (x1, (x2, (x3, ()))))), ()); some (.again (((r0.fst.fst : Int), ((r0.fst.snd.fst : List Int), ((r0.fst.snd.snd.fst : Int), ((wrap64 (r0.fst.snd.snd.snd.fst + (1 : Int)) : Int), ())))), ()), [((true : Bool), true), (isBrk (l144_2 ((x0, ((List.getD x1 (Int.toNat x3) (0 : Int) : Int), (x1, (x2, (x3, ()))))), ())), true), ((decide ((0 : Int) ≤ x3) && decide (x3 < (↑(List.length x1) : Int)) : Bool), true), ((!leF x2 x3 : Bool), true)])) := by kernel_rfl
theorem e144_0_2 (x0 : Int) (x1 : (List Int)) (x2 : Int) (x3 : Int) : runBody kl144_2.orc Go.Proofs.Try.prog 400 144 0 sh144_0 shb144_0 shr144_0 ((x0, x1, x2, x3, ()), ()) [false] =
    (some (.brk ((x0, ()), ()), [((!leF x2 x3 : Bool), false)])) := by kernel_rfl

theorem ok144_0_t (x0 : Int) (x1 : (List Int)) (x2 : Int) (x3 : Int) : TrOk (BodyRuns Go.Proofs.Try.prog kl144_2.orc 144 0 sh144_0 shb144_0 shr144_0 ((x0, x1, x2, x3, ()), ())) (t144_0 x0 x1 x2 x3) :=
  TrOk.ofTest (fun h0 => TrOk.ofTest (fun h1 => TrOk.ofTest (fun h2 => TrOk.ofFin (BodyRuns.of (e144_0_0 x0 x1 x2 x3) (All.cons rfl (All.cons h2 (All.cons h1 (All.cons h0 (All.nil))))))) (fun h2 => TrOk.ofStop)) (fun h1 => TrOk.ofStop)) (fun h0 => TrOk.ofFin (BodyRuns.of (e144_0_2 x0 x1 x2 x3) (All.cons h0 (All.nil))))

theorem ok144_0 : LoopOk Go.Proofs.Try.prog 144 0 lc144_0 := loopOk_ofB kl144_2_ok.base (T := fun (d : sh144_0.data) => t144_0 d.1.1 d.1.2.1 d.1.2.2.1 d.1.2.2.2.1) (by kernel_rfl) rfl (fun (d : sh144_0.data) => ok144_0_t d.1.1 d.1.2.1 d.1.2.2.1 d.1.2.2.2.1) (fun _ => rfl)
def kl144_0 : Known := kl144_2.loop 144 0 lc144_0
theorem kl144_0_ok : KnownOk Go.Proofs.Try.prog kl144_0 := kl144_2_ok.loop ok144_0

/-! ductility/motion.divisorOf -/

abbrev as144 : List Ty := [(.slice (.int .i64))]
abbrev rs144 : List Ty := [(.int .i64)]

def t144 (x0 : (List Int)) : Tr (Tys.data rs144) :=
  Tr.test (isBrk (l144_0 (((0 : Int), (x0, ((↑(List.length x0) : Int), ((0 : Int), ())))), ())))
    (let r0 : (Int × PUnit) × PUnit := b144_0 (((0 : Int), (x0, ((↑(List.length x0) : Int), ((0 : Int), ())))), ());
    Tr.fin (((if r0.fst.fst < Go.IntKind.wrap Go.IntKind.i64 ((0 : Int) - r0.fst.fst) then Go.IntKind.wrap Go.IntKind.i64 ((0 : Int) - r0.fst.fst) else r0.fst.fst : Int), ())))
    (Tr.stop)

def f144 (d : Tys.data as144) : Option (Tys.data rs144) := (t144 d.1).val
def g144 (d : Tys.data as144) : Tys.data rs144 := (f144 d).getD (Tys.dflt rs144)
def p144 : PureC := pcOf as144 rs144 f144 g144

theorem e144_0 (x0 : (List Int)) : runPure kl144_0.orc Go.Proofs.Try.prog 400 144 as144 rs144 (x0, ()) [true, true] =
    (let r0 : (Int × PUnit) × PUnit := b144_0 (((0 : Int), (x0, ((↑(List.length x0) : Int), ((0 : Int), ())))), ()); some (((if r0.fst.fst < Go.IntKind.wrap Go.IntKind.i64 ((0 : Int) - r0.fst.fst) then Go.IntKind.wrap Go.IntKind.i64 ((0 : Int) - r0.fst.fst) else r0.fst.fst : Int), ()), [((true : Bool), true), (isBrk (l144_0 (((0 : Int), (x0, ((↑(List.length x0) : Int), ((0 : Int), ())))), ())), true)])) := by kernel_rfl

theorem ok144_t (x0 : (List Int)) : TrOk (PureRuns Go.Proofs.Try.prog kl144_0.orc 144 as144 rs144 (x0, ())) (t144 x0) :=
  TrOk.ofTest (fun h0 => TrOk.ofFin (PureRuns.of (e144_0 x0) (All.cons rfl (All.cons h0 (All.nil))))) (fun h0 => TrOk.ofStop)

theorem ok144 : PureOk Go.Proofs.Try.prog 144 p144 := pureOk_of kl144_0_ok.base (T := fun (d : Tys.data as144) => t144 d.1) (by kernel_rfl) (fun (d : Tys.data as144) => ok144_t d.1)
def kf144 : Known := kl144_0.func 144 p144
theorem kf144_ok : KnownOk Go.Proofs.Try.prog kf144 := kl144_0_ok.func ok144

/-! ductility/motion.fraction -/

abbrev as108 : List Ty := [(.int .i64), (.int .i64)]
abbrev rs108 : List Ty := [(.pair (.int .i64) (.pair (.int .i64) .unit))]

def t108 (x0 : Int) (x1 : Int) : Tr (Tys.data rs108) :=
  Tr.test (Option.isSome (f144 (([x0, x1] : List Int), ())))
    (let r0 : Int × PUnit := g144 (([x0, x1] : List Int), ());
    Tr.test ((r0.fst == (0 : Int) : Bool))
      (Tr.stop /- none [op 2 of region 2 of F108] -/)
      (Tr.fin ((((Go.IntKind.wrap Go.IntKind.i64 (Int.tdiv x0 r0.fst) : Int), ((Go.IntKind.wrap Go.IntKind.i64 (Int.tdiv x1 r0.fst) : Int), ())), ()))))
    (Tr.stop)

def f108 (d : Tys.data as108) : Option (Tys.data rs108) := (t108 d.1 d.2.1).val
def g108 (d : Tys.data as108) : Tys.data rs108 := (f108 d).getD (Tys.dflt rs108)
def p108 : PureC := pcOf as108 rs108 f108 g108

theorem e108_1 (x0 : Int) (x1 : Int) : runPure kf144.orc Go.Proofs.Try.prog 400 108 as108 rs108 (x0, x1, ()) [true, true, false, false] =
    (let r0 : Int × PUnit := g144 (([x0, x1] : List Int), ()); some ((((Go.IntKind.wrap Go.IntKind.i64 (Int.tdiv x0 r0.fst) : Int), ((Go.IntKind.wrap Go.IntKind.i64 (Int.tdiv x1 r0.fst) : Int), ())), ()), [((r0.fst == (0 : Int) : Bool), false), ((r0.fst == (0 : Int) : Bool), false), (Option.isSome (f144 (([x0, x1] : List Int), ())), true), ((true : Bool), true)])) := by kernel_rfl

theorem ok108_t (x0 : Int) (x1 : Int) : TrOk (PureRuns Go.Proofs.Try.prog kf144.orc 108 as108 rs108 (x0, x1, ())) (t108 x0 x1) :=
  TrOk.ofTest (fun h1 => TrOk.ofTest (fun h2 => TrOk.ofStop) (fun h2 => TrOk.ofFin (PureRuns.of (e108_1 x0 x1) (All.cons h2 (All.cons h2 (All.cons h1 (All.cons rfl (All.nil)))))))) (fun h1 => TrOk.ofStop)

theorem ok108 : PureOk Go.Proofs.Try.prog 108 p108 := pureOk_of kf144_ok.base (T := fun (d : Tys.data as108) => t108 d.1 d.2.1) (by kernel_rfl) (fun (d : Tys.data as108) => ok108_t d.1 d.2.1)
def kf108 : Known := kf144.func 108 p108
theorem kf108_ok : KnownOk Go.Proofs.Try.prog kf108 := kf144_ok.func ok108

/-! ductility/motion.isLess -/

abbrev as135 : List Ty := [(.pair (.int .i64) (.pair (.int .i64) .unit)), (.pair (.int .i64) (.pair (.int .i64) .unit))]
abbrev rs135 : List Ty := [.bool]

def t135 (x0 : Int) (x0' : Int) (x1 : Int) (x1' : Int) : Tr (Tys.data rs135) :=
  Tr.fin (((!leF (wrap64 (x1 * x0')) (wrap64 (x0 * x1')) : Bool), ()))

def f135 (d : Tys.data as135) : Option (Tys.data rs135) := (t135 d.1.1 d.1.2.1 d.2.1.1 d.2.1.2.1).val
def g135 (d : Tys.data as135) : Tys.data rs135 := (f135 d).getD (Tys.dflt rs135)
def p135 : PureC := pcOf as135 rs135 f135 g135

theorem e135_0 (x0 : Int) (x0' : Int) (x1 : Int) (x1' : Int) : runPure kf108.orc Go.Proofs.Try.prog 400 135 as135 rs135 ((x0, x0', ()), (x1, x1', ()), ()) [] =
    (some (((!leF (wrap64 (x1 * x0')) (wrap64 (x0 * x1')) : Bool), ()), [])) := by kernel_rfl

theorem ok135_t (x0 : Int) (x0' : Int) (x1 : Int) (x1' : Int) : TrOk (PureRuns Go.Proofs.Try.prog kf108.orc 135 as135 rs135 ((x0, x0', ()), (x1, x1', ()), ())) (t135 x0 x0' x1 x1') :=
  TrOk.ofFin (PureRuns.of (e135_0 x0 x0' x1 x1') (All.nil))

theorem ok135 : PureOk Go.Proofs.Try.prog 135 p135 := pureOk_of kf108_ok.base (T := fun (d : Tys.data as135) => t135 d.1.1 d.1.2.1 d.2.1.1 d.2.1.2.1) (by kernel_rfl) (fun (d : Tys.data as135) => ok135_t d.1.1 d.1.2.1 d.2.1.1 d.2.1.2.1)
def kf135 : Known := kf108.func 135 p135
theorem kf135_ok : KnownOk Go.Proofs.Try.prog kf135 := kf108_ok.func ok135

/-! (ductility/motion.peaks).scaleTo -/

abbrev as95 : List Ty := [(.pair (.int .i64) (.pair (.int .i64) (.pair (.int .i64) .unit))), (.pair (.int .i64) (.pair (.int .i64) (.pair (.int .i64) .unit)))]
abbrev rs95 : List Ty := [(.pair (.int .i64) (.pair (.int .i64) .unit))]

def t95 (x0 : Int) (x0' : Int) (x0'' : Int) (x1 : Int) (x1' : Int) (x1'' : Int) : Tr (Tys.data rs95) :=
  Tr.test (Option.isSome (f108 (x1, (x0, ()))))
    (let r0 : (Int × Int × PUnit) × PUnit := g108 (x1, (x0, ()));
    Tr.test (Option.isSome (f135 (((r0.fst.fst : Int), ((r0.fst.snd.fst : Int), ())), (((r0.fst.fst : Int), ((r0.fst.snd.fst : Int), ())), ()))))
      (let r1 : Bool × PUnit := g135 (((r0.fst.fst : Int), ((r0.fst.snd.fst : Int), ())), (((r0.fst.fst : Int), ((r0.fst.snd.fst : Int), ())), ()));
      Tr.test ((r1.fst : Bool))
        (Tr.test (Option.isSome (f108 (x1', (x0', ()))))
          (let r2 : (Int × Int × PUnit) × PUnit := g108 (x1', (x0', ()));
          Tr.test (Option.isSome (f135 (((r2.fst.fst : Int), ((r2.fst.snd.fst : Int), ())), (((r0.fst.fst : Int), ((r0.fst.snd.fst : Int), ())), ()))))
            (let r3 : Bool × PUnit := g135 (((r2.fst.fst : Int), ((r2.fst.snd.fst : Int), ())), (((r0.fst.fst : Int), ((r0.fst.snd.fst : Int), ())), ()));
            Tr.test ((r3.fst : Bool))
              (Tr.test (Option.isSome (f108 (x1'', (x0'', ()))))
                (let r4 : (Int × Int × PUnit) × PUnit := g108 (x1'', (x0'', ()));
                Tr.test (Option.isSome (f135 (((r4.fst.fst : Int), ((r4.fst.snd.fst : Int), ())), (((r2.fst.fst : Int), ((r2.fst.snd.fst : Int), ())), ()))))
                  (let r5 : Bool × PUnit := g135 (((r4.fst.fst : Int), ((r4.fst.snd.fst : Int), ())), (((r2.fst.fst : Int), ((r2.fst.snd.fst : Int), ())), ()));
                  Tr.test ((r5.fst : Bool))
                    (Tr.fin ((((r4.fst.fst : Int), ((r4.fst.snd.fst : Int), ())), ())))
                    (Tr.fin ((((r2.fst.fst : Int), ((r2.fst.snd.fst : Int), ())), ()))))
                  (Tr.stop))
                (Tr.stop))
              (Tr.test (Option.isSome (f108 (x1'', (x0'', ()))))
                (let r4 : (Int × Int × PUnit) × PUnit := g108 (x1'', (x0'', ()));
                Tr.test (Option.isSome (f135 (((r4.fst.fst : Int), ((r4.fst.snd.fst : Int), ())), (((r0.fst.fst : Int), ((r0.fst.snd.fst : Int), ())), ()))))
                  (let r6 : Bool × PUnit := g135 (((r4.fst.fst : Int), ((r4.fst.snd.fst : Int), ())), (((r0.fst.fst : Int), ((r0.fst.snd.fst : Int), ())), ()));
                  Tr.test ((r6.fst : Bool))
                    (Tr.fin ((((r4.fst.fst : Int), ((r4.fst.snd.fst : Int), ())), ())))
                    (Tr.fin ((((r0.fst.fst : Int), ((r0.fst.snd.fst : Int), ())), ()))))
                  (Tr.stop))
                (Tr.stop)))
            (Tr.stop))
          (Tr.stop))
        (Tr.test (Option.isSome (f108 (x1', (x0', ()))))
          (let r2 : (Int × Int × PUnit) × PUnit := g108 (x1', (x0', ()));
          Tr.test (Option.isSome (f135 (((r2.fst.fst : Int), ((r2.fst.snd.fst : Int), ())), (((r0.fst.fst : Int), ((r0.fst.snd.fst : Int), ())), ()))))
            (let r3 : Bool × PUnit := g135 (((r2.fst.fst : Int), ((r2.fst.snd.fst : Int), ())), (((r0.fst.fst : Int), ((r0.fst.snd.fst : Int), ())), ()));
            Tr.test ((r3.fst : Bool))
              (Tr.test (Option.isSome (f108 (x1'', (x0'', ()))))
                (let r4 : (Int × Int × PUnit) × PUnit := g108 (x1'', (x0'', ()));
                Tr.test (Option.isSome (f135 (((r4.fst.fst : Int), ((r4.fst.snd.fst : Int), ())), (((r2.fst.fst : Int), ((r2.fst.snd.fst : Int), ())), ()))))
                  (let r5 : Bool × PUnit := g135 (((r4.fst.fst : Int), ((r4.fst.snd.fst : Int), ())), (((r2.fst.fst : Int), ((r2.fst.snd.fst : Int), ())), ()));
                  Tr.test ((r5.fst : Bool))
                    (Tr.fin ((((r4.fst.fst : Int), ((r4.fst.snd.fst : Int), ())), ())))
                    (Tr.fin ((((r2.fst.fst : Int), ((r2.fst.snd.fst : Int), ())), ()))))
                  (Tr.stop))
                (Tr.stop))
              (Tr.test (Option.isSome (f108 (x1'', (x0'', ()))))
                (let r4 : (Int × Int × PUnit) × PUnit := g108 (x1'', (x0'', ()));
                Tr.test (Option.isSome (f135 (((r4.fst.fst : Int), ((r4.fst.snd.fst : Int), ())), (((r0.fst.fst : Int), ((r0.fst.snd.fst : Int), ())), ()))))
                  (let r6 : Bool × PUnit := g135 (((r4.fst.fst : Int), ((r4.fst.snd.fst : Int), ())), (((r0.fst.fst : Int), ((r0.fst.snd.fst : Int), ())), ()));
                  Tr.test ((r6.fst : Bool))
                    (Tr.fin ((((r4.fst.fst : Int), ((r4.fst.snd.fst : Int), ())), ())))
                    (Tr.fin ((((r0.fst.fst : Int), ((r0.fst.snd.fst : Int), ())), ()))))
                  (Tr.stop))
                (Tr.stop)))
            (Tr.stop))
          (Tr.stop)))
      (Tr.stop))
    (Tr.stop)

def f95 (d : Tys.data as95) : Option (Tys.data rs95) := (t95 d.1.1 d.1.2.1 d.1.2.2.1 d.2.1.1 d.2.1.2.1 d.2.1.2.2.1).val
def g95 (d : Tys.data as95) : Tys.data rs95 := (f95 d).getD (Tys.dflt rs95)
def p95 : PureC := pcOf as95 rs95 f95 g95

theorem e95_0 (x0 : Int) (x0' : Int) (x0'' : Int) (x1 : Int) (x1' : Int) (x1'' : Int) : runPure kf135.orc Go.Proofs.Try.prog 400 95 as95 rs95 ((x0, x0', x0'', ()), (x1, x1', x1'', ()), ()) [true, true, true, true, true, true, true, true, true, true, true, true, true, true, true, true, true, true, true, true, true, false] =
    (let r0 : (Int × Int × PUnit) × PUnit := g108 (x1, (x0, ())); let r1 : Bool × PUnit := g135 (((r0.fst.fst : Int), ((r0.fst.snd.fst : Int), ())), (((r0.fst.fst : Int), ((r0.fst.snd.fst : Int), ())), ())); let r2 : (Int × Int × PUnit) × PUnit := g108 (x1', (x0', ())); let r3 : Bool × PUnit := g135 (((r2.fst.fst : Int), ((r2.fst.snd.fst : Int), ())), (((r0.fst.fst : Int), ((r0.fst.snd.fst : Int), ())), ())); let r4 : (Int × Int × PUnit) × PUnit := g108 (x1'', (x0'', ())); let r5 : Bool × PUnit := g135 (((r4.fst.fst : Int), ((r4.fst.snd.fst : Int), ())), (((r2.fst.fst : Int), ((r2.fst.snd.fst : Int), ())), ())); some ((((r4.fst.fst : Int), ((r4.fst.snd.fst : Int), ())), ()), [((false : Bool), false), ((r5.fst : Bool), true), (Option.isSome (f135 (((r4.fst.fst : Int), ((r4.fst.snd.fst : Int), ())), (((r2.fst.fst : Int), ((r2.fst.snd.fst : Int), ())), ()))), true), (Option.isSome (f108 (x1'', (x0'', ()))), true), ((true : Bool), true), ((true : Bool), true), ((true : Bool), true), ((r3.fst : Bool), true), (Option.isSome (f135 (((r2.fst.fst : Int), ((r2.fst.snd.fst : Int), ())), (((r0.fst.fst : Int), ((r0.fst.snd.fst : Int), ())), ()))), true), (Option.isSome (f108 (x1', (x0', ()))), true), ((true : Bool), true), ((true : Bool), true), ((true : Bool), true), ((r1.fst : Bool), true), (Option.isSome (f135 (((r0.fst.fst : Int), ((r0.fst.snd.fst : Int), ())), (((r0.fst.fst : Int), ((r0.fst.snd.fst : Int), ())), ()))), true), (Option.isSome (f108 (x1, (x0, ()))), true), ((true : Bool), true), ((true : Bool), true), ((true : Bool), true), (Option.isSome (f108 (x1, (x0, ()))), true), ((true : Bool), true), ((true : Bool), true)])) := by kernel_rfl
theorem e95_1 (x0 : Int) (x0' : Int) (x0'' : Int) (x1 : Int) (x1' : Int) (x1'' : Int) : runPure kf135.orc Go.Proofs.Try.prog 400 95 as95 rs95 ((x0, x0', x0'', ()), (x1, x1', x1'', ()), ()) [true, true, true, true, true, true, true, true, true, true, true, true, true, true, true, true, true, true, true, true, false, false] =
    (let r0 : (Int × Int × PUnit) × PUnit := g108 (x1, (x0, ())); let r1 : Bool × PUnit := g135 (((r0.fst.fst : Int), ((r0.fst.snd.fst : Int), ())), (((r0.fst.fst : Int), ((r0.fst.snd.fst : Int), ())), ())); let r2 : (Int × Int × PUnit) × PUnit := g108 (x1', (x0', ())); let r3 : Bool × PUnit := g135 (((r2.fst.fst : Int), ((r2.fst.snd.fst : Int), ())), (((r0.fst.fst : Int), ((r0.fst.snd.fst : Int), ())), ())); let r4 : (Int × Int × PUnit) × PUnit := g108 (x1'', (x0'', ())); let r5 : Bool × PUnit := g135 (((r4.fst.fst : Int), ((r4.fst.snd.fst : Int), ())), (((r2.fst.fst : Int), ((r2.fst.snd.fst : Int), ())), ())); some ((((r2.fst.fst : Int), ((r2.fst.snd.fst : Int), ())), ()), [((false : Bool), false), ((r5.fst : Bool), false), (Option.isSome (f135 (((r4.fst.fst : Int), ((r4.fst.snd.fst : Int), ())), (((r2.fst.fst : Int), ((r2.fst.snd.fst : Int), ())), ()))), true), (Option.isSome (f108 (x1'', (x0'', ()))), true), ((true : Bool), true), ((true : Bool), true), ((true : Bool), true), ((r3.fst : Bool), true), (Option.isSome (f135 (((r2.fst.fst : Int), ((r2.fst.snd.fst : Int), ())), (((r0.fst.fst : Int), ((r0.fst.snd.fst : Int), ())), ()))), true), (Option.isSome (f108 (x1', (x0', ()))), true), ((true : Bool), true), ((true : Bool), true), ((true : Bool), true), ((r1.fst : Bool), true), (Option.isSome (f135 (((r0.fst.fst : Int), ((r0.fst.snd.fst : Int), ())), (((r0.fst.fst : Int), ((r0.fst.snd.fst : Int), ())), ()))), true), (Option.isSome (f108 (x1, (x0, ()))), true), ((true : Bool), true), ((true : Bool), true), ((true : Bool), true), (Option.isSome (f108 (x1, (x0, ()))), true), ((true : Bool), true), ((true : Bool), true)])) := by kernel_rfl
theorem e95_2 (x0 : Int) (x0' : Int) (x0'' : Int) (x1 : Int) (x1' : Int) (x1'' : Int) : runPure kf135.orc Go.Proofs.Try.prog 400 95 as95 rs95 ((x0, x0', x0'', ()), (x1, x1', x1'', ()), ()) [true, true, true, true, true, true, true, true, true, true, true, true, true, true, false, true, true, true, true, true, true, false] =
    (let r0 : (Int × Int × PUnit) × PUnit := g108 (x1, (x0, ())); let r1 : Bool × PUnit := g135 (((r0.fst.fst : Int), ((r0.fst.snd.fst : Int), ())), (((r0.fst.fst : Int), ((r0.fst.snd.fst : Int), ())), ())); let r2 : (Int × Int × PUnit) × PUnit := g108 (x1', (x0', ())); let r3 : Bool × PUnit := g135 (((r2.fst.fst : Int), ((r2.fst.snd.fst : Int), ())), (((r0.fst.fst : Int), ((r0.fst.snd.fst : Int), ())), ())); let r4 : (Int × Int × PUnit) × PUnit := g108 (x1'', (x0'', ())); let r6 : Bool × PUnit := g135 (((r4.fst.fst : Int), ((r4.fst.snd.fst : Int), ())), (((r0.fst.fst : Int), ((r0.fst.snd.fst : Int), ())), ())); some ((((r4.fst.fst : Int), ((r4.fst.snd.fst : Int), ())), ()), [((false : Bool), false), ((r6.fst : Bool), true), (Option.isSome (f135 (((r4.fst.fst : Int), ((r4.fst.snd.fst : Int), ())), (((r0.fst.fst : Int), ((r0.fst.snd.fst : Int), ())), ()))), true), (Option.isSome (f108 (x1'', (x0'', ()))), true), ((true : Bool), true), ((true : Bool), true), ((true : Bool), true), ((r3.fst : Bool), false), (Option.isSome (f135 (((r2.fst.fst : Int), ((r2.fst.snd.fst : Int), ())), (((r0.fst.fst : Int), ((r0.fst.snd.fst : Int), ())), ()))), true), (Option.isSome (f108 (x1', (x0', ()))), true), ((true : Bool), true), ((true : Bool), true), ((true : Bool), true), ((r1.fst : Bool), true), (Option.isSome (f135 (((r0.fst.fst : Int), ((r0.fst.snd.fst : Int), ())), (((r0.fst.fst : Int), ((r0.fst.snd.fst : Int), ())), ()))), true), (Option.isSome (f108 (x1, (x0, ()))), true), ((true : Bool), true), ((true : Bool), true), ((true : Bool), true), (Option.isSome (f108 (x1, (x0, ()))), true), ((true : Bool), true), ((true : Bool), true)])) := by kernel_rfl
theorem e95_3 (x0 : Int) (x0' : Int) (x0'' : Int) (x1 : Int) (x1' : Int) (x1'' : Int) : runPure kf135.orc Go.Proofs.Try.prog 400 95 as95 rs95 ((x0, x0', x0'', ()), (x1, x1', x1'', ()), ()) [true, true, true, true, true, true, true, true, true, true, true, true, true, true, false, true, true, true, true, true, false, false] =
    (let r0 : (Int × Int × PUnit) × PUnit := g108 (x1, (x0, ())); let r1 : Bool × PUnit := g135 (((r0.fst.fst : Int), ((r0.fst.snd.fst : Int), ())), (((r0.fst.fst : Int), ((r0.fst.snd.fst : Int), ())), ())); let r2 : (Int × Int × PUnit) × PUnit := g108 (x1', (x0', ())); let r3 : Bool × PUnit := g135 (((r2.fst.fst : Int), ((r2.fst.snd.fst : Int), ())), (((r0.fst.fst : Int), ((r0.fst.snd.fst : Int), ())), ())); let r4 : (Int × Int × PUnit) × PUnit := g108 (x1'', (x0'', ())); let r6 : Bool × PUnit := g135 (((r4.fst.fst : Int), ((r4.fst.snd.fst : Int), ())), (((r0.fst.fst : Int), ((r0.fst.snd.fst : Int), ())), ())); some ((((r0.fst.fst : Int), ((r0.fst.snd.fst : Int), ())), ()), [((false : Bool), false), ((r6.fst : Bool), false), (Option.isSome (f135 (((r4.fst.fst : Int), ((r4.fst.snd.fst : Int), ())), (((r0.fst.fst : Int), ((r0.fst.snd.fst : Int), ())), ()))), true), (Option.isSome (f108 (x1'', (x0'', ()))), true), ((true : Bool), true), ((true : Bool), true), ((true : Bool), true), ((r3.fst : Bool), false), (Option.isSome (f135 (((r2.fst.fst : Int), ((r2.fst.snd.fst : Int), ())), (((r0.fst.fst : Int), ((r0.fst.snd.fst : Int), ())), ()))), true), (Option.isSome (f108 (x1', (x0', ()))), true), ((true : Bool), true), ((true : Bool), true), ((true : Bool), true), ((r1.fst : Bool), true), (Option.isSome (f135 (((r0.fst.fst : Int), ((r0.fst.snd.fst : Int), ())), (((r0.fst.fst : Int), ((r0.fst.snd.fst : Int), ())), ()))), true), (Option.isSome (f108 (x1, (x0, ()))), true), ((true : Bool), true), ((true : Bool), true), ((true : Bool), true), (Option.isSome (f108 (x1, (x0, ()))), true), ((true : Bool), true), ((true : Bool), true)])) := by kernel_rfl
theorem e95_4 (x0 : Int) (x0' : Int) (x0'' : Int) (x1 : Int) (x1' : Int) (x1'' : Int) : runPure kf135.orc Go.Proofs.Try.prog 400 95 as95 rs95 ((x0, x0', x0'', ()), (x1, x1', x1'', ()), ()) [true, true, true, true, true, true, true, true, false, true, true, true, true, true, true, true, true, true, true, true, true, false] =
    (let r0 : (Int × Int × PUnit) × PUnit := g108 (x1, (x0, ())); let r1 : Bool × PUnit := g135 (((r0.fst.fst : Int), ((r0.fst.snd.fst : Int), ())), (((r0.fst.fst : Int), ((r0.fst.snd.fst : Int), ())), ())); let r2 : (Int × Int × PUnit) × PUnit := g108 (x1', (x0', ())); let r3 : Bool × PUnit := g135 (((r2.fst.fst : Int), ((r2.fst.snd.fst : Int), ())), (((r0.fst.fst : Int), ((r0.fst.snd.fst : Int), ())), ())); let r4 : (Int × Int × PUnit) × PUnit := g108 (x1'', (x0'', ())); let r5 : Bool × PUnit := g135 (((r4.fst.fst : Int), ((r4.fst.snd.fst : Int), ())), (((r2.fst.fst : Int), ((r2.fst.snd.fst : Int), ())), ())); some ((((r4.fst.fst : Int), ((r4.fst.snd.fst : Int), ())), ()), [((false : Bool), false), ((r5.fst : Bool), true), (Option.isSome (f135 (((r4.fst.fst : Int), ((r4.fst.snd.fst : Int), ())), (((r2.fst.fst : Int), ((r2.fst.snd.fst : Int), ())), ()))), true), (Option.isSome (f108 (x1'', (x0'', ()))), true), ((true : Bool), true), ((true : Bool), true), ((true : Bool), true), ((r3.fst : Bool), true), (Option.isSome (f135 (((r2.fst.fst : Int), ((r2.fst.snd.fst : Int), ())), (((r0.fst.fst : Int), ((r0.fst.snd.fst : Int), ())), ()))), true), (Option.isSome (f108 (x1', (x0', ()))), true), ((true : Bool), true), ((true : Bool), true), ((true : Bool), true), ((r1.fst : Bool), false), (Option.isSome (f135 (((r0.fst.fst : Int), ((r0.fst.snd.fst : Int), ())), (((r0.fst.fst : Int), ((r0.fst.snd.fst : Int), ())), ()))), true), (Option.isSome (f108 (x1, (x0, ()))), true), ((true : Bool), true), ((true : Bool), true), ((true : Bool), true), (Option.isSome (f108 (x1, (x0, ()))), true), ((true : Bool), true), ((true : Bool), true)])) := by kernel_rfl
theorem e95_5 (x0 : Int) (x0' : Int) (x0'' : Int) (x1 : Int) (x1' : Int) (x1'' : Int) : runPure kf135.orc Go.Proofs.Try.prog 400 95 as95 rs95 ((x0, x0', x0'', ()), (x1, x1', x1'', ()), ()) [true, true, true, true, true, true, true, true, false, true, true, true, true, true, true, true, true, true, true, true, false, false] =
    (let r0 : (Int × Int × PUnit) × PUnit := g108 (x1, (x0, ())); let r1 : Bool × PUnit := g135 (((r0.fst.fst : Int), ((r0.fst.snd.fst : Int), ())), (((r0.fst.fst : Int), ((r0.fst.snd.fst : Int), ())), ())); let r2 : (Int × Int × PUnit) × PUnit := g108 (x1', (x0', ())); let r3 : Bool × PUnit := g135 (((r2.fst.fst : Int), ((r2.fst.snd.fst : Int), ())), (((r0.fst.fst : Int), ((r0.fst.snd.fst : Int), ())), ())); let r4 : (Int × Int × PUnit) × PUnit := g108 (x1'', (x0'', ())); let r5 : Bool × PUnit := g135 (((r4.fst.fst : Int), ((r4.fst.snd.fst : Int), ())), (((r2.fst.fst : Int), ((r2.fst.snd.fst : Int), ())), ())); some ((((r2.fst.fst : Int), ((r2.fst.snd.fst : Int), ())), ()), [((false : Bool), false), ((r5.fst : Bool), false), (Option.isSome (f135 (((r4.fst.fst : Int), ((r4.fst.snd.fst : Int), ())), (((r2.fst.fst : Int), ((r2.fst.snd.fst : Int), ())), ()))), true), (Option.isSome (f108 (x1'', (x0'', ()))), true), ((true : Bool), true), ((true : Bool), true), ((true : Bool), true), ((r3.fst : Bool), true), (Option.isSome (f135 (((r2.fst.fst : Int), ((r2.fst.snd.fst : Int), ())), (((r0.fst.fst : Int), ((r0.fst.snd.fst : Int), ())), ()))), true), (Option.isSome (f108 (x1', (x0', ()))), true), ((true : Bool), true), ((true : Bool), true), ((true : Bool), true), ((r1.fst : Bool), false), (Option.isSome (f135 (((r0.fst.fst : Int), ((r0.fst.snd.fst : Int), ())), (((r0.fst.fst : Int), ((r0.fst.snd.fst : Int), ())), ()))), true), (Option.isSome (f108 (x1, (x0, ()))), true), ((true : Bool), true), ((true : Bool), true), ((true : Bool), true), (Option.isSome (f108 (x1, (x0, ()))), true), ((true : Bool), true), ((true : Bool), true)])) := by kernel_rfl
theorem e95_6 (x0 : Int) (x0' : Int) (x0'' : Int) (x1 : Int) (x1' : Int) (x1'' : Int) : runPure kf135.orc Go.Proofs.Try.prog 400 95 as95 rs95 ((x0, x0', x0'', ()), (x1, x1', x1'', ()), ()) [true, true, true, true, true, true, true, true, false, true, true, true, true, true, false, true, true, true, true, true, true, false] =
    (let r0 : (Int × Int × PUnit) × PUnit := g108 (x1, (x0, ())); let r1 : Bool × PUnit := g135 (((r0.fst.fst : Int), ((r0.fst.snd.fst : Int), ())), (((r0.fst.fst : Int), ((r0.fst.snd.fst : Int), ())), ())); let r2 : (Int × Int × PUnit) × PUnit := g108 (x1', (x0', ())); let r3 : Bool × PUnit := g135 (((r2.fst.fst : Int), ((r2.fst.snd.fst : Int), ())), (((r0.fst.fst : Int), ((r0.fst.snd.fst : Int), ())), ())); let r4 : (Int × Int × PUnit) × PUnit := g108 (x1'', (x0'', ())); let r6 : Bool × PUnit := g135 (((r4.fst.fst : Int), ((r4.fst.snd.fst : Int), ())), (((r0.fst.fst : Int), ((r0.fst.snd.fst : Int), ())), ())); some ((((r4.fst.fst : Int), ((r4.fst.snd.fst : Int), ())), ()), [((false : Bool), false), ((r6.fst : Bool), true), (Option.isSome (f135 (((r4.fst.fst : Int), ((r4.fst.snd.fst : Int), ())), (((r0.fst.fst : Int), ((r0.fst.snd.fst : Int), ())), ()))), true), (Option.isSome (f108 (x1'', (x0'', ()))), true), ((true : Bool), true), ((true : Bool), true), ((true : Bool), true), ((r3.fst : Bool), false), (Option.isSome (f135 (((r2.fst.fst : Int), ((r2.fst.snd.fst : Int), ())), (((r0.fst.fst : Int), ((r0.fst.snd.fst : Int), ())), ()))), true), (Option.isSome (f108 (x1', (x0', ()))), true), ((true : Bool), true), ((true : Bool), true), ((true : Bool), true), ((r1.fst : Bool), false), (Option.isSome (f135 (((r0.fst.fst : Int), ((r0.fst.snd.fst : Int), ())), (((r0.fst.fst : Int), ((r0.fst.snd.fst : Int), ())), ()))), true), (Option.isSome (f108 (x1, (x0, ()))), true), ((true : Bool), true), ((true : Bool), true), ((true : Bool), true), (Option.isSome (f108 (x1, (x0, ()))), true), ((true : Bool), true), ((true : Bool), true)])) := by kernel_rfl
theorem e95_7 (x0 : Int) (x0' : Int) (x0'' : Int) (x1 : Int) (x1' : Int) (x1'' : Int) : runPure kf135.orc Go.Proofs.Try.prog 400 95 as95 rs95 ((x0, x0', x0'', ()), (x1, x1', x1'', ()), ()) [true, true, true, true, true, true, true, true, false, true, true, true, true, true, false, true, true, true, true, true, false, false] =
    (let r0 : (Int × Int × PUnit) × PUnit := g108 (x1, (x0, ())); let r1 : Bool × PUnit := g135 (((r0.fst.fst : Int), ((r0.fst.snd.fst : Int), ())), (((r0.fst.fst : Int), ((r0.fst.snd.fst : Int), ())), ())); let r2 : (Int × Int × PUnit) × PUnit := g108 (x1', (x0', ())); let r3 : Bool × PUnit := g135 (((r2.fst.fst : Int), ((r2.fst.snd.fst : Int), ())), (((r0.fst.fst : Int), ((r0.fst.snd.fst : Int), ())), ())); let r4 : (Int × Int × PUnit) × PUnit := g108 (x1'', (x0'', ())); let r6 : Bool × PUnit := g135 (((r4.fst.fst : Int), ((r4.fst.snd.fst : Int), ())), (((r0.fst.fst : Int), ((r0.fst.snd.fst : Int), ())), ())); some ((((r0.fst.fst : Int), ((r0.fst.snd.fst : Int), ())), ()), [((false : Bool), false), ((r6.fst : Bool), false), (Option.isSome (f135 (((r4.fst.fst : Int), ((r4.fst.snd.fst : Int), ())), (((r0.fst.fst : Int), ((r0.fst.snd.fst : Int), ())), ()))), true), (Option.isSome (f108 (x1'', (x0'', ()))), true), ((true : Bool), true), ((true : Bool), true), ((true : Bool), true), ((r3.fst : Bool), false), (Option.isSome (f135 (((r2.fst.fst : Int), ((r2.fst.snd.fst : Int), ())), (((r0.fst.fst : Int), ((r0.fst.snd.fst : Int), ())), ()))), true), (Option.isSome (f108 (x1', (x0', ()))), true), ((true : Bool), true), ((true : Bool), true), ((true : Bool), true), ((r1.fst : Bool), false), (Option.isSome (f135 (((r0.fst.fst : Int), ((r0.fst.snd.fst : Int), ())), (((r0.fst.fst : Int), ((r0.fst.snd.fst : Int), ())), ()))), true), (Option.isSome (f108 (x1, (x0, ()))), true), ((true : Bool), true), ((true : Bool), true), ((true : Bool), true), (Option.isSome (f108 (x1, (x0, ()))), true), ((true : Bool), true), ((true : Bool), true)])) := by kernel_rfl

theorem ok95_t (x0 : Int) (x0' : Int) (x0'' : Int) (x1 : Int) (x1' : Int) (x1'' : Int) : TrOk (PureRuns Go.Proofs.Try.prog kf135.orc 95 as95 rs95 ((x0, x0', x0'', ()), (x1, x1', x1'', ()), ())) (t95 x0 x0' x0'' x1 x1' x1'') :=
  TrOk.ofTest (fun h2 => TrOk.ofTest (fun h7 => TrOk.ofTest (fun h8 => TrOk.ofTest (fun h12 => TrOk.ofTest (fun h13 => TrOk.ofTest (fun h14 => TrOk.ofTest (fun h18 => TrOk.ofTest (fun h19 => TrOk.ofTest (fun h20 => TrOk.ofFin (PureRuns.of (e95_0 x0 x0' x0'' x1 x1' x1'') (All.cons rfl (All.cons h20 (All.cons h19 (All.cons h18 (All.cons rfl (All.cons rfl (All.cons rfl (All.cons h14 (All.cons h13 (All.cons h12 (All.cons rfl (All.cons rfl (All.cons rfl (All.cons h8 (All.cons h7 (All.cons h2 (All.cons rfl (All.cons rfl (All.cons rfl (All.cons h2 (All.cons rfl (All.cons rfl (All.nil))))))))))))))))))))))))) (fun h20 => TrOk.ofFin (PureRuns.of (e95_1 x0 x0' x0'' x1 x1' x1'') (All.cons rfl (All.cons h20 (All.cons h19 (All.cons h18 (All.cons rfl (All.cons rfl (All.cons rfl (All.cons h14 (All.cons h13 (All.cons h12 (All.cons rfl (All.cons rfl (All.cons rfl (All.cons h8 (All.cons h7 (All.cons h2 (All.cons rfl (All.cons rfl (All.cons rfl (All.cons h2 (All.cons rfl (All.cons rfl (All.nil)))))))))))))))))))))))))) (fun h19 => TrOk.ofStop)) (fun h18 => TrOk.ofStop)) (fun h14 => TrOk.ofTest (fun h18 => TrOk.ofTest (fun h19 => TrOk.ofTest (fun h20 => TrOk.ofFin (PureRuns.of (e95_2 x0 x0' x0'' x1 x1' x1'') (All.cons rfl (All.cons h20 (All.cons h19 (All.cons h18 (All.cons rfl (All.cons rfl (All.cons rfl (All.cons h14 (All.cons h13 (All.cons h12 (All.cons rfl (All.cons rfl (All.cons rfl (All.cons h8 (All.cons h7 (All.cons h2 (All.cons rfl (All.cons rfl (All.cons rfl (All.cons h2 (All.cons rfl (All.cons rfl (All.nil))))))))))))))))))))))))) (fun h20 => TrOk.ofFin (PureRuns.of (e95_3 x0 x0' x0'' x1 x1' x1'') (All.cons rfl (All.cons h20 (All.cons h19 (All.cons h18 (All.cons rfl (All.cons rfl (All.cons rfl (All.cons h14 (All.cons h13 (All.cons h12 (All.cons rfl (All.cons rfl (All.cons rfl (All.cons h8 (All.cons h7 (All.cons h2 (All.cons rfl (All.cons rfl (All.cons rfl (All.cons h2 (All.cons rfl (All.cons rfl (All.nil)))))))))))))))))))))))))) (fun h19 => TrOk.ofStop)) (fun h18 => TrOk.ofStop))) (fun h13 => TrOk.ofStop)) (fun h12 => TrOk.ofStop)) (fun h8 => TrOk.ofTest (fun h12 => TrOk.ofTest (fun h13 => TrOk.ofTest (fun h14 => TrOk.ofTest (fun h18 => TrOk.ofTest (fun h19 => TrOk.ofTest (fun h20 => TrOk.ofFin (PureRuns.of (e95_4 x0 x0' x0'' x1 x1' x1'') (All.cons rfl (All.cons h20 (All.cons h19 (All.cons h18 (All.cons rfl (All.cons rfl (All.cons rfl (All.cons h14 (All.cons h13 (All.cons h12 (All.cons rfl (All.cons rfl (All.cons rfl (All.cons h8 (All.cons h7 (All.cons h2 (All.cons rfl (All.cons rfl (All.cons rfl (All.cons h2 (All.cons rfl (All.cons rfl (All.nil))))))))))))))))))))))))) (fun h20 => TrOk.ofFin (PureRuns.of (e95_5 x0 x0' x0'' x1 x1' x1'') (All.cons rfl (All.cons h20 (All.cons h19 (All.cons h18 (All.cons rfl (All.cons rfl (All.cons rfl (All.cons h14 (All.cons h13 (All.cons h12 (All.cons rfl (All.cons rfl (All.cons rfl (All.cons h8 (All.cons h7 (All.cons h2 (All.cons rfl (All.cons rfl (All.cons rfl (All.cons h2 (All.cons rfl (All.cons rfl (All.nil)))))))))))))))))))))))))) (fun h19 => TrOk.ofStop)) (fun h18 => TrOk.ofStop)) (fun h14 => TrOk.ofTest (fun h18 => TrOk.ofTest (fun h19 => TrOk.ofTest (fun h20 => TrOk.ofFin (PureRuns.of (e95_6 x0 x0' x0'' x1 x1' x1'') (All.cons rfl (All.cons h20 (All.cons h19 (All.cons h18 (All.cons rfl (All.cons rfl (All.cons rfl (All.cons h14 (All.cons h13 (All.cons h12 (All.cons rfl (All.cons rfl (All.cons rfl (All.cons h8 (All.cons h7 (All.cons h2 (All.cons rfl (All.cons rfl (All.cons rfl (All.cons h2 (All.cons rfl (All.cons rfl (All.nil))))))))))))))))))))))))) (fun h20 => TrOk.ofFin (PureRuns.of (e95_7 x0 x0' x0'' x1 x1' x1'') (All.cons rfl (All.cons h20 (All.cons h19 (All.cons h18 (All.cons rfl (All.cons rfl (All.cons rfl (All.cons h14 (All.cons h13 (All.cons h12 (All.cons rfl (All.cons rfl (All.cons rfl (All.cons h8 (All.cons h7 (All.cons h2 (All.cons rfl (All.cons rfl (All.cons rfl (All.cons h2 (All.cons rfl (All.cons rfl (All.nil)))))))))))))))))))))))))) (fun h19 => TrOk.ofStop)) (fun h18 => TrOk.ofStop))) (fun h13 => TrOk.ofStop)) (fun h12 => TrOk.ofStop))) (fun h7 => TrOk.ofStop)) (fun h2 => TrOk.ofStop)

theorem ok95 : PureOk Go.Proofs.Try.prog 95 p95 := pureOk_of kf135_ok.base (T := fun (d : Tys.data as95) => t95 d.1.1 d.1.2.1 d.1.2.2.1 d.2.1.1 d.2.1.2.1 d.2.1.2.2.1) (by kernel_rfl) (fun (d : Tys.data as95) => ok95_t d.1.1 d.1.2.1 d.1.2.2.1 d.2.1.1 d.2.1.2.1 d.2.1.2.2.1)
def kf95 : Known := kf135.func 95 p95
theorem kf95_ok : KnownOk Go.Proofs.Try.prog kf95 := kf135_ok.func ok95

/-! ductility/motion.GreatestScale -/

abbrev as28 : List Ty := [(.pair (.int .i64) (.pair (.slice (.int .i64)) .unit)), (.pair (.int .i64) (.pair (.int .i64) (.pair (.int .i64) .unit)))]
abbrev rs28 : List Ty := [(.pair (.int .i64) (.pair (.int .i64) .unit)), (.int .i64)]

def t28 (x0 : Int) (x0' : (List Int)) (x1 : Int) (x1' : Int) (x1'' : Int) : Tr (Tys.data rs28) :=
  Tr.test (Option.isSome (f93 ((x1, (x1', (x1'', ()))), ())))
    (Tr.test (Option.isSome (f92 (x0', ())))
      (Tr.test (Option.isSome (f88 ((x0, (x0', ())), ())))
        (let r0 : (Int × Int × Int × PUnit) × PUnit := g93 ((x1, (x1', (x1'', ()))), ());
        Tr.test (Option.isSome (f94 ((0 : Int), ((1000000 : Int), (([r0.fst.fst, r0.fst.snd.fst, r0.fst.snd.snd.fst] : List Int), ())))))
          (let r3 : Bool × PUnit := g94 ((0 : Int), ((1000000 : Int), (([r0.fst.fst, r0.fst.snd.fst, r0.fst.snd.snd.fst] : List Int), ())));
          Tr.test (Option.isSome (f86 ((!r3.fst : Bool), ((2 : Int), ()))))
            (let r1 : (Int × Int × Int × PUnit) × PUnit := g92 (x0', ());
            Tr.test (Option.isSome (f86 ((r1.fst.fst == (0 : Int) && (r1.fst.snd.fst == (0 : Int) && (r1.fst.snd.snd.fst == (0 : Int) && true)) : Bool), ((12 : Int), ()))))
              (let r2 : Int × PUnit := g88 ((x0, (x0', ())), ());
              let r4 : Int × PUnit := g86 ((!r3.fst : Bool), ((2 : Int), ()));
              let r5 : Int × PUnit := g86 ((r1.fst.fst == (0 : Int) && (r1.fst.snd.fst == (0 : Int) && (r1.fst.snd.snd.fst == (0 : Int) && true)) : Bool), ((12 : Int), ()));
              Tr.test (Option.isSome (f85 (([r2.fst, r4.fst, r5.fst] : List Int), ())))
                (let r6 : Int × PUnit := g85 (([r2.fst, r4.fst, r5.fst] : List Int), ());
                Tr.test ((!eqF r6.fst (0 : Int) : Bool))
                  (Tr.fin ((((0 : Int), ((0 : Int), ())), ((r6.fst : Int), ()))))
                  (Tr.test (Option.isSome (f95 (((r1.fst.fst : Int), ((r1.fst.snd.fst : Int), ((r1.fst.snd.snd.fst : Int), ()))), (((r0.fst.fst : Int), ((r0.fst.snd.fst : Int), ((r0.fst.snd.snd.fst : Int), ()))), ()))))
                    (let r7 : (Int × Int × PUnit) × PUnit := g95 (((r1.fst.fst : Int), ((r1.fst.snd.fst : Int), ((r1.fst.snd.snd.fst : Int), ()))), (((r0.fst.fst : Int), ((r0.fst.snd.fst : Int), ((r0.fst.snd.snd.fst : Int), ()))), ()));
                    Tr.fin ((((r7.fst.fst : Int), ((r7.fst.snd.fst : Int), ())), ((0 : Int), ()))))
                    (Tr.stop)))
                (Tr.stop))
              (Tr.stop))
            (Tr.stop))
          (Tr.stop))
        (Tr.stop))
      (Tr.stop))
    (Tr.stop)

def f28 (d : Tys.data as28) : Option (Tys.data rs28) := (t28 d.1.1 d.1.2.1 d.2.1.1 d.2.1.2.1 d.2.1.2.2.1).val
def g28 (d : Tys.data as28) : Tys.data rs28 := (f28 d).getD (Tys.dflt rs28)
def p28 : PureC := pcOf as28 rs28 f28 g28

theorem e28_0 (x0 : Int) (x0' : (List Int)) (x1 : Int) (x1' : Int) (x1'' : Int) : runPure kf95.orc Go.Proofs.Try.prog 400 28 as28 rs28 ((x0, x0', ()), (x1, x1', x1'', ()), ()) [true, true, true, true, true, true, true, true, true, true] =
    (let r0 : (Int × Int × Int × PUnit) × PUnit := g93 ((x1, (x1', (x1'', ()))), ()); let r3 : Bool × PUnit := g94 ((0 : Int), ((1000000 : Int), (([r0.fst.fst, r0.fst.snd.fst, r0.fst.snd.snd.fst] : List Int), ()))); let r1 : (Int × Int × Int × PUnit) × PUnit := g92 (x0', ()); let r2 : Int × PUnit := g88 ((x0, (x0', ())), ()); let r4 : Int × PUnit := g86 ((!r3.fst : Bool), ((2 : Int), ())); let r5 : Int × PUnit := g86 ((r1.fst.fst == (0 : Int) && (r1.fst.snd.fst == (0 : Int) && (r1.fst.snd.snd.fst == (0 : Int) && true)) : Bool), ((12 : Int), ())); let r6 : Int × PUnit := g85 (([r2.fst, r4.fst, r5.fst] : List Int), ()); some ((((0 : Int), ((0 : Int), ())), ((r6.fst : Int), ())), [((!eqF r6.fst (0 : Int) : Bool), true), (Option.isSome (f85 (([r2.fst, r4.fst, r5.fst] : List Int), ())), true), ((true : Bool), true), (Option.isSome (f86 ((r1.fst.fst == (0 : Int) && (r1.fst.snd.fst == (0 : Int) && (r1.fst.snd.snd.fst == (0 : Int) && true)) : Bool), ((12 : Int), ()))), true), (Option.isSome (f86 ((!r3.fst : Bool), ((2 : Int), ()))), true), (Option.isSome (f94 ((0 : Int), ((1000000 : Int), (([r0.fst.fst, r0.fst.snd.fst, r0.fst.snd.snd.fst] : List Int), ())))), true), ((true : Bool), true), (Option.isSome (f88 ((x0, (x0', ())), ())), true), (Option.isSome (f92 (x0', ())), true), (Option.isSome (f93 ((x1, (x1', (x1'', ()))), ())), true)])) := by kernel_rfl
theorem e28_1 (x0 : Int) (x0' : (List Int)) (x1 : Int) (x1' : Int) (x1'' : Int) : runPure kf95.orc Go.Proofs.Try.prog 400 28 as28 rs28 ((x0, x0', ()), (x1, x1', x1'', ()), ()) [true, true, true, true, true, true, true, true, true, false, true] =
    (let r0 : (Int × Int × Int × PUnit) × PUnit := g93 ((x1, (x1', (x1'', ()))), ()); let r3 : Bool × PUnit := g94 ((0 : Int), ((1000000 : Int), (([r0.fst.fst, r0.fst.snd.fst, r0.fst.snd.snd.fst] : List Int), ()))); let r1 : (Int × Int × Int × PUnit) × PUnit := g92 (x0', ()); let r2 : Int × PUnit := g88 ((x0, (x0', ())), ()); let r4 : Int × PUnit := g86 ((!r3.fst : Bool), ((2 : Int), ())); let r5 : Int × PUnit := g86 ((r1.fst.fst == (0 : Int) && (r1.fst.snd.fst == (0 : Int) && (r1.fst.snd.snd.fst == (0 : Int) && true)) : Bool), ((12 : Int), ())); let r6 : Int × PUnit := g85 (([r2.fst, r4.fst, r5.fst] : List Int), ()); let r7 : (Int × Int × PUnit) × PUnit := g95 (((r1.fst.fst : Int), ((r1.fst.snd.fst : Int), ((r1.fst.snd.snd.fst : Int), ()))), (((r0.fst.fst : Int), ((r0.fst.snd.fst : Int), ((r0.fst.snd.snd.fst : Int), ()))), ())); some ((((r7.fst.fst : Int), ((r7.fst.snd.fst : Int), ())), ((0 : Int), ())), [(Option.isSome (f95 (((r1.fst.fst : Int), ((r1.fst.snd.fst : Int), ((r1.fst.snd.snd.fst : Int), ()))), (((r0.fst.fst : Int), ((r0.fst.snd.fst : Int), ((r0.fst.snd.snd.fst : Int), ()))), ()))), true), ((!eqF r6.fst (0 : Int) : Bool), false), (Option.isSome (f85 (([r2.fst, r4.fst, r5.fst] : List Int), ())), true), ((true : Bool), true), (Option.isSome (f86 ((r1.fst.fst == (0 : Int) && (r1.fst.snd.fst == (0 : Int) && (r1.fst.snd.snd.fst == (0 : Int) && true)) : Bool), ((12 : Int), ()))), true), (Option.isSome (f86 ((!r3.fst : Bool), ((2 : Int), ()))), true), (Option.isSome (f94 ((0 : Int), ((1000000 : Int), (([r0.fst.fst, r0.fst.snd.fst, r0.fst.snd.snd.fst] : List Int), ())))), true), ((true : Bool), true), (Option.isSome (f88 ((x0, (x0', ())), ())), true), (Option.isSome (f92 (x0', ())), true), (Option.isSome (f93 ((x1, (x1', (x1'', ()))), ())), true)])) := by kernel_rfl

theorem ok28_t (x0 : Int) (x0' : (List Int)) (x1 : Int) (x1' : Int) (x1'' : Int) : TrOk (PureRuns Go.Proofs.Try.prog kf95.orc 28 as28 rs28 ((x0, x0', ()), (x1, x1', x1'', ()), ())) (t28 x0 x0' x1 x1' x1'') :=
  TrOk.ofTest (fun h0 => TrOk.ofTest (fun h1 => TrOk.ofTest (fun h2 => TrOk.ofTest (fun h4 => TrOk.ofTest (fun h5 => TrOk.ofTest (fun h6 => TrOk.ofTest (fun h8 => TrOk.ofTest (fun h9 => TrOk.ofFin (PureRuns.of (e28_0 x0 x0' x1 x1' x1'') (All.cons h9 (All.cons h8 (All.cons rfl (All.cons h6 (All.cons h5 (All.cons h4 (All.cons rfl (All.cons h2 (All.cons h1 (All.cons h0 (All.nil))))))))))))) (fun h9 => TrOk.ofTest (fun h10 => TrOk.ofFin (PureRuns.of (e28_1 x0 x0' x1 x1' x1'') (All.cons h10 (All.cons h9 (All.cons h8 (All.cons rfl (All.cons h6 (All.cons h5 (All.cons h4 (All.cons rfl (All.cons h2 (All.cons h1 (All.cons h0 (All.nil)))))))))))))) (fun h10 => TrOk.ofStop))) (fun h8 => TrOk.ofStop)) (fun h6 => TrOk.ofStop)) (fun h5 => TrOk.ofStop)) (fun h4 => TrOk.ofStop)) (fun h2 => TrOk.ofStop)) (fun h1 => TrOk.ofStop)) (fun h0 => TrOk.ofStop)

theorem ok28 : PureOk Go.Proofs.Try.prog 28 p28 := pureOk_of kf95_ok.base (T := fun (d : Tys.data as28) => t28 d.1.1 d.1.2.1 d.2.1.1 d.2.1.2.1 d.2.1.2.2.1) (by kernel_rfl) (fun (d : Tys.data as28) => ok28_t d.1.1 d.1.2.1 d.2.1.1 d.2.1.2.1 d.2.1.2.2.1)
def kf28 : Known := kf95.func 28 p28
theorem kf28_ok : KnownOk Go.Proofs.Try.prog kf28 := kf95_ok.func ok28

/-! ductility/ductilitybase.Within -/

abbrev as47 : List Ty := [(.int .i64), (.int .i64), (.int .i64)]
abbrev rs47 : List Ty := [.bool]

def t47 (x0 : Int) (x1 : Int) (x2 : Int) : Tr (Tys.data rs47) :=
  Tr.test ((leF x1 x0 : Bool))
    (Tr.fin (((leF x0 x2 : Bool), ())))
    (Tr.fin (((false : Bool), ())))

def f47 (d : Tys.data as47) : Option (Tys.data rs47) := (t47 d.1 d.2.1 d.2.2.1).val
def g47 (d : Tys.data as47) : Tys.data rs47 := (f47 d).getD (Tys.dflt rs47)
def p47 : PureC := pcOf as47 rs47 f47 g47

theorem e47_0 (x0 : Int) (x1 : Int) (x2 : Int) : runPure kf28.orc Go.Proofs.Try.prog 400 47 as47 rs47 (x0, x1, x2, ()) [true, true, true, true] =
    (some (((leF x0 x2 : Bool), ()), [((leF x1 x0 : Bool), true), ((leF x1 x0 : Bool), true), ((leF x1 x0 : Bool), true), ((leF x1 x0 : Bool), true)])) := by kernel_rfl
theorem e47_1 (x0 : Int) (x1 : Int) (x2 : Int) : runPure kf28.orc Go.Proofs.Try.prog 400 47 as47 rs47 (x0, x1, x2, ()) [false, false, false, false] =
    (some (((false : Bool), ()), [((leF x1 x0 : Bool), false), ((leF x1 x0 : Bool), false), ((leF x1 x0 : Bool), false), ((leF x1 x0 : Bool), false)])) := by kernel_rfl

theorem ok47_t (x0 : Int) (x1 : Int) (x2 : Int) : TrOk (PureRuns Go.Proofs.Try.prog kf28.orc 47 as47 rs47 (x0, x1, x2, ())) (t47 x0 x1 x2) :=
  TrOk.ofTest (fun h0 => TrOk.ofFin (PureRuns.of (e47_0 x0 x1 x2) (All.cons h0 (All.cons h0 (All.cons h0 (All.cons h0 (All.nil))))))) (fun h0 => TrOk.ofFin (PureRuns.of (e47_1 x0 x1 x2) (All.cons h0 (All.cons h0 (All.cons h0 (All.cons h0 (All.nil)))))))

theorem ok47 : PureOk Go.Proofs.Try.prog 47 p47 := pureOk_of kf28_ok.base (T := fun (d : Tys.data as47) => t47 d.1 d.2.1 d.2.2.1) (by kernel_rfl) (fun (d : Tys.data as47) => ok47_t d.1 d.2.1 d.2.2.1)
def kf47 : Known := kf28.func 47 p47
theorem kf47_ok : KnownOk Go.Proofs.Try.prog kf47 := kf28_ok.func ok47

/-! ductility/ductilityref02.IsSample -/

abbrev as54 : List Ty := [(.int .i64)]
abbrev rs54 : List Ty := [.bool]

def t54 (x0 : Int) : Tr (Tys.data rs54) :=
  Tr.test (Option.isSome (f47 (x0, ((-1000 : Int), ((1000 : Int), ())))))
    (let r0 : Bool × PUnit := g47 (x0, ((-1000 : Int), ((1000 : Int), ())));
    Tr.fin (((r0.fst : Bool), ())))
    (Tr.stop)

def f54 (d : Tys.data as54) : Option (Tys.data rs54) := (t54 d.1).val
def g54 (d : Tys.data as54) : Tys.data rs54 := (f54 d).getD (Tys.dflt rs54)
def p54 : PureC := pcOf as54 rs54 f54 g54

theorem e54_0 (x0 : Int) : runPure kf47.orc Go.Proofs.Try.prog 400 54 as54 rs54 (x0, ()) [true] =
    (let r0 : Bool × PUnit := g47 (x0, ((-1000 : Int), ((1000 : Int), ()))); some (((r0.fst : Bool), ()), [(Option.isSome (f47 (x0, ((-1000 : Int), ((1000 : Int), ())))), true)])) := by kernel_rfl

theorem ok54_t (x0 : Int) : TrOk (PureRuns Go.Proofs.Try.prog kf47.orc 54 as54 rs54 (x0, ())) (t54 x0) :=
  TrOk.ofTest (fun h0 => TrOk.ofFin (PureRuns.of (e54_0 x0) (All.cons h0 (All.nil)))) (fun h0 => TrOk.ofStop)

theorem ok54 : PureOk Go.Proofs.Try.prog 54 p54 := pureOk_of kf47_ok.base (T := fun (d : Tys.data as54) => t54 d.1) (by kernel_rfl) (fun (d : Tys.data as54) => ok54_t d.1)
def kf54 : Known := kf47.func 54 p54
theorem kf54_ok : KnownOk Go.Proofs.Try.prog kf54 := kf47_ok.func ok54

/-! loop 0 of ductility/ductilityref02.CheckRecord -/

abbrev sh22_0 : Sh := { n := 32, slots := [1, 4], pats := [.ptr 0 2 0, .ty (.int .i64)], boxes := [.row [.ty (.int .i64), .ty (.slice (.int .i64))]] }
abbrev shb22_0 : Sh := { n := 32, slots := [], pats := [], boxes := [.row [.ty (.int .i64), .ty (.slice (.int .i64))]] }
abbrev shr22_0 : Sh := { n := 32, slots := [2, 3], pats := [.ty (.int .i64), .ty (.int .i64)], boxes := [.row [.ty (.int .i64), .ty (.slice (.int .i64))]] }

def t22_0 (x1 : Int) (b0_0 : Int) (b0_1 : (List Int)) : Tr (Out sh22_0.data shb22_0.data shr22_0.data) :=
  Tr.test ((!leF (↑(List.length b0_1) : Int) x1 : Bool))
    (Tr.test ((decide ((0 : Int) ≤ x1) && decide (x1 < (↑(List.length b0_1) : Int)) : Bool))
      (Tr.test (Option.isSome (f54 ((List.getD b0_1 (Int.toNat x1) (0 : Int) : Int), ())))
        (let r0 : Bool × PUnit := g54 ((List.getD b0_1 (Int.toNat x1) (0 : Int) : Int), ());
        Tr.test ((!r0.fst : Bool))
          (Tr.fin (.ret ((x1, ((2 : Int), ())), ((b0_0, (b0_1, ())), ()))))
          (Tr.fin (.again (((wrap64 (x1 + (1 : Int)) : Int), ()), ((b0_0, (b0_1, ())), ())))))
        (Tr.stop))
      (Tr.stop /- none [op 3 of region 10 of F22] -/))
    (Tr.fin (.brk ((), ((b0_0, (b0_1, ())), ()))))

def s22_0 (d : sh22_0.data) : Option (Out sh22_0.data shb22_0.data shr22_0.data) := (t22_0 d.1.1 d.2.1.1 d.2.1.2.1).val
def l22_0 (d : sh22_0.data) : Option (shb22_0.data ⊕ shr22_0.data) := itr s22_0 rounds d
def b22_0 (d : sh22_0.data) : shb22_0.data := outB shb22_0.dflt (l22_0 d)
def r22_0 (d : sh22_0.data) : shr22_0.data := outR shr22_0.dflt (l22_0 d)
def lc22_0 : LoopC := lcOf sh22_0 shb22_0 shr22_0 l22_0 b22_0 r22_0

theorem e22_0_0 (x1 : Int) (b0_0 : Int) (b0_1 : (List Int)) : runBody kf54.orc Go.Proofs.Try.prog 400 22 0 sh22_0 shb22_0 shr22_0 ((x1, ()), (b0_0, b0_1, ()), ()) [true, true, true, true] =
    (let r0 : Bool × PUnit := g54 ((List.getD b0_1 (Int.toNat x1) (0 : Int) : Int), ()); some (.ret ((x1, ((2 : Int), ())), ((b0_0, (b0_1, ())), ())), [((!r0.fst : Bool), true), (Option.isSome (f54 ((List.getD b0_1 (Int.toNat x1) (0 : Int) : Int), ())), true), ((decide ((0 : Int) ≤ x1) && decide (x1 < (↑(List.length b0_1) : Int)) : Bool), true), ((!leF (↑(List.length b0_1) : Int) x1 : Bool), true)])) := by kernel_rfl
theorem e22_0_1 (x1 : Int) (b0_0 : Int) (b0_1 : (List Int)) : runBody kf54.orc Go.Proofs.Try.prog 400 22 0 sh22_0 shb22_0 shr22_0 ((x1, ()), (b0_0, b0_1, ()), ()) [true, true, true, false] =
    (let r0 : Bool × PUnit := g54 ((List.getD b0_1 (Int.toNat x1) (0 : Int) : Int), ()); some (.again (((wrap64 (x1 + (1 : Int)) : Int), ()), ((b0_0, (b0_1, ())), ())), [((!r0.fst : Bool), false), (Option.isSome (f54 ((List.getD b0_1 (Int.toNat x1) (0 : Int) : Int), ())), true), ((decide ((0 : Int) ≤ x1) && decide (x1 < (↑(List.length b0_1) : Int)) : Bool), true), ((!leF (↑(List.length b0_1) : Int) x1 : Bool), true)])) := by kernel_rfl
theorem e22_0_3 (x1 : Int) (b0_0 : Int) (b0_1 : (List Int)) : runBody kf54.orc Go.Proofs.Try.prog 400 22 0 sh22_0 shb22_0 shr22_0 ((x1, ()), (b0_0, b0_1, ()), ()) [false] =
    (some (.brk ((), ((b0_0, (b0_1, ())), ())), [((!leF (↑(List.length b0_1) : Int) x1 : Bool), false)])) := by kernel_rfl

theorem ok22_0_t (x1 : Int) (b0_0 : Int) (b0_1 : (List Int)) : TrOk (BodyRuns Go.Proofs.Try.prog kf54.orc 22 0 sh22_0 shb22_0 shr22_0 ((x1, ()), (b0_0, b0_1, ()), ())) (t22_0 x1 b0_0 b0_1) :=
  TrOk.ofTest (fun h0 => TrOk.ofTest (fun h1 => TrOk.ofTest (fun h2 => TrOk.ofTest (fun h3 => TrOk.ofFin (BodyRuns.of (e22_0_0 x1 b0_0 b0_1) (All.cons h3 (All.cons h2 (All.cons h1 (All.cons h0 (All.nil))))))) (fun h3 => TrOk.ofFin (BodyRuns.of (e22_0_1 x1 b0_0 b0_1) (All.cons h3 (All.cons h2 (All.cons h1 (All.cons h0 (All.nil)))))))) (fun h2 => TrOk.ofStop)) (fun h1 => TrOk.ofStop)) (fun h0 => TrOk.ofFin (BodyRuns.of (e22_0_3 x1 b0_0 b0_1) (All.cons h0 (All.nil))))

theorem ok22_0 : LoopOk Go.Proofs.Try.prog 22 0 lc22_0 := loopOk_of kf54_ok.base (T := fun (d : sh22_0.data) => t22_0 d.1.1 d.2.1.1 d.2.1.2.1) (by kernel_rfl) rfl (fun (d : sh22_0.data) => ok22_0_t d.1.1 d.2.1.1 d.2.1.2.1) (fun _ => rfl)
def kl22_0 : Known := kf54.loop 22 0 lc22_0
theorem kl22_0_ok : KnownOk Go.Proofs.Try.prog kl22_0 := kf54_ok.loop ok22_0

/-! ductility/ductilityref02.CheckRecord -/

abbrev as22 : List Ty := [(.pair (.int .i64) (.pair (.slice (.int .i64)) .unit))]
abbrev rs22 : List Ty := [(.int .i64), (.int .i64)]

def t22 (x0 : Int) (x0' : (List Int)) : Tr (Tys.data rs22) :=
  Tr.test (Option.isSome (f47 (x0, ((1 : Int), ((1000000 : Int), ())))))
    (let r0 : Bool × PUnit := g47 (x0, ((1 : Int), ((1000000 : Int), ())));
    Tr.test ((!r0.fst : Bool))
      (Tr.fin (((0 : Int), ((2 : Int), ()))))
      (Tr.test ((!leF (2 : Int) (↑(List.length x0') : Int) : Bool))
        (Tr.fin (((0 : Int), ((10 : Int), ()))))
        (Tr.test ((!leF (↑(List.length x0') : Int) (24 : Int) : Bool))
          (Tr.fin (((0 : Int), ((8 : Int), ()))))
          (Tr.test (Option.isSome (l22_0 (((0 : Int), ()), ((x0, (x0', ())), ()))))
            (Tr.test (isRet (l22_0 (((0 : Int), ()), ((x0, (x0', ())), ()))))
              (let r1 : (Int × Int × PUnit) × (Int × List Int × PUnit) × PUnit := r22_0 (((0 : Int), ()), ((x0, (x0', ())), ()));
              Tr.fin (((r1.fst.fst : Int), ((r1.fst.snd.fst : Int), ()))))
              (Tr.fin (((0 : Int), ((0 : Int), ())))))
            (Tr.stop)))))
    (Tr.stop)

def f22 (d : Tys.data as22) : Option (Tys.data rs22) := (t22 d.1.1 d.1.2.1).val
def g22 (d : Tys.data as22) : Tys.data rs22 := (f22 d).getD (Tys.dflt rs22)
def p22 : PureC := pcOf as22 rs22 f22 g22

theorem e22_0 (x0 : Int) (x0' : (List Int)) : runPure kl22_0.orc Go.Proofs.Try.prog 400 22 as22 rs22 ((x0, x0', ()), ()) [true, true] =
    (let r0 : Bool × PUnit := g47 (x0, ((1 : Int), ((1000000 : Int), ()))); some (((0 : Int), ((2 : Int), ())), [((!r0.fst : Bool), true), (Option.isSome (f47 (x0, ((1 : Int), ((1000000 : Int), ())))), true)])) := by kernel_rfl
theorem e22_1 (x0 : Int) (x0' : (List Int)) : runPure kl22_0.orc Go.Proofs.Try.prog 400 22 as22 rs22 ((x0, x0', ()), ()) [true, false, true] =
    (let r0 : Bool × PUnit := g47 (x0, ((1 : Int), ((1000000 : Int), ()))); some (((0 : Int), ((10 : Int), ())), [((!leF (2 : Int) (↑(List.length x0') : Int) : Bool), true), ((!r0.fst : Bool), false), (Option.isSome (f47 (x0, ((1 : Int), ((1000000 : Int), ())))), true)])) := by kernel_rfl
theorem e22_2 (x0 : Int) (x0' : (List Int)) : runPure kl22_0.orc Go.Proofs.Try.prog 400 22 as22 rs22 ((x0, x0', ()), ()) [true, false, false, true] =
    (let r0 : Bool × PUnit := g47 (x0, ((1 : Int), ((1000000 : Int), ()))); some (((0 : Int), ((8 : Int), ())), [((!leF (↑(List.length x0') : Int) (24 : Int) : Bool), true), ((!leF (2 : Int) (↑(List.length x0') : Int) : Bool), false), ((!r0.fst : Bool), false), (Option.isSome (f47 (x0, ((1 : Int), ((1000000 : Int), ())))), true)])) := by kernel_rfl
theorem e22_3 (x0 : Int) (x0' : (List Int)) : runPure kl22_0.orc Go.Proofs.Try.prog 400 22 as22 rs22 ((x0, x0', ()), ()) [true, false, false, false, true, true] =
    (let r0 : Bool × PUnit := g47 (x0, ((1 : Int), ((1000000 : Int), ()))); let r1 : (Int × Int × PUnit) × (Int × List Int × PUnit) × PUnit := r22_0 (((0 : Int), ()), ((x0, (x0', ())), ())); some (((r1.fst.fst : Int), ((r1.fst.snd.fst : Int), ())), [(isRet (l22_0 (((0 : Int), ()), ((x0, (x0', ())), ()))), true), (Option.isSome (l22_0 (((0 : Int), ()), ((x0, (x0', ())), ()))), true), ((!leF (↑(List.length x0') : Int) (24 : Int) : Bool), false), ((!leF (2 : Int) (↑(List.length x0') : Int) : Bool), false), ((!r0.fst : Bool), false), (Option.isSome (f47 (x0, ((1 : Int), ((1000000 : Int), ())))), true)])) := by kernel_rfl
theorem e22_4 (x0 : Int) (x0' : (List Int)) : runPure kl22_0.orc Go.Proofs.Try.prog 400 22 as22 rs22 ((x0, x0', ()), ()) [true, false, false, false, true, false] =
    (let r0 : Bool × PUnit := g47 (x0, ((1 : Int), ((1000000 : Int), ()))); some (((0 : Int), ((0 : Int), ())), [(isRet (l22_0 (((0 : Int), ()), ((x0, (x0', ())), ()))), false), (Option.isSome (l22_0 (((0 : Int), ()), ((x0, (x0', ())), ()))), true), ((!leF (↑(List.length x0') : Int) (24 : Int) : Bool), false), ((!leF (2 : Int) (↑(List.length x0') : Int) : Bool), false), ((!r0.fst : Bool), false), (Option.isSome (f47 (x0, ((1 : Int), ((1000000 : Int), ())))), true)])) := by kernel_rfl

theorem ok22_t (x0 : Int) (x0' : (List Int)) : TrOk (PureRuns Go.Proofs.Try.prog kl22_0.orc 22 as22 rs22 ((x0, x0', ()), ())) (t22 x0 x0') :=
  TrOk.ofTest (fun h0 => TrOk.ofTest (fun h1 => TrOk.ofFin (PureRuns.of (e22_0 x0 x0') (All.cons h1 (All.cons h0 (All.nil))))) (fun h1 => TrOk.ofTest (fun h2 => TrOk.ofFin (PureRuns.of (e22_1 x0 x0') (All.cons h2 (All.cons h1 (All.cons h0 (All.nil)))))) (fun h2 => TrOk.ofTest (fun h3 => TrOk.ofFin (PureRuns.of (e22_2 x0 x0') (All.cons h3 (All.cons h2 (All.cons h1 (All.cons h0 (All.nil))))))) (fun h3 => TrOk.ofTest (fun h4 => TrOk.ofTest (fun h5 => TrOk.ofFin (PureRuns.of (e22_3 x0 x0') (All.cons h5 (All.cons h4 (All.cons h3 (All.cons h2 (All.cons h1 (All.cons h0 (All.nil))))))))) (fun h5 => TrOk.ofFin (PureRuns.of (e22_4 x0 x0') (All.cons h5 (All.cons h4 (All.cons h3 (All.cons h2 (All.cons h1 (All.cons h0 (All.nil)))))))))) (fun h4 => TrOk.ofStop))))) (fun h0 => TrOk.ofStop)

theorem ok22 : PureOk Go.Proofs.Try.prog 22 p22 := pureOk_of kl22_0_ok.base (T := fun (d : Tys.data as22) => t22 d.1.1 d.1.2.1) (by kernel_rfl) (fun (d : Tys.data as22) => ok22_t d.1.1 d.1.2.1)
def kf22 : Known := kl22_0.func 22 p22
theorem kf22_ok : KnownOk Go.Proofs.Try.prog kf22 := kl22_0_ok.func ok22

/-! ductility/ductilityref02.RecordErr -/

abbrev as29 : List Ty := [(.pair (.int .i64) (.pair (.slice (.int .i64)) .unit))]
abbrev rs29 : List Ty := [(.int .i64)]

def t29 (x0 : Int) (x0' : (List Int)) : Tr (Tys.data rs29) :=
  Tr.test (Option.isSome (f22 ((x0, (x0', ())), ())))
    (let r0 : Int × Int × PUnit := g22 ((x0, (x0', ())), ());
    Tr.fin (((r0.snd.fst : Int), ())))
    (Tr.stop)

def f29 (d : Tys.data as29) : Option (Tys.data rs29) := (t29 d.1.1 d.1.2.1).val
def g29 (d : Tys.data as29) : Tys.data rs29 := (f29 d).getD (Tys.dflt rs29)
def p29 : PureC := pcOf as29 rs29 f29 g29

theorem e29_0 (x0 : Int) (x0' : (List Int)) : runPure kf22.orc Go.Proofs.Try.prog 400 29 as29 rs29 ((x0, x0', ()), ()) [true] =
    (let r0 : Int × Int × PUnit := g22 ((x0, (x0', ())), ()); some (((r0.snd.fst : Int), ()), [(Option.isSome (f22 ((x0, (x0', ())), ())), true)])) := by kernel_rfl

theorem ok29_t (x0 : Int) (x0' : (List Int)) : TrOk (PureRuns Go.Proofs.Try.prog kf22.orc 29 as29 rs29 ((x0, x0', ()), ())) (t29 x0 x0') :=
  TrOk.ofTest (fun h0 => TrOk.ofFin (PureRuns.of (e29_0 x0 x0') (All.cons h0 (All.nil)))) (fun h0 => TrOk.ofStop)

theorem ok29 : PureOk Go.Proofs.Try.prog 29 p29 := pureOk_of kf22_ok.base (T := fun (d : Tys.data as29) => t29 d.1.1 d.1.2.1) (by kernel_rfl) (fun (d : Tys.data as29) => ok29_t d.1.1 d.1.2.1)
def kf29 : Known := kf22.func 29 p29
theorem kf29_ok : KnownOk Go.Proofs.Try.prog kf29 := kf22_ok.func ok29

/-! ductility/ductilitybase.Size -/

abbrev as131 : List Ty := [(.int .i64)]
abbrev rs131 : List Ty := [(.int .i64)]

def t131 (x0 : Int) : Tr (Tys.data rs131) :=
  Tr.fin (((if x0 < Go.IntKind.wrap Go.IntKind.i64 ((0 : Int) - x0) then Go.IntKind.wrap Go.IntKind.i64 ((0 : Int) - x0) else x0 : Int), ()))

def f131 (d : Tys.data as131) : Option (Tys.data rs131) := (t131 d.1).val
def g131 (d : Tys.data as131) : Tys.data rs131 := (f131 d).getD (Tys.dflt rs131)
def p131 : PureC := pcOf as131 rs131 f131 g131

theorem e131_0 (x0 : Int) : runPure kf29.orc Go.Proofs.Try.prog 400 131 as131 rs131 (x0, ()) [] =
    (some (((if x0 < Go.IntKind.wrap Go.IntKind.i64 ((0 : Int) - x0) then Go.IntKind.wrap Go.IntKind.i64 ((0 : Int) - x0) else x0 : Int), ()), [])) := by kernel_rfl

theorem ok131_t (x0 : Int) : TrOk (PureRuns Go.Proofs.Try.prog kf29.orc 131 as131 rs131 (x0, ())) (t131 x0) :=
  TrOk.ofFin (PureRuns.of (e131_0 x0) (All.nil))

theorem ok131 : PureOk Go.Proofs.Try.prog 131 p131 := pureOk_of kf29_ok.base (T := fun (d : Tys.data as131) => t131 d.1) (by kernel_rfl) (fun (d : Tys.data as131) => ok131_t d.1)
def kf131 : Known := kf29.func 131 p131
theorem kf131_ok : KnownOk Go.Proofs.Try.prog kf131 := kf29_ok.func ok131

/-! loop 0 of ductility/ductilityref02.Greatest -/

abbrev sh96_0 : Sh := { n := 19, slots := [0, 3, 4], pats := [.ty (.slice (.int .i64)), .ty (.int .i64), .ty (.int .i64)], boxes := [] }
abbrev shb96_0 : Sh := { n := 19, slots := [3], pats := [.ty (.int .i64)], boxes := [] }
abbrev shr96_0 : Sh := { n := 19, slots := [], pats := [], boxes := [] }

def t96_0 (x0 : (List Int)) (x1 : Int) (x2 : Int) : Tr (Out sh96_0.data shb96_0.data shr96_0.data) :=
  Tr.test ((!leF (↑(List.length x0) : Int) x2 : Bool))
    (Tr.test ((decide ((0 : Int) ≤ x2) && decide (x2 < (↑(List.length x0) : Int)) : Bool))
      (Tr.test (Option.isSome (f131 ((List.getD x0 (Int.toNat x2) (0 : Int) : Int), ())))
        (let r0 : Int × PUnit := g131 ((List.getD x0 (Int.toNat x2) (0 : Int) : Int), ());
        Tr.fin (.again ((x0, ((if x1 < r0.fst then r0.fst else x1 : Int), ((wrap64 (x2 + (1 : Int)) : Int), ()))), ())))
        (Tr.stop))
      (Tr.stop /- none [op 3 of region 5 of F96] -/))
    (Tr.fin (.brk ((x1, ()), ())))

def s96_0 (d : sh96_0.data) : Option (Out sh96_0.data shb96_0.data shr96_0.data) := (t96_0 d.1.1 d.1.2.1 d.1.2.2.1).val
def l96_0 (d : sh96_0.data) : Option (shb96_0.data ⊕ shr96_0.data) := itr s96_0 rounds d
def b96_0 (d : sh96_0.data) : shb96_0.data := outB shb96_0.dflt (l96_0 d)
def r96_0 (d : sh96_0.data) : shr96_0.data := outR shr96_0.dflt (l96_0 d)
def lc96_0 : LoopC := lcB sh96_0 shb96_0 shr96_0 l96_0 b96_0

theorem e96_0_0 (x0 : (List Int)) (x1 : Int) (x2 : Int) : runBody kf131.orc Go.Proofs.Try.prog 400 96 0 sh96_0 shb96_0 shr96_0 ((x0, x1, x2, ()), ()) [true, true, true] =
    (let r0 : Int × PUnit := g131 ((List.getD x0 (Int.toNat x2) (0 : Int) : Int), ()); some (.again ((x0, ((if x1 < r0.fst then r0.fst else x1 : Int), ((wrap64 (x2 + (1 : Int)) : Int), ()))), ()), [(Option.isSome (f131 ((List.getD x0 (Int.toNat x2) (0 : Int) : Int), ())), true), ((decide ((0 : Int) ≤ x2) && decide (x2 < (↑(List.length x0) : Int)) : Bool), true), ((!leF (↑(List.length x0) : Int) x2 : Bool), true)])) := by kernel_rfl
theorem e96_0_2 (x0 : (List Int)) (x1 : Int) (x2 : Int) : runBody kf131.orc Go.Proofs.Try.prog 400 96 0 sh96_0 shb96_0 shr96_0 ((x0, x1, x2, ()), ()) [false] =
    (some (.brk ((x1, ()), ()), [((!leF (↑(List.length x0) : Int) x2 : Bool), false)])) := by kernel_rfl

theorem ok96_0_t (x0 : (List Int)) (x1 : Int) (x2 : Int) : TrOk (BodyRuns Go.Proofs.Try.prog kf131.orc 96 0 sh96_0 shb96_0 shr96_0 ((x0, x1, x2, ()), ())) (t96_0 x0 x1 x2) :=
  TrOk.ofTest (fun h0 => TrOk.ofTest (fun h1 => TrOk.ofTest (fun h2 => TrOk.ofFin (BodyRuns.of (e96_0_0 x0 x1 x2) (All.cons h2 (All.cons h1 (All.cons h0 (All.nil)))))) (fun h2 => TrOk.ofStop)) (fun h1 => TrOk.ofStop)) (fun h0 => TrOk.ofFin (BodyRuns.of (e96_0_2 x0 x1 x2) (All.cons h0 (All.nil))))

theorem ok96_0 : LoopOk Go.Proofs.Try.prog 96 0 lc96_0 := loopOk_ofB kf131_ok.base (T := fun (d : sh96_0.data) => t96_0 d.1.1 d.1.2.1 d.1.2.2.1) (by kernel_rfl) rfl (fun (d : sh96_0.data) => ok96_0_t d.1.1 d.1.2.1 d.1.2.2.1) (fun _ => rfl)
def kl96_0 : Known := kf131.loop 96 0 lc96_0
theorem kl96_0_ok : KnownOk Go.Proofs.Try.prog kl96_0 := kf131_ok.loop ok96_0

/-! ductility/ductilityref02.Greatest -/

abbrev as96 : List Ty := [(.slice (.int .i64))]
abbrev rs96 : List Ty := [(.int .i64)]

def t96 (x0 : (List Int)) : Tr (Tys.data rs96) :=
  Tr.test (isBrk (l96_0 ((x0, ((0 : Int), ((0 : Int), ()))), ())))
    (let r0 : (Int × PUnit) × PUnit := b96_0 ((x0, ((0 : Int), ((0 : Int), ()))), ());
    Tr.fin (((r0.fst.fst : Int), ())))
    (Tr.stop)

def f96 (d : Tys.data as96) : Option (Tys.data rs96) := (t96 d.1).val
def g96 (d : Tys.data as96) : Tys.data rs96 := (f96 d).getD (Tys.dflt rs96)
def p96 : PureC := pcOf as96 rs96 f96 g96

theorem e96_0 (x0 : (List Int)) : runPure kl96_0.orc Go.Proofs.Try.prog 400 96 as96 rs96 (x0, ()) [true, true] =
    (let r0 : (Int × PUnit) × PUnit := b96_0 ((x0, ((0 : Int), ((0 : Int), ()))), ()); some (((r0.fst.fst : Int), ()), [((true : Bool), true), (isBrk (l96_0 ((x0, ((0 : Int), ((0 : Int), ()))), ())), true)])) := by kernel_rfl

theorem ok96_t (x0 : (List Int)) : TrOk (PureRuns Go.Proofs.Try.prog kl96_0.orc 96 as96 rs96 (x0, ())) (t96 x0) :=
  TrOk.ofTest (fun h0 => TrOk.ofFin (PureRuns.of (e96_0 x0) (All.cons rfl (All.cons h0 (All.nil))))) (fun h0 => TrOk.ofStop)

theorem ok96 : PureOk Go.Proofs.Try.prog 96 p96 := pureOk_of kl96_0_ok.base (T := fun (d : Tys.data as96) => t96 d.1) (by kernel_rfl) (fun (d : Tys.data as96) => ok96_t d.1)
def kf96 : Known := kl96_0.func 96 p96
theorem kf96_ok : KnownOk Go.Proofs.Try.prog kf96 := kl96_0_ok.func ok96

/-! loop 0 of ductility/ductilityref02.Sums -/

abbrev sh91_0 : Sh := { n := 23, slots := [0, 3, 4, 5], pats := [.ty (.slice (.int .i64)), .acc (.int .i64), .ty (.int .i64), .ty (.int .i64)], boxes := [] }
abbrev shb91_0 : Sh := { n := 23, slots := [3], pats := [.acc (.int .i64)], boxes := [] }
abbrev shr91_0 : Sh := { n := 23, slots := [], pats := [], boxes := [] }

def t91_0 (x0 : (List Int)) (x1 : (List Int)) (x2 : Int) (x3 : Int) : Tr (Out sh91_0.data shb91_0.data shr91_0.data) :=
  Tr.test ((!leF (↑(List.length x0) : Int) x3 : Bool))
    (Tr.test ((decide ((0 : Int) ≤ x3) && decide (x3 < (↑(List.length x0) : Int)) : Bool))
      (Tr.test ((Nat.ble (((2 : Nat) * (List.length x1 + (1 : Nat)) + (192 : Nat)) * (8 : Nat)) (281474976710656 : Nat) && Nat.ble (List.length x1 + (1 : Nat)) (281474976710656 : Nat) : Bool))
        (Tr.fin (.again ((x0, ((x1 ++ [wrap64 (x2 + List.getD x0 (Int.toNat x3) (0 : Int))] : List Int), ((wrap64 (x2 + List.getD x0 (Int.toNat x3) (0 : Int)) : Int), ((wrap64 (x3 + (1 : Int)) : Int), ())))), ())))
        (Tr.stop /- none [op 3 of region 7 of F91] -/))
      (Tr.stop /- none [op 3 of region 6 of F91] -/))
    (Tr.fin (.brk ((x1, ()), ())))

def s91_0 (d : sh91_0.data) : Option (Out sh91_0.data shb91_0.data shr91_0.data) := (t91_0 d.1.1 d.1.2.1 d.1.2.2.1 d.1.2.2.2.1).val
def l91_0 (d : sh91_0.data) : Option (shb91_0.data ⊕ shr91_0.data) := itr s91_0 rounds d
def b91_0 (d : sh91_0.data) : shb91_0.data := outB shb91_0.dflt (l91_0 d)
def r91_0 (d : sh91_0.data) : shr91_0.data := outR shr91_0.dflt (l91_0 d)
def lc91_0 : LoopC := lcB sh91_0 shb91_0 shr91_0 l91_0 b91_0

theorem e91_0_0 (x0 : (List Int)) (x1 : (List Int)) (x2 : Int) (x3 : Int) : runBody kf96.orc Go.Proofs.Try.prog 400 91 0 sh91_0 shb91_0 shr91_0 ((x0, x1, x2, x3, ()), ()) [true, true, false, true, true] =
    (some (.again ((x0, ((x1 ++ [wrap64 (x2 + List.getD x0 (Int.toNat x3) (0 : Int))] : List Int), ((wrap64 (x2 + List.getD x0 (Int.toNat x3) (0 : Int)) : Int), ((wrap64 (x3 + (1 : Int)) : Int), ())))), ()), [((true : Bool), true), ((Nat.ble (((2 : Nat) * (List.length x1 + (1 : Nat)) + (192 : Nat)) * (8 : Nat)) (281474976710656 : Nat) && Nat.ble (List.length x1 + (1 : Nat)) (281474976710656 : Nat) : Bool), true), ((false : Bool), false), ((decide ((0 : Int) ≤ x3) && decide (x3 < (↑(List.length x0) : Int)) : Bool), true), ((!leF (↑(List.length x0) : Int) x3 : Bool), true)])) := by kernel_rfl
theorem e91_0_3 (x0 : (List Int)) (x1 : (List Int)) (x2 : Int) (x3 : Int) : runBody kf96.orc Go.Proofs.Try.prog 400 91 0 sh91_0 shb91_0 shr91_0 ((x0, x1, x2, x3, ()), ()) [false] =
    (some (.brk ((x1, ()), ()), [((!leF (↑(List.length x0) : Int) x3 : Bool), false)])) := by kernel_rfl

theorem ok91_0_t (x0 : (List Int)) (x1 : (List Int)) (x2 : Int) (x3 : Int) : TrOk (BodyRuns Go.Proofs.Try.prog kf96.orc 91 0 sh91_0 shb91_0 shr91_0 ((x0, x1, x2, x3, ()), ())) (t91_0 x0 x1 x2 x3) :=
  TrOk.ofTest (fun h0 => TrOk.ofTest (fun h1 => TrOk.ofTest (fun h3 => TrOk.ofFin (BodyRuns.of (e91_0_0 x0 x1 x2 x3) (All.cons rfl (All.cons h3 (All.cons rfl (All.cons h1 (All.cons h0 (All.nil)))))))) (fun h3 => TrOk.ofStop)) (fun h1 => TrOk.ofStop)) (fun h0 => TrOk.ofFin (BodyRuns.of (e91_0_3 x0 x1 x2 x3) (All.cons h0 (All.nil))))

theorem ok91_0 : LoopOk Go.Proofs.Try.prog 91 0 lc91_0 := loopOk_ofB kf96_ok.base (T := fun (d : sh91_0.data) => t91_0 d.1.1 d.1.2.1 d.1.2.2.1 d.1.2.2.2.1) (by kernel_rfl) rfl (fun (d : sh91_0.data) => ok91_0_t d.1.1 d.1.2.1 d.1.2.2.1 d.1.2.2.2.1) (fun _ => rfl)
def kl91_0 : Known := kf96.loop 91 0 lc91_0
theorem kl91_0_ok : KnownOk Go.Proofs.Try.prog kl91_0 := kf96_ok.loop ok91_0

/-! ductility/ductilityref02.Sums -/

abbrev as91 : List Ty := [(.slice (.int .i64))]
abbrev rs91 : List Ty := [(.slice (.int .i64))]

def t91 (x0 : (List Int)) : Tr (Tys.data rs91) :=
  Tr.test (isBrk (l91_0 ((x0, (([] : List Int), ((0 : Int), ((0 : Int), ())))), ())))
    (let r0 : (List Int × PUnit) × PUnit := b91_0 ((x0, (([] : List Int), ((0 : Int), ((0 : Int), ())))), ());
    Tr.fin (((r0.fst.fst : List Int), ())))
    (Tr.stop)

def f91 (d : Tys.data as91) : Option (Tys.data rs91) := (t91 d.1).val
def g91 (d : Tys.data as91) : Tys.data rs91 := (f91 d).getD (Tys.dflt rs91)
def p91 : PureC := pcOf as91 rs91 f91 g91

theorem e91_0 (x0 : (List Int)) : runPure kl91_0.orc Go.Proofs.Try.prog 400 91 as91 rs91 (x0, ()) [true, true] =
    (let r0 : (List Int × PUnit) × PUnit := b91_0 ((x0, (([] : List Int), ((0 : Int), ((0 : Int), ())))), ()); some (((r0.fst.fst : List Int), ()), [((true : Bool), true), (isBrk (l91_0 ((x0, (([] : List Int), ((0 : Int), ((0 : Int), ())))), ())), true)])) := by kernel_rfl

theorem ok91_t (x0 : (List Int)) : TrOk (PureRuns Go.Proofs.Try.prog kl91_0.orc 91 as91 rs91 (x0, ())) (t91 x0) :=
  TrOk.ofTest (fun h0 => TrOk.ofFin (PureRuns.of (e91_0 x0) (All.cons rfl (All.cons h0 (All.nil))))) (fun h0 => TrOk.ofStop)

theorem ok91 : PureOk Go.Proofs.Try.prog 91 p91 := pureOk_of kl91_0_ok.base (T := fun (d : Tys.data as91) => t91 d.1) (by kernel_rfl) (fun (d : Tys.data as91) => ok91_t d.1)
def kf91 : Known := kl91_0.func 91 p91
theorem kf91_ok : KnownOk Go.Proofs.Try.prog kf91 := kl91_0_ok.func ok91

/-! ductility/ductilityref02.Velocities -/

abbrev as24 : List Ty := [(.slice (.int .i64))]
abbrev rs24 : List Ty := [(.slice (.int .i64))]

def t24 (x0 : (List Int)) : Tr (Tys.data rs24) :=
  Tr.test (Option.isSome (f91 (x0, ())))
    (let r0 : List Int × PUnit := g91 (x0, ());
    Tr.fin (((r0.fst : List Int), ())))
    (Tr.stop)

def f24 (d : Tys.data as24) : Option (Tys.data rs24) := (t24 d.1).val
def g24 (d : Tys.data as24) : Tys.data rs24 := (f24 d).getD (Tys.dflt rs24)
def p24 : PureC := pcOf as24 rs24 f24 g24

theorem e24_0 (x0 : (List Int)) : runPure kf91.orc Go.Proofs.Try.prog 400 24 as24 rs24 (x0, ()) [true] =
    (let r0 : List Int × PUnit := g91 (x0, ()); some (((r0.fst : List Int), ()), [(Option.isSome (f91 (x0, ())), true)])) := by kernel_rfl

theorem ok24_t (x0 : (List Int)) : TrOk (PureRuns Go.Proofs.Try.prog kf91.orc 24 as24 rs24 (x0, ())) (t24 x0) :=
  TrOk.ofTest (fun h0 => TrOk.ofFin (PureRuns.of (e24_0 x0) (All.cons h0 (All.nil)))) (fun h0 => TrOk.ofStop)

theorem ok24 : PureOk Go.Proofs.Try.prog 24 p24 := pureOk_of kf91_ok.base (T := fun (d : Tys.data as24) => t24 d.1) (by kernel_rfl) (fun (d : Tys.data as24) => ok24_t d.1)
def kf24 : Known := kf91.func 24 p24
theorem kf24_ok : KnownOk Go.Proofs.Try.prog kf24 := kf91_ok.func ok24

/-! ductility/ductilityref02.Displacements -/

abbrev as25 : List Ty := [(.slice (.int .i64))]
abbrev rs25 : List Ty := [(.slice (.int .i64))]

def t25 (x0 : (List Int)) : Tr (Tys.data rs25) :=
  Tr.test (Option.isSome (f91 (x0, ())))
    (let r0 : List Int × PUnit := g91 (x0, ());
    Tr.test (Option.isSome (f91 ((r0.fst : List Int), ())))
      (let r1 : List Int × PUnit := g91 ((r0.fst : List Int), ());
      Tr.fin (((r1.fst : List Int), ())))
      (Tr.stop))
    (Tr.stop)

def f25 (d : Tys.data as25) : Option (Tys.data rs25) := (t25 d.1).val
def g25 (d : Tys.data as25) : Tys.data rs25 := (f25 d).getD (Tys.dflt rs25)
def p25 : PureC := pcOf as25 rs25 f25 g25

theorem e25_0 (x0 : (List Int)) : runPure kf24.orc Go.Proofs.Try.prog 400 25 as25 rs25 (x0, ()) [true, true] =
    (let r0 : List Int × PUnit := g91 (x0, ()); let r1 : List Int × PUnit := g91 ((r0.fst : List Int), ()); some (((r1.fst : List Int), ()), [(Option.isSome (f91 ((r0.fst : List Int), ())), true), (Option.isSome (f91 (x0, ())), true)])) := by kernel_rfl

theorem ok25_t (x0 : (List Int)) : TrOk (PureRuns Go.Proofs.Try.prog kf24.orc 25 as25 rs25 (x0, ())) (t25 x0) :=
  TrOk.ofTest (fun h0 => TrOk.ofTest (fun h1 => TrOk.ofFin (PureRuns.of (e25_0 x0) (All.cons h1 (All.cons h0 (All.nil))))) (fun h1 => TrOk.ofStop)) (fun h0 => TrOk.ofStop)

theorem ok25 : PureOk Go.Proofs.Try.prog 25 p25 := pureOk_of kf24_ok.base (T := fun (d : Tys.data as25) => t25 d.1) (by kernel_rfl) (fun (d : Tys.data as25) => ok25_t d.1)
def kf25 : Known := kf24.func 25 p25
theorem kf25_ok : KnownOk Go.Proofs.Try.prog kf25 := kf24_ok.func ok25

/-! ductility/ductilityref02.Peaks -/

abbrev as30 : List Ty := [(.slice (.int .i64))]
abbrev rs30 : List Ty := [(.pair (.int .i64) (.pair (.int .i64) (.pair (.int .i64) .unit)))]

def t30 (x0 : (List Int)) : Tr (Tys.data rs30) :=
  Tr.test (Option.isSome (f96 (x0, ())))
    (Tr.test (Option.isSome (f24 (x0, ())))
      (let r1 : List Int × PUnit := g24 (x0, ());
      Tr.test (Option.isSome (f96 ((r1.fst : List Int), ())))
        (Tr.test (Option.isSome (f25 (x0, ())))
          (let r3 : List Int × PUnit := g25 (x0, ());
          Tr.test (Option.isSome (f96 ((r3.fst : List Int), ())))
            (let r0 : Int × PUnit := g96 (x0, ());
            let r2 : Int × PUnit := g96 ((r1.fst : List Int), ());
            let r4 : Int × PUnit := g96 ((r3.fst : List Int), ());
            Tr.fin ((((r0.fst : Int), ((r2.fst : Int), ((r4.fst : Int), ()))), ())))
            (Tr.stop))
          (Tr.stop))
        (Tr.stop))
      (Tr.stop))
    (Tr.stop)

def f30 (d : Tys.data as30) : Option (Tys.data rs30) := (t30 d.1).val
def g30 (d : Tys.data as30) : Tys.data rs30 := (f30 d).getD (Tys.dflt rs30)
def p30 : PureC := pcOf as30 rs30 f30 g30

theorem e30_0 (x0 : (List Int)) : runPure kf25.orc Go.Proofs.Try.prog 400 30 as30 rs30 (x0, ()) [true, true, true, true, true] =
    (let r1 : List Int × PUnit := g24 (x0, ()); let r3 : List Int × PUnit := g25 (x0, ()); let r0 : Int × PUnit := g96 (x0, ()); let r2 : Int × PUnit := g96 ((r1.fst : List Int), ()); let r4 : Int × PUnit := g96 ((r3.fst : List Int), ()); some ((((r0.fst : Int), ((r2.fst : Int), ((r4.fst : Int), ()))), ()), [(Option.isSome (f96 ((r3.fst : List Int), ())), true), (Option.isSome (f25 (x0, ())), true), (Option.isSome (f96 ((r1.fst : List Int), ())), true), (Option.isSome (f24 (x0, ())), true), (Option.isSome (f96 (x0, ())), true)])) := by kernel_rfl

theorem ok30_t (x0 : (List Int)) : TrOk (PureRuns Go.Proofs.Try.prog kf25.orc 30 as30 rs30 (x0, ())) (t30 x0) :=
  TrOk.ofTest (fun h0 => TrOk.ofTest (fun h1 => TrOk.ofTest (fun h2 => TrOk.ofTest (fun h3 => TrOk.ofTest (fun h4 => TrOk.ofFin (PureRuns.of (e30_0 x0) (All.cons h4 (All.cons h3 (All.cons h2 (All.cons h1 (All.cons h0 (All.nil)))))))) (fun h4 => TrOk.ofStop)) (fun h3 => TrOk.ofStop)) (fun h2 => TrOk.ofStop)) (fun h1 => TrOk.ofStop)) (fun h0 => TrOk.ofStop)

theorem ok30 : PureOk Go.Proofs.Try.prog 30 p30 := pureOk_of kf25_ok.base (T := fun (d : Tys.data as30) => t30 d.1) (by kernel_rfl) (fun (d : Tys.data as30) => ok30_t d.1)
def kf30 : Known := kf25.func 30 p30
theorem kf30_ok : KnownOk Go.Proofs.Try.prog kf30 := kf25_ok.func ok30

/-! ductility/ductilityref02.LimitsErr -/

abbrev as31 : List Ty := [(.pair (.int .i64) (.pair (.int .i64) (.pair (.int .i64) .unit)))]
abbrev rs31 : List Ty := [(.int .i64)]

def t31 (x0 : Int) (x0' : Int) (x0'' : Int) : Tr (Tys.data rs31) :=
  Tr.test (Option.isSome (f47 (x0, ((0 : Int), ((1000000 : Int), ())))))
    (let r0 : Bool × PUnit := g47 (x0, ((0 : Int), ((1000000 : Int), ())));
    Tr.test ((!r0.fst : Bool))
      (Tr.fin (((2 : Int), ())))
      (Tr.test (Option.isSome (f47 (x0', ((0 : Int), ((1000000 : Int), ())))))
        (let r1 : Bool × PUnit := g47 (x0', ((0 : Int), ((1000000 : Int), ())));
        Tr.test ((!r1.fst : Bool))
          (Tr.fin (((2 : Int), ())))
          (Tr.test (Option.isSome (f47 (x0'', ((0 : Int), ((1000000 : Int), ())))))
            (let r2 : Bool × PUnit := g47 (x0'', ((0 : Int), ((1000000 : Int), ())));
            Tr.test ((!r2.fst : Bool))
              (Tr.fin (((2 : Int), ())))
              (Tr.fin (((0 : Int), ()))))
            (Tr.stop)))
        (Tr.stop)))
    (Tr.stop)

def f31 (d : Tys.data as31) : Option (Tys.data rs31) := (t31 d.1.1 d.1.2.1 d.1.2.2.1).val
def g31 (d : Tys.data as31) : Tys.data rs31 := (f31 d).getD (Tys.dflt rs31)
def p31 : PureC := pcOf as31 rs31 f31 g31

theorem e31_0 (x0 : Int) (x0' : Int) (x0'' : Int) : runPure kf30.orc Go.Proofs.Try.prog 400 31 as31 rs31 ((x0, x0', x0'', ()), ()) [true, true, true, true, true, true, true, true, true, true, true, true] =
    (let r0 : Bool × PUnit := g47 (x0, ((0 : Int), ((1000000 : Int), ()))); some (((2 : Int), ()), [((true : Bool), true), ((true : Bool), true), ((true : Bool), true), ((true : Bool), true), ((true : Bool), true), ((true : Bool), true), ((!r0.fst : Bool), true), ((!r0.fst : Bool), true), ((!r0.fst : Bool), true), ((!r0.fst : Bool), true), ((!r0.fst : Bool), true), (Option.isSome (f47 (x0, ((0 : Int), ((1000000 : Int), ())))), true)])) := by kernel_rfl
theorem e31_1 (x0 : Int) (x0' : Int) (x0'' : Int) : runPure kf30.orc Go.Proofs.Try.prog 400 31 as31 rs31 ((x0, x0', x0'', ()), ()) [true, false, false, false, true, false, false, true, true, true, true, true, true] =
    (let r0 : Bool × PUnit := g47 (x0, ((0 : Int), ((1000000 : Int), ()))); let r1 : Bool × PUnit := g47 (x0', ((0 : Int), ((1000000 : Int), ()))); some (((2 : Int), ()), [((true : Bool), true), ((!r1.fst : Bool), true), ((!r1.fst : Bool), true), ((!r1.fst : Bool), true), ((!r1.fst : Bool), true), ((!r1.fst : Bool), true), ((!r0.fst : Bool), false), ((!r0.fst : Bool), false), (Option.isSome (f47 (x0', ((0 : Int), ((1000000 : Int), ())))), true), ((!r0.fst : Bool), false), ((!r0.fst : Bool), false), ((!r0.fst : Bool), false), (Option.isSome (f47 (x0, ((0 : Int), ((1000000 : Int), ())))), true)])) := by kernel_rfl
theorem e31_2 (x0 : Int) (x0' : Int) (x0'' : Int) : runPure kf30.orc Go.Proofs.Try.prog 400 31 as31 rs31 ((x0, x0', x0'', ()), ()) [true, false, false, false, true, false, false, false, false, false, true, false, false, true] =
    (let r0 : Bool × PUnit := g47 (x0, ((0 : Int), ((1000000 : Int), ()))); let r1 : Bool × PUnit := g47 (x0', ((0 : Int), ((1000000 : Int), ()))); let r2 : Bool × PUnit := g47 (x0'', ((0 : Int), ((1000000 : Int), ()))); some (((2 : Int), ()), [((!r2.fst : Bool), true), ((!r1.fst : Bool), false), ((!r1.fst : Bool), false), (Option.isSome (f47 (x0'', ((0 : Int), ((1000000 : Int), ())))), true), ((!r1.fst : Bool), false), ((!r1.fst : Bool), false), ((!r1.fst : Bool), false), ((!r0.fst : Bool), false), ((!r0.fst : Bool), false), (Option.isSome (f47 (x0', ((0 : Int), ((1000000 : Int), ())))), true), ((!r0.fst : Bool), false), ((!r0.fst : Bool), false), ((!r0.fst : Bool), false), (Option.isSome (f47 (x0, ((0 : Int), ((1000000 : Int), ())))), true)])) := by kernel_rfl
theorem e31_3 (x0 : Int) (x0' : Int) (x0'' : Int) : runPure kf30.orc Go.Proofs.Try.prog 400 31 as31 rs31 ((x0, x0', x0'', ()), ()) [true, false, false, false, true, false, false, false, false, false, true, false, false, false] =
    (let r0 : Bool × PUnit := g47 (x0, ((0 : Int), ((1000000 : Int), ()))); let r1 : Bool × PUnit := g47 (x0', ((0 : Int), ((1000000 : Int), ()))); let r2 : Bool × PUnit := g47 (x0'', ((0 : Int), ((1000000 : Int), ()))); some (((0 : Int), ()), [((!r2.fst : Bool), false), ((!r1.fst : Bool), false), ((!r1.fst : Bool), false), (Option.isSome (f47 (x0'', ((0 : Int), ((1000000 : Int), ())))), true), ((!r1.fst : Bool), false), ((!r1.fst : Bool), false), ((!r1.fst : Bool), false), ((!r0.fst : Bool), false), ((!r0.fst : Bool), false), (Option.isSome (f47 (x0', ((0 : Int), ((1000000 : Int), ())))), true), ((!r0.fst : Bool), false), ((!r0.fst : Bool), false), ((!r0.fst : Bool), false), (Option.isSome (f47 (x0, ((0 : Int), ((1000000 : Int), ())))), true)])) := by kernel_rfl

theorem ok31_t (x0 : Int) (x0' : Int) (x0'' : Int) : TrOk (PureRuns Go.Proofs.Try.prog kf30.orc 31 as31 rs31 ((x0, x0', x0'', ()), ())) (t31 x0 x0' x0'') :=
  TrOk.ofTest (fun h0 => TrOk.ofTest (fun h1 => TrOk.ofFin (PureRuns.of (e31_0 x0 x0' x0'') (All.cons rfl (All.cons rfl (All.cons rfl (All.cons rfl (All.cons rfl (All.cons rfl (All.cons h1 (All.cons h1 (All.cons h1 (All.cons h1 (All.cons h1 (All.cons h0 (All.nil))))))))))))))) (fun h1 => TrOk.ofTest (fun h4 => TrOk.ofTest (fun h7 => TrOk.ofFin (PureRuns.of (e31_1 x0 x0' x0'') (All.cons rfl (All.cons h7 (All.cons h7 (All.cons h7 (All.cons h7 (All.cons h7 (All.cons h1 (All.cons h1 (All.cons h4 (All.cons h1 (All.cons h1 (All.cons h1 (All.cons h0 (All.nil)))))))))))))))) (fun h7 => TrOk.ofTest (fun h10 => TrOk.ofTest (fun h13 => TrOk.ofFin (PureRuns.of (e31_2 x0 x0' x0'') (All.cons h13 (All.cons h7 (All.cons h7 (All.cons h10 (All.cons h7 (All.cons h7 (All.cons h7 (All.cons h1 (All.cons h1 (All.cons h4 (All.cons h1 (All.cons h1 (All.cons h1 (All.cons h0 (All.nil))))))))))))))))) (fun h13 => TrOk.ofFin (PureRuns.of (e31_3 x0 x0' x0'') (All.cons h13 (All.cons h7 (All.cons h7 (All.cons h10 (All.cons h7 (All.cons h7 (All.cons h7 (All.cons h1 (All.cons h1 (All.cons h4 (All.cons h1 (All.cons h1 (All.cons h1 (All.cons h0 (All.nil)))))))))))))))))) (fun h10 => TrOk.ofStop))) (fun h4 => TrOk.ofStop))) (fun h0 => TrOk.ofStop)

theorem ok31 : PureOk Go.Proofs.Try.prog 31 p31 := pureOk_of kf30_ok.base (T := fun (d : Tys.data as31) => t31 d.1.1 d.1.2.1 d.1.2.2.1) (by kernel_rfl) (fun (d : Tys.data as31) => ok31_t d.1.1 d.1.2.1 d.1.2.2.1)
def kf31 : Known := kf30.func 31 p31
theorem kf31_ok : KnownOk Go.Proofs.Try.prog kf31 := kf30_ok.func ok31

/-! loop 0 of ductility/ductilitybase.Gcd -/

abbrev sh142_0 : Sh := { n := 13, slots := [0, 1], pats := [.ty (.int .i64), .ty (.int .i64)], boxes := [] }
abbrev shb142_0 : Sh := { n := 13, slots := [0], pats := [.ty (.int .i64)], boxes := [] }
abbrev shr142_0 : Sh := { n := 13, slots := [], pats := [], boxes := [] }

def t142_0 (x0 : Int) (x1 : Int) : Tr (Out sh142_0.data shb142_0.data shr142_0.data) :=
  Tr.test ((!eqF x1 (0 : Int) : Bool))
    (Tr.test ((x1 == (0 : Int) : Bool))
      (Tr.stop /- none [op 3 of region 2 of F142] -/)
      (Tr.fin (.again ((x1, ((Int.tmod x0 x1 : Int), ())), ()))))
    (Tr.fin (.brk ((x0, ()), ())))

def s142_0 (d : sh142_0.data) : Option (Out sh142_0.data shb142_0.data shr142_0.data) := (t142_0 d.1.1 d.1.2.1).val
def l142_0 (d : sh142_0.data) : Option (shb142_0.data ⊕ shr142_0.data) := itr s142_0 rounds d
def b142_0 (d : sh142_0.data) : shb142_0.data := outB shb142_0.dflt (l142_0 d)
def r142_0 (d : sh142_0.data) : shr142_0.data := outR shr142_0.dflt (l142_0 d)
def lc142_0 : LoopC := lcB sh142_0 shb142_0 shr142_0 l142_0 b142_0

theorem e142_0_1 (x0 : Int) (x1 : Int) : runBody kf31.orc Go.Proofs.Try.prog 400 142 0 sh142_0 shb142_0 shr142_0 ((x0, x1, ()), ()) [true, false] =
    (some (.again ((x1, ((Int.tmod x0 x1 : Int), ())), ()), [((x1 == (0 : Int) : Bool), false), ((!eqF x1 (0 : Int) : Bool), true)])) := by kernel_rfl
theorem e142_0_2 (x0 : Int) (x1 : Int) : runBody kf31.orc Go.Proofs.Try.prog 400 142 0 sh142_0 shb142_0 shr142_0 ((x0, x1, ()), ()) [false] =
    (some (.brk ((x0, ()), ()), [((!eqF x1 (0 : Int) : Bool), false)])) := by kernel_rfl

theorem ok142_0_t (x0 : Int) (x1 : Int) : TrOk (BodyRuns Go.Proofs.Try.prog kf31.orc 142 0 sh142_0 shb142_0 shr142_0 ((x0, x1, ()), ())) (t142_0 x0 x1) :=
  TrOk.ofTest (fun h0 => TrOk.ofTest (fun h1 => TrOk.ofStop) (fun h1 => TrOk.ofFin (BodyRuns.of (e142_0_1 x0 x1) (All.cons h1 (All.cons h0 (All.nil)))))) (fun h0 => TrOk.ofFin (BodyRuns.of (e142_0_2 x0 x1) (All.cons h0 (All.nil))))

theorem ok142_0 : LoopOk Go.Proofs.Try.prog 142 0 lc142_0 := loopOk_ofB kf31_ok.base (T := fun (d : sh142_0.data) => t142_0 d.1.1 d.1.2.1) (by kernel_rfl) rfl (fun (d : sh142_0.data) => ok142_0_t d.1.1 d.1.2.1) (fun _ => rfl)
def kl142_0 : Known := kf31.loop 142 0 lc142_0
theorem kl142_0_ok : KnownOk Go.Proofs.Try.prog kl142_0 := kf31_ok.loop ok142_0

/-! ductility/ductilitybase.Gcd -/

abbrev as142 : List Ty := [(.int .i64), (.int .i64)]
abbrev rs142 : List Ty := [(.int .i64)]

def t142 (x0 : Int) (x1 : Int) : Tr (Tys.data rs142) :=
  Tr.test (isBrk (l142_0 ((x0, (x1, ())), ())))
    (let r0 : (Int × PUnit) × PUnit := b142_0 ((x0, (x1, ())), ());
    Tr.test (Option.isSome (f131 ((r0.fst.fst : Int), ())))
      (let r1 : Int × PUnit := g131 ((r0.fst.fst : Int), ());
      Tr.fin (((r1.fst : Int), ())))
      (Tr.stop))
    (Tr.stop)

def f142 (d : Tys.data as142) : Option (Tys.data rs142) := (t142 d.1 d.2.1).val
def g142 (d : Tys.data as142) : Tys.data rs142 := (f142 d).getD (Tys.dflt rs142)
def p142 : PureC := pcOf as142 rs142 f142 g142

theorem e142_0 (x0 : Int) (x1 : Int) : runPure kl142_0.orc Go.Proofs.Try.prog 400 142 as142 rs142 (x0, x1, ()) [true, true, true] =
    (let r0 : (Int × PUnit) × PUnit := b142_0 ((x0, (x1, ())), ()); let r1 : Int × PUnit := g131 ((r0.fst.fst : Int), ()); some (((r1.fst : Int), ()), [(Option.isSome (f131 ((r0.fst.fst : Int), ())), true), ((true : Bool), true), (isBrk (l142_0 ((x0, (x1, ())), ())), true)])) := by kernel_rfl

theorem ok142_t (x0 : Int) (x1 : Int) : TrOk (PureRuns Go.Proofs.Try.prog kl142_0.orc 142 as142 rs142 (x0, x1, ())) (t142 x0 x1) :=
  TrOk.ofTest (fun h0 => TrOk.ofTest (fun h2 => TrOk.ofFin (PureRuns.of (e142_0 x0 x1) (All.cons h2 (All.cons rfl (All.cons h0 (All.nil)))))) (fun h2 => TrOk.ofStop)) (fun h0 => TrOk.ofStop)

theorem ok142 : PureOk Go.Proofs.Try.prog 142 p142 := pureOk_of kl142_0_ok.base (T := fun (d : Tys.data as142) => t142 d.1 d.2.1) (by kernel_rfl) (fun (d : Tys.data as142) => ok142_t d.1 d.2.1)
def kf142 : Known := kl142_0.func 142 p142
theorem kf142_ok : KnownOk Go.Proofs.Try.prog kf142 := kl142_0_ok.func ok142

/-! ductility/ductilitybase.Lowest -/

abbrev as97 : List Ty := [(.int .i64), (.int .i64)]
abbrev rs97 : List Ty := [(.pair (.int .i64) (.pair (.int .i64) .unit))]

def t97 (x0 : Int) (x1 : Int) : Tr (Tys.data rs97) :=
  Tr.test (Option.isSome (f142 (x0, (x1, ()))))
    (Tr.test ((!leF (0 : Int) x1 : Bool))
      (let r0 : Int × PUnit := g142 (x0, (x1, ()));
      Tr.test ((Go.IntKind.wrap Go.IntKind.i64 ((0 : Int) - r0.fst) == (0 : Int) : Bool))
        (Tr.stop /- none [op 2 of region 4 of F97] -/)
        (Tr.fin ((((Go.IntKind.wrap Go.IntKind.i64 (Int.tdiv x0 (Go.IntKind.wrap Go.IntKind.i64 ((0 : Int) - r0.fst))) : Int), ((Go.IntKind.wrap Go.IntKind.i64 (Int.tdiv x1 (Go.IntKind.wrap Go.IntKind.i64 ((0 : Int) - r0.fst))) : Int), ())), ()))))
      (let r0 : Int × PUnit := g142 (x0, (x1, ()));
      Tr.test ((r0.fst == (0 : Int) : Bool))
        (Tr.stop /- none [op 2 of region 4 of F97] -/)
        (Tr.fin ((((Go.IntKind.wrap Go.IntKind.i64 (Int.tdiv x0 r0.fst) : Int), ((Go.IntKind.wrap Go.IntKind.i64 (Int.tdiv x1 r0.fst) : Int), ())), ())))))
    (Tr.stop)

def f97 (d : Tys.data as97) : Option (Tys.data rs97) := (t97 d.1 d.2.1).val
def g97 (d : Tys.data as97) : Tys.data rs97 := (f97 d).getD (Tys.dflt rs97)
def p97 : PureC := pcOf as97 rs97 f97 g97

theorem e97_1 (x0 : Int) (x1 : Int) : runPure kf142.orc Go.Proofs.Try.prog 400 97 as97 rs97 (x0, x1, ()) [true, true, false, false] =
    (let r0 : Int × PUnit := g142 (x0, (x1, ())); some ((((Go.IntKind.wrap Go.IntKind.i64 (Int.tdiv x0 (Go.IntKind.wrap Go.IntKind.i64 ((0 : Int) - r0.fst))) : Int), ((Go.IntKind.wrap Go.IntKind.i64 (Int.tdiv x1 (Go.IntKind.wrap Go.IntKind.i64 ((0 : Int) - r0.fst))) : Int), ())), ()), [((Go.IntKind.wrap Go.IntKind.i64 ((0 : Int) - r0.fst) == (0 : Int) : Bool), false), ((Go.IntKind.wrap Go.IntKind.i64 ((0 : Int) - r0.fst) == (0 : Int) : Bool), false), ((!leF (0 : Int) x1 : Bool), true), (Option.isSome (f142 (x0, (x1, ()))), true)])) := by kernel_rfl
theorem e97_3 (x0 : Int) (x1 : Int) : runPure kf142.orc Go.Proofs.Try.prog 400 97 as97 rs97 (x0, x1, ()) [true, false, false, false] =
    (let r0 : Int × PUnit := g142 (x0, (x1, ())); some ((((Go.IntKind.wrap Go.IntKind.i64 (Int.tdiv x0 r0.fst) : Int), ((Go.IntKind.wrap Go.IntKind.i64 (Int.tdiv x1 r0.fst) : Int), ())), ()), [((r0.fst == (0 : Int) : Bool), false), ((r0.fst == (0 : Int) : Bool), false), ((!leF (0 : Int) x1 : Bool), false), (Option.isSome (f142 (x0, (x1, ()))), true)])) := by kernel_rfl

theorem ok97_t (x0 : Int) (x1 : Int) : TrOk (PureRuns Go.Proofs.Try.prog kf142.orc 97 as97 rs97 (x0, x1, ())) (t97 x0 x1) :=
  TrOk.ofTest (fun h0 => TrOk.ofTest (fun h1 => TrOk.ofTest (fun h2 => TrOk.ofStop) (fun h2 => TrOk.ofFin (PureRuns.of (e97_1 x0 x1) (All.cons h2 (All.cons h2 (All.cons h1 (All.cons h0 (All.nil)))))))) (fun h1 => TrOk.ofTest (fun h2 => TrOk.ofStop) (fun h2 => TrOk.ofFin (PureRuns.of (e97_3 x0 x1) (All.cons h2 (All.cons h2 (All.cons h1 (All.cons h0 (All.nil))))))))) (fun h0 => TrOk.ofStop)

theorem ok97 : PureOk Go.Proofs.Try.prog 97 p97 := pureOk_of kf142_ok.base (T := fun (d : Tys.data as97) => t97 d.1 d.2.1) (by kernel_rfl) (fun (d : Tys.data as97) => ok97_t d.1 d.2.1)
def kf97 : Known := kf142.func 97 p97
theorem kf97_ok : KnownOk Go.Proofs.Try.prog kf97 := kf142_ok.func ok97

/-! ductility/ductilitybase.Cmp -/

abbrev as82 : List Ty := [(.pair (.int .i64) (.pair (.int .i64) .unit)), (.pair (.int .i64) (.pair (.int .i64) .unit))]
abbrev rs82 : List Ty := [(.int .i64)]

def t82 (x0 : Int) (x0' : Int) (x1 : Int) (x1' : Int) : Tr (Tys.data rs82) :=
  Tr.test ((!leF (wrap64 (x1 * x0')) (wrap64 (x0 * x1')) : Bool))
    (Tr.fin (((-1 : Int), ())))
    (Tr.test ((!leF (wrap64 (x0 * x1')) (wrap64 (x1 * x0')) : Bool))
      (Tr.fin (((1 : Int), ())))
      (Tr.fin (((0 : Int), ()))))

def f82 (d : Tys.data as82) : Option (Tys.data rs82) := (t82 d.1.1 d.1.2.1 d.2.1.1 d.2.1.2.1).val
def g82 (d : Tys.data as82) : Tys.data rs82 := (f82 d).getD (Tys.dflt rs82)
def p82 : PureC := pcOf as82 rs82 f82 g82

theorem e82_0 (x0 : Int) (x0' : Int) (x1 : Int) (x1' : Int) : runPure kf97.orc Go.Proofs.Try.prog 400 82 as82 rs82 ((x0, x0', ()), (x1, x1', ()), ()) [true] =
    (some (((-1 : Int), ()), [((!leF (wrap64 (x1 * x0')) (wrap64 (x0 * x1')) : Bool), true)])) := by kernel_rfl
theorem e82_1 (x0 : Int) (x0' : Int) (x1 : Int) (x1' : Int) : runPure kf97.orc Go.Proofs.Try.prog 400 82 as82 rs82 ((x0, x0', ()), (x1, x1', ()), ()) [false, true] =
    (some (((1 : Int), ()), [((!leF (wrap64 (x0 * x1')) (wrap64 (x1 * x0')) : Bool), true), ((!leF (wrap64 (x1 * x0')) (wrap64 (x0 * x1')) : Bool), false)])) := by kernel_rfl
theorem e82_2 (x0 : Int) (x0' : Int) (x1 : Int) (x1' : Int) : runPure kf97.orc Go.Proofs.Try.prog 400 82 as82 rs82 ((x0, x0', ()), (x1, x1', ()), ()) [false, false] =
    (some (((0 : Int), ()), [((!leF (wrap64 (x0 * x1')) (wrap64 (x1 * x0')) : Bool), false), ((!leF (wrap64 (x1 * x0')) (wrap64 (x0 * x1')) : Bool), false)])) := by kernel_rfl

theorem ok82_t (x0 : Int) (x0' : Int) (x1 : Int) (x1' : Int) : TrOk (PureRuns Go.Proofs.Try.prog kf97.orc 82 as82 rs82 ((x0, x0', ()), (x1, x1', ()), ())) (t82 x0 x0' x1 x1') :=
  TrOk.ofTest (fun h0 => TrOk.ofFin (PureRuns.of (e82_0 x0 x0' x1 x1') (All.cons h0 (All.nil)))) (fun h0 => TrOk.ofTest (fun h1 => TrOk.ofFin (PureRuns.of (e82_1 x0 x0' x1 x1') (All.cons h1 (All.cons h0 (All.nil))))) (fun h1 => TrOk.ofFin (PureRuns.of (e82_2 x0 x0' x1 x1') (All.cons h1 (All.cons h0 (All.nil))))))

theorem ok82 : PureOk Go.Proofs.Try.prog 82 p82 := pureOk_of kf97_ok.base (T := fun (d : Tys.data as82) => t82 d.1.1 d.1.2.1 d.2.1.1 d.2.1.2.1) (by kernel_rfl) (fun (d : Tys.data as82) => ok82_t d.1.1 d.1.2.1 d.2.1.1 d.2.1.2.1)
def kf82 : Known := kf97.func 82 p82
theorem kf82_ok : KnownOk Go.Proofs.Try.prog kf82 := kf97_ok.func ok82

/-! ductility/ductilityref02.Scale -/

abbrev as32 : List Ty := [(.slice (.int .i64)), (.pair (.int .i64) (.pair (.int .i64) (.pair (.int .i64) .unit)))]
abbrev rs32 : List Ty := [(.pair (.int .i64) (.pair (.int .i64) .unit)), .bool]

def t32 (x0 : (List Int)) (x1 : Int) (x1' : Int) (x1'' : Int) : Tr (Tys.data rs32) :=
  Tr.test (Option.isSome (f30 (x0, ())))
    (let r0 : (Int × Int × Int × PUnit) × PUnit := g30 (x0, ());
    Tr.test ((eqF r0.fst.fst (0 : Int) : Bool))
      (Tr.fin ((((0 : Int), ((0 : Int), ())), ((false : Bool), ()))))
      (Tr.test (Option.isSome (f97 (x1, ((r0.fst.fst : Int), ()))))
        (Tr.test ((!leF r0.fst.snd.fst (0 : Int) : Bool))
          (Tr.test (Option.isSome (f97 (x1', ((r0.fst.snd.fst : Int), ()))))
            (let r1 : (Int × Int × PUnit) × PUnit := g97 (x1, ((r0.fst.fst : Int), ()));
            let r2 : (Int × Int × PUnit) × PUnit := g97 (x1', ((r0.fst.snd.fst : Int), ()));
            Tr.test (Option.isSome (f82 (((r2.fst.fst : Int), ((r2.fst.snd.fst : Int), ())), (((r1.fst.fst : Int), ((r1.fst.snd.fst : Int), ())), ()))))
              (let r3 : Int × PUnit := g82 (((r2.fst.fst : Int), ((r2.fst.snd.fst : Int), ())), (((r1.fst.fst : Int), ((r1.fst.snd.fst : Int), ())), ()));
              Tr.test ((!leF (0 : Int) r3.fst : Bool))
                (Tr.test ((!leF r0.fst.snd.snd.fst (0 : Int) : Bool))
                  (Tr.test (Option.isSome (f97 (x1'', ((r0.fst.snd.snd.fst : Int), ()))))
                    (let r4 : (Int × Int × PUnit) × PUnit := g97 (x1'', ((r0.fst.snd.snd.fst : Int), ()));
                    Tr.test (Option.isSome (f82 (((r4.fst.fst : Int), ((r4.fst.snd.fst : Int), ())), (((r2.fst.fst : Int), ((r2.fst.snd.fst : Int), ())), ()))))
                      (let r5 : Int × PUnit := g82 (((r4.fst.fst : Int), ((r4.fst.snd.fst : Int), ())), (((r2.fst.fst : Int), ((r2.fst.snd.fst : Int), ())), ()));
                      Tr.test ((!leF (0 : Int) r5.fst : Bool))
                        (Tr.fin ((((r4.fst.fst : Int), ((r4.fst.snd.fst : Int), ())), ((true : Bool), ()))))
                        (Tr.fin ((((r2.fst.fst : Int), ((r2.fst.snd.fst : Int), ())), ((true : Bool), ())))))
                      (Tr.stop))
                    (Tr.stop))
                  (Tr.fin ((((r2.fst.fst : Int), ((r2.fst.snd.fst : Int), ())), ((true : Bool), ())))))
                (Tr.test ((!leF r0.fst.snd.snd.fst (0 : Int) : Bool))
                  (Tr.test (Option.isSome (f97 (x1'', ((r0.fst.snd.snd.fst : Int), ()))))
                    (let r4 : (Int × Int × PUnit) × PUnit := g97 (x1'', ((r0.fst.snd.snd.fst : Int), ()));
                    Tr.test (Option.isSome (f82 (((r4.fst.fst : Int), ((r4.fst.snd.fst : Int), ())), (((r1.fst.fst : Int), ((r1.fst.snd.fst : Int), ())), ()))))
                      (let r6 : Int × PUnit := g82 (((r4.fst.fst : Int), ((r4.fst.snd.fst : Int), ())), (((r1.fst.fst : Int), ((r1.fst.snd.fst : Int), ())), ()));
                      Tr.test ((!leF (0 : Int) r6.fst : Bool))
                        (Tr.fin ((((r4.fst.fst : Int), ((r4.fst.snd.fst : Int), ())), ((true : Bool), ()))))
                        (Tr.fin ((((r1.fst.fst : Int), ((r1.fst.snd.fst : Int), ())), ((true : Bool), ())))))
                      (Tr.stop))
                    (Tr.stop))
                  (Tr.fin ((((r1.fst.fst : Int), ((r1.fst.snd.fst : Int), ())), ((true : Bool), ()))))))
              (Tr.stop))
            (Tr.stop))
          (Tr.test ((!leF r0.fst.snd.snd.fst (0 : Int) : Bool))
            (Tr.test (Option.isSome (f97 (x1'', ((r0.fst.snd.snd.fst : Int), ()))))
              (let r1 : (Int × Int × PUnit) × PUnit := g97 (x1, ((r0.fst.fst : Int), ()));
              let r4 : (Int × Int × PUnit) × PUnit := g97 (x1'', ((r0.fst.snd.snd.fst : Int), ()));
              Tr.test (Option.isSome (f82 (((r4.fst.fst : Int), ((r4.fst.snd.fst : Int), ())), (((r1.fst.fst : Int), ((r1.fst.snd.fst : Int), ())), ()))))
                (let r6 : Int × PUnit := g82 (((r4.fst.fst : Int), ((r4.fst.snd.fst : Int), ())), (((r1.fst.fst : Int), ((r1.fst.snd.fst : Int), ())), ()));
                Tr.test ((!leF (0 : Int) r6.fst : Bool))
                  (Tr.fin ((((r4.fst.fst : Int), ((r4.fst.snd.fst : Int), ())), ((true : Bool), ()))))
                  (Tr.fin ((((r1.fst.fst : Int), ((r1.fst.snd.fst : Int), ())), ((true : Bool), ())))))
                (Tr.stop))
              (Tr.stop))
            (let r1 : (Int × Int × PUnit) × PUnit := g97 (x1, ((r0.fst.fst : Int), ()));
            Tr.fin ((((r1.fst.fst : Int), ((r1.fst.snd.fst : Int), ())), ((true : Bool), ()))))))
        (Tr.stop)))
    (Tr.stop)

def f32 (d : Tys.data as32) : Option (Tys.data rs32) := (t32 d.1 d.2.1.1 d.2.1.2.1 d.2.1.2.2.1).val
def g32 (d : Tys.data as32) : Tys.data rs32 := (f32 d).getD (Tys.dflt rs32)
def p32 : PureC := pcOf as32 rs32 f32 g32

theorem e32_0 (x0 : (List Int)) (x1 : Int) (x1' : Int) (x1'' : Int) : runPure kf82.orc Go.Proofs.Try.prog 400 32 as32 rs32 (x0, (x1, x1', x1'', ()), ()) [true, true] =
    (let r0 : (Int × Int × Int × PUnit) × PUnit := g30 (x0, ()); some ((((0 : Int), ((0 : Int), ())), ((false : Bool), ())), [((eqF r0.fst.fst (0 : Int) : Bool), true), (Option.isSome (f30 (x0, ())), true)])) := by kernel_rfl
theorem e32_1 (x0 : (List Int)) (x1 : Int) (x1' : Int) (x1'' : Int) : runPure kf82.orc Go.Proofs.Try.prog 400 32 as32 rs32 (x0, (x1, x1', x1'', ()), ()) [true, false, true, true, true, true, true, true, true, true, true] =
    (let r0 : (Int × Int × Int × PUnit) × PUnit := g30 (x0, ()); let r1 : (Int × Int × PUnit) × PUnit := g97 (x1, ((r0.fst.fst : Int), ())); let r2 : (Int × Int × PUnit) × PUnit := g97 (x1', ((r0.fst.snd.fst : Int), ())); let r3 : Int × PUnit := g82 (((r2.fst.fst : Int), ((r2.fst.snd.fst : Int), ())), (((r1.fst.fst : Int), ((r1.fst.snd.fst : Int), ())), ())); let r4 : (Int × Int × PUnit) × PUnit := g97 (x1'', ((r0.fst.snd.snd.fst : Int), ())); let r5 : Int × PUnit := g82 (((r4.fst.fst : Int), ((r4.fst.snd.fst : Int), ())), (((r2.fst.fst : Int), ((r2.fst.snd.fst : Int), ())), ())); some ((((r4.fst.fst : Int), ((r4.fst.snd.fst : Int), ())), ((true : Bool), ())), [((!leF (0 : Int) r5.fst : Bool), true), (Option.isSome (f82 (((r4.fst.fst : Int), ((r4.fst.snd.fst : Int), ())), (((r2.fst.fst : Int), ((r2.fst.snd.fst : Int), ())), ()))), true), (Option.isSome (f97 (x1'', ((r0.fst.snd.snd.fst : Int), ()))), true), ((!leF r0.fst.snd.snd.fst (0 : Int) : Bool), true), ((!leF (0 : Int) r3.fst : Bool), true), (Option.isSome (f82 (((r2.fst.fst : Int), ((r2.fst.snd.fst : Int), ())), (((r1.fst.fst : Int), ((r1.fst.snd.fst : Int), ())), ()))), true), (Option.isSome (f97 (x1', ((r0.fst.snd.fst : Int), ()))), true), ((!leF r0.fst.snd.fst (0 : Int) : Bool), true), (Option.isSome (f97 (x1, ((r0.fst.fst : Int), ()))), true), ((eqF r0.fst.fst (0 : Int) : Bool), false), (Option.isSome (f30 (x0, ())), true)])) := by kernel_rfl
theorem e32_2 (x0 : (List Int)) (x1 : Int) (x1' : Int) (x1'' : Int) : runPure kf82.orc Go.Proofs.Try.prog 400 32 as32 rs32 (x0, (x1, x1', x1'', ()), ()) [true, false, true, true, true, true, true, true, true, true, false] =
    (let r0 : (Int × Int × Int × PUnit) × PUnit := g30 (x0, ()); let r1 : (Int × Int × PUnit) × PUnit := g97 (x1, ((r0.fst.fst : Int), ())); let r2 : (Int × Int × PUnit) × PUnit := g97 (x1', ((r0.fst.snd.fst : Int), ())); let r3 : Int × PUnit := g82 (((r2.fst.fst : Int), ((r2.fst.snd.fst : Int), ())), (((r1.fst.fst : Int), ((r1.fst.snd.fst : Int), ())), ())); let r4 : (Int × Int × PUnit) × PUnit := g97 (x1'', ((r0.fst.snd.snd.fst : Int), ())); let r5 : Int × PUnit := g82 (((r4.fst.fst : Int), ((r4.fst.snd.fst : Int), ())), (((r2.fst.fst : Int), ((r2.fst.snd.fst : Int), ())), ())); some ((((r2.fst.fst : Int), ((r2.fst.snd.fst : Int), ())), ((true : Bool), ())), [((!leF (0 : Int) r5.fst : Bool), false), (Option.isSome (f82 (((r4.fst.fst : Int), ((r4.fst.snd.fst : Int), ())), (((r2.fst.fst : Int), ((r2.fst.snd.fst : Int), ())), ()))), true), (Option.isSome (f97 (x1'', ((r0.fst.snd.snd.fst : Int), ()))), true), ((!leF r0.fst.snd.snd.fst (0 : Int) : Bool), true), ((!leF (0 : Int) r3.fst : Bool), true), (Option.isSome (f82 (((r2.fst.fst : Int), ((r2.fst.snd.fst : Int), ())), (((r1.fst.fst : Int), ((r1.fst.snd.fst : Int), ())), ()))), true), (Option.isSome (f97 (x1', ((r0.fst.snd.fst : Int), ()))), true), ((!leF r0.fst.snd.fst (0 : Int) : Bool), true), (Option.isSome (f97 (x1, ((r0.fst.fst : Int), ()))), true), ((eqF r0.fst.fst (0 : Int) : Bool), false), (Option.isSome (f30 (x0, ())), true)])) := by kernel_rfl
theorem e32_3 (x0 : (List Int)) (x1 : Int) (x1' : Int) (x1'' : Int) : runPure kf82.orc Go.Proofs.Try.prog 400 32 as32 rs32 (x0, (x1, x1', x1'', ()), ()) [true, false, true, true, true, true, true, false] =
    (let r0 : (Int × Int × Int × PUnit) × PUnit := g30 (x0, ()); let r1 : (Int × Int × PUnit) × PUnit := g97 (x1, ((r0.fst.fst : Int), ())); let r2 : (Int × Int × PUnit) × PUnit := g97 (x1', ((r0.fst.snd.fst : Int), ())); let r3 : Int × PUnit := g82 (((r2.fst.fst : Int), ((r2.fst.snd.fst : Int), ())), (((r1.fst.fst : Int), ((r1.fst.snd.fst : Int), ())), ())); some ((((r2.fst.fst : Int), ((r2.fst.snd.fst : Int), ())), ((true : Bool), ())), [((!leF r0.fst.snd.snd.fst (0 : Int) : Bool), false), ((!leF (0 : Int) r3.fst : Bool), true), (Option.isSome (f82 (((r2.fst.fst : Int), ((r2.fst.snd.fst : Int), ())), (((r1.fst.fst : Int), ((r1.fst.snd.fst : Int), ())), ()))), true), (Option.isSome (f97 (x1', ((r0.fst.snd.fst : Int), ()))), true), ((!leF r0.fst.snd.fst (0 : Int) : Bool), true), (Option.isSome (f97 (x1, ((r0.fst.fst : Int), ()))), true), ((eqF r0.fst.fst (0 : Int) : Bool), false), (Option.isSome (f30 (x0, ())), true)])) := by kernel_rfl
theorem e32_4 (x0 : (List Int)) (x1 : Int) (x1' : Int) (x1'' : Int) : runPure kf82.orc Go.Proofs.Try.prog 400 32 as32 rs32 (x0, (x1, x1', x1'', ()), ()) [true, false, true, true, true, true, false, true, true, true, true] =
    (let r0 : (Int × Int × Int × PUnit) × PUnit := g30 (x0, ()); let r1 : (Int × Int × PUnit) × PUnit := g97 (x1, ((r0.fst.fst : Int), ())); let r2 : (Int × Int × PUnit) × PUnit := g97 (x1', ((r0.fst.snd.fst : Int), ())); let r3 : Int × PUnit := g82 (((r2.fst.fst : Int), ((r2.fst.snd.fst : Int), ())), (((r1.fst.fst : Int), ((r1.fst.snd.fst : Int), ())), ())); let r4 : (Int × Int × PUnit) × PUnit := g97 (x1'', ((r0.fst.snd.snd.fst : Int), ())); let r6 : Int × PUnit := g82 (((r4.fst.fst : Int), ((r4.fst.snd.fst : Int), ())), (((r1.fst.fst : Int), ((r1.fst.snd.fst : Int), ())), ())); some ((((r4.fst.fst : Int), ((r4.fst.snd.fst : Int), ())), ((true : Bool), ())), [((!leF (0 : Int) r6.fst : Bool), true), (Option.isSome (f82 (((r4.fst.fst : Int), ((r4.fst.snd.fst : Int), ())), (((r1.fst.fst : Int), ((r1.fst.snd.fst : Int), ())), ()))), true), (Option.isSome (f97 (x1'', ((r0.fst.snd.snd.fst : Int), ()))), true), ((!leF r0.fst.snd.snd.fst (0 : Int) : Bool), true), ((!leF (0 : Int) r3.fst : Bool), false), (Option.isSome (f82 (((r2.fst.fst : Int), ((r2.fst.snd.fst : Int), ())), (((r1.fst.fst : Int), ((r1.fst.snd.fst : Int), ())), ()))), true), (Option.isSome (f97 (x1', ((r0.fst.snd.fst : Int), ()))), true), ((!leF r0.fst.snd.fst (0 : Int) : Bool), true), (Option.isSome (f97 (x1, ((r0.fst.fst : Int), ()))), true), ((eqF r0.fst.fst (0 : Int) : Bool), false), (Option.isSome (f30 (x0, ())), true)])) := by kernel_rfl
theorem e32_5 (x0 : (List Int)) (x1 : Int) (x1' : Int) (x1'' : Int) : runPure kf82.orc Go.Proofs.Try.prog 400 32 as32 rs32 (x0, (x1, x1', x1'', ()), ()) [true, false, true, true, true, true, false, true, true, true, false] =
    (let r0 : (Int × Int × Int × PUnit) × PUnit := g30 (x0, ()); let r1 : (Int × Int × PUnit) × PUnit := g97 (x1, ((r0.fst.fst : Int), ())); let r2 : (Int × Int × PUnit) × PUnit := g97 (x1', ((r0.fst.snd.fst : Int), ())); let r3 : Int × PUnit := g82 (((r2.fst.fst : Int), ((r2.fst.snd.fst : Int), ())), (((r1.fst.fst : Int), ((r1.fst.snd.fst : Int), ())), ())); let r4 : (Int × Int × PUnit) × PUnit := g97 (x1'', ((r0.fst.snd.snd.fst : Int), ())); let r6 : Int × PUnit := g82 (((r4.fst.fst : Int), ((r4.fst.snd.fst : Int), ())), (((r1.fst.fst : Int), ((r1.fst.snd.fst : Int), ())), ())); some ((((r1.fst.fst : Int), ((r1.fst.snd.fst : Int), ())), ((true : Bool), ())), [((!leF (0 : Int) r6.fst : Bool), false), (Option.isSome (f82 (((r4.fst.fst : Int), ((r4.fst.snd.fst : Int), ())), (((r1.fst.fst : Int), ((r1.fst.snd.fst : Int), ())), ()))), true), (Option.isSome (f97 (x1'', ((r0.fst.snd.snd.fst : Int), ()))), true), ((!leF r0.fst.snd.snd.fst (0 : Int) : Bool), true), ((!leF (0 : Int) r3.fst : Bool), false), (Option.isSome (f82 (((r2.fst.fst : Int), ((r2.fst.snd.fst : Int), ())), (((r1.fst.fst : Int), ((r1.fst.snd.fst : Int), ())), ()))), true), (Option.isSome (f97 (x1', ((r0.fst.snd.fst : Int), ()))), true), ((!leF r0.fst.snd.fst (0 : Int) : Bool), true), (Option.isSome (f97 (x1, ((r0.fst.fst : Int), ()))), true), ((eqF r0.fst.fst (0 : Int) : Bool), false), (Option.isSome (f30 (x0, ())), true)])) := by kernel_rfl
theorem e32_6 (x0 : (List Int)) (x1 : Int) (x1' : Int) (x1'' : Int) : runPure kf82.orc Go.Proofs.Try.prog 400 32 as32 rs32 (x0, (x1, x1', x1'', ()), ()) [true, false, true, true, true, true, false, false] =
    (let r0 : (Int × Int × Int × PUnit) × PUnit := g30 (x0, ()); let r1 : (Int × Int × PUnit) × PUnit := g97 (x1, ((r0.fst.fst : Int), ())); let r2 : (Int × Int × PUnit) × PUnit := g97 (x1', ((r0.fst.snd.fst : Int), ())); let r3 : Int × PUnit := g82 (((r2.fst.fst : Int), ((r2.fst.snd.fst : Int), ())), (((r1.fst.fst : Int), ((r1.fst.snd.fst : Int), ())), ())); some ((((r1.fst.fst : Int), ((r1.fst.snd.fst : Int), ())), ((true : Bool), ())), [((!leF r0.fst.snd.snd.fst (0 : Int) : Bool), false), ((!leF (0 : Int) r3.fst : Bool), false), (Option.isSome (f82 (((r2.fst.fst : Int), ((r2.fst.snd.fst : Int), ())), (((r1.fst.fst : Int), ((r1.fst.snd.fst : Int), ())), ()))), true), (Option.isSome (f97 (x1', ((r0.fst.snd.fst : Int), ()))), true), ((!leF r0.fst.snd.fst (0 : Int) : Bool), true), (Option.isSome (f97 (x1, ((r0.fst.fst : Int), ()))), true), ((eqF r0.fst.fst (0 : Int) : Bool), false), (Option.isSome (f30 (x0, ())), true)])) := by kernel_rfl
theorem e32_7 (x0 : (List Int)) (x1 : Int) (x1' : Int) (x1'' : Int) : runPure kf82.orc Go.Proofs.Try.prog 400 32 as32 rs32 (x0, (x1, x1', x1'', ()), ()) [true, false, true, false, true, true, true, true] =
    (let r0 : (Int × Int × Int × PUnit) × PUnit := g30 (x0, ()); let r1 : (Int × Int × PUnit) × PUnit := g97 (x1, ((r0.fst.fst : Int), ())); let r4 : (Int × Int × PUnit) × PUnit := g97 (x1'', ((r0.fst.snd.snd.fst : Int), ())); let r6 : Int × PUnit := g82 (((r4.fst.fst : Int), ((r4.fst.snd.fst : Int), ())), (((r1.fst.fst : Int), ((r1.fst.snd.fst : Int), ())), ())); some ((((r4.fst.fst : Int), ((r4.fst.snd.fst : Int), ())), ((true : Bool), ())), [((!leF (0 : Int) r6.fst : Bool), true), (Option.isSome (f82 (((r4.fst.fst : Int), ((r4.fst.snd.fst : Int), ())), (((r1.fst.fst : Int), ((r1.fst.snd.fst : Int), ())), ()))), true), (Option.isSome (f97 (x1'', ((r0.fst.snd.snd.fst : Int), ()))), true), ((!leF r0.fst.snd.snd.fst (0 : Int) : Bool), true), ((!leF r0.fst.snd.fst (0 : Int) : Bool), false), (Option.isSome (f97 (x1, ((r0.fst.fst : Int), ()))), true), ((eqF r0.fst.fst (0 : Int) : Bool), false), (Option.isSome (f30 (x0, ())), true)])) := by kernel_rfl
theorem e32_8 (x0 : (List Int)) (x1 : Int) (x1' : Int) (x1'' : Int) : runPure kf82.orc Go.Proofs.Try.prog 400 32 as32 rs32 (x0, (x1, x1', x1'', ()), ()) [true, false, true, false, true, true, true, false] =
    (let r0 : (Int × Int × Int × PUnit) × PUnit := g30 (x0, ()); let r1 : (Int × Int × PUnit) × PUnit := g97 (x1, ((r0.fst.fst : Int), ())); let r4 : (Int × Int × PUnit) × PUnit := g97 (x1'', ((r0.fst.snd.snd.fst : Int), ())); let r6 : Int × PUnit := g82 (((r4.fst.fst : Int), ((r4.fst.snd.fst : Int), ())), (((r1.fst.fst : Int), ((r1.fst.snd.fst : Int), ())), ())); some ((((r1.fst.fst : Int), ((r1.fst.snd.fst : Int), ())), ((true : Bool), ())), [((!leF (0 : Int) r6.fst : Bool), false), (Option.isSome (f82 (((r4.fst.fst : Int), ((r4.fst.snd.fst : Int), ())), (((r1.fst.fst : Int), ((r1.fst.snd.fst : Int), ())), ()))), true), (Option.isSome (f97 (x1'', ((r0.fst.snd.snd.fst : Int), ()))), true), ((!leF r0.fst.snd.snd.fst (0 : Int) : Bool), true), ((!leF r0.fst.snd.fst (0 : Int) : Bool), false), (Option.isSome (f97 (x1, ((r0.fst.fst : Int), ()))), true), ((eqF r0.fst.fst (0 : Int) : Bool), false), (Option.isSome (f30 (x0, ())), true)])) := by kernel_rfl
theorem e32_9 (x0 : (List Int)) (x1 : Int) (x1' : Int) (x1'' : Int) : runPure kf82.orc Go.Proofs.Try.prog 400 32 as32 rs32 (x0, (x1, x1', x1'', ()), ()) [true, false, true, false, false] =
    (let r0 : (Int × Int × Int × PUnit) × PUnit := g30 (x0, ()); let r1 : (Int × Int × PUnit) × PUnit := g97 (x1, ((r0.fst.fst : Int), ())); some ((((r1.fst.fst : Int), ((r1.fst.snd.fst : Int), ())), ((true : Bool), ())), [((!leF r0.fst.snd.snd.fst (0 : Int) : Bool), false), ((!leF r0.fst.snd.fst (0 : Int) : Bool), false), (Option.isSome (f97 (x1, ((r0.fst.fst : Int), ()))), true), ((eqF r0.fst.fst (0 : Int) : Bool), false), (Option.isSome (f30 (x0, ())), true)])) := by kernel_rfl

theorem ok32_t (x0 : (List Int)) (x1 : Int) (x1' : Int) (x1'' : Int) : TrOk (PureRuns Go.Proofs.Try.prog kf82.orc 32 as32 rs32 (x0, (x1, x1', x1'', ()), ())) (t32 x0 x1 x1' x1'') :=
  TrOk.ofTest (fun h0 => TrOk.ofTest (fun h1 => TrOk.ofFin (PureRuns.of (e32_0 x0 x1 x1' x1'') (All.cons h1 (All.cons h0 (All.nil))))) (fun h1 => TrOk.ofTest (fun h2 => TrOk.ofTest (fun h3 => TrOk.ofTest (fun h4 => TrOk.ofTest (fun h5 => TrOk.ofTest (fun h6 => TrOk.ofTest (fun h7 => TrOk.ofTest (fun h8 => TrOk.ofTest (fun h9 => TrOk.ofTest (fun h10 => TrOk.ofFin (PureRuns.of (e32_1 x0 x1 x1' x1'') (All.cons h10 (All.cons h9 (All.cons h8 (All.cons h7 (All.cons h6 (All.cons h5 (All.cons h4 (All.cons h3 (All.cons h2 (All.cons h1 (All.cons h0 (All.nil)))))))))))))) (fun h10 => TrOk.ofFin (PureRuns.of (e32_2 x0 x1 x1' x1'') (All.cons h10 (All.cons h9 (All.cons h8 (All.cons h7 (All.cons h6 (All.cons h5 (All.cons h4 (All.cons h3 (All.cons h2 (All.cons h1 (All.cons h0 (All.nil))))))))))))))) (fun h9 => TrOk.ofStop)) (fun h8 => TrOk.ofStop)) (fun h7 => TrOk.ofFin (PureRuns.of (e32_3 x0 x1 x1' x1'') (All.cons h7 (All.cons h6 (All.cons h5 (All.cons h4 (All.cons h3 (All.cons h2 (All.cons h1 (All.cons h0 (All.nil)))))))))))) (fun h6 => TrOk.ofTest (fun h7 => TrOk.ofTest (fun h8 => TrOk.ofTest (fun h9 => TrOk.ofTest (fun h10 => TrOk.ofFin (PureRuns.of (e32_4 x0 x1 x1' x1'') (All.cons h10 (All.cons h9 (All.cons h8 (All.cons h7 (All.cons h6 (All.cons h5 (All.cons h4 (All.cons h3 (All.cons h2 (All.cons h1 (All.cons h0 (All.nil)))))))))))))) (fun h10 => TrOk.ofFin (PureRuns.of (e32_5 x0 x1 x1' x1'') (All.cons h10 (All.cons h9 (All.cons h8 (All.cons h7 (All.cons h6 (All.cons h5 (All.cons h4 (All.cons h3 (All.cons h2 (All.cons h1 (All.cons h0 (All.nil))))))))))))))) (fun h9 => TrOk.ofStop)) (fun h8 => TrOk.ofStop)) (fun h7 => TrOk.ofFin (PureRuns.of (e32_6 x0 x1 x1' x1'') (All.cons h7 (All.cons h6 (All.cons h5 (All.cons h4 (All.cons h3 (All.cons h2 (All.cons h1 (All.cons h0 (All.nil))))))))))))) (fun h5 => TrOk.ofStop)) (fun h4 => TrOk.ofStop)) (fun h3 => TrOk.ofTest (fun h4 => TrOk.ofTest (fun h5 => TrOk.ofTest (fun h6 => TrOk.ofTest (fun h7 => TrOk.ofFin (PureRuns.of (e32_7 x0 x1 x1' x1'') (All.cons h7 (All.cons h6 (All.cons h5 (All.cons h4 (All.cons h3 (All.cons h2 (All.cons h1 (All.cons h0 (All.nil))))))))))) (fun h7 => TrOk.ofFin (PureRuns.of (e32_8 x0 x1 x1' x1'') (All.cons h7 (All.cons h6 (All.cons h5 (All.cons h4 (All.cons h3 (All.cons h2 (All.cons h1 (All.cons h0 (All.nil)))))))))))) (fun h6 => TrOk.ofStop)) (fun h5 => TrOk.ofStop)) (fun h4 => TrOk.ofFin (PureRuns.of (e32_9 x0 x1 x1' x1'') (All.cons h4 (All.cons h3 (All.cons h2 (All.cons h1 (All.cons h0 (All.nil)))))))))) (fun h2 => TrOk.ofStop))) (fun h0 => TrOk.ofStop)

theorem ok32 : PureOk Go.Proofs.Try.prog 32 p32 := pureOk_of kf82_ok.base (T := fun (d : Tys.data as32) => t32 d.1 d.2.1.1 d.2.1.2.1 d.2.1.2.2.1) (by kernel_rfl) (fun (d : Tys.data as32) => ok32_t d.1 d.2.1.1 d.2.1.2.1 d.2.1.2.2.1)
def kf32 : Known := kf82.func 32 p32
theorem kf32_ok : KnownOk Go.Proofs.Try.prog kf32 := kf82_ok.func ok32

/-! ductility/ductilitylaw02.MotionPeaks -/

abbrev as4 : List Ty := [(.pair (.int .i64) (.pair (.slice (.int .i64)) .unit)), (.pair (.int .i64) (.pair (.int .i64) (.pair (.int .i64) .unit)))]
abbrev rs4 : List Ty := [.bool]

def t4 (x0 : Int) (x0' : (List Int)) (x1 : Int) (x1' : Int) (x1'' : Int) : Tr (Tys.data rs4) :=
  Tr.test (Option.isSome (f16 ((x0, (x0', ())), ())))
    (let r0 : Bool × PUnit := g16 ((x0, (x0', ())), ());
    Tr.test ((!r0.fst : Bool))
      (Tr.fin (((true : Bool), ())))
      (Tr.test (Option.isSome (f18 ((x0, (x0', ())), ())))
        (let r1 : (Int × List Int × PUnit) × PUnit := g18 ((x0, (x0', ())), ());
        Tr.test (Option.isSome (f27 (((r1.fst.fst : Int), ((r1.fst.snd.fst : List Int), ())), ())))
          (Tr.test (Option.isSome (f28 (((r1.fst.fst : Int), ((r1.fst.snd.fst : List Int), ())), ((x1, (x1', (x1'', ()))), ()))))
            (Tr.test (Option.isSome (f29 ((x0, (x0', ())), ())))
              (let r4 : Int × PUnit := g29 ((x0, (x0', ())), ());
              Tr.test ((!eqF r4.fst (0 : Int) : Bool))
                (let r2 : (Int × Int × Int × PUnit) × Int × PUnit := g27 (((r1.fst.fst : Int), ((r1.fst.snd.fst : List Int), ())), ());
                Tr.test ((eqF r2.snd.fst r4.fst : Bool))
                  (Tr.test ((r2.fst.fst == (0 : Int) && (r2.fst.snd.fst == (0 : Int) && (r2.fst.snd.snd.fst == (0 : Int) && true)) : Bool))
                    (let r3 : (Int × Int × PUnit) × Int × PUnit := g28 (((r1.fst.fst : Int), ((r1.fst.snd.fst : List Int), ())), ((x1, (x1', (x1'', ()))), ()));
                    Tr.test ((eqF r3.snd.fst r4.fst : Bool))
                      (Tr.fin (((r3.fst.fst == (0 : Int) && (r3.fst.snd.fst == (0 : Int) && true) : Bool), ())))
                      (Tr.fin (((false : Bool), ()))))
                    (Tr.fin (((false : Bool), ()))))
                  (Tr.fin (((false : Bool), ()))))
                (let r2 : (Int × Int × Int × PUnit) × Int × PUnit := g27 (((r1.fst.fst : Int), ((r1.fst.snd.fst : List Int), ())), ());
                Tr.test ((!eqF r2.snd.fst (0 : Int) : Bool))
                  (Tr.fin (((false : Bool), ())))
                  (Tr.test (Option.isSome (f30 (x0', ())))
                    (let r5 : (Int × Int × Int × PUnit) × PUnit := g30 (x0', ());
                    Tr.test ((!(r2.fst.fst == r5.fst.fst && (r2.fst.snd.fst == r5.fst.snd.fst && (r2.fst.snd.snd.fst == r5.fst.snd.snd.fst && true))) : Bool))
                      (Tr.fin (((false : Bool), ())))
                      (Tr.test (Option.isSome (f31 ((x1, (x1', (x1'', ()))), ())))
                        (let r6 : Int × PUnit := g31 ((x1, (x1', (x1'', ()))), ());
                        Tr.test ((!eqF r6.fst (0 : Int) : Bool))
                          (let r3 : (Int × Int × PUnit) × Int × PUnit := g28 (((r1.fst.fst : Int), ((r1.fst.snd.fst : List Int), ())), ((x1, (x1', (x1'', ()))), ()));
                          Tr.test ((eqF r3.snd.fst r6.fst : Bool))
                            (Tr.fin (((r3.fst.fst == (0 : Int) && (r3.fst.snd.fst == (0 : Int) && true) : Bool), ())))
                            (Tr.fin (((false : Bool), ()))))
                          (Tr.test (Option.isSome (f32 (x0', ((x1, (x1', (x1'', ()))), ()))))
                            (let r7 : (Int × Int × PUnit) × Bool × PUnit := g32 (x0', ((x1, (x1', (x1'', ()))), ()));
                            Tr.test ((!r7.snd.fst : Bool))
                              (let r3 : (Int × Int × PUnit) × Int × PUnit := g28 (((r1.fst.fst : Int), ((r1.fst.snd.fst : List Int), ())), ((x1, (x1', (x1'', ()))), ()));
                              Tr.test ((eqF r3.snd.fst (12 : Int) : Bool))
                                (Tr.fin (((r3.fst.fst == (0 : Int) && (r3.fst.snd.fst == (0 : Int) && true) : Bool), ())))
                                (Tr.fin (((false : Bool), ()))))
                              (let r3 : (Int × Int × PUnit) × Int × PUnit := g28 (((r1.fst.fst : Int), ((r1.fst.snd.fst : List Int), ())), ((x1, (x1', (x1'', ()))), ()));
                              Tr.test ((!eqF r3.snd.fst (0 : Int) : Bool))
                                (Tr.fin (((false : Bool), ())))
                                (Tr.test ((!(r3.fst.fst == r7.fst.fst && (r3.fst.snd.fst == r7.fst.snd.fst && true)) : Bool))
                                  (Tr.fin (((false : Bool), ())))
                                  (Tr.test ((!leF (wrap64 (r3.fst.fst * r2.fst.fst)) (wrap64 (x1 * r3.fst.snd.fst)) : Bool))
                                    (Tr.fin (((false : Bool), ())))
                                    (Tr.test ((!leF (wrap64 (r3.fst.fst * r2.fst.snd.fst)) (wrap64 (x1' * r3.fst.snd.fst)) : Bool))
                                      (Tr.fin (((false : Bool), ())))
                                      (Tr.test ((!leF (wrap64 (r3.fst.fst * r2.fst.snd.snd.fst)) (wrap64 (x1'' * r3.fst.snd.fst)) : Bool))
                                        (Tr.fin (((false : Bool), ())))
                                        (Tr.test ((eqF (wrap64 (r3.fst.fst * r2.fst.fst)) (wrap64 (x1 * r3.fst.snd.fst)) : Bool))
                                          (Tr.fin (((true : Bool), ())))
                                          (Tr.test ((!leF r2.fst.snd.fst (0 : Int) : Bool))
                                            (Tr.test ((eqF (wrap64 (r3.fst.fst * r2.fst.snd.fst)) (wrap64 (x1' * r3.fst.snd.fst)) : Bool))
                                              (Tr.fin (((true : Bool), ())))
                                              (Tr.test ((!leF r2.fst.snd.snd.fst (0 : Int) : Bool))
                                                (Tr.fin (((eqF (wrap64 (r3.fst.fst * r2.fst.snd.snd.fst)) (wrap64 (x1'' * r3.fst.snd.fst)) : Bool), ())))
                                                (Tr.fin (((false : Bool), ())))))
                                            (Tr.test ((!leF r2.fst.snd.snd.fst (0 : Int) : Bool))
                                              (Tr.fin (((eqF (wrap64 (r3.fst.fst * r2.fst.snd.snd.fst)) (wrap64 (x1'' * r3.fst.snd.fst)) : Bool), ())))
                                              (Tr.fin (((false : Bool), ()))))))))))))
                            (Tr.stop)))
                        (Tr.stop)))
                    (Tr.stop))))
              (Tr.stop))
            (Tr.stop))
          (Tr.stop))
        (Tr.stop)))
    (Tr.stop)

def f4 (d : Tys.data as4) : Option (Tys.data rs4) := (t4 d.1.1 d.1.2.1 d.2.1.1 d.2.1.2.1 d.2.1.2.2.1).val
def g4 (d : Tys.data as4) : Tys.data rs4 := (f4 d).getD (Tys.dflt rs4)
def p4 : PureC := pcOf as4 rs4 f4 g4

theorem e4_0 (x0 : Int) (x0' : (List Int)) (x1 : Int) (x1' : Int) (x1'' : Int) : runPure kf32.orc Go.Proofs.Try.prog 400 4 as4 rs4 ((x0, x0', ()), (x1, x1', x1'', ()), ()) [true, false, true, true] =
    (let r0 : Bool × PUnit := g16 ((x0, (x0', ())), ()); some (((true : Bool), ()), [((!r0.fst : Bool), true), (Option.isSome (f16 ((x0, (x0', ())), ())), true), ((false : Bool), false), ((true : Bool), true)])) := by kernel_rfl
theorem e4_1 (x0 : Int) (x0' : (List Int)) (x1 : Int) (x1' : Int) (x1'' : Int) : runPure kf32.orc Go.Proofs.Try.prog 400 4 as4 rs4 ((x0, x0', ()), (x1, x1', x1'', ()), ()) [true, false, true, false, true, true, true, true, true, true, true, true, true, true, true, true, true, true, true, true, true, true] =
    (let r0 : Bool × PUnit := g16 ((x0, (x0', ())), ()); let r1 : (Int × List Int × PUnit) × PUnit := g18 ((x0, (x0', ())), ()); let r4 : Int × PUnit := g29 ((x0, (x0', ())), ()); let r2 : (Int × Int × Int × PUnit) × Int × PUnit := g27 (((r1.fst.fst : Int), ((r1.fst.snd.fst : List Int), ())), ()); let r3 : (Int × Int × PUnit) × Int × PUnit := g28 (((r1.fst.fst : Int), ((r1.fst.snd.fst : List Int), ())), ((x1, (x1', (x1'', ()))), ())); some (((r3.fst.fst == (0 : Int) && (r3.fst.snd.fst == (0 : Int) && true) : Bool), ()), [((eqF r3.snd.fst r4.fst : Bool), true), ((eqF r3.snd.fst r4.fst : Bool), true), ((eqF r3.snd.fst r4.fst : Bool), true), ((eqF r3.snd.fst r4.fst : Bool), true), ((r2.fst.fst == (0 : Int) && (r2.fst.snd.fst == (0 : Int) && (r2.fst.snd.snd.fst == (0 : Int) && true)) : Bool), true), ((r2.fst.fst == (0 : Int) && (r2.fst.snd.fst == (0 : Int) && (r2.fst.snd.snd.fst == (0 : Int) && true)) : Bool), true), ((r2.fst.fst == (0 : Int) && (r2.fst.snd.fst == (0 : Int) && (r2.fst.snd.snd.fst == (0 : Int) && true)) : Bool), true), ((r2.fst.fst == (0 : Int) && (r2.fst.snd.fst == (0 : Int) && (r2.fst.snd.snd.fst == (0 : Int) && true)) : Bool), true), ((eqF r2.snd.fst r4.fst : Bool), true), ((eqF r2.snd.fst r4.fst : Bool), true), ((eqF r2.snd.fst r4.fst : Bool), true), ((eqF r2.snd.fst r4.fst : Bool), true), ((!eqF r4.fst (0 : Int) : Bool), true), (Option.isSome (f29 ((x0, (x0', ())), ())), true), (Option.isSome (f28 (((r1.fst.fst : Int), ((r1.fst.snd.fst : List Int), ())), ((x1, (x1', (x1'', ()))), ()))), true), (Option.isSome (f18 ((x0, (x0', ())), ())), true), (Option.isSome (f27 (((r1.fst.fst : Int), ((r1.fst.snd.fst : List Int), ())), ())), true), (Option.isSome (f18 ((x0, (x0', ())), ())), true), ((!r0.fst : Bool), false), (Option.isSome (f16 ((x0, (x0', ())), ())), true), ((false : Bool), false), ((true : Bool), true)])) := by kernel_rfl
theorem e4_2 (x0 : Int) (x0' : (List Int)) (x1 : Int) (x1' : Int) (x1'' : Int) : runPure kf32.orc Go.Proofs.Try.prog 400 4 as4 rs4 ((x0, x0', ()), (x1, x1', x1'', ()), ()) [true, false, true, false, true, true, true, true, true, true, true, true, true, true, true, true, true, true, false, false, false, false] =
    (let r0 : Bool × PUnit := g16 ((x0, (x0', ())), ()); let r1 : (Int × List Int × PUnit) × PUnit := g18 ((x0, (x0', ())), ()); let r4 : Int × PUnit := g29 ((x0, (x0', ())), ()); let r2 : (Int × Int × Int × PUnit) × Int × PUnit := g27 (((r1.fst.fst : Int), ((r1.fst.snd.fst : List Int), ())), ()); let r3 : (Int × Int × PUnit) × Int × PUnit := g28 (((r1.fst.fst : Int), ((r1.fst.snd.fst : List Int), ())), ((x1, (x1', (x1'', ()))), ())); some (((false : Bool), ()), [((eqF r3.snd.fst r4.fst : Bool), false), ((eqF r3.snd.fst r4.fst : Bool), false), ((eqF r3.snd.fst r4.fst : Bool), false), ((eqF r3.snd.fst r4.fst : Bool), false), ((r2.fst.fst == (0 : Int) && (r2.fst.snd.fst == (0 : Int) && (r2.fst.snd.snd.fst == (0 : Int) && true)) : Bool), true), ((r2.fst.fst == (0 : Int) && (r2.fst.snd.fst == (0 : Int) && (r2.fst.snd.snd.fst == (0 : Int) && true)) : Bool), true), ((r2.fst.fst == (0 : Int) && (r2.fst.snd.fst == (0 : Int) && (r2.fst.snd.snd.fst == (0 : Int) && true)) : Bool), true), ((r2.fst.fst == (0 : Int) && (r2.fst.snd.fst == (0 : Int) && (r2.fst.snd.snd.fst == (0 : Int) && true)) : Bool), true), ((eqF r2.snd.fst r4.fst : Bool), true), ((eqF r2.snd.fst r4.fst : Bool), true), ((eqF r2.snd.fst r4.fst : Bool), true), ((eqF r2.snd.fst r4.fst : Bool), true), ((!eqF r4.fst (0 : Int) : Bool), true), (Option.isSome (f29 ((x0, (x0', ())), ())), true), (Option.isSome (f28 (((r1.fst.fst : Int), ((r1.fst.snd.fst : List Int), ())), ((x1, (x1', (x1'', ()))), ()))), true), (Option.isSome (f18 ((x0, (x0', ())), ())), true), (Option.isSome (f27 (((r1.fst.fst : Int), ((r1.fst.snd.fst : List Int), ())), ())), true), (Option.isSome (f18 ((x0, (x0', ())), ())), true), ((!r0.fst : Bool), false), (Option.isSome (f16 ((x0, (x0', ())), ())), true), ((false : Bool), false), ((true : Bool), true)])) := by kernel_rfl
theorem e4_3 (x0 : Int) (x0' : (List Int)) (x1 : Int) (x1' : Int) (x1'' : Int) : runPure kf32.orc Go.Proofs.Try.prog 400 4 as4 rs4 ((x0, x0', ()), (x1, x1', x1'', ()), ()) [true, false, true, false, true, true, true, true, true, true, true, true, true, true, false, false, false, false, false, false, false, false] =
    (let r0 : Bool × PUnit := g16 ((x0, (x0', ())), ()); let r1 : (Int × List Int × PUnit) × PUnit := g18 ((x0, (x0', ())), ()); let r4 : Int × PUnit := g29 ((x0, (x0', ())), ()); let r2 : (Int × Int × Int × PUnit) × Int × PUnit := g27 (((r1.fst.fst : Int), ((r1.fst.snd.fst : List Int), ())), ()); some (((false : Bool), ()), [((false : Bool), false), ((false : Bool), false), ((false : Bool), false), ((false : Bool), false), ((r2.fst.fst == (0 : Int) && (r2.fst.snd.fst == (0 : Int) && (r2.fst.snd.snd.fst == (0 : Int) && true)) : Bool), false), ((r2.fst.fst == (0 : Int) && (r2.fst.snd.fst == (0 : Int) && (r2.fst.snd.snd.fst == (0 : Int) && true)) : Bool), false), ((r2.fst.fst == (0 : Int) && (r2.fst.snd.fst == (0 : Int) && (r2.fst.snd.snd.fst == (0 : Int) && true)) : Bool), false), ((r2.fst.fst == (0 : Int) && (r2.fst.snd.fst == (0 : Int) && (r2.fst.snd.snd.fst == (0 : Int) && true)) : Bool), false), ((eqF r2.snd.fst r4.fst : Bool), true), ((eqF r2.snd.fst r4.fst : Bool), true), ((eqF r2.snd.fst r4.fst : Bool), true), ((eqF r2.snd.fst r4.fst : Bool), true), ((!eqF r4.fst (0 : Int) : Bool), true), (Option.isSome (f29 ((x0, (x0', ())), ())), true), (Option.isSome (f28 (((r1.fst.fst : Int), ((r1.fst.snd.fst : List Int), ())), ((x1, (x1', (x1'', ()))), ()))), true), (Option.isSome (f18 ((x0, (x0', ())), ())), true), (Option.isSome (f27 (((r1.fst.fst : Int), ((r1.fst.snd.fst : List Int), ())), ())), true), (Option.isSome (f18 ((x0, (x0', ())), ())), true), ((!r0.fst : Bool), false), (Option.isSome (f16 ((x0, (x0', ())), ())), true), ((false : Bool), false), ((true : Bool), true)])) := by kernel_rfl
theorem e4_4 (x0 : Int) (x0' : (List Int)) (x1 : Int) (x1' : Int) (x1'' : Int) : runPure kf32.orc Go.Proofs.Try.prog 400 4 as4 rs4 ((x0, x0', ()), (x1, x1', x1'', ()), ()) [true, false, true, false, true, true, true, true, true, true, false, false, false, false, false, false, false, false, false, false, false, false] =
    (let r0 : Bool × PUnit := g16 ((x0, (x0', ())), ()); let r1 : (Int × List Int × PUnit) × PUnit := g18 ((x0, (x0', ())), ()); let r4 : Int × PUnit := g29 ((x0, (x0', ())), ()); let r2 : (Int × Int × Int × PUnit) × Int × PUnit := g27 (((r1.fst.fst : Int), ((r1.fst.snd.fst : List Int), ())), ()); some (((false : Bool), ()), [((false : Bool), false), ((false : Bool), false), ((false : Bool), false), ((false : Bool), false), ((false : Bool), false), ((false : Bool), false), ((false : Bool), false), ((false : Bool), false), ((eqF r2.snd.fst r4.fst : Bool), false), ((eqF r2.snd.fst r4.fst : Bool), false), ((eqF r2.snd.fst r4.fst : Bool), false), ((eqF r2.snd.fst r4.fst : Bool), false), ((!eqF r4.fst (0 : Int) : Bool), true), (Option.isSome (f29 ((x0, (x0', ())), ())), true), (Option.isSome (f28 (((r1.fst.fst : Int), ((r1.fst.snd.fst : List Int), ())), ((x1, (x1', (x1'', ()))), ()))), true), (Option.isSome (f18 ((x0, (x0', ())), ())), true), (Option.isSome (f27 (((r1.fst.fst : Int), ((r1.fst.snd.fst : List Int), ())), ())), true), (Option.isSome (f18 ((x0, (x0', ())), ())), true), ((!r0.fst : Bool), false), (Option.isSome (f16 ((x0, (x0', ())), ())), true), ((false : Bool), false), ((true : Bool), true)])) := by kernel_rfl
theorem e4_5 (x0 : Int) (x0' : (List Int)) (x1 : Int) (x1' : Int) (x1'' : Int) : runPure kf32.orc Go.Proofs.Try.prog 400 4 as4 rs4 ((x0, x0', ()), (x1, x1', x1'', ()), ()) [true, false, true, false, true, true, true, true, true, false, true, true, true, true, true, true, true] =
    (let r0 : Bool × PUnit := g16 ((x0, (x0', ())), ()); let r1 : (Int × List Int × PUnit) × PUnit := g18 ((x0, (x0', ())), ()); let r4 : Int × PUnit := g29 ((x0, (x0', ())), ()); let r2 : (Int × Int × Int × PUnit) × Int × PUnit := g27 (((r1.fst.fst : Int), ((r1.fst.snd.fst : List Int), ())), ()); some (((false : Bool), ()), [((true : Bool), true), ((!eqF r2.snd.fst (0 : Int) : Bool), true), ((!eqF r2.snd.fst (0 : Int) : Bool), true), ((!eqF r2.snd.fst (0 : Int) : Bool), true), ((!eqF r2.snd.fst (0 : Int) : Bool), true), ((!eqF r2.snd.fst (0 : Int) : Bool), true), ((!eqF r2.snd.fst (0 : Int) : Bool), true), ((!eqF r4.fst (0 : Int) : Bool), false), (Option.isSome (f29 ((x0, (x0', ())), ())), true), (Option.isSome (f28 (((r1.fst.fst : Int), ((r1.fst.snd.fst : List Int), ())), ((x1, (x1', (x1'', ()))), ()))), true), (Option.isSome (f18 ((x0, (x0', ())), ())), true), (Option.isSome (f27 (((r1.fst.fst : Int), ((r1.fst.snd.fst : List Int), ())), ())), true), (Option.isSome (f18 ((x0, (x0', ())), ())), true), ((!r0.fst : Bool), false), (Option.isSome (f16 ((x0, (x0', ())), ())), true), ((false : Bool), false), ((true : Bool), true)])) := by kernel_rfl
theorem e4_6 (x0 : Int) (x0' : (List Int)) (x1 : Int) (x1' : Int) (x1'' : Int) : runPure kf32.orc Go.Proofs.Try.prog 400 4 as4 rs4 ((x0, x0', ()), (x1, x1', x1'', ()), ()) [true, false, true, false, true, true, true, true, true, false, false, false, false, false, true, false, false, true] =
    (let r0 : Bool × PUnit := g16 ((x0, (x0', ())), ()); let r1 : (Int × List Int × PUnit) × PUnit := g18 ((x0, (x0', ())), ()); let r4 : Int × PUnit := g29 ((x0, (x0', ())), ()); let r2 : (Int × Int × Int × PUnit) × Int × PUnit := g27 (((r1.fst.fst : Int), ((r1.fst.snd.fst : List Int), ())), ()); let r5 : (Int × Int × Int × PUnit) × PUnit := g30 (x0', ()); some (((false : Bool), ()), [((!(r2.fst.fst == r5.fst.fst && (r2.fst.snd.fst == r5.fst.snd.fst && (r2.fst.snd.snd.fst == r5.fst.snd.snd.fst && true))) : Bool), true), ((!eqF r2.snd.fst (0 : Int) : Bool), false), ((!eqF r2.snd.fst (0 : Int) : Bool), false), (Option.isSome (f30 (x0', ())), true), ((!eqF r2.snd.fst (0 : Int) : Bool), false), ((!eqF r2.snd.fst (0 : Int) : Bool), false), ((!eqF r2.snd.fst (0 : Int) : Bool), false), ((!eqF r2.snd.fst (0 : Int) : Bool), false), ((!eqF r4.fst (0 : Int) : Bool), false), (Option.isSome (f29 ((x0, (x0', ())), ())), true), (Option.isSome (f28 (((r1.fst.fst : Int), ((r1.fst.snd.fst : List Int), ())), ((x1, (x1', (x1'', ()))), ()))), true), (Option.isSome (f18 ((x0, (x0', ())), ())), true), (Option.isSome (f27 (((r1.fst.fst : Int), ((r1.fst.snd.fst : List Int), ())), ())), true), (Option.isSome (f18 ((x0, (x0', ())), ())), true), ((!r0.fst : Bool), false), (Option.isSome (f16 ((x0, (x0', ())), ())), true), ((false : Bool), false), ((true : Bool), true)])) := by kernel_rfl
theorem e4_7 (x0 : Int) (x0' : (List Int)) (x1 : Int) (x1' : Int) (x1'' : Int) : runPure kf32.orc Go.Proofs.Try.prog 400 4 as4 rs4 ((x0, x0', ()), (x1, x1', x1'', ()), ()) [true, false, true, false, true, true, true, true, true, false, false, false, false, false, true, false, false, false, true, true, true, true, true, true] =
    (let r0 : Bool × PUnit := g16 ((x0, (x0', ())), ()); let r1 : (Int × List Int × PUnit) × PUnit := g18 ((x0, (x0', ())), ()); let r4 : Int × PUnit := g29 ((x0, (x0', ())), ()); let r2 : (Int × Int × Int × PUnit) × Int × PUnit := g27 (((r1.fst.fst : Int), ((r1.fst.snd.fst : List Int), ())), ()); let r5 : (Int × Int × Int × PUnit) × PUnit := g30 (x0', ()); let r6 : Int × PUnit := g31 ((x1, (x1', (x1'', ()))), ()); let r3 : (Int × Int × PUnit) × Int × PUnit := g28 (((r1.fst.fst : Int), ((r1.fst.snd.fst : List Int), ())), ((x1, (x1', (x1'', ()))), ())); some (((r3.fst.fst == (0 : Int) && (r3.fst.snd.fst == (0 : Int) && true) : Bool), ()), [((eqF r3.snd.fst r6.fst : Bool), true), ((eqF r3.snd.fst r6.fst : Bool), true), ((eqF r3.snd.fst r6.fst : Bool), true), ((eqF r3.snd.fst r6.fst : Bool), true), ((!eqF r6.fst (0 : Int) : Bool), true), (Option.isSome (f31 ((x1, (x1', (x1'', ()))), ())), true), ((!(r2.fst.fst == r5.fst.fst && (r2.fst.snd.fst == r5.fst.snd.fst && (r2.fst.snd.snd.fst == r5.fst.snd.snd.fst && true))) : Bool), false), ((!eqF r2.snd.fst (0 : Int) : Bool), false), ((!eqF r2.snd.fst (0 : Int) : Bool), false), (Option.isSome (f30 (x0', ())), true), ((!eqF r2.snd.fst (0 : Int) : Bool), false), ((!eqF r2.snd.fst (0 : Int) : Bool), false), ((!eqF r2.snd.fst (0 : Int) : Bool), false), ((!eqF r2.snd.fst (0 : Int) : Bool), false), ((!eqF r4.fst (0 : Int) : Bool), false), (Option.isSome (f29 ((x0, (x0', ())), ())), true), (Option.isSome (f28 (((r1.fst.fst : Int), ((r1.fst.snd.fst : List Int), ())), ((x1, (x1', (x1'', ()))), ()))), true), (Option.isSome (f18 ((x0, (x0', ())), ())), true), (Option.isSome (f27 (((r1.fst.fst : Int), ((r1.fst.snd.fst : List Int), ())), ())), true), (Option.isSome (f18 ((x0, (x0', ())), ())), true), ((!r0.fst : Bool), false), (Option.isSome (f16 ((x0, (x0', ())), ())), true), ((false : Bool), false), ((true : Bool), true)])) := by kernel_rfl
theorem e4_8 (x0 : Int) (x0' : (List Int)) (x1 : Int) (x1' : Int) (x1'' : Int) : runPure kf32.orc Go.Proofs.Try.prog 400 4 as4 rs4 ((x0, x0', ()), (x1, x1', x1'', ()), ()) [true, false, true, false, true, true, true, true, true, false, false, false, false, false, true, false, false, false, true, true, false, false, false, false] =
    (let r0 : Bool × PUnit := g16 ((x0, (x0', ())), ()); let r1 : (Int × List Int × PUnit) × PUnit := g18 ((x0, (x0', ())), ()); let r4 : Int × PUnit := g29 ((x0, (x0', ())), ()); let r2 : (Int × Int × Int × PUnit) × Int × PUnit := g27 (((r1.fst.fst : Int), ((r1.fst.snd.fst : List Int), ())), ()); let r5 : (Int × Int × Int × PUnit) × PUnit := g30 (x0', ()); let r6 : Int × PUnit := g31 ((x1, (x1', (x1'', ()))), ()); let r3 : (Int × Int × PUnit) × Int × PUnit := g28 (((r1.fst.fst : Int), ((r1.fst.snd.fst : List Int), ())), ((x1, (x1', (x1'', ()))), ())); some (((false : Bool), ()), [((eqF r3.snd.fst r6.fst : Bool), false), ((eqF r3.snd.fst r6.fst : Bool), false), ((eqF r3.snd.fst r6.fst : Bool), false), ((eqF r3.snd.fst r6.fst : Bool), false), ((!eqF r6.fst (0 : Int) : Bool), true), (Option.isSome (f31 ((x1, (x1', (x1'', ()))), ())), true), ((!(r2.fst.fst == r5.fst.fst && (r2.fst.snd.fst == r5.fst.snd.fst && (r2.fst.snd.snd.fst == r5.fst.snd.snd.fst && true))) : Bool), false), ((!eqF r2.snd.fst (0 : Int) : Bool), false), ((!eqF r2.snd.fst (0 : Int) : Bool), false), (Option.isSome (f30 (x0', ())), true), ((!eqF r2.snd.fst (0 : Int) : Bool), false), ((!eqF r2.snd.fst (0 : Int) : Bool), false), ((!eqF r2.snd.fst (0 : Int) : Bool), false), ((!eqF r2.snd.fst (0 : Int) : Bool), false), ((!eqF r4.fst (0 : Int) : Bool), false), (Option.isSome (f29 ((x0, (x0', ())), ())), true), (Option.isSome (f28 (((r1.fst.fst : Int), ((r1.fst.snd.fst : List Int), ())), ((x1, (x1', (x1'', ()))), ()))), true), (Option.isSome (f18 ((x0, (x0', ())), ())), true), (Option.isSome (f27 (((r1.fst.fst : Int), ((r1.fst.snd.fst : List Int), ())), ())), true), (Option.isSome (f18 ((x0, (x0', ())), ())), true), ((!r0.fst : Bool), false), (Option.isSome (f16 ((x0, (x0', ())), ())), true), ((false : Bool), false), ((true : Bool), true)])) := by kernel_rfl
theorem e4_9 (x0 : Int) (x0' : (List Int)) (x1 : Int) (x1' : Int) (x1'' : Int) : runPure kf32.orc Go.Proofs.Try.prog 400 4 as4 rs4 ((x0, x0', ()), (x1, x1', x1'', ()), ()) [true, false, true, false, true, true, true, true, true, false, false, false, false, false, true, false, false, false, true, false, true, true, true, true, true, true] =
    (let r0 : Bool × PUnit := g16 ((x0, (x0', ())), ()); let r1 : (Int × List Int × PUnit) × PUnit := g18 ((x0, (x0', ())), ()); let r4 : Int × PUnit := g29 ((x0, (x0', ())), ()); let r2 : (Int × Int × Int × PUnit) × Int × PUnit := g27 (((r1.fst.fst : Int), ((r1.fst.snd.fst : List Int), ())), ()); let r5 : (Int × Int × Int × PUnit) × PUnit := g30 (x0', ()); let r6 : Int × PUnit := g31 ((x1, (x1', (x1'', ()))), ()); let r7 : (Int × Int × PUnit) × Bool × PUnit := g32 (x0', ((x1, (x1', (x1'', ()))), ())); let r3 : (Int × Int × PUnit) × Int × PUnit := g28 (((r1.fst.fst : Int), ((r1.fst.snd.fst : List Int), ())), ((x1, (x1', (x1'', ()))), ())); some (((r3.fst.fst == (0 : Int) && (r3.fst.snd.fst == (0 : Int) && true) : Bool), ()), [((eqF r3.snd.fst (12 : Int) : Bool), true), ((eqF r3.snd.fst (12 : Int) : Bool), true), ((eqF r3.snd.fst (12 : Int) : Bool), true), ((eqF r3.snd.fst (12 : Int) : Bool), true), ((!r7.snd.fst : Bool), true), (Option.isSome (f32 (x0', ((x1, (x1', (x1'', ()))), ()))), true), ((!eqF r6.fst (0 : Int) : Bool), false), (Option.isSome (f31 ((x1, (x1', (x1'', ()))), ())), true), ((!(r2.fst.fst == r5.fst.fst && (r2.fst.snd.fst == r5.fst.snd.fst && (r2.fst.snd.snd.fst == r5.fst.snd.snd.fst && true))) : Bool), false), ((!eqF r2.snd.fst (0 : Int) : Bool), false), ((!eqF r2.snd.fst (0 : Int) : Bool), false), (Option.isSome (f30 (x0', ())), true), ((!eqF r2.snd.fst (0 : Int) : Bool), false), ((!eqF r2.snd.fst (0 : Int) : Bool), false), ((!eqF r2.snd.fst (0 : Int) : Bool), false), ((!eqF r2.snd.fst (0 : Int) : Bool), false), ((!eqF r4.fst (0 : Int) : Bool), false), (Option.isSome (f29 ((x0, (x0', ())), ())), true), (Option.isSome (f28 (((r1.fst.fst : Int), ((r1.fst.snd.fst : List Int), ())), ((x1, (x1', (x1'', ()))), ()))), true), (Option.isSome (f18 ((x0, (x0', ())), ())), true), (Option.isSome (f27 (((r1.fst.fst : Int), ((r1.fst.snd.fst : List Int), ())), ())), true), (Option.isSome (f18 ((x0, (x0', ())), ())), true), ((!r0.fst : Bool), false), (Option.isSome (f16 ((x0, (x0', ())), ())), true), ((false : Bool), false), ((true : Bool), true)])) := by kernel_rfl
theorem e4_10 (x0 : Int) (x0' : (List Int)) (x1 : Int) (x1' : Int) (x1'' : Int) : runPure kf32.orc Go.Proofs.Try.prog 400 4 as4 rs4 ((x0, x0', ()), (x1, x1', x1'', ()), ()) [true, false, true, false, true, true, true, true, true, false, false, false, false, false, true, false, false, false, true, false, true, true, false, false, false, false] =
    (let r0 : Bool × PUnit := g16 ((x0, (x0', ())), ()); let r1 : (Int × List Int × PUnit) × PUnit := g18 ((x0, (x0', ())), ()); let r4 : Int × PUnit := g29 ((x0, (x0', ())), ()); let r2 : (Int × Int × Int × PUnit) × Int × PUnit := g27 (((r1.fst.fst : Int), ((r1.fst.snd.fst : List Int), ())), ()); let r5 : (Int × Int × Int × PUnit) × PUnit := g30 (x0', ()); let r6 : Int × PUnit := g31 ((x1, (x1', (x1'', ()))), ()); let r7 : (Int × Int × PUnit) × Bool × PUnit := g32 (x0', ((x1, (x1', (x1'', ()))), ())); let r3 : (Int × Int × PUnit) × Int × PUnit := g28 (((r1.fst.fst : Int), ((r1.fst.snd.fst : List Int), ())), ((x1, (x1', (x1'', ()))), ())); some (((false : Bool), ()), [((eqF r3.snd.fst (12 : Int) : Bool), false), ((eqF r3.snd.fst (12 : Int) : Bool), false), ((eqF r3.snd.fst (12 : Int) : Bool), false), ((eqF r3.snd.fst (12 : Int) : Bool), false), ((!r7.snd.fst : Bool), true), (Option.isSome (f32 (x0', ((x1, (x1', (x1'', ()))), ()))), true), ((!eqF r6.fst (0 : Int) : Bool), false), (Option.isSome (f31 ((x1, (x1', (x1'', ()))), ())), true), ((!(r2.fst.fst == r5.fst.fst && (r2.fst.snd.fst == r5.fst.snd.fst && (r2.fst.snd.snd.fst == r5.fst.snd.snd.fst && true))) : Bool), false), ((!eqF r2.snd.fst (0 : Int) : Bool), false), ((!eqF r2.snd.fst (0 : Int) : Bool), false), (Option.isSome (f30 (x0', ())), true), ((!eqF r2.snd.fst (0 : Int) : Bool), false), ((!eqF r2.snd.fst (0 : Int) : Bool), false), ((!eqF r2.snd.fst (0 : Int) : Bool), false), ((!eqF r2.snd.fst (0 : Int) : Bool), false), ((!eqF r4.fst (0 : Int) : Bool), false), (Option.isSome (f29 ((x0, (x0', ())), ())), true), (Option.isSome (f28 (((r1.fst.fst : Int), ((r1.fst.snd.fst : List Int), ())), ((x1, (x1', (x1'', ()))), ()))), true), (Option.isSome (f18 ((x0, (x0', ())), ())), true), (Option.isSome (f27 (((r1.fst.fst : Int), ((r1.fst.snd.fst : List Int), ())), ())), true), (Option.isSome (f18 ((x0, (x0', ())), ())), true), ((!r0.fst : Bool), false), (Option.isSome (f16 ((x0, (x0', ())), ())), true), ((false : Bool), false), ((true : Bool), true)])) := by kernel_rfl
theorem e4_11 (x0 : Int) (x0' : (List Int)) (x1 : Int) (x1' : Int) (x1'' : Int) : runPure kf32.orc Go.Proofs.Try.prog 400 4 as4 rs4 ((x0, x0', ()), (x1, x1', x1'', ()), ()) [true, false, true, false, true, true, true, true, true, false, false, false, false, false, true, false, false, false, true, false, true, false, true, true, true, true, true] =
    (let r0 : Bool × PUnit := g16 ((x0, (x0', ())), ()); let r1 : (Int × List Int × PUnit) × PUnit := g18 ((x0, (x0', ())), ()); let r4 : Int × PUnit := g29 ((x0, (x0', ())), ()); let r2 : (Int × Int × Int × PUnit) × Int × PUnit := g27 (((r1.fst.fst : Int), ((r1.fst.snd.fst : List Int), ())), ()); let r5 : (Int × Int × Int × PUnit) × PUnit := g30 (x0', ()); let r6 : Int × PUnit := g31 ((x1, (x1', (x1'', ()))), ()); let r7 : (Int × Int × PUnit) × Bool × PUnit := g32 (x0', ((x1, (x1', (x1'', ()))), ())); let r3 : (Int × Int × PUnit) × Int × PUnit := g28 (((r1.fst.fst : Int), ((r1.fst.snd.fst : List Int), ())), ((x1, (x1', (x1'', ()))), ())); some (((false : Bool), ()), [((true : Bool), true), ((!eqF r3.snd.fst (0 : Int) : Bool), true), ((!eqF r3.snd.fst (0 : Int) : Bool), true), ((!eqF r3.snd.fst (0 : Int) : Bool), true), ((!eqF r3.snd.fst (0 : Int) : Bool), true), ((!r7.snd.fst : Bool), false), (Option.isSome (f32 (x0', ((x1, (x1', (x1'', ()))), ()))), true), ((!eqF r6.fst (0 : Int) : Bool), false), (Option.isSome (f31 ((x1, (x1', (x1'', ()))), ())), true), ((!(r2.fst.fst == r5.fst.fst && (r2.fst.snd.fst == r5.fst.snd.fst && (r2.fst.snd.snd.fst == r5.fst.snd.snd.fst && true))) : Bool), false), ((!eqF r2.snd.fst (0 : Int) : Bool), false), ((!eqF r2.snd.fst (0 : Int) : Bool), false), (Option.isSome (f30 (x0', ())), true), ((!eqF r2.snd.fst (0 : Int) : Bool), false), ((!eqF r2.snd.fst (0 : Int) : Bool), false), ((!eqF r2.snd.fst (0 : Int) : Bool), false), ((!eqF r2.snd.fst (0 : Int) : Bool), false), ((!eqF r4.fst (0 : Int) : Bool), false), (Option.isSome (f29 ((x0, (x0', ())), ())), true), (Option.isSome (f28 (((r1.fst.fst : Int), ((r1.fst.snd.fst : List Int), ())), ((x1, (x1', (x1'', ()))), ()))), true), (Option.isSome (f18 ((x0, (x0', ())), ())), true), (Option.isSome (f27 (((r1.fst.fst : Int), ((r1.fst.snd.fst : List Int), ())), ())), true), (Option.isSome (f18 ((x0, (x0', ())), ())), true), ((!r0.fst : Bool), false), (Option.isSome (f16 ((x0, (x0', ())), ())), true), ((false : Bool), false), ((true : Bool), true)])) := by kernel_rfl
theorem e4_12 (x0 : Int) (x0' : (List Int)) (x1 : Int) (x1' : Int) (x1'' : Int) : runPure kf32.orc Go.Proofs.Try.prog 400 4 as4 rs4 ((x0, x0', ()), (x1, x1', x1'', ()), ()) [true, false, true, false, true, true, true, true, true, false, false, false, false, false, true, false, false, false, true, false, true, false, false, false, false, false, true] =
    (let r0 : Bool × PUnit := g16 ((x0, (x0', ())), ()); let r1 : (Int × List Int × PUnit) × PUnit := g18 ((x0, (x0', ())), ()); let r4 : Int × PUnit := g29 ((x0, (x0', ())), ()); let r2 : (Int × Int × Int × PUnit) × Int × PUnit := g27 (((r1.fst.fst : Int), ((r1.fst.snd.fst : List Int), ())), ()); let r5 : (Int × Int × Int × PUnit) × PUnit := g30 (x0', ()); let r6 : Int × PUnit := g31 ((x1, (x1', (x1'', ()))), ()); let r7 : (Int × Int × PUnit) × Bool × PUnit := g32 (x0', ((x1, (x1', (x1'', ()))), ())); let r3 : (Int × Int × PUnit) × Int × PUnit := g28 (((r1.fst.fst : Int), ((r1.fst.snd.fst : List Int), ())), ((x1, (x1', (x1'', ()))), ())); some (((false : Bool), ()), [((!(r3.fst.fst == r7.fst.fst && (r3.fst.snd.fst == r7.fst.snd.fst && true)) : Bool), true), ((!eqF r3.snd.fst (0 : Int) : Bool), false), ((!eqF r3.snd.fst (0 : Int) : Bool), false), ((!eqF r3.snd.fst (0 : Int) : Bool), false), ((!eqF r3.snd.fst (0 : Int) : Bool), false), ((!r7.snd.fst : Bool), false), (Option.isSome (f32 (x0', ((x1, (x1', (x1'', ()))), ()))), true), ((!eqF r6.fst (0 : Int) : Bool), false), (Option.isSome (f31 ((x1, (x1', (x1'', ()))), ())), true), ((!(r2.fst.fst == r5.fst.fst && (r2.fst.snd.fst == r5.fst.snd.fst && (r2.fst.snd.snd.fst == r5.fst.snd.snd.fst && true))) : Bool), false), ((!eqF r2.snd.fst (0 : Int) : Bool), false), ((!eqF r2.snd.fst (0 : Int) : Bool), false), (Option.isSome (f30 (x0', ())), true), ((!eqF r2.snd.fst (0 : Int) : Bool), false), ((!eqF r2.snd.fst (0 : Int) : Bool), false), ((!eqF r2.snd.fst (0 : Int) : Bool), false), ((!eqF r2.snd.fst (0 : Int) : Bool), false), ((!eqF r4.fst (0 : Int) : Bool), false), (Option.isSome (f29 ((x0, (x0', ())), ())), true), (Option.isSome (f28 (((r1.fst.fst : Int), ((r1.fst.snd.fst : List Int), ())), ((x1, (x1', (x1'', ()))), ()))), true), (Option.isSome (f18 ((x0, (x0', ())), ())), true), (Option.isSome (f27 (((r1.fst.fst : Int), ((r1.fst.snd.fst : List Int), ())), ())), true), (Option.isSome (f18 ((x0, (x0', ())), ())), true), ((!r0.fst : Bool), false), (Option.isSome (f16 ((x0, (x0', ())), ())), true), ((false : Bool), false), ((true : Bool), true)])) := by kernel_rfl
theorem e4_13 (x0 : Int) (x0' : (List Int)) (x1 : Int) (x1' : Int) (x1'' : Int) : runPure kf32.orc Go.Proofs.Try.prog 400 4 as4 rs4 ((x0, x0', ()), (x1, x1', x1'', ()), ()) [true, false, true, false, true, true, true, true, true, false, false, false, false, false, true, false, false, false, true, false, true, false, false, false, false, false, false, true, true, true, true, true, true, true, true, true, true, true, true, true, true, true, true, true] =
    (let r0 : Bool × PUnit := g16 ((x0, (x0', ())), ()); let r1 : (Int × List Int × PUnit) × PUnit := g18 ((x0, (x0', ())), ()); let r4 : Int × PUnit := g29 ((x0, (x0', ())), ()); let r2 : (Int × Int × Int × PUnit) × Int × PUnit := g27 (((r1.fst.fst : Int), ((r1.fst.snd.fst : List Int), ())), ()); let r5 : (Int × Int × Int × PUnit) × PUnit := g30 (x0', ()); let r6 : Int × PUnit := g31 ((x1, (x1', (x1'', ()))), ()); let r7 : (Int × Int × PUnit) × Bool × PUnit := g32 (x0', ((x1, (x1', (x1'', ()))), ())); let r3 : (Int × Int × PUnit) × Int × PUnit := g28 (((r1.fst.fst : Int), ((r1.fst.snd.fst : List Int), ())), ((x1, (x1', (x1'', ()))), ())); some (((false : Bool), ()), [((true : Bool), true), ((true : Bool), true), ((true : Bool), true), ((true : Bool), true), ((true : Bool), true), ((true : Bool), true), ((true : Bool), true), ((true : Bool), true), ((true : Bool), true), ((!leF (wrap64 (r3.fst.fst * r2.fst.fst)) (wrap64 (x1 * r3.fst.snd.fst)) : Bool), true), ((!leF (wrap64 (r3.fst.fst * r2.fst.fst)) (wrap64 (x1 * r3.fst.snd.fst)) : Bool), true), ((!leF (wrap64 (r3.fst.fst * r2.fst.fst)) (wrap64 (x1 * r3.fst.snd.fst)) : Bool), true), ((!leF (wrap64 (r3.fst.fst * r2.fst.fst)) (wrap64 (x1 * r3.fst.snd.fst)) : Bool), true), ((!leF (wrap64 (r3.fst.fst * r2.fst.fst)) (wrap64 (x1 * r3.fst.snd.fst)) : Bool), true), ((!leF (wrap64 (r3.fst.fst * r2.fst.fst)) (wrap64 (x1 * r3.fst.snd.fst)) : Bool), true), ((!leF (wrap64 (r3.fst.fst * r2.fst.fst)) (wrap64 (x1 * r3.fst.snd.fst)) : Bool), true), ((!leF (wrap64 (r3.fst.fst * r2.fst.fst)) (wrap64 (x1 * r3.fst.snd.fst)) : Bool), true), ((!(r3.fst.fst == r7.fst.fst && (r3.fst.snd.fst == r7.fst.snd.fst && true)) : Bool), false), ((!eqF r3.snd.fst (0 : Int) : Bool), false), ((!eqF r3.snd.fst (0 : Int) : Bool), false), ((!eqF r3.snd.fst (0 : Int) : Bool), false), ((!eqF r3.snd.fst (0 : Int) : Bool), false), ((!r7.snd.fst : Bool), false), (Option.isSome (f32 (x0', ((x1, (x1', (x1'', ()))), ()))), true), ((!eqF r6.fst (0 : Int) : Bool), false), (Option.isSome (f31 ((x1, (x1', (x1'', ()))), ())), true), ((!(r2.fst.fst == r5.fst.fst && (r2.fst.snd.fst == r5.fst.snd.fst && (r2.fst.snd.snd.fst == r5.fst.snd.snd.fst && true))) : Bool), false), ((!eqF r2.snd.fst (0 : Int) : Bool), false), ((!eqF r2.snd.fst (0 : Int) : Bool), false), (Option.isSome (f30 (x0', ())), true), ((!eqF r2.snd.fst (0 : Int) : Bool), false), ((!eqF r2.snd.fst (0 : Int) : Bool), false), ((!eqF r2.snd.fst (0 : Int) : Bool), false), ((!eqF r2.snd.fst (0 : Int) : Bool), false), ((!eqF r4.fst (0 : Int) : Bool), false), (Option.isSome (f29 ((x0, (x0', ())), ())), true), (Option.isSome (f28 (((r1.fst.fst : Int), ((r1.fst.snd.fst : List Int), ())), ((x1, (x1', (x1'', ()))), ()))), true), (Option.isSome (f18 ((x0, (x0', ())), ())), true), (Option.isSome (f27 (((r1.fst.fst : Int), ((r1.fst.snd.fst : List Int), ())), ())), true), (Option.isSome (f18 ((x0, (x0', ())), ())), true), ((!r0.fst : Bool), false), (Option.isSome (f16 ((x0, (x0', ())), ())), true), ((false : Bool), false), ((true : Bool), true)])) := by kernel_rfl
theorem e4_14 (x0 : Int) (x0' : (List Int)) (x1 : Int) (x1' : Int) (x1'' : Int) : runPure kf32.orc Go.Proofs.Try.prog 400 4 as4 rs4 ((x0, x0', ()), (x1, x1', x1'', ()), ()) [true, false, true, false, true, true, true, true, true, false, false, false, false, false, true, false, false, false, true, false, true, false, false, false, false, false, false, false, false, false, false, false, false, false, false, true, true, true, true, true, true, true, true, true] =
    (let r0 : Bool × PUnit := g16 ((x0, (x0', ())), ()); let r1 : (Int × List Int × PUnit) × PUnit := g18 ((x0, (x0', ())), ()); let r4 : Int × PUnit := g29 ((x0, (x0', ())), ()); let r2 : (Int × Int × Int × PUnit) × Int × PUnit := g27 (((r1.fst.fst : Int), ((r1.fst.snd.fst : List Int), ())), ()); let r5 : (Int × Int × Int × PUnit) × PUnit := g30 (x0', ()); let r6 : Int × PUnit := g31 ((x1, (x1', (x1'', ()))), ()); let r7 : (Int × Int × PUnit) × Bool × PUnit := g32 (x0', ((x1, (x1', (x1'', ()))), ())); let r3 : (Int × Int × PUnit) × Int × PUnit := g28 (((r1.fst.fst : Int), ((r1.fst.snd.fst : List Int), ())), ((x1, (x1', (x1'', ()))), ())); some (((false : Bool), ()), [((true : Bool), true), ((!leF (wrap64 (r3.fst.fst * r2.fst.snd.fst)) (wrap64 (x1' * r3.fst.snd.fst)) : Bool), true), ((!leF (wrap64 (r3.fst.fst * r2.fst.snd.fst)) (wrap64 (x1' * r3.fst.snd.fst)) : Bool), true), ((!leF (wrap64 (r3.fst.fst * r2.fst.snd.fst)) (wrap64 (x1' * r3.fst.snd.fst)) : Bool), true), ((!leF (wrap64 (r3.fst.fst * r2.fst.snd.fst)) (wrap64 (x1' * r3.fst.snd.fst)) : Bool), true), ((!leF (wrap64 (r3.fst.fst * r2.fst.snd.fst)) (wrap64 (x1' * r3.fst.snd.fst)) : Bool), true), ((!leF (wrap64 (r3.fst.fst * r2.fst.snd.fst)) (wrap64 (x1' * r3.fst.snd.fst)) : Bool), true), ((!leF (wrap64 (r3.fst.fst * r2.fst.snd.fst)) (wrap64 (x1' * r3.fst.snd.fst)) : Bool), true), ((!leF (wrap64 (r3.fst.fst * r2.fst.snd.fst)) (wrap64 (x1' * r3.fst.snd.fst)) : Bool), true), ((!leF (wrap64 (r3.fst.fst * r2.fst.fst)) (wrap64 (x1 * r3.fst.snd.fst)) : Bool), false), ((!leF (wrap64 (r3.fst.fst * r2.fst.fst)) (wrap64 (x1 * r3.fst.snd.fst)) : Bool), false), ((!leF (wrap64 (r3.fst.fst * r2.fst.fst)) (wrap64 (x1 * r3.fst.snd.fst)) : Bool), false), ((!leF (wrap64 (r3.fst.fst * r2.fst.fst)) (wrap64 (x1 * r3.fst.snd.fst)) : Bool), false), ((!leF (wrap64 (r3.fst.fst * r2.fst.fst)) (wrap64 (x1 * r3.fst.snd.fst)) : Bool), false), ((!leF (wrap64 (r3.fst.fst * r2.fst.fst)) (wrap64 (x1 * r3.fst.snd.fst)) : Bool), false), ((!leF (wrap64 (r3.fst.fst * r2.fst.fst)) (wrap64 (x1 * r3.fst.snd.fst)) : Bool), false), ((!leF (wrap64 (r3.fst.fst * r2.fst.fst)) (wrap64 (x1 * r3.fst.snd.fst)) : Bool), false), ((!(r3.fst.fst == r7.fst.fst && (r3.fst.snd.fst == r7.fst.snd.fst && true)) : Bool), false), ((!eqF r3.snd.fst (0 : Int) : Bool), false), ((!eqF r3.snd.fst (0 : Int) : Bool), false), ((!eqF r3.snd.fst (0 : Int) : Bool), false), ((!eqF r3.snd.fst (0 : Int) : Bool), false), ((!r7.snd.fst : Bool), false), (Option.isSome (f32 (x0', ((x1, (x1', (x1'', ()))), ()))), true), ((!eqF r6.fst (0 : Int) : Bool), false), (Option.isSome (f31 ((x1, (x1', (x1'', ()))), ())), true), ((!(r2.fst.fst == r5.fst.fst && (r2.fst.snd.fst == r5.fst.snd.fst && (r2.fst.snd.snd.fst == r5.fst.snd.snd.fst && true))) : Bool), false), ((!eqF r2.snd.fst (0 : Int) : Bool), false), ((!eqF r2.snd.fst (0 : Int) : Bool), false), (Option.isSome (f30 (x0', ())), true), ((!eqF r2.snd.fst (0 : Int) : Bool), false), ((!eqF r2.snd.fst (0 : Int) : Bool), false), ((!eqF r2.snd.fst (0 : Int) : Bool), false), ((!eqF r2.snd.fst (0 : Int) : Bool), false), ((!eqF r4.fst (0 : Int) : Bool), false), (Option.isSome (f29 ((x0, (x0', ())), ())), true), (Option.isSome (f28 (((r1.fst.fst : Int), ((r1.fst.snd.fst : List Int), ())), ((x1, (x1', (x1'', ()))), ()))), true), (Option.isSome (f18 ((x0, (x0', ())), ())), true), (Option.isSome (f27 (((r1.fst.fst : Int), ((r1.fst.snd.fst : List Int), ())), ())), true), (Option.isSome (f18 ((x0, (x0', ())), ())), true), ((!r0.fst : Bool), false), (Option.isSome (f16 ((x0, (x0', ())), ())), true), ((false : Bool), false), ((true : Bool), true)])) := by kernel_rfl
theorem e4_15 (x0 : Int) (x0' : (List Int)) (x1 : Int) (x1' : Int) (x1'' : Int) : runPure kf32.orc Go.Proofs.Try.prog 400 4 as4 rs4 ((x0, x0', ()), (x1, x1', x1'', ()), ()) [true, false, true, false, true, true, true, true, true, false, false, false, false, false, true, false, false, false, true, false, true, false, false, false, false, false, false, false, false, false, false, false, false, false, false, false, false, false, false, false, false, false, false, true] =
    (let r0 : Bool × PUnit := g16 ((x0, (x0', ())), ()); let r1 : (Int × List Int × PUnit) × PUnit := g18 ((x0, (x0', ())), ()); let r4 : Int × PUnit := g29 ((x0, (x0', ())), ()); let r2 : (Int × Int × Int × PUnit) × Int × PUnit := g27 (((r1.fst.fst : Int), ((r1.fst.snd.fst : List Int), ())), ()); let r5 : (Int × Int × Int × PUnit) × PUnit := g30 (x0', ()); let r6 : Int × PUnit := g31 ((x1, (x1', (x1'', ()))), ()); let r7 : (Int × Int × PUnit) × Bool × PUnit := g32 (x0', ((x1, (x1', (x1'', ()))), ())); let r3 : (Int × Int × PUnit) × Int × PUnit := g28 (((r1.fst.fst : Int), ((r1.fst.snd.fst : List Int), ())), ((x1, (x1', (x1'', ()))), ())); some (((false : Bool), ()), [((!leF (wrap64 (r3.fst.fst * r2.fst.snd.snd.fst)) (wrap64 (x1'' * r3.fst.snd.fst)) : Bool), true), ((!leF (wrap64 (r3.fst.fst * r2.fst.snd.fst)) (wrap64 (x1' * r3.fst.snd.fst)) : Bool), false), ((!leF (wrap64 (r3.fst.fst * r2.fst.snd.fst)) (wrap64 (x1' * r3.fst.snd.fst)) : Bool), false), ((!leF (wrap64 (r3.fst.fst * r2.fst.snd.fst)) (wrap64 (x1' * r3.fst.snd.fst)) : Bool), false), ((!leF (wrap64 (r3.fst.fst * r2.fst.snd.fst)) (wrap64 (x1' * r3.fst.snd.fst)) : Bool), false), ((!leF (wrap64 (r3.fst.fst * r2.fst.snd.fst)) (wrap64 (x1' * r3.fst.snd.fst)) : Bool), false), ((!leF (wrap64 (r3.fst.fst * r2.fst.snd.fst)) (wrap64 (x1' * r3.fst.snd.fst)) : Bool), false), ((!leF (wrap64 (r3.fst.fst * r2.fst.snd.fst)) (wrap64 (x1' * r3.fst.snd.fst)) : Bool), false), ((!leF (wrap64 (r3.fst.fst * r2.fst.snd.fst)) (wrap64 (x1' * r3.fst.snd.fst)) : Bool), false), ((!leF (wrap64 (r3.fst.fst * r2.fst.fst)) (wrap64 (x1 * r3.fst.snd.fst)) : Bool), false), ((!leF (wrap64 (r3.fst.fst * r2.fst.fst)) (wrap64 (x1 * r3.fst.snd.fst)) : Bool), false), ((!leF (wrap64 (r3.fst.fst * r2.fst.fst)) (wrap64 (x1 * r3.fst.snd.fst)) : Bool), false), ((!leF (wrap64 (r3.fst.fst * r2.fst.fst)) (wrap64 (x1 * r3.fst.snd.fst)) : Bool), false), ((!leF (wrap64 (r3.fst.fst * r2.fst.fst)) (wrap64 (x1 * r3.fst.snd.fst)) : Bool), false), ((!leF (wrap64 (r3.fst.fst * r2.fst.fst)) (wrap64 (x1 * r3.fst.snd.fst)) : Bool), false), ((!leF (wrap64 (r3.fst.fst * r2.fst.fst)) (wrap64 (x1 * r3.fst.snd.fst)) : Bool), false), ((!leF (wrap64 (r3.fst.fst * r2.fst.fst)) (wrap64 (x1 * r3.fst.snd.fst)) : Bool), false), ((!(r3.fst.fst == r7.fst.fst && (r3.fst.snd.fst == r7.fst.snd.fst && true)) : Bool), false), ((!eqF r3.snd.fst (0 : Int) : Bool), false), ((!eqF r3.snd.fst (0 : Int) : Bool), false), ((!eqF r3.snd.fst (0 : Int) : Bool), false), ((!eqF r3.snd.fst (0 : Int) : Bool), false), ((!r7.snd.fst : Bool), false), (Option.isSome (f32 (x0', ((x1, (x1', (x1'', ()))), ()))), true), ((!eqF r6.fst (0 : Int) : Bool), false), (Option.isSome (f31 ((x1, (x1', (x1'', ()))), ())), true), ((!(r2.fst.fst == r5.fst.fst && (r2.fst.snd.fst == r5.fst.snd.fst && (r2.fst.snd.snd.fst == r5.fst.snd.snd.fst && true))) : Bool), false), ((!eqF r2.snd.fst (0 : Int) : Bool), false), ((!eqF r2.snd.fst (0 : Int) : Bool), false), (Option.isSome (f30 (x0', ())), true), ((!eqF r2.snd.fst (0 : Int) : Bool), false), ((!eqF r2.snd.fst (0 : Int) : Bool), false), ((!eqF r2.snd.fst (0 : Int) : Bool), false), ((!eqF r2.snd.fst (0 : Int) : Bool), false), ((!eqF r4.fst (0 : Int) : Bool), false), (Option.isSome (f29 ((x0, (x0', ())), ())), true), (Option.isSome (f28 (((r1.fst.fst : Int), ((r1.fst.snd.fst : List Int), ())), ((x1, (x1', (x1'', ()))), ()))), true), (Option.isSome (f18 ((x0, (x0', ())), ())), true), (Option.isSome (f27 (((r1.fst.fst : Int), ((r1.fst.snd.fst : List Int), ())), ())), true), (Option.isSome (f18 ((x0, (x0', ())), ())), true), ((!r0.fst : Bool), false), (Option.isSome (f16 ((x0, (x0', ())), ())), true), ((false : Bool), false), ((true : Bool), true)])) := by kernel_rfl
theorem e4_16 (x0 : Int) (x0' : (List Int)) (x1 : Int) (x1' : Int) (x1'' : Int) : runPure kf32.orc Go.Proofs.Try.prog 400 4 as4 rs4 ((x0, x0', ()), (x1, x1', x1'', ()), ()) [true, false, true, false, true, true, true, true, true, false, false, false, false, false, true, false, false, false, true, false, true, false, false, false, false, false, false, false, false, false, false, false, false, false, false, false, false, false, false, false, false, false, false, false, true, true, true, true, true, true, true, true, true, true, true, true] =
    (let r0 : Bool × PUnit := g16 ((x0, (x0', ())), ()); let r1 : (Int × List Int × PUnit) × PUnit := g18 ((x0, (x0', ())), ()); let r4 : Int × PUnit := g29 ((x0, (x0', ())), ()); let r2 : (Int × Int × Int × PUnit) × Int × PUnit := g27 (((r1.fst.fst : Int), ((r1.fst.snd.fst : List Int), ())), ()); let r5 : (Int × Int × Int × PUnit) × PUnit := g30 (x0', ()); let r6 : Int × PUnit := g31 ((x1, (x1', (x1'', ()))), ()); let r7 : (Int × Int × PUnit) × Bool × PUnit := g32 (x0', ((x1, (x1', (x1'', ()))), ())); let r3 : (Int × Int × PUnit) × Int × PUnit := g28 (((r1.fst.fst : Int), ((r1.fst.snd.fst : List Int), ())), ((x1, (x1', (x1'', ()))), ())); some (((true : Bool), ()), [((true : Bool), true), ((true : Bool), true), ((true : Bool), true), ((true : Bool), true), ((true : Bool), true), ((true : Bool), true), ((eqF (wrap64 (r3.fst.fst * r2.fst.fst)) (wrap64 (x1 * r3.fst.snd.fst)) : Bool), true), ((eqF (wrap64 (r3.fst.fst * r2.fst.fst)) (wrap64 (x1 * r3.fst.snd.fst)) : Bool), true), ((eqF (wrap64 (r3.fst.fst * r2.fst.fst)) (wrap64 (x1 * r3.fst.snd.fst)) : Bool), true), ((eqF (wrap64 (r3.fst.fst * r2.fst.fst)) (wrap64 (x1 * r3.fst.snd.fst)) : Bool), true), ((eqF (wrap64 (r3.fst.fst * r2.fst.fst)) (wrap64 (x1 * r3.fst.snd.fst)) : Bool), true), ((eqF (wrap64 (r3.fst.fst * r2.fst.fst)) (wrap64 (x1 * r3.fst.snd.fst)) : Bool), true), ((!leF (wrap64 (r3.fst.fst * r2.fst.snd.snd.fst)) (wrap64 (x1'' * r3.fst.snd.fst)) : Bool), false), ((!leF (wrap64 (r3.fst.fst * r2.fst.snd.fst)) (wrap64 (x1' * r3.fst.snd.fst)) : Bool), false), ((!leF (wrap64 (r3.fst.fst * r2.fst.snd.fst)) (wrap64 (x1' * r3.fst.snd.fst)) : Bool), false), ((!leF (wrap64 (r3.fst.fst * r2.fst.snd.fst)) (wrap64 (x1' * r3.fst.snd.fst)) : Bool), false), ((!leF (wrap64 (r3.fst.fst * r2.fst.snd.fst)) (wrap64 (x1' * r3.fst.snd.fst)) : Bool), false), ((!leF (wrap64 (r3.fst.fst * r2.fst.snd.fst)) (wrap64 (x1' * r3.fst.snd.fst)) : Bool), false), ((!leF (wrap64 (r3.fst.fst * r2.fst.snd.fst)) (wrap64 (x1' * r3.fst.snd.fst)) : Bool), false), ((!leF (wrap64 (r3.fst.fst * r2.fst.snd.fst)) (wrap64 (x1' * r3.fst.snd.fst)) : Bool), false), ((!leF (wrap64 (r3.fst.fst * r2.fst.snd.fst)) (wrap64 (x1' * r3.fst.snd.fst)) : Bool), false), ((!leF (wrap64 (r3.fst.fst * r2.fst.fst)) (wrap64 (x1 * r3.fst.snd.fst)) : Bool), false), ((!leF (wrap64 (r3.fst.fst * r2.fst.fst)) (wrap64 (x1 * r3.fst.snd.fst)) : Bool), false), ((!leF (wrap64 (r3.fst.fst * r2.fst.fst)) (wrap64 (x1 * r3.fst.snd.fst)) : Bool), false), ((!leF (wrap64 (r3.fst.fst * r2.fst.fst)) (wrap64 (x1 * r3.fst.snd.fst)) : Bool), false), ((!leF (wrap64 (r3.fst.fst * r2.fst.fst)) (wrap64 (x1 * r3.fst.snd.fst)) : Bool), false), ((!leF (wrap64 (r3.fst.fst * r2.fst.fst)) (wrap64 (x1 * r3.fst.snd.fst)) : Bool), false), ((!leF (wrap64 (r3.fst.fst * r2.fst.fst)) (wrap64 (x1 * r3.fst.snd.fst)) : Bool), false), ((!leF (wrap64 (r3.fst.fst * r2.fst.fst)) (wrap64 (x1 * r3.fst.snd.fst)) : Bool), false), ((!(r3.fst.fst == r7.fst.fst && (r3.fst.snd.fst == r7.fst.snd.fst && true)) : Bool), false), ((!eqF r3.snd.fst (0 : Int) : Bool), false), ((!eqF r3.snd.fst (0 : Int) : Bool), false), ((!eqF r3.snd.fst (0 : Int) : Bool), false), ((!eqF r3.snd.fst (0 : Int) : Bool), false), ((!r7.snd.fst : Bool), false), (Option.isSome (f32 (x0', ((x1, (x1', (x1'', ()))), ()))), true), ((!eqF r6.fst (0 : Int) : Bool), false), (Option.isSome (f31 ((x1, (x1', (x1'', ()))), ())), true), ((!(r2.fst.fst == r5.fst.fst && (r2.fst.snd.fst == r5.fst.snd.fst && (r2.fst.snd.snd.fst == r5.fst.snd.snd.fst && true))) : Bool), false), ((!eqF r2.snd.fst (0 : Int) : Bool), false), ((!eqF r2.snd.fst (0 : Int) : Bool), false), (Option.isSome (f30 (x0', ())), true), ((!eqF r2.snd.fst (0 : Int) : Bool), false), ((!eqF r2.snd.fst (0 : Int) : Bool), false), ((!eqF r2.snd.fst (0 : Int) : Bool), false), ((!eqF r2.snd.fst (0 : Int) : Bool), false), ((!eqF r4.fst (0 : Int) : Bool), false), (Option.isSome (f29 ((x0, (x0', ())), ())), true), (Option.isSome (f28 (((r1.fst.fst : Int), ((r1.fst.snd.fst : List Int), ())), ((x1, (x1', (x1'', ()))), ()))), true), (Option.isSome (f18 ((x0, (x0', ())), ())), true), (Option.isSome (f27 (((r1.fst.fst : Int), ((r1.fst.snd.fst : List Int), ())), ())), true), (Option.isSome (f18 ((x0, (x0', ())), ())), true), ((!r0.fst : Bool), false), (Option.isSome (f16 ((x0, (x0', ())), ())), true), ((false : Bool), false), ((true : Bool), true)])) := by kernel_rfl
theorem e4_17 (x0 : Int) (x0' : (List Int)) (x1 : Int) (x1' : Int) (x1'' : Int) : runPure kf32.orc Go.Proofs.Try.prog 400 4 as4 rs4 ((x0, x0', ()), (x1, x1', x1'', ()), ()) [true, false, true, false, true, true, true, true, true, false, false, false, false, false, true, false, false, false, true, false, true, false, false, false, false, false, false, false, false, false, false, false, false, false, false, false, false, false, false, false, false, false, false, false, false, false, false, false, true, true, true, true, true, true, true, false, true, false, true, true, true, true, true, true] =
    (let r0 : Bool × PUnit := g16 ((x0, (x0', ())), ()); let r1 : (Int × List Int × PUnit) × PUnit := g18 ((x0, (x0', ())), ()); let r4 : Int × PUnit := g29 ((x0, (x0', ())), ()); let r2 : (Int × Int × Int × PUnit) × Int × PUnit := g27 (((r1.fst.fst : Int), ((r1.fst.snd.fst : List Int), ())), ()); let r5 : (Int × Int × Int × PUnit) × PUnit := g30 (x0', ()); let r6 : Int × PUnit := g31 ((x1, (x1', (x1'', ()))), ()); let r7 : (Int × Int × PUnit) × Bool × PUnit := g32 (x0', ((x1, (x1', (x1'', ()))), ())); let r3 : (Int × Int × PUnit) × Int × PUnit := g28 (((r1.fst.fst : Int), ((r1.fst.snd.fst : List Int), ())), ((x1, (x1', (x1'', ()))), ())); some (((true : Bool), ()), [((eqF (wrap64 (r3.fst.fst * r2.fst.snd.fst)) (wrap64 (x1' * r3.fst.snd.fst)) : Bool), true), ((eqF (wrap64 (r3.fst.fst * r2.fst.snd.fst)) (wrap64 (x1' * r3.fst.snd.fst)) : Bool), true), ((eqF (wrap64 (r3.fst.fst * r2.fst.snd.fst)) (wrap64 (x1' * r3.fst.snd.fst)) : Bool), true), ((eqF (wrap64 (r3.fst.fst * r2.fst.snd.fst)) (wrap64 (x1' * r3.fst.snd.fst)) : Bool), true), ((eqF (wrap64 (r3.fst.fst * r2.fst.snd.fst)) (wrap64 (x1' * r3.fst.snd.fst)) : Bool), true), ((eqF (wrap64 (r3.fst.fst * r2.fst.snd.fst)) (wrap64 (x1' * r3.fst.snd.fst)) : Bool), true), ((eqF (wrap64 (r3.fst.fst * r2.fst.fst)) (wrap64 (x1 * r3.fst.snd.fst)) : Bool), false), ((!leF r2.fst.snd.fst (0 : Int) : Bool), true), ((eqF (wrap64 (r3.fst.fst * r2.fst.fst)) (wrap64 (x1 * r3.fst.snd.fst)) : Bool), false), ((!leF r2.fst.snd.fst (0 : Int) : Bool), true), ((!leF r2.fst.snd.fst (0 : Int) : Bool), true), ((!leF r2.fst.snd.fst (0 : Int) : Bool), true), ((!leF r2.fst.snd.fst (0 : Int) : Bool), true), ((!leF r2.fst.snd.fst (0 : Int) : Bool), true), ((!leF r2.fst.snd.fst (0 : Int) : Bool), true), ((!leF r2.fst.snd.fst (0 : Int) : Bool), true), ((eqF (wrap64 (r3.fst.fst * r2.fst.fst)) (wrap64 (x1 * r3.fst.snd.fst)) : Bool), false), ((eqF (wrap64 (r3.fst.fst * r2.fst.fst)) (wrap64 (x1 * r3.fst.snd.fst)) : Bool), false), ((eqF (wrap64 (r3.fst.fst * r2.fst.fst)) (wrap64 (x1 * r3.fst.snd.fst)) : Bool), false), ((eqF (wrap64 (r3.fst.fst * r2.fst.fst)) (wrap64 (x1 * r3.fst.snd.fst)) : Bool), false), ((!leF (wrap64 (r3.fst.fst * r2.fst.snd.snd.fst)) (wrap64 (x1'' * r3.fst.snd.fst)) : Bool), false), ((!leF (wrap64 (r3.fst.fst * r2.fst.snd.fst)) (wrap64 (x1' * r3.fst.snd.fst)) : Bool), false), ((!leF (wrap64 (r3.fst.fst * r2.fst.snd.fst)) (wrap64 (x1' * r3.fst.snd.fst)) : Bool), false), ((!leF (wrap64 (r3.fst.fst * r2.fst.snd.fst)) (wrap64 (x1' * r3.fst.snd.fst)) : Bool), false), ((!leF (wrap64 (r3.fst.fst * r2.fst.snd.fst)) (wrap64 (x1' * r3.fst.snd.fst)) : Bool), false), ((!leF (wrap64 (r3.fst.fst * r2.fst.snd.fst)) (wrap64 (x1' * r3.fst.snd.fst)) : Bool), false), ((!leF (wrap64 (r3.fst.fst * r2.fst.snd.fst)) (wrap64 (x1' * r3.fst.snd.fst)) : Bool), false), ((!leF (wrap64 (r3.fst.fst * r2.fst.snd.fst)) (wrap64 (x1' * r3.fst.snd.fst)) : Bool), false), ((!leF (wrap64 (r3.fst.fst * r2.fst.snd.fst)) (wrap64 (x1' * r3.fst.snd.fst)) : Bool), false), ((!leF (wrap64 (r3.fst.fst * r2.fst.fst)) (wrap64 (x1 * r3.fst.snd.fst)) : Bool), false), ((!leF (wrap64 (r3.fst.fst * r2.fst.fst)) (wrap64 (x1 * r3.fst.snd.fst)) : Bool), false), ((!leF (wrap64 (r3.fst.fst * r2.fst.fst)) (wrap64 (x1 * r3.fst.snd.fst)) : Bool), false), ((!leF (wrap64 (r3.fst.fst * r2.fst.fst)) (wrap64 (x1 * r3.fst.snd.fst)) : Bool), false), ((!leF (wrap64 (r3.fst.fst * r2.fst.fst)) (wrap64 (x1 * r3.fst.snd.fst)) : Bool), false), ((!leF (wrap64 (r3.fst.fst * r2.fst.fst)) (wrap64 (x1 * r3.fst.snd.fst)) : Bool), false), ((!leF (wrap64 (r3.fst.fst * r2.fst.fst)) (wrap64 (x1 * r3.fst.snd.fst)) : Bool), false), ((!leF (wrap64 (r3.fst.fst * r2.fst.fst)) (wrap64 (x1 * r3.fst.snd.fst)) : Bool), false), ((!(r3.fst.fst == r7.fst.fst && (r3.fst.snd.fst == r7.fst.snd.fst && true)) : Bool), false), ((!eqF r3.snd.fst (0 : Int) : Bool), false), ((!eqF r3.snd.fst (0 : Int) : Bool), false), ((!eqF r3.snd.fst (0 : Int) : Bool), false), ((!eqF r3.snd.fst (0 : Int) : Bool), false), ((!r7.snd.fst : Bool), false), (Option.isSome (f32 (x0', ((x1, (x1', (x1'', ()))), ()))), true), ((!eqF r6.fst (0 : Int) : Bool), false), (Option.isSome (f31 ((x1, (x1', (x1'', ()))), ())), true), ((!(r2.fst.fst == r5.fst.fst && (r2.fst.snd.fst == r5.fst.snd.fst && (r2.fst.snd.snd.fst == r5.fst.snd.snd.fst && true))) : Bool), false), ((!eqF r2.snd.fst (0 : Int) : Bool), false), ((!eqF r2.snd.fst (0 : Int) : Bool), false), (Option.isSome (f30 (x0', ())), true), ((!eqF r2.snd.fst (0 : Int) : Bool), false), ((!eqF r2.snd.fst (0 : Int) : Bool), false), ((!eqF r2.snd.fst (0 : Int) : Bool), false), ((!eqF r2.snd.fst (0 : Int) : Bool), false), ((!eqF r4.fst (0 : Int) : Bool), false), (Option.isSome (f29 ((x0, (x0', ())), ())), true), (Option.isSome (f28 (((r1.fst.fst : Int), ((r1.fst.snd.fst : List Int), ())), ((x1, (x1', (x1'', ()))), ()))), true), (Option.isSome (f18 ((x0, (x0', ())), ())), true), (Option.isSome (f27 (((r1.fst.fst : Int), ((r1.fst.snd.fst : List Int), ())), ())), true), (Option.isSome (f18 ((x0, (x0', ())), ())), true), ((!r0.fst : Bool), false), (Option.isSome (f16 ((x0, (x0', ())), ())), true), ((false : Bool), false), ((true : Bool), true)])) := by kernel_rfl
theorem e4_18 (x0 : Int) (x0' : (List Int)) (x1 : Int) (x1' : Int) (x1'' : Int) : runPure kf32.orc Go.Proofs.Try.prog 400 4 as4 rs4 ((x0, x0', ()), (x1, x1', x1'', ()), ()) [true, false, true, false, true, true, true, true, true, false, false, false, false, false, true, false, false, false, true, false, true, false, false, false, false, false, false, false, false, false, false, false, false, false, false, false, false, false, false, false, false, false, false, false, false, false, false, false, true, true, true, true, true, true, true, false, true, false, false, false, false, false, true, true, true, true, true, true, true, false, true, false] =
    (let r0 : Bool × PUnit := g16 ((x0, (x0', ())), ()); let r1 : (Int × List Int × PUnit) × PUnit := g18 ((x0, (x0', ())), ()); let r4 : Int × PUnit := g29 ((x0, (x0', ())), ()); let r2 : (Int × Int × Int × PUnit) × Int × PUnit := g27 (((r1.fst.fst : Int), ((r1.fst.snd.fst : List Int), ())), ()); let r5 : (Int × Int × Int × PUnit) × PUnit := g30 (x0', ()); let r6 : Int × PUnit := g31 ((x1, (x1', (x1'', ()))), ()); let r7 : (Int × Int × PUnit) × Bool × PUnit := g32 (x0', ((x1, (x1', (x1'', ()))), ())); let r3 : (Int × Int × PUnit) × Int × PUnit := g28 (((r1.fst.fst : Int), ((r1.fst.snd.fst : List Int), ())), ((x1, (x1', (x1'', ()))), ())); some (((eqF (wrap64 (r3.fst.fst * r2.fst.snd.snd.fst)) (wrap64 (x1'' * r3.fst.snd.fst)) : Bool), ()), [((eqF (wrap64 (r3.fst.fst * r2.fst.snd.fst)) (wrap64 (x1' * r3.fst.snd.fst)) : Bool), false), ((!leF r2.fst.snd.snd.fst (0 : Int) : Bool), true), ((eqF (wrap64 (r3.fst.fst * r2.fst.snd.fst)) (wrap64 (x1' * r3.fst.snd.fst)) : Bool), false), ((!leF r2.fst.snd.snd.fst (0 : Int) : Bool), true), ((!leF r2.fst.snd.snd.fst (0 : Int) : Bool), true), ((!leF r2.fst.snd.snd.fst (0 : Int) : Bool), true), ((!leF r2.fst.snd.snd.fst (0 : Int) : Bool), true), ((!leF r2.fst.snd.snd.fst (0 : Int) : Bool), true), ((!leF r2.fst.snd.snd.fst (0 : Int) : Bool), true), ((!leF r2.fst.snd.snd.fst (0 : Int) : Bool), true), ((eqF (wrap64 (r3.fst.fst * r2.fst.snd.fst)) (wrap64 (x1' * r3.fst.snd.fst)) : Bool), false), ((eqF (wrap64 (r3.fst.fst * r2.fst.snd.fst)) (wrap64 (x1' * r3.fst.snd.fst)) : Bool), false), ((eqF (wrap64 (r3.fst.fst * r2.fst.snd.fst)) (wrap64 (x1' * r3.fst.snd.fst)) : Bool), false), ((eqF (wrap64 (r3.fst.fst * r2.fst.snd.fst)) (wrap64 (x1' * r3.fst.snd.fst)) : Bool), false), ((eqF (wrap64 (r3.fst.fst * r2.fst.fst)) (wrap64 (x1 * r3.fst.snd.fst)) : Bool), false), ((!leF r2.fst.snd.fst (0 : Int) : Bool), true), ((eqF (wrap64 (r3.fst.fst * r2.fst.fst)) (wrap64 (x1 * r3.fst.snd.fst)) : Bool), false), ((!leF r2.fst.snd.fst (0 : Int) : Bool), true), ((!leF r2.fst.snd.fst (0 : Int) : Bool), true), ((!leF r2.fst.snd.fst (0 : Int) : Bool), true), ((!leF r2.fst.snd.fst (0 : Int) : Bool), true), ((!leF r2.fst.snd.fst (0 : Int) : Bool), true), ((!leF r2.fst.snd.fst (0 : Int) : Bool), true), ((!leF r2.fst.snd.fst (0 : Int) : Bool), true), ((eqF (wrap64 (r3.fst.fst * r2.fst.fst)) (wrap64 (x1 * r3.fst.snd.fst)) : Bool), false), ((eqF (wrap64 (r3.fst.fst * r2.fst.fst)) (wrap64 (x1 * r3.fst.snd.fst)) : Bool), false), ((eqF (wrap64 (r3.fst.fst * r2.fst.fst)) (wrap64 (x1 * r3.fst.snd.fst)) : Bool), false), ((eqF (wrap64 (r3.fst.fst * r2.fst.fst)) (wrap64 (x1 * r3.fst.snd.fst)) : Bool), false), ((!leF (wrap64 (r3.fst.fst * r2.fst.snd.snd.fst)) (wrap64 (x1'' * r3.fst.snd.fst)) : Bool), false), ((!leF (wrap64 (r3.fst.fst * r2.fst.snd.fst)) (wrap64 (x1' * r3.fst.snd.fst)) : Bool), false), ((!leF (wrap64 (r3.fst.fst * r2.fst.snd.fst)) (wrap64 (x1' * r3.fst.snd.fst)) : Bool), false), ((!leF (wrap64 (r3.fst.fst * r2.fst.snd.fst)) (wrap64 (x1' * r3.fst.snd.fst)) : Bool), false), ((!leF (wrap64 (r3.fst.fst * r2.fst.snd.fst)) (wrap64 (x1' * r3.fst.snd.fst)) : Bool), false), ((!leF (wrap64 (r3.fst.fst * r2.fst.snd.fst)) (wrap64 (x1' * r3.fst.snd.fst)) : Bool), false), ((!leF (wrap64 (r3.fst.fst * r2.fst.snd.fst)) (wrap64 (x1' * r3.fst.snd.fst)) : Bool), false), ((!leF (wrap64 (r3.fst.fst * r2.fst.snd.fst)) (wrap64 (x1' * r3.fst.snd.fst)) : Bool), false), ((!leF (wrap64 (r3.fst.fst * r2.fst.snd.fst)) (wrap64 (x1' * r3.fst.snd.fst)) : Bool), false), ((!leF (wrap64 (r3.fst.fst * r2.fst.fst)) (wrap64 (x1 * r3.fst.snd.fst)) : Bool), false), ((!leF (wrap64 (r3.fst.fst * r2.fst.fst)) (wrap64 (x1 * r3.fst.snd.fst)) : Bool), false), ((!leF (wrap64 (r3.fst.fst * r2.fst.fst)) (wrap64 (x1 * r3.fst.snd.fst)) : Bool), false), ((!leF (wrap64 (r3.fst.fst * r2.fst.fst)) (wrap64 (x1 * r3.fst.snd.fst)) : Bool), false), ((!leF (wrap64 (r3.fst.fst * r2.fst.fst)) (wrap64 (x1 * r3.fst.snd.fst)) : Bool), false), ((!leF (wrap64 (r3.fst.fst * r2.fst.fst)) (wrap64 (x1 * r3.fst.snd.fst)) : Bool), false), ((!leF (wrap64 (r3.fst.fst * r2.fst.fst)) (wrap64 (x1 * r3.fst.snd.fst)) : Bool), false), ((!leF (wrap64 (r3.fst.fst * r2.fst.fst)) (wrap64 (x1 * r3.fst.snd.fst)) : Bool), false), ((!(r3.fst.fst == r7.fst.fst && (r3.fst.snd.fst == r7.fst.snd.fst && true)) : Bool), false), ((!eqF r3.snd.fst (0 : Int) : Bool), false), ((!eqF r3.snd.fst (0 : Int) : Bool), false), ((!eqF r3.snd.fst (0 : Int) : Bool), false), ((!eqF r3.snd.fst (0 : Int) : Bool), false), ((!r7.snd.fst : Bool), false), (Option.isSome (f32 (x0', ((x1, (x1', (x1'', ()))), ()))), true), ((!eqF r6.fst (0 : Int) : Bool), false), (Option.isSome (f31 ((x1, (x1', (x1'', ()))), ())), true), ((!(r2.fst.fst == r5.fst.fst && (r2.fst.snd.fst == r5.fst.snd.fst && (r2.fst.snd.snd.fst == r5.fst.snd.snd.fst && true))) : Bool), false), ((!eqF r2.snd.fst (0 : Int) : Bool), false), ((!eqF r2.snd.fst (0 : Int) : Bool), false), (Option.isSome (f30 (x0', ())), true), ((!eqF r2.snd.fst (0 : Int) : Bool), false), ((!eqF r2.snd.fst (0 : Int) : Bool), false), ((!eqF r2.snd.fst (0 : Int) : Bool), false), ((!eqF r2.snd.fst (0 : Int) : Bool), false), ((!eqF r4.fst (0 : Int) : Bool), false), (Option.isSome (f29 ((x0, (x0', ())), ())), true), (Option.isSome (f28 (((r1.fst.fst : Int), ((r1.fst.snd.fst : List Int), ())), ((x1, (x1', (x1'', ()))), ()))), true), (Option.isSome (f18 ((x0, (x0', ())), ())), true), (Option.isSome (f27 (((r1.fst.fst : Int), ((r1.fst.snd.fst : List Int), ())), ())), true), (Option.isSome (f18 ((x0, (x0', ())), ())), true), ((!r0.fst : Bool), false), (Option.isSome (f16 ((x0, (x0', ())), ())), true), ((false : Bool), false), ((true : Bool), true)])) := by kernel_rfl
theorem e4_19 (x0 : Int) (x0' : (List Int)) (x1 : Int) (x1' : Int) (x1'' : Int) : runPure kf32.orc Go.Proofs.Try.prog 400 4 as4 rs4 ((x0, x0', ()), (x1, x1', x1'', ()), ()) [true, false, true, false, true, true, true, true, true, false, false, false, false, false, true, false, false, false, true, false, true, false, false, false, false, false, false, false, false, false, false, false, false, false, false, false, false, false, false, false, false, false, false, false, false, false, false, false, true, true, true, true, true, true, true, false, true, false, false, false, false, false, false, false, false, false, false, false, false, false, false, false] =
    (let r0 : Bool × PUnit := g16 ((x0, (x0', ())), ()); let r1 : (Int × List Int × PUnit) × PUnit := g18 ((x0, (x0', ())), ()); let r4 : Int × PUnit := g29 ((x0, (x0', ())), ()); let r2 : (Int × Int × Int × PUnit) × Int × PUnit := g27 (((r1.fst.fst : Int), ((r1.fst.snd.fst : List Int), ())), ()); let r5 : (Int × Int × Int × PUnit) × PUnit := g30 (x0', ()); let r6 : Int × PUnit := g31 ((x1, (x1', (x1'', ()))), ()); let r7 : (Int × Int × PUnit) × Bool × PUnit := g32 (x0', ((x1, (x1', (x1'', ()))), ())); let r3 : (Int × Int × PUnit) × Int × PUnit := g28 (((r1.fst.fst : Int), ((r1.fst.snd.fst : List Int), ())), ((x1, (x1', (x1'', ()))), ())); some (((false : Bool), ()), [((eqF (wrap64 (r3.fst.fst * r2.fst.snd.fst)) (wrap64 (x1' * r3.fst.snd.fst)) : Bool), false), ((!leF r2.fst.snd.snd.fst (0 : Int) : Bool), false), ((eqF (wrap64 (r3.fst.fst * r2.fst.snd.fst)) (wrap64 (x1' * r3.fst.snd.fst)) : Bool), false), ((!leF r2.fst.snd.snd.fst (0 : Int) : Bool), false), ((!leF r2.fst.snd.snd.fst (0 : Int) : Bool), false), ((!leF r2.fst.snd.snd.fst (0 : Int) : Bool), false), ((!leF r2.fst.snd.snd.fst (0 : Int) : Bool), false), ((!leF r2.fst.snd.snd.fst (0 : Int) : Bool), false), ((!leF r2.fst.snd.snd.fst (0 : Int) : Bool), false), ((!leF r2.fst.snd.snd.fst (0 : Int) : Bool), false), ((eqF (wrap64 (r3.fst.fst * r2.fst.snd.fst)) (wrap64 (x1' * r3.fst.snd.fst)) : Bool), false), ((eqF (wrap64 (r3.fst.fst * r2.fst.snd.fst)) (wrap64 (x1' * r3.fst.snd.fst)) : Bool), false), ((eqF (wrap64 (r3.fst.fst * r2.fst.snd.fst)) (wrap64 (x1' * r3.fst.snd.fst)) : Bool), false), ((eqF (wrap64 (r3.fst.fst * r2.fst.snd.fst)) (wrap64 (x1' * r3.fst.snd.fst)) : Bool), false), ((eqF (wrap64 (r3.fst.fst * r2.fst.fst)) (wrap64 (x1 * r3.fst.snd.fst)) : Bool), false), ((!leF r2.fst.snd.fst (0 : Int) : Bool), true), ((eqF (wrap64 (r3.fst.fst * r2.fst.fst)) (wrap64 (x1 * r3.fst.snd.fst)) : Bool), false), ((!leF r2.fst.snd.fst (0 : Int) : Bool), true), ((!leF r2.fst.snd.fst (0 : Int) : Bool), true), ((!leF r2.fst.snd.fst (0 : Int) : Bool), true), ((!leF r2.fst.snd.fst (0 : Int) : Bool), true), ((!leF r2.fst.snd.fst (0 : Int) : Bool), true), ((!leF r2.fst.snd.fst (0 : Int) : Bool), true), ((!leF r2.fst.snd.fst (0 : Int) : Bool), true), ((eqF (wrap64 (r3.fst.fst * r2.fst.fst)) (wrap64 (x1 * r3.fst.snd.fst)) : Bool), false), ((eqF (wrap64 (r3.fst.fst * r2.fst.fst)) (wrap64 (x1 * r3.fst.snd.fst)) : Bool), false), ((eqF (wrap64 (r3.fst.fst * r2.fst.fst)) (wrap64 (x1 * r3.fst.snd.fst)) : Bool), false), ((eqF (wrap64 (r3.fst.fst * r2.fst.fst)) (wrap64 (x1 * r3.fst.snd.fst)) : Bool), false), ((!leF (wrap64 (r3.fst.fst * r2.fst.snd.snd.fst)) (wrap64 (x1'' * r3.fst.snd.fst)) : Bool), false), ((!leF (wrap64 (r3.fst.fst * r2.fst.snd.fst)) (wrap64 (x1' * r3.fst.snd.fst)) : Bool), false), ((!leF (wrap64 (r3.fst.fst * r2.fst.snd.fst)) (wrap64 (x1' * r3.fst.snd.fst)) : Bool), false), ((!leF (wrap64 (r3.fst.fst * r2.fst.snd.fst)) (wrap64 (x1' * r3.fst.snd.fst)) : Bool), false), ((!leF (wrap64 (r3.fst.fst * r2.fst.snd.fst)) (wrap64 (x1' * r3.fst.snd.fst)) : Bool), false), ((!leF (wrap64 (r3.fst.fst * r2.fst.snd.fst)) (wrap64 (x1' * r3.fst.snd.fst)) : Bool), false), ((!leF (wrap64 (r3.fst.fst * r2.fst.snd.fst)) (wrap64 (x1' * r3.fst.snd.fst)) : Bool), false), ((!leF (wrap64 (r3.fst.fst * r2.fst.snd.fst)) (wrap64 (x1' * r3.fst.snd.fst)) : Bool), false), ((!leF (wrap64 (r3.fst.fst * r2.fst.snd.fst)) (wrap64 (x1' * r3.fst.snd.fst)) : Bool), false), ((!leF (wrap64 (r3.fst.fst * r2.fst.fst)) (wrap64 (x1 * r3.fst.snd.fst)) : Bool), false), ((!leF (wrap64 (r3.fst.fst * r2.fst.fst)) (wrap64 (x1 * r3.fst.snd.fst)) : Bool), false), ((!leF (wrap64 (r3.fst.fst * r2.fst.fst)) (wrap64 (x1 * r3.fst.snd.fst)) : Bool), false), ((!leF (wrap64 (r3.fst.fst * r2.fst.fst)) (wrap64 (x1 * r3.fst.snd.fst)) : Bool), false), ((!leF (wrap64 (r3.fst.fst * r2.fst.fst)) (wrap64 (x1 * r3.fst.snd.fst)) : Bool), false), ((!leF (wrap64 (r3.fst.fst * r2.fst.fst)) (wrap64 (x1 * r3.fst.snd.fst)) : Bool), false), ((!leF (wrap64 (r3.fst.fst * r2.fst.fst)) (wrap64 (x1 * r3.fst.snd.fst)) : Bool), false), ((!leF (wrap64 (r3.fst.fst * r2.fst.fst)) (wrap64 (x1 * r3.fst.snd.fst)) : Bool), false), ((!(r3.fst.fst == r7.fst.fst && (r3.fst.snd.fst == r7.fst.snd.fst && true)) : Bool), false), ((!eqF r3.snd.fst (0 : Int) : Bool), false), ((!eqF r3.snd.fst (0 : Int) : Bool), false), ((!eqF r3.snd.fst (0 : Int) : Bool), false), ((!eqF r3.snd.fst (0 : Int) : Bool), false), ((!r7.snd.fst : Bool), false), (Option.isSome (f32 (x0', ((x1, (x1', (x1'', ()))), ()))), true), ((!eqF r6.fst (0 : Int) : Bool), false), (Option.isSome (f31 ((x1, (x1', (x1'', ()))), ())), true), ((!(r2.fst.fst == r5.fst.fst && (r2.fst.snd.fst == r5.fst.snd.fst && (r2.fst.snd.snd.fst == r5.fst.snd.snd.fst && true))) : Bool), false), ((!eqF r2.snd.fst (0 : Int) : Bool), false), ((!eqF r2.snd.fst (0 : Int) : Bool), false), (Option.isSome (f30 (x0', ())), true), ((!eqF r2.snd.fst (0 : Int) : Bool), false), ((!eqF r2.snd.fst (0 : Int) : Bool), false), ((!eqF r2.snd.fst (0 : Int) : Bool), false), ((!eqF r2.snd.fst (0 : Int) : Bool), false), ((!eqF r4.fst (0 : Int) : Bool), false), (Option.isSome (f29 ((x0, (x0', ())), ())), true), (Option.isSome (f28 (((r1.fst.fst : Int), ((r1.fst.snd.fst : List Int), ())), ((x1, (x1', (x1'', ()))), ()))), true), (Option.isSome (f18 ((x0, (x0', ())), ())), true), (Option.isSome (f27 (((r1.fst.fst : Int), ((r1.fst.snd.fst : List Int), ())), ())), true), (Option.isSome (f18 ((x0, (x0', ())), ())), true), ((!r0.fst : Bool), false), (Option.isSome (f16 ((x0, (x0', ())), ())), true), ((false : Bool), false), ((true : Bool), true)])) := by kernel_rfl
theorem e4_20 (x0 : Int) (x0' : (List Int)) (x1 : Int) (x1' : Int) (x1'' : Int) : runPure kf32.orc Go.Proofs.Try.prog 400 4 as4 rs4 ((x0, x0', ()), (x1, x1', x1'', ()), ()) [true, false, true, false, true, true, true, true, true, false, false, false, false, false, true, false, false, false, true, false, true, false, false, false, false, false, false, false, false, false, false, false, false, false, false, false, false, false, false, false, false, false, false, false, false, false, false, false, false, false, false, false, false, false, false, false, false, false, false, false, false, false, true, true, true, true, true, true, true, false, true, false] =
    (let r0 : Bool × PUnit := g16 ((x0, (x0', ())), ()); let r1 : (Int × List Int × PUnit) × PUnit := g18 ((x0, (x0', ())), ()); let r4 : Int × PUnit := g29 ((x0, (x0', ())), ()); let r2 : (Int × Int × Int × PUnit) × Int × PUnit := g27 (((r1.fst.fst : Int), ((r1.fst.snd.fst : List Int), ())), ()); let r5 : (Int × Int × Int × PUnit) × PUnit := g30 (x0', ()); let r6 : Int × PUnit := g31 ((x1, (x1', (x1'', ()))), ()); let r7 : (Int × Int × PUnit) × Bool × PUnit := g32 (x0', ((x1, (x1', (x1'', ()))), ())); let r3 : (Int × Int × PUnit) × Int × PUnit := g28 (((r1.fst.fst : Int), ((r1.fst.snd.fst : List Int), ())), ((x1, (x1', (x1'', ()))), ())); some (((eqF (wrap64 (r3.fst.fst * r2.fst.snd.snd.fst)) (wrap64 (x1'' * r3.fst.snd.fst)) : Bool), ()), [((false : Bool), false), ((!leF r2.fst.snd.snd.fst (0 : Int) : Bool), true), ((false : Bool), false), ((!leF r2.fst.snd.snd.fst (0 : Int) : Bool), true), ((!leF r2.fst.snd.snd.fst (0 : Int) : Bool), true), ((!leF r2.fst.snd.snd.fst (0 : Int) : Bool), true), ((!leF r2.fst.snd.snd.fst (0 : Int) : Bool), true), ((!leF r2.fst.snd.snd.fst (0 : Int) : Bool), true), ((!leF r2.fst.snd.snd.fst (0 : Int) : Bool), true), ((!leF r2.fst.snd.snd.fst (0 : Int) : Bool), true), ((false : Bool), false), ((false : Bool), false), ((false : Bool), false), ((false : Bool), false), ((eqF (wrap64 (r3.fst.fst * r2.fst.fst)) (wrap64 (x1 * r3.fst.snd.fst)) : Bool), false), ((!leF r2.fst.snd.fst (0 : Int) : Bool), false), ((eqF (wrap64 (r3.fst.fst * r2.fst.fst)) (wrap64 (x1 * r3.fst.snd.fst)) : Bool), false), ((!leF r2.fst.snd.fst (0 : Int) : Bool), false), ((!leF r2.fst.snd.fst (0 : Int) : Bool), false), ((!leF r2.fst.snd.fst (0 : Int) : Bool), false), ((!leF r2.fst.snd.fst (0 : Int) : Bool), false), ((!leF r2.fst.snd.fst (0 : Int) : Bool), false), ((!leF r2.fst.snd.fst (0 : Int) : Bool), false), ((!leF r2.fst.snd.fst (0 : Int) : Bool), false), ((eqF (wrap64 (r3.fst.fst * r2.fst.fst)) (wrap64 (x1 * r3.fst.snd.fst)) : Bool), false), ((eqF (wrap64 (r3.fst.fst * r2.fst.fst)) (wrap64 (x1 * r3.fst.snd.fst)) : Bool), false), ((eqF (wrap64 (r3.fst.fst * r2.fst.fst)) (wrap64 (x1 * r3.fst.snd.fst)) : Bool), false), ((eqF (wrap64 (r3.fst.fst * r2.fst.fst)) (wrap64 (x1 * r3.fst.snd.fst)) : Bool), false), ((!leF (wrap64 (r3.fst.fst * r2.fst.snd.snd.fst)) (wrap64 (x1'' * r3.fst.snd.fst)) : Bool), false), ((!leF (wrap64 (r3.fst.fst * r2.fst.snd.fst)) (wrap64 (x1' * r3.fst.snd.fst)) : Bool), false), ((!leF (wrap64 (r3.fst.fst * r2.fst.snd.fst)) (wrap64 (x1' * r3.fst.snd.fst)) : Bool), false), ((!leF (wrap64 (r3.fst.fst * r2.fst.snd.fst)) (wrap64 (x1' * r3.fst.snd.fst)) : Bool), false), ((!leF (wrap64 (r3.fst.fst * r2.fst.snd.fst)) (wrap64 (x1' * r3.fst.snd.fst)) : Bool), false), ((!leF (wrap64 (r3.fst.fst * r2.fst.snd.fst)) (wrap64 (x1' * r3.fst.snd.fst)) : Bool), false), ((!leF (wrap64 (r3.fst.fst * r2.fst.snd.fst)) (wrap64 (x1' * r3.fst.snd.fst)) : Bool), false), ((!leF (wrap64 (r3.fst.fst * r2.fst.snd.fst)) (wrap64 (x1' * r3.fst.snd.fst)) : Bool), false), ((!leF (wrap64 (r3.fst.fst * r2.fst.snd.fst)) (wrap64 (x1' * r3.fst.snd.fst)) : Bool), false), ((!leF (wrap64 (r3.fst.fst * r2.fst.fst)) (wrap64 (x1 * r3.fst.snd.fst)) : Bool), false), ((!leF (wrap64 (r3.fst.fst * r2.fst.fst)) (wrap64 (x1 * r3.fst.snd.fst)) : Bool), false), ((!leF (wrap64 (r3.fst.fst * r2.fst.fst)) (wrap64 (x1 * r3.fst.snd.fst)) : Bool), false), ((!leF (wrap64 (r3.fst.fst * r2.fst.fst)) (wrap64 (x1 * r3.fst.snd.fst)) : Bool), false), ((!leF (wrap64 (r3.fst.fst * r2.fst.fst)) (wrap64 (x1 * r3.fst.snd.fst)) : Bool), false), ((!leF (wrap64 (r3.fst.fst * r2.fst.fst)) (wrap64 (x1 * r3.fst.snd.fst)) : Bool), false), ((!leF (wrap64 (r3.fst.fst * r2.fst.fst)) (wrap64 (x1 * r3.fst.snd.fst)) : Bool), false), ((!leF (wrap64 (r3.fst.fst * r2.fst.fst)) (wrap64 (x1 * r3.fst.snd.fst)) : Bool), false), ((!(r3.fst.fst == r7.fst.fst && (r3.fst.snd.fst == r7.fst.snd.fst && true)) : Bool), false), ((!eqF r3.snd.fst (0 : Int) : Bool), false), ((!eqF r3.snd.fst (0 : Int) : Bool), false), ((!eqF r3.snd.fst (0 : Int) : Bool), false), ((!eqF r3.snd.fst (0 : Int) : Bool), false), ((!r7.snd.fst : Bool), false), (Option.isSome (f32 (x0', ((x1, (x1', (x1'', ()))), ()))), true), ((!eqF r6.fst (0 : Int) : Bool), false), (Option.isSome (f31 ((x1, (x1', (x1'', ()))), ())), true), ((!(r2.fst.fst == r5.fst.fst && (r2.fst.snd.fst == r5.fst.snd.fst && (r2.fst.snd.snd.fst == r5.fst.snd.snd.fst && true))) : Bool), false), ((!eqF r2.snd.fst (0 : Int) : Bool), false), ((!eqF r2.snd.fst (0 : Int) : Bool), false), (Option.isSome (f30 (x0', ())), true), ((!eqF r2.snd.fst (0 : Int) : Bool), false), ((!eqF r2.snd.fst (0 : Int) : Bool), false), ((!eqF r2.snd.fst (0 : Int) : Bool), false), ((!eqF r2.snd.fst (0 : Int) : Bool), false), ((!eqF r4.fst (0 : Int) : Bool), false), (Option.isSome (f29 ((x0, (x0', ())), ())), true), (Option.isSome (f28 (((r1.fst.fst : Int), ((r1.fst.snd.fst : List Int), ())), ((x1, (x1', (x1'', ()))), ()))), true), (Option.isSome (f18 ((x0, (x0', ())), ())), true), (Option.isSome (f27 (((r1.fst.fst : Int), ((r1.fst.snd.fst : List Int), ())), ())), true), (Option.isSome (f18 ((x0, (x0', ())), ())), true), ((!r0.fst : Bool), false), (Option.isSome (f16 ((x0, (x0', ())), ())), true), ((false : Bool), false), ((true : Bool), true)])) := by kernel_rfl
theorem e4_21 (x0 : Int) (x0' : (List Int)) (x1 : Int) (x1' : Int) (x1'' : Int) : runPure kf32.orc Go.Proofs.Try.prog 400 4 as4 rs4 ((x0, x0', ()), (x1, x1', x1'', ()), ()) [true, false, true, false, true, true, true, true, true, false, false, false, false, false, true, false, false, false, true, false, true, false, false, false, false, false, false, false, false, false, false, false, false, false, false, false, false, false, false, false, false, false, false, false, false, false, false, false, false, false, false, false, false, false, false, false, false, false, false, false, false, false, false, false, false, false, false, false, false, false, false, false] =
    (let r0 : Bool × PUnit := g16 ((x0, (x0', ())), ()); let r1 : (Int × List Int × PUnit) × PUnit := g18 ((x0, (x0', ())), ()); let r4 : Int × PUnit := g29 ((x0, (x0', ())), ()); let r2 : (Int × Int × Int × PUnit) × Int × PUnit := g27 (((r1.fst.fst : Int), ((r1.fst.snd.fst : List Int), ())), ()); let r5 : (Int × Int × Int × PUnit) × PUnit := g30 (x0', ()); let r6 : Int × PUnit := g31 ((x1, (x1', (x1'', ()))), ()); let r7 : (Int × Int × PUnit) × Bool × PUnit := g32 (x0', ((x1, (x1', (x1'', ()))), ())); let r3 : (Int × Int × PUnit) × Int × PUnit := g28 (((r1.fst.fst : Int), ((r1.fst.snd.fst : List Int), ())), ((x1, (x1', (x1'', ()))), ())); some (((false : Bool), ()), [((false : Bool), false), ((!leF r2.fst.snd.snd.fst (0 : Int) : Bool), false), ((false : Bool), false), ((!leF r2.fst.snd.snd.fst (0 : Int) : Bool), false), ((!leF r2.fst.snd.snd.fst (0 : Int) : Bool), false), ((!leF r2.fst.snd.snd.fst (0 : Int) : Bool), false), ((!leF r2.fst.snd.snd.fst (0 : Int) : Bool), false), ((!leF r2.fst.snd.snd.fst (0 : Int) : Bool), false), ((!leF r2.fst.snd.snd.fst (0 : Int) : Bool), false), ((!leF r2.fst.snd.snd.fst (0 : Int) : Bool), false), ((false : Bool), false), ((false : Bool), false), ((false : Bool), false), ((false : Bool), false), ((eqF (wrap64 (r3.fst.fst * r2.fst.fst)) (wrap64 (x1 * r3.fst.snd.fst)) : Bool), false), ((!leF r2.fst.snd.fst (0 : Int) : Bool), false), ((eqF (wrap64 (r3.fst.fst * r2.fst.fst)) (wrap64 (x1 * r3.fst.snd.fst)) : Bool), false), ((!leF r2.fst.snd.fst (0 : Int) : Bool), false), ((!leF r2.fst.snd.fst (0 : Int) : Bool), false), ((!leF r2.fst.snd.fst (0 : Int) : Bool), false), ((!leF r2.fst.snd.fst (0 : Int) : Bool), false), ((!leF r2.fst.snd.fst (0 : Int) : Bool), false), ((!leF r2.fst.snd.fst (0 : Int) : Bool), false), ((!leF r2.fst.snd.fst (0 : Int) : Bool), false), ((eqF (wrap64 (r3.fst.fst * r2.fst.fst)) (wrap64 (x1 * r3.fst.snd.fst)) : Bool), false), ((eqF (wrap64 (r3.fst.fst * r2.fst.fst)) (wrap64 (x1 * r3.fst.snd.fst)) : Bool), false), ((eqF (wrap64 (r3.fst.fst * r2.fst.fst)) (wrap64 (x1 * r3.fst.snd.fst)) : Bool), false), ((eqF (wrap64 (r3.fst.fst * r2.fst.fst)) (wrap64 (x1 * r3.fst.snd.fst)) : Bool), false), ((!leF (wrap64 (r3.fst.fst * r2.fst.snd.snd.fst)) (wrap64 (x1'' * r3.fst.snd.fst)) : Bool), false), ((!leF (wrap64 (r3.fst.fst * r2.fst.snd.fst)) (wrap64 (x1' * r3.fst.snd.fst)) : Bool), false), ((!leF (wrap64 (r3.fst.fst * r2.fst.snd.fst)) (wrap64 (x1' * r3.fst.snd.fst)) : Bool), false), ((!leF (wrap64 (r3.fst.fst * r2.fst.snd.fst)) (wrap64 (x1' * r3.fst.snd.fst)) : Bool), false), ((!leF (wrap64 (r3.fst.fst * r2.fst.snd.fst)) (wrap64 (x1' * r3.fst.snd.fst)) : Bool), false), ((!leF (wrap64 (r3.fst.fst * r2.fst.snd.fst)) (wrap64 (x1' * r3.fst.snd.fst)) : Bool), false), ((!leF (wrap64 (r3.fst.fst * r2.fst.snd.fst)) (wrap64 (x1' * r3.fst.snd.fst)) : Bool), false), ((!leF (wrap64 (r3.fst.fst * r2.fst.snd.fst)) (wrap64 (x1' * r3.fst.snd.fst)) : Bool), false), ((!leF (wrap64 (r3.fst.fst * r2.fst.snd.fst)) (wrap64 (x1' * r3.fst.snd.fst)) : Bool), false), ((!leF (wrap64 (r3.fst.fst * r2.fst.fst)) (wrap64 (x1 * r3.fst.snd.fst)) : Bool), false), ((!leF (wrap64 (r3.fst.fst * r2.fst.fst)) (wrap64 (x1 * r3.fst.snd.fst)) : Bool), false), ((!leF (wrap64 (r3.fst.fst * r2.fst.fst)) (wrap64 (x1 * r3.fst.snd.fst)) : Bool), false), ((!leF (wrap64 (r3.fst.fst * r2.fst.fst)) (wrap64 (x1 * r3.fst.snd.fst)) : Bool), false), ((!leF (wrap64 (r3.fst.fst * r2.fst.fst)) (wrap64 (x1 * r3.fst.snd.fst)) : Bool), false), ((!leF (wrap64 (r3.fst.fst * r2.fst.fst)) (wrap64 (x1 * r3.fst.snd.fst)) : Bool), false), ((!leF (wrap64 (r3.fst.fst * r2.fst.fst)) (wrap64 (x1 * r3.fst.snd.fst)) : Bool), false), ((!leF (wrap64 (r3.fst.fst * r2.fst.fst)) (wrap64 (x1 * r3.fst.snd.fst)) : Bool), false), ((!(r3.fst.fst == r7.fst.fst && (r3.fst.snd.fst == r7.fst.snd.fst && true)) : Bool), false), ((!eqF r3.snd.fst (0 : Int) : Bool), false), ((!eqF r3.snd.fst (0 : Int) : Bool), false), ((!eqF r3.snd.fst (0 : Int) : Bool), false), ((!eqF r3.snd.fst (0 : Int) : Bool), false), ((!r7.snd.fst : Bool), false), (Option.isSome (f32 (x0', ((x1, (x1', (x1'', ()))), ()))), true), ((!eqF r6.fst (0 : Int) : Bool), false), (Option.isSome (f31 ((x1, (x1', (x1'', ()))), ())), true), ((!(r2.fst.fst == r5.fst.fst && (r2.fst.snd.fst == r5.fst.snd.fst && (r2.fst.snd.snd.fst == r5.fst.snd.snd.fst && true))) : Bool), false), ((!eqF r2.snd.fst (0 : Int) : Bool), false), ((!eqF r2.snd.fst (0 : Int) : Bool), false), (Option.isSome (f30 (x0', ())), true), ((!eqF r2.snd.fst (0 : Int) : Bool), false), ((!eqF r2.snd.fst (0 : Int) : Bool), false), ((!eqF r2.snd.fst (0 : Int) : Bool), false), ((!eqF r2.snd.fst (0 : Int) : Bool), false), ((!eqF r4.fst (0 : Int) : Bool), false), (Option.isSome (f29 ((x0, (x0', ())), ())), true), (Option.isSome (f28 (((r1.fst.fst : Int), ((r1.fst.snd.fst : List Int), ())), ((x1, (x1', (x1'', ()))), ()))), true), (Option.isSome (f18 ((x0, (x0', ())), ())), true), (Option.isSome (f27 (((r1.fst.fst : Int), ((r1.fst.snd.fst : List Int), ())), ())), true), (Option.isSome (f18 ((x0, (x0', ())), ())), true), ((!r0.fst : Bool), false), (Option.isSome (f16 ((x0, (x0', ())), ())), true), ((false : Bool), false), ((true : Bool), true)])) := by kernel_rfl

theorem ok4_t (x0 : Int) (x0' : (List Int)) (x1 : Int) (x1' : Int) (x1'' : Int) : TrOk (PureRuns Go.Proofs.Try.prog kf32.orc 4 as4 rs4 ((x0, x0', ()), (x1, x1', x1'', ()), ())) (t4 x0 x0' x1 x1' x1'') :=
  TrOk.ofTest (fun h2 => TrOk.ofTest (fun h3 => TrOk.ofFin (PureRuns.of (e4_0 x0 x0' x1 x1' x1'') (All.cons h3 (All.cons h2 (All.cons rfl (All.cons rfl (All.nil))))))) (fun h3 => TrOk.ofTest (fun h4 => TrOk.ofTest (fun h5 => TrOk.ofTest (fun h7 => TrOk.ofTest (fun h8 => TrOk.ofTest (fun h9 => TrOk.ofTest (fun h10 => TrOk.ofTest (fun h14 => TrOk.ofTest (fun h18 => TrOk.ofFin (PureRuns.of (e4_1 x0 x0' x1 x1' x1'') (All.cons h18 (All.cons h18 (All.cons h18 (All.cons h18 (All.cons h14 (All.cons h14 (All.cons h14 (All.cons h14 (All.cons h10 (All.cons h10 (All.cons h10 (All.cons h10 (All.cons h9 (All.cons h8 (All.cons h7 (All.cons h4 (All.cons h5 (All.cons h4 (All.cons h3 (All.cons h2 (All.cons rfl (All.cons rfl (All.nil))))))))))))))))))))))))) (fun h18 => TrOk.ofFin (PureRuns.of (e4_2 x0 x0' x1 x1' x1'') (All.cons h18 (All.cons h18 (All.cons h18 (All.cons h18 (All.cons h14 (All.cons h14 (All.cons h14 (All.cons h14 (All.cons h10 (All.cons h10 (All.cons h10 (All.cons h10 (All.cons h9 (All.cons h8 (All.cons h7 (All.cons h4 (All.cons h5 (All.cons h4 (All.cons h3 (All.cons h2 (All.cons rfl (All.cons rfl (All.nil)))))))))))))))))))))))))) (fun h14 => TrOk.ofFin (PureRuns.of (e4_3 x0 x0' x1 x1' x1'') (All.cons rfl (All.cons rfl (All.cons rfl (All.cons rfl (All.cons h14 (All.cons h14 (All.cons h14 (All.cons h14 (All.cons h10 (All.cons h10 (All.cons h10 (All.cons h10 (All.cons h9 (All.cons h8 (All.cons h7 (All.cons h4 (All.cons h5 (All.cons h4 (All.cons h3 (All.cons h2 (All.cons rfl (All.cons rfl (All.nil)))))))))))))))))))))))))) (fun h10 => TrOk.ofFin (PureRuns.of (e4_4 x0 x0' x1 x1' x1'') (All.cons rfl (All.cons rfl (All.cons rfl (All.cons rfl (All.cons rfl (All.cons rfl (All.cons rfl (All.cons rfl (All.cons h10 (All.cons h10 (All.cons h10 (All.cons h10 (All.cons h9 (All.cons h8 (All.cons h7 (All.cons h4 (All.cons h5 (All.cons h4 (All.cons h3 (All.cons h2 (All.cons rfl (All.cons rfl (All.nil)))))))))))))))))))))))))) (fun h9 => TrOk.ofTest (fun h10 => TrOk.ofFin (PureRuns.of (e4_5 x0 x0' x1 x1' x1'') (All.cons rfl (All.cons h10 (All.cons h10 (All.cons h10 (All.cons h10 (All.cons h10 (All.cons h10 (All.cons h9 (All.cons h8 (All.cons h7 (All.cons h4 (All.cons h5 (All.cons h4 (All.cons h3 (All.cons h2 (All.cons rfl (All.cons rfl (All.nil)))))))))))))))))))) (fun h10 => TrOk.ofTest (fun h14 => TrOk.ofTest (fun h17 => TrOk.ofFin (PureRuns.of (e4_6 x0 x0' x1 x1' x1'') (All.cons h17 (All.cons h10 (All.cons h10 (All.cons h14 (All.cons h10 (All.cons h10 (All.cons h10 (All.cons h10 (All.cons h9 (All.cons h8 (All.cons h7 (All.cons h4 (All.cons h5 (All.cons h4 (All.cons h3 (All.cons h2 (All.cons rfl (All.cons rfl (All.nil))))))))))))))))))))) (fun h17 => TrOk.ofTest (fun h18 => TrOk.ofTest (fun h19 => TrOk.ofTest (fun h20 => TrOk.ofFin (PureRuns.of (e4_7 x0 x0' x1 x1' x1'') (All.cons h20 (All.cons h20 (All.cons h20 (All.cons h20 (All.cons h19 (All.cons h18 (All.cons h17 (All.cons h10 (All.cons h10 (All.cons h14 (All.cons h10 (All.cons h10 (All.cons h10 (All.cons h10 (All.cons h9 (All.cons h8 (All.cons h7 (All.cons h4 (All.cons h5 (All.cons h4 (All.cons h3 (All.cons h2 (All.cons rfl (All.cons rfl (All.nil))))))))))))))))))))))))))) (fun h20 => TrOk.ofFin (PureRuns.of (e4_8 x0 x0' x1 x1' x1'') (All.cons h20 (All.cons h20 (All.cons h20 (All.cons h20 (All.cons h19 (All.cons h18 (All.cons h17 (All.cons h10 (All.cons h10 (All.cons h14 (All.cons h10 (All.cons h10 (All.cons h10 (All.cons h10 (All.cons h9 (All.cons h8 (All.cons h7 (All.cons h4 (All.cons h5 (All.cons h4 (All.cons h3 (All.cons h2 (All.cons rfl (All.cons rfl (All.nil)))))))))))))))))))))))))))) (fun h19 => TrOk.ofTest (fun h20 => TrOk.ofTest (fun h21 => TrOk.ofTest (fun h22 => TrOk.ofFin (PureRuns.of (e4_9 x0 x0' x1 x1' x1'') (All.cons h22 (All.cons h22 (All.cons h22 (All.cons h22 (All.cons h21 (All.cons h20 (All.cons h19 (All.cons h18 (All.cons h17 (All.cons h10 (All.cons h10 (All.cons h14 (All.cons h10 (All.cons h10 (All.cons h10 (All.cons h10 (All.cons h9 (All.cons h8 (All.cons h7 (All.cons h4 (All.cons h5 (All.cons h4 (All.cons h3 (All.cons h2 (All.cons rfl (All.cons rfl (All.nil))))))))))))))))))))))))))))) (fun h22 => TrOk.ofFin (PureRuns.of (e4_10 x0 x0' x1 x1' x1'') (All.cons h22 (All.cons h22 (All.cons h22 (All.cons h22 (All.cons h21 (All.cons h20 (All.cons h19 (All.cons h18 (All.cons h17 (All.cons h10 (All.cons h10 (All.cons h14 (All.cons h10 (All.cons h10 (All.cons h10 (All.cons h10 (All.cons h9 (All.cons h8 (All.cons h7 (All.cons h4 (All.cons h5 (All.cons h4 (All.cons h3 (All.cons h2 (All.cons rfl (All.cons rfl (All.nil)))))))))))))))))))))))))))))) (fun h21 => TrOk.ofTest (fun h22 => TrOk.ofFin (PureRuns.of (e4_11 x0 x0' x1 x1' x1'') (All.cons rfl (All.cons h22 (All.cons h22 (All.cons h22 (All.cons h22 (All.cons h21 (All.cons h20 (All.cons h19 (All.cons h18 (All.cons h17 (All.cons h10 (All.cons h10 (All.cons h14 (All.cons h10 (All.cons h10 (All.cons h10 (All.cons h10 (All.cons h9 (All.cons h8 (All.cons h7 (All.cons h4 (All.cons h5 (All.cons h4 (All.cons h3 (All.cons h2 (All.cons rfl (All.cons rfl (All.nil)))))))))))))))))))))))))))))) (fun h22 => TrOk.ofTest (fun h26 => TrOk.ofFin (PureRuns.of (e4_12 x0 x0' x1 x1' x1'') (All.cons h26 (All.cons h22 (All.cons h22 (All.cons h22 (All.cons h22 (All.cons h21 (All.cons h20 (All.cons h19 (All.cons h18 (All.cons h17 (All.cons h10 (All.cons h10 (All.cons h14 (All.cons h10 (All.cons h10 (All.cons h10 (All.cons h10 (All.cons h9 (All.cons h8 (All.cons h7 (All.cons h4 (All.cons h5 (All.cons h4 (All.cons h3 (All.cons h2 (All.cons rfl (All.cons rfl (All.nil)))))))))))))))))))))))))))))) (fun h26 => TrOk.ofTest (fun h27 => TrOk.ofFin (PureRuns.of (e4_13 x0 x0' x1 x1' x1'') (All.cons rfl (All.cons rfl (All.cons rfl (All.cons rfl (All.cons rfl (All.cons rfl (All.cons rfl (All.cons rfl (All.cons rfl (All.cons h27 (All.cons h27 (All.cons h27 (All.cons h27 (All.cons h27 (All.cons h27 (All.cons h27 (All.cons h27 (All.cons h26 (All.cons h22 (All.cons h22 (All.cons h22 (All.cons h22 (All.cons h21 (All.cons h20 (All.cons h19 (All.cons h18 (All.cons h17 (All.cons h10 (All.cons h10 (All.cons h14 (All.cons h10 (All.cons h10 (All.cons h10 (All.cons h10 (All.cons h9 (All.cons h8 (All.cons h7 (All.cons h4 (All.cons h5 (All.cons h4 (All.cons h3 (All.cons h2 (All.cons rfl (All.cons rfl (All.nil))))))))))))))))))))))))))))))))))))))))))))))) (fun h27 => TrOk.ofTest (fun h35 => TrOk.ofFin (PureRuns.of (e4_14 x0 x0' x1 x1' x1'') (All.cons rfl (All.cons h35 (All.cons h35 (All.cons h35 (All.cons h35 (All.cons h35 (All.cons h35 (All.cons h35 (All.cons h35 (All.cons h27 (All.cons h27 (All.cons h27 (All.cons h27 (All.cons h27 (All.cons h27 (All.cons h27 (All.cons h27 (All.cons h26 (All.cons h22 (All.cons h22 (All.cons h22 (All.cons h22 (All.cons h21 (All.cons h20 (All.cons h19 (All.cons h18 (All.cons h17 (All.cons h10 (All.cons h10 (All.cons h14 (All.cons h10 (All.cons h10 (All.cons h10 (All.cons h10 (All.cons h9 (All.cons h8 (All.cons h7 (All.cons h4 (All.cons h5 (All.cons h4 (All.cons h3 (All.cons h2 (All.cons rfl (All.cons rfl (All.nil))))))))))))))))))))))))))))))))))))))))))))))) (fun h35 => TrOk.ofTest (fun h43 => TrOk.ofFin (PureRuns.of (e4_15 x0 x0' x1 x1' x1'') (All.cons h43 (All.cons h35 (All.cons h35 (All.cons h35 (All.cons h35 (All.cons h35 (All.cons h35 (All.cons h35 (All.cons h35 (All.cons h27 (All.cons h27 (All.cons h27 (All.cons h27 (All.cons h27 (All.cons h27 (All.cons h27 (All.cons h27 (All.cons h26 (All.cons h22 (All.cons h22 (All.cons h22 (All.cons h22 (All.cons h21 (All.cons h20 (All.cons h19 (All.cons h18 (All.cons h17 (All.cons h10 (All.cons h10 (All.cons h14 (All.cons h10 (All.cons h10 (All.cons h10 (All.cons h10 (All.cons h9 (All.cons h8 (All.cons h7 (All.cons h4 (All.cons h5 (All.cons h4 (All.cons h3 (All.cons h2 (All.cons rfl (All.cons rfl (All.nil))))))))))))))))))))))))))))))))))))))))))))))) (fun h43 => TrOk.ofTest (fun h44 => TrOk.ofFin (PureRuns.of (e4_16 x0 x0' x1 x1' x1'') (All.cons rfl (All.cons rfl (All.cons rfl (All.cons rfl (All.cons rfl (All.cons rfl (All.cons h44 (All.cons h44 (All.cons h44 (All.cons h44 (All.cons h44 (All.cons h44 (All.cons h43 (All.cons h35 (All.cons h35 (All.cons h35 (All.cons h35 (All.cons h35 (All.cons h35 (All.cons h35 (All.cons h35 (All.cons h27 (All.cons h27 (All.cons h27 (All.cons h27 (All.cons h27 (All.cons h27 (All.cons h27 (All.cons h27 (All.cons h26 (All.cons h22 (All.cons h22 (All.cons h22 (All.cons h22 (All.cons h21 (All.cons h20 (All.cons h19 (All.cons h18 (All.cons h17 (All.cons h10 (All.cons h10 (All.cons h14 (All.cons h10 (All.cons h10 (All.cons h10 (All.cons h10 (All.cons h9 (All.cons h8 (All.cons h7 (All.cons h4 (All.cons h5 (All.cons h4 (All.cons h3 (All.cons h2 (All.cons rfl (All.cons rfl (All.nil))))))))))))))))))))))))))))))))))))))))))))))))))))))))))) (fun h44 => TrOk.ofTest (fun h48 => TrOk.ofTest (fun h58 => TrOk.ofFin (PureRuns.of (e4_17 x0 x0' x1 x1' x1'') (All.cons h58 (All.cons h58 (All.cons h58 (All.cons h58 (All.cons h58 (All.cons h58 (All.cons h44 (All.cons h48 (All.cons h44 (All.cons h48 (All.cons h48 (All.cons h48 (All.cons h48 (All.cons h48 (All.cons h48 (All.cons h48 (All.cons h44 (All.cons h44 (All.cons h44 (All.cons h44 (All.cons h43 (All.cons h35 (All.cons h35 (All.cons h35 (All.cons h35 (All.cons h35 (All.cons h35 (All.cons h35 (All.cons h35 (All.cons h27 (All.cons h27 (All.cons h27 (All.cons h27 (All.cons h27 (All.cons h27 (All.cons h27 (All.cons h27 (All.cons h26 (All.cons h22 (All.cons h22 (All.cons h22 (All.cons h22 (All.cons h21 (All.cons h20 (All.cons h19 (All.cons h18 (All.cons h17 (All.cons h10 (All.cons h10 (All.cons h14 (All.cons h10 (All.cons h10 (All.cons h10 (All.cons h10 (All.cons h9 (All.cons h8 (All.cons h7 (All.cons h4 (All.cons h5 (All.cons h4 (All.cons h3 (All.cons h2 (All.cons rfl (All.cons rfl (All.nil))))))))))))))))))))))))))))))))))))))))))))))))))))))))))))))))))) (fun h58 => TrOk.ofTest (fun h62 => TrOk.ofFin (PureRuns.of (e4_18 x0 x0' x1 x1' x1'') (All.cons h58 (All.cons h62 (All.cons h58 (All.cons h62 (All.cons h62 (All.cons h62 (All.cons h62 (All.cons h62 (All.cons h62 (All.cons h62 (All.cons h58 (All.cons h58 (All.cons h58 (All.cons h58 (All.cons h44 (All.cons h48 (All.cons h44 (All.cons h48 (All.cons h48 (All.cons h48 (All.cons h48 (All.cons h48 (All.cons h48 (All.cons h48 (All.cons h44 (All.cons h44 (All.cons h44 (All.cons h44 (All.cons h43 (All.cons h35 (All.cons h35 (All.cons h35 (All.cons h35 (All.cons h35 (All.cons h35 (All.cons h35 (All.cons h35 (All.cons h27 (All.cons h27 (All.cons h27 (All.cons h27 (All.cons h27 (All.cons h27 (All.cons h27 (All.cons h27 (All.cons h26 (All.cons h22 (All.cons h22 (All.cons h22 (All.cons h22 (All.cons h21 (All.cons h20 (All.cons h19 (All.cons h18 (All.cons h17 (All.cons h10 (All.cons h10 (All.cons h14 (All.cons h10 (All.cons h10 (All.cons h10 (All.cons h10 (All.cons h9 (All.cons h8 (All.cons h7 (All.cons h4 (All.cons h5 (All.cons h4 (All.cons h3 (All.cons h2 (All.cons rfl (All.cons rfl (All.nil))))))))))))))))))))))))))))))))))))))))))))))))))))))))))))))))))))))))))) (fun h62 => TrOk.ofFin (PureRuns.of (e4_19 x0 x0' x1 x1' x1'') (All.cons h58 (All.cons h62 (All.cons h58 (All.cons h62 (All.cons h62 (All.cons h62 (All.cons h62 (All.cons h62 (All.cons h62 (All.cons h62 (All.cons h58 (All.cons h58 (All.cons h58 (All.cons h58 (All.cons h44 (All.cons h48 (All.cons h44 (All.cons h48 (All.cons h48 (All.cons h48 (All.cons h48 (All.cons h48 (All.cons h48 (All.cons h48 (All.cons h44 (All.cons h44 (All.cons h44 (All.cons h44 (All.cons h43 (All.cons h35 (All.cons h35 (All.cons h35 (All.cons h35 (All.cons h35 (All.cons h35 (All.cons h35 (All.cons h35 (All.cons h27 (All.cons h27 (All.cons h27 (All.cons h27 (All.cons h27 (All.cons h27 (All.cons h27 (All.cons h27 (All.cons h26 (All.cons h22 (All.cons h22 (All.cons h22 (All.cons h22 (All.cons h21 (All.cons h20 (All.cons h19 (All.cons h18 (All.cons h17 (All.cons h10 (All.cons h10 (All.cons h14 (All.cons h10 (All.cons h10 (All.cons h10 (All.cons h10 (All.cons h9 (All.cons h8 (All.cons h7 (All.cons h4 (All.cons h5 (All.cons h4 (All.cons h3 (All.cons h2 (All.cons rfl (All.cons rfl (All.nil))))))))))))))))))))))))))))))))))))))))))))))))))))))))))))))))))))))))))))) (fun h48 => TrOk.ofTest (fun h62 => TrOk.ofFin (PureRuns.of (e4_20 x0 x0' x1 x1' x1'') (All.cons rfl (All.cons h62 (All.cons rfl (All.cons h62 (All.cons h62 (All.cons h62 (All.cons h62 (All.cons h62 (All.cons h62 (All.cons h62 (All.cons rfl (All.cons rfl (All.cons rfl (All.cons rfl (All.cons h44 (All.cons h48 (All.cons h44 (All.cons h48 (All.cons h48 (All.cons h48 (All.cons h48 (All.cons h48 (All.cons h48 (All.cons h48 (All.cons h44 (All.cons h44 (All.cons h44 (All.cons h44 (All.cons h43 (All.cons h35 (All.cons h35 (All.cons h35 (All.cons h35 (All.cons h35 (All.cons h35 (All.cons h35 (All.cons h35 (All.cons h27 (All.cons h27 (All.cons h27 (All.cons h27 (All.cons h27 (All.cons h27 (All.cons h27 (All.cons h27 (All.cons h26 (All.cons h22 (All.cons h22 (All.cons h22 (All.cons h22 (All.cons h21 (All.cons h20 (All.cons h19 (All.cons h18 (All.cons h17 (All.cons h10 (All.cons h10 (All.cons h14 (All.cons h10 (All.cons h10 (All.cons h10 (All.cons h10 (All.cons h9 (All.cons h8 (All.cons h7 (All.cons h4 (All.cons h5 (All.cons h4 (All.cons h3 (All.cons h2 (All.cons rfl (All.cons rfl (All.nil))))))))))))))))))))))))))))))))))))))))))))))))))))))))))))))))))))))))))) (fun h62 => TrOk.ofFin (PureRuns.of (e4_21 x0 x0' x1 x1' x1'') (All.cons rfl (All.cons h62 (All.cons rfl (All.cons h62 (All.cons h62 (All.cons h62 (All.cons h62 (All.cons h62 (All.cons h62 (All.cons h62 (All.cons rfl (All.cons rfl (All.cons rfl (All.cons rfl (All.cons h44 (All.cons h48 (All.cons h44 (All.cons h48 (All.cons h48 (All.cons h48 (All.cons h48 (All.cons h48 (All.cons h48 (All.cons h48 (All.cons h44 (All.cons h44 (All.cons h44 (All.cons h44 (All.cons h43 (All.cons h35 (All.cons h35 (All.cons h35 (All.cons h35 (All.cons h35 (All.cons h35 (All.cons h35 (All.cons h35 (All.cons h27 (All.cons h27 (All.cons h27 (All.cons h27 (All.cons h27 (All.cons h27 (All.cons h27 (All.cons h27 (All.cons h26 (All.cons h22 (All.cons h22 (All.cons h22 (All.cons h22 (All.cons h21 (All.cons h20 (All.cons h19 (All.cons h18 (All.cons h17 (All.cons h10 (All.cons h10 (All.cons h14 (All.cons h10 (All.cons h10 (All.cons h10 (All.cons h10 (All.cons h9 (All.cons h8 (All.cons h7 (All.cons h4 (All.cons h5 (All.cons h4 (All.cons h3 (All.cons h2 (All.cons rfl (All.cons rfl (All.nil)))))))))))))))))))))))))))))))))))))))))))))))))))))))))))))))))))))))))))))))))))) (fun h20 => TrOk.ofStop))) (fun h18 => TrOk.ofStop))) (fun h14 => TrOk.ofStop)))) (fun h8 => TrOk.ofStop)) (fun h7 => TrOk.ofStop)) (fun h5 => TrOk.ofStop)) (fun h4 => TrOk.ofStop))) (fun h2 => TrOk.ofStop)

theorem ok4 : PureOk Go.Proofs.Try.prog 4 p4 := pureOk_of kf32_ok.base (T := fun (d : Tys.data as4) => t4 d.1.1 d.1.2.1 d.2.1.1 d.2.1.2.1 d.2.1.2.2.1) (by kernel_rfl) (fun (d : Tys.data as4) => ok4_t d.1.1 d.1.2.1 d.2.1.1 d.2.1.2.1 d.2.1.2.2.1)
def kf4 : Known := kf32.func 4 p4
theorem kf4_ok : KnownOk Go.Proofs.Try.prog kf4 := kf32_ok.func ok4

end Go.Vm.Mo
