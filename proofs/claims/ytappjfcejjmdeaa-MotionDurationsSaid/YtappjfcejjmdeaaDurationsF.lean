import Derived.Test.YtappjfcejjmdeaaA3
import Derived.KernelRfl
import Derived.Test.YtappjfcejjmdeaaProg
set_option linter.unusedVariables false
set_option linter.unusedSimpArgs false

namespace Go.Vm.Mo
open Go
set_option linter.unusedVariables false

def kn0 : Known := ⟨[], []⟩

theorem plainP : Plain Go.Proofs.Try.prog := by
  have h : (Go.Proofs.Try.prog.funcs.toList.all fun fn => !(fn.body.isSome && fn.name == "runtime.NumGoroutine")) = true := by kernel_rfl
  intro f fn hf hb
  have hm : fn ∈ Go.Proofs.Try.prog.funcs.toList := by
    have := Array.getElem?_eq_some_iff.1 hf
    obtain ⟨hlt, rfl⟩ := this
    simp
  have := List.all_eq_true.1 h fn hm
  rw [hb] at this
  simpa using this

theorem kn0_ok : KnownOk Go.Proofs.Try.prog kn0 := ⟨plainP, by kernel_rfl, (fun _ h => by cases h), (fun _ h => by cases h)⟩

/-! ductility/ductilitylaw02.awake -/

abbrev as15 : List Ty := []
abbrev rs15 : List Ty := [.bool]
def f15 (_ : Tys.data as15) : Option (Tys.data rs15) := some (true, ())
def g15 (_ : Tys.data as15) : Tys.data rs15 := (true, ())
def p15 : PureC := pcOf as15 rs15 f15 g15

theorem e15 : runAsk kn0.orc Go.Proofs.Try.prog 400 15 as15 rs15 () none = some ((true, ()), []) := by kernel_rfl
theorem ok15 : PureOk Go.Proofs.Try.prog 15 p15 := pureOk_closed kn0_ok.base (by kernel_rfl) e15 All.nil
def kf15 : Known := kn0.func 15 p15
theorem kf15_ok : KnownOk Go.Proofs.Try.prog kf15 := kn0_ok.func ok15

/-! ductility/ductilitylaw02.few -/

abbrev as16 : List Ty := [(.pair (.int .i64) (.pair (.slice (.int .i64)) .unit))]
abbrev rs16 : List Ty := [.bool]

def t16 (x0 : Int) (x0' : (List Int)) : Tr (Tys.data rs16) :=
  Tr.fin (((leF (↑(List.length x0') : Int) (26 : Int) : Bool), ()))

def f16 (d : Tys.data as16) : Option (Tys.data rs16) := (t16 d.1.1 d.1.2.1).val
def g16 (d : Tys.data as16) : Tys.data rs16 := (f16 d).getD (Tys.dflt rs16)
def p16 : PureC := pcOf as16 rs16 f16 g16

theorem e16_0 (x0 : Int) (x0' : (List Int)) : runPure kf15.orc Go.Proofs.Try.prog 400 16 as16 rs16 ((x0, x0', ()), ()) [] =
    (some (((leF (↑(List.length x0') : Int) (26 : Int) : Bool), ()), [])) := by kernel_rfl

theorem ok16_t (x0 : Int) (x0' : (List Int)) : TrOk (PureRuns Go.Proofs.Try.prog kf15.orc 16 as16 rs16 ((x0, x0', ()), ())) (t16 x0 x0') :=
  TrOk.ofFin (PureRuns.of (e16_0 x0 x0') (All.nil))

theorem ok16 : PureOk Go.Proofs.Try.prog 16 p16 := pureOk_of kf15_ok.base (T := fun (d : Tys.data as16) => t16 d.1.1 d.1.2.1) (by kernel_rfl) (fun (d : Tys.data as16) => ok16_t d.1.1 d.1.2.1)
def kf16 : Known := kf15.func 16 p16
theorem kf16_ok : KnownOk Go.Proofs.Try.prog kf16 := kf15_ok.func ok16

/-! ductility/ductilitybase.CopyInts -/

abbrev as70 : List Ty := [(.slice (.int .i64))]
abbrev rs70 : List Ty := [(.slice (.int .i64))]

def t70 (x0 : (List Int)) : Tr (Tys.data rs70) :=
  Tr.test ((Nat.beq (List.length x0) (0 : Nat) : Bool))
    (Tr.fin ((([] : List Int), ())))
    (Tr.test ((Nat.ble ((0 : Nat) + List.length x0) (0 : Nat) : Bool))
      (Tr.stop /- none [op 2 of region 1 of F70] -/)
      (Tr.test ((Nat.ble (((2 : Nat) * ((0 : Nat) + List.length x0) + (192 : Nat)) * (8 : Nat)) (281474976710656 : Nat) && Nat.ble ((0 : Nat) + List.length x0) (281474976710656 : Nat) : Bool))
        (Tr.test ((Nat.beq ((0 : Nat) + List.length x0) (List.length ([] ++ x0)) : Bool))
          (Tr.fin ((([] ++ x0 : List Int), ())))
          (Tr.stop))
        (Tr.stop /- none [op 2 of region 1 of F70] -/)))

def f70 (d : Tys.data as70) : Option (Tys.data rs70) := (t70 d.1).val
def g70 (d : Tys.data as70) : Tys.data rs70 := (f70 d).getD (Tys.dflt rs70)
def p70 : PureC := pcOf as70 rs70 f70 g70

theorem e70_0 (x0 : (List Int)) : runPure kf16.orc Go.Proofs.Try.prog 400 70 as70 rs70 (x0, ()) [true, true] =
    (some ((([] : List Int), ()), [((true : Bool), true), ((Nat.beq (List.length x0) (0 : Nat) : Bool), true)])) := by kernel_rfl
theorem e70_2 (x0 : (List Int)) : runPure kf16.orc Go.Proofs.Try.prog 400 70 as70 rs70 (x0, ()) [false, false, true, true, true] =
    (some ((([] ++ x0 : List Int), ()), [((Nat.beq ((0 : Nat) + List.length x0) (List.length ([] ++ x0)) : Bool), true), ((true : Bool), true), ((Nat.ble (((2 : Nat) * ((0 : Nat) + List.length x0) + (192 : Nat)) * (8 : Nat)) (281474976710656 : Nat) && Nat.ble ((0 : Nat) + List.length x0) (281474976710656 : Nat) : Bool), true), ((Nat.ble ((0 : Nat) + List.length x0) (0 : Nat) : Bool), false), ((Nat.beq (List.length x0) (0 : Nat) : Bool), false)])) := by kernel_rfl

theorem ok70_t (x0 : (List Int)) : TrOk (PureRuns Go.Proofs.Try.prog kf16.orc 70 as70 rs70 (x0, ())) (t70 x0) :=
  TrOk.ofTest (fun h0 => TrOk.ofFin (PureRuns.of (e70_0 x0) (All.cons rfl (All.cons h0 (All.nil))))) (fun h0 => TrOk.ofTest (fun h1 => TrOk.ofStop) (fun h1 => TrOk.ofTest (fun h2 => TrOk.ofTest (fun h4 => TrOk.ofFin (PureRuns.of (e70_2 x0) (All.cons h4 (All.cons rfl (All.cons h2 (All.cons h1 (All.cons h0 (All.nil)))))))) (fun h4 => TrOk.ofStop)) (fun h2 => TrOk.ofStop)))

theorem ok70 : PureOk Go.Proofs.Try.prog 70 p70 := pureOk_of kf16_ok.base (T := fun (d : Tys.data as70) => t70 d.1) (by kernel_rfl) (fun (d : Tys.data as70) => ok70_t d.1)
def kf70 : Known := kf16.func 70 p70
theorem kf70_ok : KnownOk Go.Proofs.Try.prog kf70 := kf16_ok.func ok70

/-! ductility/ductilityref02.Copy -/

abbrev as18 : List Ty := [(.pair (.int .i64) (.pair (.slice (.int .i64)) .unit))]
abbrev rs18 : List Ty := [(.pair (.int .i64) (.pair (.slice (.int .i64)) .unit))]

def t18 (x0 : Int) (x0' : (List Int)) : Tr (Tys.data rs18) :=
  Tr.test (Option.isSome (f70 (x0', ())))
    (let r0 : List Int × PUnit := g70 (x0', ());
    Tr.fin (((x0, ((r0.fst : List Int), ())), ())))
    (Tr.stop)

def f18 (d : Tys.data as18) : Option (Tys.data rs18) := (t18 d.1.1 d.1.2.1).val
def g18 (d : Tys.data as18) : Tys.data rs18 := (f18 d).getD (Tys.dflt rs18)
def p18 : PureC := pcOf as18 rs18 f18 g18

theorem e18_0 (x0 : Int) (x0' : (List Int)) : runPure kf70.orc Go.Proofs.Try.prog 400 18 as18 rs18 ((x0, x0', ()), ()) [true] =
    (let r0 : List Int × PUnit := g70 (x0', ()); some (((x0, ((r0.fst : List Int), ())), ()), [(Option.isSome (f70 (x0', ())), true)])) := by kernel_rfl

theorem ok18_t (x0 : Int) (x0' : (List Int)) : TrOk (PureRuns Go.Proofs.Try.prog kf70.orc 18 as18 rs18 ((x0, x0', ()), ())) (t18 x0 x0') :=
  TrOk.ofTest (fun h0 => TrOk.ofFin (PureRuns.of (e18_0 x0 x0') (All.cons h0 (All.nil)))) (fun h0 => TrOk.ofStop)

theorem ok18 : PureOk Go.Proofs.Try.prog 18 p18 := pureOk_of kf70_ok.base (T := fun (d : Tys.data as18) => t18 d.1.1 d.1.2.1) (by kernel_rfl) (fun (d : Tys.data as18) => ok18_t d.1.1 d.1.2.1)
def kf18 : Known := kf70.func 18 p18
theorem kf18_ok : KnownOk Go.Proofs.Try.prog kf18 := kf70_ok.func ok18

/-! ductility/motion.when -/

abbrev as86 : List Ty := [.bool, (.int .i64)]
abbrev rs86 : List Ty := [(.int .i64)]

def t86 (x0 : Bool) (x1 : Int) : Tr (Tys.data rs86) :=
  Tr.test (x0)
    (Tr.fin ((x1, ())))
    (Tr.fin (((0 : Int), ())))

def f86 (d : Tys.data as86) : Option (Tys.data rs86) := (t86 d.1 d.2.1).val
def g86 (d : Tys.data as86) : Tys.data rs86 := (f86 d).getD (Tys.dflt rs86)
def p86 : PureC := pcOf as86 rs86 f86 g86

theorem e86_0 (x0 : Bool) (x1 : Int) : runPure kf18.orc Go.Proofs.Try.prog 400 86 as86 rs86 (x0, x1, ()) [true] =
    (some ((x1, ()), [(x0, true)])) := by kernel_rfl
theorem e86_1 (x0 : Bool) (x1 : Int) : runPure kf18.orc Go.Proofs.Try.prog 400 86 as86 rs86 (x0, x1, ()) [false] =
    (some (((0 : Int), ()), [(x0, false)])) := by kernel_rfl

theorem ok86_t (x0 : Bool) (x1 : Int) : TrOk (PureRuns Go.Proofs.Try.prog kf18.orc 86 as86 rs86 (x0, x1, ())) (t86 x0 x1) :=
  TrOk.ofTest (fun h0 => TrOk.ofFin (PureRuns.of (e86_0 x0 x1) (All.cons h0 (All.nil)))) (fun h0 => TrOk.ofFin (PureRuns.of (e86_1 x0 x1) (All.cons h0 (All.nil))))

theorem ok86 : PureOk Go.Proofs.Try.prog 86 p86 := pureOk_of kf18_ok.base (T := fun (d : Tys.data as86) => t86 d.1 d.2.1) (by kernel_rfl) (fun (d : Tys.data as86) => ok86_t d.1 d.2.1)
def kf86 : Known := kf18.func 86 p86
theorem kf86_ok : KnownOk Go.Proofs.Try.prog kf86 := kf18_ok.func ok86

/-! loop 0 of ductility/motion.firstOf -/

abbrev sh85_0 : Sh := { n := 15, slots := [5, 6, 7], pats := [.ty (.slice (.int .i64)), .ty (.int .i64), .ty (.int .i64)], boxes := [] }
abbrev shb85_0 : Sh := { n := 15, slots := [], pats := [], boxes := [] }
abbrev shr85_0 : Sh := { n := 15, slots := [2], pats := [.ty (.int .i64)], boxes := [] }

def t85_0 (x0 : (List Int)) (x1 : Int) (x2 : Int) : Tr (Out sh85_0.data shb85_0.data shr85_0.data) :=
  Tr.test ((!leF x1 x2 : Bool))
    (Tr.test ((decide ((0 : Int) ≤ x2) && decide (x2 < (↑(List.length x0) : Int)) : Bool))
      (Tr.test ((!eqF (List.getD x0 (Int.toNat x2) (0 : Int)) (0 : Int) : Bool))
        (Tr.fin (.ret (((List.getD x0 (Int.toNat x2) (0 : Int) : Int), ()), ())))
        (Tr.fin (.again ((x0, (x1, ((wrap64 (x2 + (1 : Int)) : Int), ()))), ()))))
      (Tr.stop /- none [op 0 of region 3 of F85] -/))
    (Tr.fin (.brk ((), ())))

def s85_0 (d : sh85_0.data) : Option (Out sh85_0.data shb85_0.data shr85_0.data) := (t85_0 d.1.1 d.1.2.1 d.1.2.2.1).val
def l85_0 (d : sh85_0.data) : Option (shb85_0.data ⊕ shr85_0.data) := itr s85_0 rounds d
def b85_0 (d : sh85_0.data) : shb85_0.data := outB shb85_0.dflt (l85_0 d)
def r85_0 (d : sh85_0.data) : shr85_0.data := outR shr85_0.dflt (l85_0 d)
def lc85_0 : LoopC := lcOf sh85_0 shb85_0 shr85_0 l85_0 b85_0 r85_0

theorem e85_0_0 (x0 : (List Int)) (x1 : Int) (x2 : Int) : runBody kf86.orc Go.Proofs.Try.prog 400 85 0 sh85_0 shb85_0 shr85_0 ((x0, x1, x2, ()), ()) [true, true, true] =
    (some (.ret (((List.getD x0 (Int.toNat x2) (0 : Int) : Int), ()), ()), [((!eqF (List.getD x0 (Int.toNat x2) (0 : Int)) (0 : Int) : Bool), true), ((decide ((0 : Int) ≤ x2) && decide (x2 < (↑(List.length x0) : Int)) : Bool), true), ((!leF x1 x2 : Bool), true)])) := by kernel_rfl
theorem e85_0_1 (x0 : (List Int)) (x1 : Int) (x2 : Int) : runBody kf86.orc Go.Proofs.Try.prog 400 85 0 sh85_0 shb85_0 shr85_0 ((x0, x1, x2, ()), ()) [true, true, false] =
    (some (.again ((x0, (x1, ((wrap64 (x2 + (1 : Int)) : Int), ()))), ()), [((!eqF (List.getD x0 (Int.toNat x2) (0 : Int)) (0 : Int) : Bool), false), ((decide ((0 : Int) ≤ x2) && decide (x2 < (↑(List.length x0) : Int)) : Bool), true), ((!leF x1 x2 : Bool), true)])) := by kernel_rfl
theorem e85_0_3 (x0 : (List Int)) (x1 : Int) (x2 : Int) : runBody kf86.orc Go.Proofs.Try.prog 400 85 0 sh85_0 shb85_0 shr85_0 ((x0, x1, x2, ()), ()) [false] =
    (some (.brk ((), ()), [((!leF x1 x2 : Bool), false)])) := by kernel_rfl

theorem ok85_0_t (x0 : (List Int)) (x1 : Int) (x2 : Int) : TrOk (BodyRuns Go.Proofs.Try.prog kf86.orc 85 0 sh85_0 shb85_0 shr85_0 ((x0, x1, x2, ()), ())) (t85_0 x0 x1 x2) :=
  TrOk.ofTest (fun h0 => TrOk.ofTest (fun h1 => TrOk.ofTest (fun h2 => TrOk.ofFin (BodyRuns.of (e85_0_0 x0 x1 x2) (All.cons h2 (All.cons h1 (All.cons h0 (All.nil)))))) (fun h2 => TrOk.ofFin (BodyRuns.of (e85_0_1 x0 x1 x2) (All.cons h2 (All.cons h1 (All.cons h0 (All.nil))))))) (fun h1 => TrOk.ofStop)) (fun h0 => TrOk.ofFin (BodyRuns.of (e85_0_3 x0 x1 x2) (All.cons h0 (All.nil))))

theorem ok85_0 : LoopOk Go.Proofs.Try.prog 85 0 lc85_0 := loopOk_of kf86_ok.base (T := fun (d : sh85_0.data) => t85_0 d.1.1 d.1.2.1 d.1.2.2.1) (by kernel_rfl) rfl (fun (d : sh85_0.data) => ok85_0_t d.1.1 d.1.2.1 d.1.2.2.1) (fun _ => rfl)
def kl85_0 : Known := kf86.loop 85 0 lc85_0
theorem kl85_0_ok : KnownOk Go.Proofs.Try.prog kl85_0 := kf86_ok.loop ok85_0

/-! ductility/motion.firstOf -/

abbrev as85 : List Ty := [(.slice (.int .i64))]
abbrev rs85 : List Ty := [(.int .i64)]

def t85 (x0 : (List Int)) : Tr (Tys.data rs85) :=
  Tr.test (Option.isSome (l85_0 ((x0, ((↑(List.length x0) : Int), ((0 : Int), ()))), ())))
    (Tr.test (isRet (l85_0 ((x0, ((↑(List.length x0) : Int), ((0 : Int), ()))), ())))
      (let r0 : (Int × PUnit) × PUnit := r85_0 ((x0, ((↑(List.length x0) : Int), ((0 : Int), ()))), ());
      Tr.fin (((r0.fst.fst : Int), ())))
      (Tr.fin (((0 : Int), ()))))
    (Tr.stop)

def f85 (d : Tys.data as85) : Option (Tys.data rs85) := (t85 d.1).val
def g85 (d : Tys.data as85) : Tys.data rs85 := (f85 d).getD (Tys.dflt rs85)
def p85 : PureC := pcOf as85 rs85 f85 g85

theorem e85_0 (x0 : (List Int)) : runPure kl85_0.orc Go.Proofs.Try.prog 400 85 as85 rs85 (x0, ()) [true, true] =
    (let r0 : (Int × PUnit) × PUnit := r85_0 ((x0, ((↑(List.length x0) : Int), ((0 : Int), ()))), ()); some (((r0.fst.fst : Int), ()), [(isRet (l85_0 ((x0, ((↑(List.length x0) : Int), ((0 : Int), ()))), ())), true), (Option.isSome (l85_0 ((x0, ((↑(List.length x0) : Int), ((0 : Int), ()))), ())), true)])) := by kernel_rfl
theorem e85_1 (x0 : (List Int)) : runPure kl85_0.orc Go.Proofs.Try.prog 400 85 as85 rs85 (x0, ()) [true, false] =
    (some (((0 : Int), ()), [(isRet (l85_0 ((x0, ((↑(List.length x0) : Int), ((0 : Int), ()))), ())), false), (Option.isSome (l85_0 ((x0, ((↑(List.length x0) : Int), ((0 : Int), ()))), ())), true)])) := by kernel_rfl

theorem ok85_t (x0 : (List Int)) : TrOk (PureRuns Go.Proofs.Try.prog kl85_0.orc 85 as85 rs85 (x0, ())) (t85 x0) :=
  TrOk.ofTest (fun h0 => TrOk.ofTest (fun h1 => TrOk.ofFin (PureRuns.of (e85_0 x0) (All.cons h1 (All.cons h0 (All.nil))))) (fun h1 => TrOk.ofFin (PureRuns.of (e85_1 x0) (All.cons h1 (All.cons h0 (All.nil)))))) (fun h0 => TrOk.ofStop)

theorem ok85 : PureOk Go.Proofs.Try.prog 85 p85 := pureOk_of kl85_0_ok.base (T := fun (d : Tys.data as85) => t85 d.1) (by kernel_rfl) (fun (d : Tys.data as85) => ok85_t d.1)
def kf85 : Known := kl85_0.func 85 p85
theorem kf85_ok : KnownOk Go.Proofs.Try.prog kf85 := kl85_0_ok.func ok85

/-! loop 0 of ductility/motion.areWithin -/

abbrev sh94_0 : Sh := { n := 24, slots := [0, 1, 9, 10, 11], pats := [.ty (.int .i64), .ty (.int .i64), .ty (.slice (.int .i64)), .ty (.int .i64), .ty (.int .i64)], boxes := [] }
abbrev shb94_0 : Sh := { n := 24, slots := [], pats := [], boxes := [] }
abbrev shr94_0 : Sh := { n := 24, slots := [6], pats := [.ty .bool], boxes := [] }

def t94_0 (x0 : Int) (x1 : Int) (x2 : (List Int)) (x3 : Int) (x4 : Int) : Tr (Out sh94_0.data shb94_0.data shr94_0.data) :=
  Tr.test ((!leF x3 x4 : Bool))
    (Tr.test ((decide ((0 : Int) ≤ x4) && decide (x4 < (↑(List.length x2) : Int)) : Bool))
      (Tr.test ((!leF x0 (List.getD x2 (Int.toNat x4) (0 : Int)) : Bool))
        (Tr.fin (.ret (((false : Bool), ()), ())))
        (Tr.test ((!leF (List.getD x2 (Int.toNat x4) (0 : Int)) x1 : Bool))
          (Tr.fin (.ret (((false : Bool), ()), ())))
          (Tr.fin (.again ((x0, (x1, (x2, (x3, ((wrap64 (x4 + (1 : Int)) : Int), ()))))), ())))))
      (Tr.stop /- none [op 0 of region 3 of F94] -/))
    (Tr.fin (.brk ((), ())))

def s94_0 (d : sh94_0.data) : Option (Out sh94_0.data shb94_0.data shr94_0.data) := (t94_0 d.1.1 d.1.2.1 d.1.2.2.1 d.1.2.2.2.1 d.1.2.2.2.2.1).val
def l94_0 (d : sh94_0.data) : Option (shb94_0.data ⊕ shr94_0.data) := itr s94_0 rounds d
def b94_0 (d : sh94_0.data) : shb94_0.data := outB shb94_0.dflt (l94_0 d)
def r94_0 (d : sh94_0.data) : shr94_0.data := outR shr94_0.dflt (l94_0 d)
def lc94_0 : LoopC := lcOf sh94_0 shb94_0 shr94_0 l94_0 b94_0 r94_0

theorem e94_0_0 (x0 : Int) (x1 : Int) (x2 : (List Int)) (x3 : Int) (x4 : Int) : runBody kf85.orc Go.Proofs.Try.prog 400 94 0 sh94_0 shb94_0 shr94_0 ((x0, x1, x2, x3, x4, ()), ()) [true, true, true, true, true, true, true] =
    (some (.ret (((false : Bool), ()), ()), [((true : Bool), true), ((!leF x0 (List.getD x2 (Int.toNat x4) (0 : Int)) : Bool), true), ((!leF x0 (List.getD x2 (Int.toNat x4) (0 : Int)) : Bool), true), ((!leF x0 (List.getD x2 (Int.toNat x4) (0 : Int)) : Bool), true), ((!leF x0 (List.getD x2 (Int.toNat x4) (0 : Int)) : Bool), true), ((decide ((0 : Int) ≤ x4) && decide (x4 < (↑(List.length x2) : Int)) : Bool), true), ((!leF x3 x4 : Bool), true)])) := by kernel_rfl
theorem e94_0_1 (x0 : Int) (x1 : Int) (x2 : (List Int)) (x3 : Int) (x4 : Int) : runBody kf85.orc Go.Proofs.Try.prog 400 94 0 sh94_0 shb94_0 shr94_0 ((x0, x1, x2, x3, x4, ()), ()) [true, true, false, false, false, false, true] =
    (some (.ret (((false : Bool), ()), ()), [((!leF (List.getD x2 (Int.toNat x4) (0 : Int)) x1 : Bool), true), ((!leF x0 (List.getD x2 (Int.toNat x4) (0 : Int)) : Bool), false), ((!leF x0 (List.getD x2 (Int.toNat x4) (0 : Int)) : Bool), false), ((!leF x0 (List.getD x2 (Int.toNat x4) (0 : Int)) : Bool), false), ((!leF x0 (List.getD x2 (Int.toNat x4) (0 : Int)) : Bool), false), ((decide ((0 : Int) ≤ x4) && decide (x4 < (↑(List.length x2) : Int)) : Bool), true), ((!leF x3 x4 : Bool), true)])) := by kernel_rfl
theorem e94_0_2 (x0 : Int) (x1 : Int) (x2 : (List Int)) (x3 : Int) (x4 : Int) : runBody kf85.orc Go.Proofs.Try.prog 400 94 0 sh94_0 shb94_0 shr94_0 ((x0, x1, x2, x3, x4, ()), ()) [true, true, false, false, false, false, false] =
    (some (.again ((x0, (x1, (x2, (x3, ((wrap64 (x4 + (1 : Int)) : Int), ()))))), ()), [((!leF (List.getD x2 (Int.toNat x4) (0 : Int)) x1 : Bool), false), ((!leF x0 (List.getD x2 (Int.toNat x4) (0 : Int)) : Bool), false), ((!leF x0 (List.getD x2 (Int.toNat x4) (0 : Int)) : Bool), false), ((!leF x0 (List.getD x2 (Int.toNat x4) (0 : Int)) : Bool), false), ((!leF x0 (List.getD x2 (Int.toNat x4) (0 : Int)) : Bool), false), ((decide ((0 : Int) ≤ x4) && decide (x4 < (↑(List.length x2) : Int)) : Bool), true), ((!leF x3 x4 : Bool), true)])) := by kernel_rfl
theorem e94_0_4 (x0 : Int) (x1 : Int) (x2 : (List Int)) (x3 : Int) (x4 : Int) : runBody kf85.orc Go.Proofs.Try.prog 400 94 0 sh94_0 shb94_0 shr94_0 ((x0, x1, x2, x3, x4, ()), ()) [false] =
    (some (.brk ((), ()), [((!leF x3 x4 : Bool), false)])) := by kernel_rfl

theorem ok94_0_t (x0 : Int) (x1 : Int) (x2 : (List Int)) (x3 : Int) (x4 : Int) : TrOk (BodyRuns Go.Proofs.Try.prog kf85.orc 94 0 sh94_0 shb94_0 shr94_0 ((x0, x1, x2, x3, x4, ()), ())) (t94_0 x0 x1 x2 x3 x4) :=
  TrOk.ofTest (fun h0 => TrOk.ofTest (fun h1 => TrOk.ofTest (fun h2 => TrOk.ofFin (BodyRuns.of (e94_0_0 x0 x1 x2 x3 x4) (All.cons rfl (All.cons (not_of (of_not (h2))) (All.cons (not_of (of_not (h2))) (All.cons (not_of (of_not (h2))) (All.cons h2 (All.cons h1 (All.cons h0 (All.nil)))))))))) (fun h2 => TrOk.ofTest (fun h6 => TrOk.ofFin (BodyRuns.of (e94_0_1 x0 x1 x2 x3 x4) (All.cons h6 (All.cons (not_of (of_not (h2))) (All.cons (not_of (of_not (h2))) (All.cons (not_of (of_not (h2))) (All.cons h2 (All.cons h1 (All.cons h0 (All.nil)))))))))) (fun h6 => TrOk.ofFin (BodyRuns.of (e94_0_2 x0 x1 x2 x3 x4) (All.cons h6 (All.cons (not_of (of_not (h2))) (All.cons (not_of (of_not (h2))) (All.cons (not_of (of_not (h2))) (All.cons h2 (All.cons h1 (All.cons h0 (All.nil)))))))))))) (fun h1 => TrOk.ofStop)) (fun h0 => TrOk.ofFin (BodyRuns.of (e94_0_4 x0 x1 x2 x3 x4) (All.cons h0 (All.nil))))

theorem ok94_0 : LoopOk Go.Proofs.Try.prog 94 0 lc94_0 := loopOk_of kf85_ok.base (T := fun (d : sh94_0.data) => t94_0 d.1.1 d.1.2.1 d.1.2.2.1 d.1.2.2.2.1 d.1.2.2.2.2.1) (by kernel_rfl) rfl (fun (d : sh94_0.data) => ok94_0_t d.1.1 d.1.2.1 d.1.2.2.1 d.1.2.2.2.1 d.1.2.2.2.2.1) (fun _ => rfl)
def kl94_0 : Known := kf85.loop 94 0 lc94_0
theorem kl94_0_ok : KnownOk Go.Proofs.Try.prog kl94_0 := kf85_ok.loop ok94_0

/-! ductility/motion.areWithin -/

abbrev as94 : List Ty := [(.int .i64), (.int .i64), (.slice (.int .i64))]
abbrev rs94 : List Ty := [.bool]

def t94 (x0 : Int) (x1 : Int) (x2 : (List Int)) : Tr (Tys.data rs94) :=
  Tr.test (Option.isSome (l94_0 ((x0, (x1, (x2, ((↑(List.length x2) : Int), ((0 : Int), ()))))), ())))
    (Tr.test (isRet (l94_0 ((x0, (x1, (x2, ((↑(List.length x2) : Int), ((0 : Int), ()))))), ())))
      (let r0 : (Bool × PUnit) × PUnit := r94_0 ((x0, (x1, (x2, ((↑(List.length x2) : Int), ((0 : Int), ()))))), ());
      Tr.fin (((r0.fst.fst : Bool), ())))
      (Tr.fin (((true : Bool), ()))))
    (Tr.stop)

def f94 (d : Tys.data as94) : Option (Tys.data rs94) := (t94 d.1 d.2.1 d.2.2.1).val
def g94 (d : Tys.data as94) : Tys.data rs94 := (f94 d).getD (Tys.dflt rs94)
def p94 : PureC := pcOf as94 rs94 f94 g94

theorem e94_0 (x0 : Int) (x1 : Int) (x2 : (List Int)) : runPure kl94_0.orc Go.Proofs.Try.prog 400 94 as94 rs94 (x0, x1, x2, ()) [true, true] =
    (let r0 : (Bool × PUnit) × PUnit := r94_0 ((x0, (x1, (x2, ((↑(List.length x2) : Int), ((0 : Int), ()))))), ()); some (((r0.fst.fst : Bool), ()), [(isRet (l94_0 ((x0, (x1, (x2, ((↑(List.length x2) : Int), ((0 : Int), ()))))), ())), true), (Option.isSome (l94_0 ((x0, (x1, (x2, ((↑(List.length x2) : Int), ((0 : Int), ()))))), ())), true)])) := by kernel_rfl
theorem e94_1 (x0 : Int) (x1 : Int) (x2 : (List Int)) : runPure kl94_0.orc Go.Proofs.Try.prog 400 94 as94 rs94 (x0, x1, x2, ()) [true, false] =
    (some (((true : Bool), ()), [(isRet (l94_0 ((x0, (x1, (x2, ((↑(List.length x2) : Int), ((0 : Int), ()))))), ())), false), (Option.isSome (l94_0 ((x0, (x1, (x2, ((↑(List.length x2) : Int), ((0 : Int), ()))))), ())), true)])) := by kernel_rfl

theorem ok94_t (x0 : Int) (x1 : Int) (x2 : (List Int)) : TrOk (PureRuns Go.Proofs.Try.prog kl94_0.orc 94 as94 rs94 (x0, x1, x2, ())) (t94 x0 x1 x2) :=
  TrOk.ofTest (fun h0 => TrOk.ofTest (fun h1 => TrOk.ofFin (PureRuns.of (e94_0 x0 x1 x2) (All.cons h1 (All.cons h0 (All.nil))))) (fun h1 => TrOk.ofFin (PureRuns.of (e94_1 x0 x1 x2) (All.cons h1 (All.cons h0 (All.nil)))))) (fun h0 => TrOk.ofStop)

theorem ok94 : PureOk Go.Proofs.Try.prog 94 p94 := pureOk_of kl94_0_ok.base (T := fun (d : Tys.data as94) => t94 d.1 d.2.1 d.2.2.1) (by kernel_rfl) (fun (d : Tys.data as94) => ok94_t d.1 d.2.1 d.2.2.1)
def kf94 : Known := kl94_0.func 94 p94
theorem kf94_ok : KnownOk Go.Proofs.Try.prog kf94 := kl94_0_ok.func ok94

/-! ductility/motion.isBeyond -/

abbrev as141 : List Ty := [(.int .i64), (.slice (.int .i64))]
abbrev rs141 : List Ty := [.bool]

def t141 (x0 : Int) (x1 : (List Int)) : Tr (Tys.data rs141) :=
  Tr.test (Option.isSome (f94 ((Go.IntKind.wrap Go.IntKind.i64 ((0 : Int) - x0) : Int), (x0, (x1, ())))))
    (let r0 : Bool × PUnit := g94 ((Go.IntKind.wrap Go.IntKind.i64 ((0 : Int) - x0) : Int), (x0, (x1, ())));
    Tr.fin (((!r0.fst : Bool), ())))
    (Tr.stop)

def f141 (d : Tys.data as141) : Option (Tys.data rs141) := (t141 d.1 d.2.1).val
def g141 (d : Tys.data as141) : Tys.data rs141 := (f141 d).getD (Tys.dflt rs141)
def p141 : PureC := pcOf as141 rs141 f141 g141

theorem e141_0 (x0 : Int) (x1 : (List Int)) : runPure kf94.orc Go.Proofs.Try.prog 400 141 as141 rs141 (x0, x1, ()) [true] =
    (let r0 : Bool × PUnit := g94 ((Go.IntKind.wrap Go.IntKind.i64 ((0 : Int) - x0) : Int), (x0, (x1, ()))); some (((!r0.fst : Bool), ()), [(Option.isSome (f94 ((Go.IntKind.wrap Go.IntKind.i64 ((0 : Int) - x0) : Int), (x0, (x1, ())))), true)])) := by kernel_rfl

theorem ok141_t (x0 : Int) (x1 : (List Int)) : TrOk (PureRuns Go.Proofs.Try.prog kf94.orc 141 as141 rs141 (x0, x1, ())) (t141 x0 x1) :=
  TrOk.ofTest (fun h0 => TrOk.ofFin (PureRuns.of (e141_0 x0 x1) (All.cons h0 (All.nil)))) (fun h0 => TrOk.ofStop)

theorem ok141 : PureOk Go.Proofs.Try.prog 141 p141 := pureOk_of kf94_ok.base (T := fun (d : Tys.data as141) => t141 d.1 d.2.1) (by kernel_rfl) (fun (d : Tys.data as141) => ok141_t d.1 d.2.1)
def kf141 : Known := kf94.func 141 p141
theorem kf141_ok : KnownOk Go.Proofs.Try.prog kf141 := kf94_ok.func ok141

/-! ductility/motion.checkSamples$1 -/

abbrev as140 : List Ty := [(.int .i64), (.int .i64)]
abbrev rs140 : List Ty := [(.int .i64)]

def t140 (x0 : Int) (x1 : Int) : Tr (Tys.data rs140) :=
  Tr.test (Option.isSome (f141 ((1000 : Int), (([x1] : List Int), ()))))
    (let r0 : Bool × PUnit := g141 ((1000 : Int), (([x1] : List Int), ()));
    Tr.test (Option.isSome (f86 ((r0.fst : Bool), ((2 : Int), ()))))
      (let r1 : Int × PUnit := g86 ((r0.fst : Bool), ((2 : Int), ()));
      Tr.fin (((r1.fst : Int), ())))
      (Tr.stop))
    (Tr.stop)

def f140 (d : Tys.data as140) : Option (Tys.data rs140) := (t140 d.1 d.2.1).val
def g140 (d : Tys.data as140) : Tys.data rs140 := (f140 d).getD (Tys.dflt rs140)
def p140 : PureC := pcOf as140 rs140 f140 g140

theorem e140_0 (x0 : Int) (x1 : Int) : runPure kf141.orc Go.Proofs.Try.prog 400 140 as140 rs140 (x0, x1, ()) [true, true, true] =
    (let r0 : Bool × PUnit := g141 ((1000 : Int), (([x1] : List Int), ())); let r1 : Int × PUnit := g86 ((r0.fst : Bool), ((2 : Int), ())); some (((r1.fst : Int), ()), [(Option.isSome (f86 ((r0.fst : Bool), ((2 : Int), ()))), true), (Option.isSome (f141 ((1000 : Int), (([x1] : List Int), ()))), true), ((true : Bool), true)])) := by kernel_rfl

theorem ok140_t (x0 : Int) (x1 : Int) : TrOk (PureRuns Go.Proofs.Try.prog kf141.orc 140 as140 rs140 (x0, x1, ())) (t140 x0 x1) :=
  TrOk.ofTest (fun h1 => TrOk.ofTest (fun h2 => TrOk.ofFin (PureRuns.of (e140_0 x0 x1) (All.cons h2 (All.cons h1 (All.cons rfl (All.nil)))))) (fun h2 => TrOk.ofStop)) (fun h1 => TrOk.ofStop)

theorem ok140 : PureOk Go.Proofs.Try.prog 140 p140 := pureOk_of kf141_ok.base (T := fun (d : Tys.data as140) => t140 d.1 d.2.1) (by kernel_rfl) (fun (d : Tys.data as140) => ok140_t d.1 d.2.1)
def kf140 : Known := kf141.func 140 p140
theorem kf140_ok : KnownOk Go.Proofs.Try.prog kf140 := kf141_ok.func ok140

/-! loop 0 of ductility/motion.checkItems[int] -/

abbrev sh106_0 : Sh := { n := 25, slots := [1, 9, 10, 11], pats := [.fn 140 [], .ty (.slice (.int .i64)), .ty (.int .i64), .ty (.int .i64)], boxes := [] }
abbrev shb106_0 : Sh := { n := 25, slots := [], pats := [], boxes := [] }
abbrev shr106_0 : Sh := { n := 25, slots := [4, 5], pats := [.ty (.int .i64), .ty (.int .i64)], boxes := [] }

def t106_0 (x1 : (List Int)) (x2 : Int) (x3 : Int) : Tr (Out sh106_0.data shb106_0.data shr106_0.data) :=
  Tr.test ((!leF x2 x3 : Bool))
    (Tr.test ((decide ((0 : Int) ≤ x3) && decide (x3 < (↑(List.length x1) : Int)) : Bool))
      (Tr.test (Option.isSome (f140 (x3, ((List.getD x1 (Int.toNat x3) (0 : Int) : Int), ()))))
        (let r0 : Int × PUnit := g140 (x3, ((List.getD x1 (Int.toNat x3) (0 : Int) : Int), ()));
        Tr.test ((!eqF r0.fst (0 : Int) : Bool))
          (Tr.fin (.ret ((x3, ((r0.fst : Int), ())), ())))
          (Tr.fin (.again ((x1, (x2, ((wrap64 (x3 + (1 : Int)) : Int), ()))), ()))))
        (Tr.stop))
      (Tr.stop /- none [op 1 of region 3 of F106] -/))
    (Tr.fin (.brk ((), ())))

def s106_0 (d : sh106_0.data) : Option (Out sh106_0.data shb106_0.data shr106_0.data) := (t106_0 d.1.1 d.1.2.1 d.1.2.2.1).val
def l106_0 (d : sh106_0.data) : Option (shb106_0.data ⊕ shr106_0.data) := itr s106_0 rounds d
def b106_0 (d : sh106_0.data) : shb106_0.data := outB shb106_0.dflt (l106_0 d)
def r106_0 (d : sh106_0.data) : shr106_0.data := outR shr106_0.dflt (l106_0 d)
def lc106_0 : LoopC := lcOf sh106_0 shb106_0 shr106_0 l106_0 b106_0 r106_0

theorem e106_0_0 (x1 : (List Int)) (x2 : Int) (x3 : Int) : runBody kf140.orc Go.Proofs.Try.prog 400 106 0 sh106_0 shb106_0 shr106_0 ((x1, x2, x3, ()), ()) [true, true, true, true] =
    (let r0 : Int × PUnit := g140 (x3, ((List.getD x1 (Int.toNat x3) (0 : Int) : Int), ())); some (.ret ((x3, ((r0.fst : Int), ())), ()), [((!eqF r0.fst (0 : Int) : Bool), true), (Option.isSome (f140 (x3, ((List.getD x1 (Int.toNat x3) (0 : Int) : Int), ()))), true), ((decide ((0 : Int) ≤ x3) && decide (x3 < (↑(List.length x1) : Int)) : Bool), true), ((!leF x2 x3 : Bool), true)])) := by kernel_rfl
theorem e106_0_1 (x1 : (List Int)) (x2 : Int) (x3 : Int) : runBody kf140.orc Go.Proofs.Try.prog 400 106 0 sh106_0 shb106_0 shr106_0 ((x1, x2, x3, ()), ()) [true, true, true, false] =
    (let r0 : Int × PUnit := g140 (x3, ((List.getD x1 (Int.toNat x3) (0 : Int) : Int), ())); some (.again ((x1, (x2, ((wrap64 (x3 + (1 : Int)) : Int), ()))), ()), [((!eqF r0.fst (0 : Int) : Bool), false), (Option.isSome (f140 (x3, ((List.getD x1 (Int.toNat x3) (0 : Int) : Int), ()))), true), ((decide ((0 : Int) ≤ x3) && decide (x3 < (↑(List.length x1) : Int)) : Bool), true), ((!leF x2 x3 : Bool), true)])) := by kernel_rfl
theorem e106_0_3 (x1 : (List Int)) (x2 : Int) (x3 : Int) : runBody kf140.orc Go.Proofs.Try.prog 400 106 0 sh106_0 shb106_0 shr106_0 ((x1, x2, x3, ()), ()) [false] =
    (some (.brk ((), ()), [((!leF x2 x3 : Bool), false)])) := by kernel_rfl

theorem ok106_0_t (x1 : (List Int)) (x2 : Int) (x3 : Int) : TrOk (BodyRuns Go.Proofs.Try.prog kf140.orc 106 0 sh106_0 shb106_0 shr106_0 ((x1, x2, x3, ()), ())) (t106_0 x1 x2 x3) :=
  TrOk.ofTest (fun h0 => TrOk.ofTest (fun h1 => TrOk.ofTest (fun h2 => TrOk.ofTest (fun h3 => TrOk.ofFin (BodyRuns.of (e106_0_0 x1 x2 x3) (All.cons h3 (All.cons h2 (All.cons h1 (All.cons h0 (All.nil))))))) (fun h3 => TrOk.ofFin (BodyRuns.of (e106_0_1 x1 x2 x3) (All.cons h3 (All.cons h2 (All.cons h1 (All.cons h0 (All.nil)))))))) (fun h2 => TrOk.ofStop)) (fun h1 => TrOk.ofStop)) (fun h0 => TrOk.ofFin (BodyRuns.of (e106_0_3 x1 x2 x3) (All.cons h0 (All.nil))))

theorem ok106_0 : LoopOk Go.Proofs.Try.prog 106 0 lc106_0 := loopOk_of kf140_ok.base (T := fun (d : sh106_0.data) => t106_0 d.1.1 d.1.2.1 d.1.2.2.1) (by kernel_rfl) rfl (fun (d : sh106_0.data) => ok106_0_t d.1.1 d.1.2.1 d.1.2.2.1) (fun _ => rfl)
def kl106_0 : Known := kf140.loop 106 0 lc106_0
theorem kl106_0_ok : KnownOk Go.Proofs.Try.prog kl106_0 := kf140_ok.loop ok106_0

/-! ductility/motion.checkSamples -/

abbrev as87 : List Ty := [(.slice (.int .i64))]
abbrev rs87 : List Ty := [(.int .i64), (.int .i64)]

def t87 (x0 : (List Int)) : Tr (Tys.data rs87) :=
  Tr.test (Option.isSome (l106_0 ((x0, ((↑(List.length x0) : Int), ((0 : Int), ()))), ())))
    (Tr.test (isRet (l106_0 ((x0, ((↑(List.length x0) : Int), ((0 : Int), ()))), ())))
      (let r0 : (Int × Int × PUnit) × PUnit := r106_0 ((x0, ((↑(List.length x0) : Int), ((0 : Int), ()))), ());
      Tr.fin (((r0.fst.fst : Int), ((r0.fst.snd.fst : Int), ()))))
      (Tr.fin (((0 : Int), ((0 : Int), ())))))
    (Tr.stop)

def f87 (d : Tys.data as87) : Option (Tys.data rs87) := (t87 d.1).val
def g87 (d : Tys.data as87) : Tys.data rs87 := (f87 d).getD (Tys.dflt rs87)
def p87 : PureC := pcOf as87 rs87 f87 g87

theorem e87_0 (x0 : (List Int)) : runPure kl106_0.orc Go.Proofs.Try.prog 400 87 as87 rs87 (x0, ()) [true, true] =
    (let r0 : (Int × Int × PUnit) × PUnit := r106_0 ((x0, ((↑(List.length x0) : Int), ((0 : Int), ()))), ()); some (((r0.fst.fst : Int), ((r0.fst.snd.fst : Int), ())), [(isRet (l106_0 ((x0, ((↑(List.length x0) : Int), ((0 : Int), ()))), ())), true), (Option.isSome (l106_0 ((x0, ((↑(List.length x0) : Int), ((0 : Int), ()))), ())), true)])) := by kernel_rfl
theorem e87_1 (x0 : (List Int)) : runPure kl106_0.orc Go.Proofs.Try.prog 400 87 as87 rs87 (x0, ()) [true, false] =
    (some (((0 : Int), ((0 : Int), ())), [(isRet (l106_0 ((x0, ((↑(List.length x0) : Int), ((0 : Int), ()))), ())), false), (Option.isSome (l106_0 ((x0, ((↑(List.length x0) : Int), ((0 : Int), ()))), ())), true)])) := by kernel_rfl

theorem ok87_t (x0 : (List Int)) : TrOk (PureRuns Go.Proofs.Try.prog kl106_0.orc 87 as87 rs87 (x0, ())) (t87 x0) :=
  TrOk.ofTest (fun h0 => TrOk.ofTest (fun h1 => TrOk.ofFin (PureRuns.of (e87_0 x0) (All.cons h1 (All.cons h0 (All.nil))))) (fun h1 => TrOk.ofFin (PureRuns.of (e87_1 x0) (All.cons h1 (All.cons h0 (All.nil)))))) (fun h0 => TrOk.ofStop)

theorem ok87 : PureOk Go.Proofs.Try.prog 87 p87 := pureOk_of kl106_0_ok.base (T := fun (d : Tys.data as87) => t87 d.1) (by kernel_rfl) (fun (d : Tys.data as87) => ok87_t d.1)
def kf87 : Known := kl106_0.func 87 p87
theorem kf87_ok : KnownOk Go.Proofs.Try.prog kf87 := kl106_0_ok.func ok87

/-! ductility/motion.CheckRecord -/

abbrev as17 : List Ty := [(.pair (.int .i64) (.pair (.slice (.int .i64)) .unit))]
abbrev rs17 : List Ty := [(.int .i64), (.int .i64)]

def t17 (x0 : Int) (x0' : (List Int)) : Tr (Tys.data rs17) :=
  Tr.test ((!leF (1 : Int) x0 : Bool))
    (Tr.test (Option.isSome (f86 ((true : Bool), ((2 : Int), ()))))
      (Tr.test (Option.isSome (f86 ((!leF (2 : Int) (↑(List.length x0') : Int) : Bool), ((10 : Int), ()))))
        (Tr.test (Option.isSome (f86 ((!leF (↑(List.length x0') : Int) (24 : Int) : Bool), ((8 : Int), ()))))
          (let r0 : Int × PUnit := g86 ((true : Bool), ((2 : Int), ()));
          let r2 : Int × PUnit := g86 ((!leF (2 : Int) (↑(List.length x0') : Int) : Bool), ((10 : Int), ()));
          let r3 : Int × PUnit := g86 ((!leF (↑(List.length x0') : Int) (24 : Int) : Bool), ((8 : Int), ()));
          Tr.test (Option.isSome (f85 (([r0.fst, r2.fst, r3.fst] : List Int), ())))
            (let r4 : Int × PUnit := g85 (([r0.fst, r2.fst, r3.fst] : List Int), ());
            Tr.test ((!eqF r4.fst (0 : Int) : Bool))
              (Tr.fin (((0 : Int), ((r4.fst : Int), ()))))
              (Tr.test (Option.isSome (f87 (x0', ())))
                (let r6 : Int × Int × PUnit := g87 (x0', ());
                Tr.fin (((r6.fst : Int), ((r6.snd.fst : Int), ()))))
                (Tr.stop)))
            (Tr.stop))
          (Tr.stop))
        (Tr.stop))
      (Tr.stop))
    (Tr.test (Option.isSome (f86 ((!leF x0 (1000000 : Int) : Bool), ((2 : Int), ()))))
      (Tr.test (Option.isSome (f86 ((!leF (2 : Int) (↑(List.length x0') : Int) : Bool), ((10 : Int), ()))))
        (Tr.test (Option.isSome (f86 ((!leF (↑(List.length x0') : Int) (24 : Int) : Bool), ((8 : Int), ()))))
          (let r1 : Int × PUnit := g86 ((!leF x0 (1000000 : Int) : Bool), ((2 : Int), ()));
          let r2 : Int × PUnit := g86 ((!leF (2 : Int) (↑(List.length x0') : Int) : Bool), ((10 : Int), ()));
          let r3 : Int × PUnit := g86 ((!leF (↑(List.length x0') : Int) (24 : Int) : Bool), ((8 : Int), ()));
          Tr.test (Option.isSome (f85 (([r1.fst, r2.fst, r3.fst] : List Int), ())))
            (let r5 : Int × PUnit := g85 (([r1.fst, r2.fst, r3.fst] : List Int), ());
            Tr.test ((!eqF r5.fst (0 : Int) : Bool))
              (Tr.fin (((0 : Int), ((r5.fst : Int), ()))))
              (Tr.test (Option.isSome (f87 (x0', ())))
                (let r6 : Int × Int × PUnit := g87 (x0', ());
                Tr.fin (((r6.fst : Int), ((r6.snd.fst : Int), ()))))
                (Tr.stop)))
            (Tr.stop))
          (Tr.stop))
        (Tr.stop))
      (Tr.stop))

def f17 (d : Tys.data as17) : Option (Tys.data rs17) := (t17 d.1.1 d.1.2.1).val
def g17 (d : Tys.data as17) : Tys.data rs17 := (f17 d).getD (Tys.dflt rs17)
def p17 : PureC := pcOf as17 rs17 f17 g17

theorem e17_0 (x0 : Int) (x0' : (List Int)) : runPure kf87.orc Go.Proofs.Try.prog 400 17 as17 rs17 ((x0, x0', ()), ()) [true, true, true, true, true, true, true, true, true, true] =
    (let r0 : Int × PUnit := g86 ((true : Bool), ((2 : Int), ())); let r2 : Int × PUnit := g86 ((!leF (2 : Int) (↑(List.length x0') : Int) : Bool), ((10 : Int), ())); let r3 : Int × PUnit := g86 ((!leF (↑(List.length x0') : Int) (24 : Int) : Bool), ((8 : Int), ())); let r4 : Int × PUnit := g85 (([r0.fst, r2.fst, r3.fst] : List Int), ()); some (((0 : Int), ((r4.fst : Int), ())), [((!eqF r4.fst (0 : Int) : Bool), true), (Option.isSome (f85 (([r0.fst, r2.fst, r3.fst] : List Int), ())), true), ((true : Bool), true), (Option.isSome (f86 ((!leF (↑(List.length x0') : Int) (24 : Int) : Bool), ((8 : Int), ()))), true), (Option.isSome (f86 ((!leF (2 : Int) (↑(List.length x0') : Int) : Bool), ((10 : Int), ()))), true), (Option.isSome (f86 ((true : Bool), ((2 : Int), ()))), true), ((!leF (1 : Int) x0 : Bool), true), ((!leF (1 : Int) x0 : Bool), true), ((!leF (1 : Int) x0 : Bool), true), ((!leF (1 : Int) x0 : Bool), true)])) := by kernel_rfl
theorem e17_1 (x0 : Int) (x0' : (List Int)) : runPure kf87.orc Go.Proofs.Try.prog 400 17 as17 rs17 ((x0, x0', ()), ()) [true, true, true, true, true, true, true, true, true, false, true] =
    (let r0 : Int × PUnit := g86 ((true : Bool), ((2 : Int), ())); let r2 : Int × PUnit := g86 ((!leF (2 : Int) (↑(List.length x0') : Int) : Bool), ((10 : Int), ())); let r3 : Int × PUnit := g86 ((!leF (↑(List.length x0') : Int) (24 : Int) : Bool), ((8 : Int), ())); let r4 : Int × PUnit := g85 (([r0.fst, r2.fst, r3.fst] : List Int), ()); let r6 : Int × Int × PUnit := g87 (x0', ()); some (((r6.fst : Int), ((r6.snd.fst : Int), ())), [(Option.isSome (f87 (x0', ())), true), ((!eqF r4.fst (0 : Int) : Bool), false), (Option.isSome (f85 (([r0.fst, r2.fst, r3.fst] : List Int), ())), true), ((true : Bool), true), (Option.isSome (f86 ((!leF (↑(List.length x0') : Int) (24 : Int) : Bool), ((8 : Int), ()))), true), (Option.isSome (f86 ((!leF (2 : Int) (↑(List.length x0') : Int) : Bool), ((10 : Int), ()))), true), (Option.isSome (f86 ((true : Bool), ((2 : Int), ()))), true), ((!leF (1 : Int) x0 : Bool), true), ((!leF (1 : Int) x0 : Bool), true), ((!leF (1 : Int) x0 : Bool), true), ((!leF (1 : Int) x0 : Bool), true)])) := by kernel_rfl
theorem e17_2 (x0 : Int) (x0' : (List Int)) : runPure kf87.orc Go.Proofs.Try.prog 400 17 as17 rs17 ((x0, x0', ()), ()) [false, false, false, false, true, true, true, true, true, true] =
    (let r1 : Int × PUnit := g86 ((!leF x0 (1000000 : Int) : Bool), ((2 : Int), ())); let r2 : Int × PUnit := g86 ((!leF (2 : Int) (↑(List.length x0') : Int) : Bool), ((10 : Int), ())); let r3 : Int × PUnit := g86 ((!leF (↑(List.length x0') : Int) (24 : Int) : Bool), ((8 : Int), ())); let r5 : Int × PUnit := g85 (([r1.fst, r2.fst, r3.fst] : List Int), ()); some (((0 : Int), ((r5.fst : Int), ())), [((!eqF r5.fst (0 : Int) : Bool), true), (Option.isSome (f85 (([r1.fst, r2.fst, r3.fst] : List Int), ())), true), ((true : Bool), true), (Option.isSome (f86 ((!leF (↑(List.length x0') : Int) (24 : Int) : Bool), ((8 : Int), ()))), true), (Option.isSome (f86 ((!leF (2 : Int) (↑(List.length x0') : Int) : Bool), ((10 : Int), ()))), true), (Option.isSome (f86 ((!leF x0 (1000000 : Int) : Bool), ((2 : Int), ()))), true), ((!leF (1 : Int) x0 : Bool), false), ((!leF (1 : Int) x0 : Bool), false), ((!leF (1 : Int) x0 : Bool), false), ((!leF (1 : Int) x0 : Bool), false)])) := by kernel_rfl
theorem e17_3 (x0 : Int) (x0' : (List Int)) : runPure kf87.orc Go.Proofs.Try.prog 400 17 as17 rs17 ((x0, x0', ()), ()) [false, false, false, false, true, true, true, true, true, false, true] =
    (let r1 : Int × PUnit := g86 ((!leF x0 (1000000 : Int) : Bool), ((2 : Int), ())); let r2 : Int × PUnit := g86 ((!leF (2 : Int) (↑(List.length x0') : Int) : Bool), ((10 : Int), ())); let r3 : Int × PUnit := g86 ((!leF (↑(List.length x0') : Int) (24 : Int) : Bool), ((8 : Int), ())); let r5 : Int × PUnit := g85 (([r1.fst, r2.fst, r3.fst] : List Int), ()); let r6 : Int × Int × PUnit := g87 (x0', ()); some (((r6.fst : Int), ((r6.snd.fst : Int), ())), [(Option.isSome (f87 (x0', ())), true), ((!eqF r5.fst (0 : Int) : Bool), false), (Option.isSome (f85 (([r1.fst, r2.fst, r3.fst] : List Int), ())), true), ((true : Bool), true), (Option.isSome (f86 ((!leF (↑(List.length x0') : Int) (24 : Int) : Bool), ((8 : Int), ()))), true), (Option.isSome (f86 ((!leF (2 : Int) (↑(List.length x0') : Int) : Bool), ((10 : Int), ()))), true), (Option.isSome (f86 ((!leF x0 (1000000 : Int) : Bool), ((2 : Int), ()))), true), ((!leF (1 : Int) x0 : Bool), false), ((!leF (1 : Int) x0 : Bool), false), ((!leF (1 : Int) x0 : Bool), false), ((!leF (1 : Int) x0 : Bool), false)])) := by kernel_rfl

theorem ok17_t (x0 : Int) (x0' : (List Int)) : TrOk (PureRuns Go.Proofs.Try.prog kf87.orc 17 as17 rs17 ((x0, x0', ()), ())) (t17 x0 x0') :=
  TrOk.ofTest (fun h0 => TrOk.ofTest (fun h4 => TrOk.ofTest (fun h5 => TrOk.ofTest (fun h6 => TrOk.ofTest (fun h8 => TrOk.ofTest (fun h9 => TrOk.ofFin (PureRuns.of (e17_0 x0 x0') (All.cons h9 (All.cons h8 (All.cons rfl (All.cons h6 (All.cons h5 (All.cons h4 (All.cons (not_of (of_not (h0))) (All.cons (not_of (of_not (h0))) (All.cons (not_of (of_not (h0))) (All.cons h0 (All.nil))))))))))))) (fun h9 => TrOk.ofTest (fun h10 => TrOk.ofFin (PureRuns.of (e17_1 x0 x0') (All.cons h10 (All.cons h9 (All.cons h8 (All.cons rfl (All.cons h6 (All.cons h5 (All.cons h4 (All.cons (not_of (of_not (h0))) (All.cons (not_of (of_not (h0))) (All.cons (not_of (of_not (h0))) (All.cons h0 (All.nil)))))))))))))) (fun h10 => TrOk.ofStop))) (fun h8 => TrOk.ofStop)) (fun h6 => TrOk.ofStop)) (fun h5 => TrOk.ofStop)) (fun h4 => TrOk.ofStop)) (fun h0 => TrOk.ofTest (fun h4 => TrOk.ofTest (fun h5 => TrOk.ofTest (fun h6 => TrOk.ofTest (fun h8 => TrOk.ofTest (fun h9 => TrOk.ofFin (PureRuns.of (e17_2 x0 x0') (All.cons h9 (All.cons h8 (All.cons rfl (All.cons h6 (All.cons h5 (All.cons h4 (All.cons (not_of (of_not (h0))) (All.cons (not_of (of_not (h0))) (All.cons (not_of (of_not (h0))) (All.cons h0 (All.nil))))))))))))) (fun h9 => TrOk.ofTest (fun h10 => TrOk.ofFin (PureRuns.of (e17_3 x0 x0') (All.cons h10 (All.cons h9 (All.cons h8 (All.cons rfl (All.cons h6 (All.cons h5 (All.cons h4 (All.cons (not_of (of_not (h0))) (All.cons (not_of (of_not (h0))) (All.cons (not_of (of_not (h0))) (All.cons h0 (All.nil)))))))))))))) (fun h10 => TrOk.ofStop))) (fun h8 => TrOk.ofStop)) (fun h6 => TrOk.ofStop)) (fun h5 => TrOk.ofStop)) (fun h4 => TrOk.ofStop))

theorem ok17 : PureOk Go.Proofs.Try.prog 17 p17 := pureOk_of kf87_ok.base (T := fun (d : Tys.data as17) => t17 d.1.1 d.1.2.1) (by kernel_rfl) (fun (d : Tys.data as17) => ok17_t d.1.1 d.1.2.1)
def kf17 : Known := kf87.func 17 p17
theorem kf17_ok : KnownOk Go.Proofs.Try.prog kf17 := kf87_ok.func ok17

/-! ductility/motion.recordError -/

abbrev as88 : List Ty := [(.pair (.int .i64) (.pair (.slice (.int .i64)) .unit))]
abbrev rs88 : List Ty := [(.int .i64)]

def t88 (x0 : Int) (x0' : (List Int)) : Tr (Tys.data rs88) :=
  Tr.test (Option.isSome (f17 ((x0, (x0', ())), ())))
    (let r0 : Int × Int × PUnit := g17 ((x0, (x0', ())), ());
    Tr.fin (((r0.snd.fst : Int), ())))
    (Tr.stop)

def f88 (d : Tys.data as88) : Option (Tys.data rs88) := (t88 d.1.1 d.1.2.1).val
def g88 (d : Tys.data as88) : Tys.data rs88 := (f88 d).getD (Tys.dflt rs88)
def p88 : PureC := pcOf as88 rs88 f88 g88

theorem e88_0 (x0 : Int) (x0' : (List Int)) : runPure kf17.orc Go.Proofs.Try.prog 400 88 as88 rs88 ((x0, x0', ()), ()) [true] =
    (let r0 : Int × Int × PUnit := g17 ((x0, (x0', ())), ()); some (((r0.snd.fst : Int), ()), [(Option.isSome (f17 ((x0, (x0', ())), ())), true)])) := by kernel_rfl

theorem ok88_t (x0 : Int) (x0' : (List Int)) : TrOk (PureRuns Go.Proofs.Try.prog kf17.orc 88 as88 rs88 ((x0, x0', ()), ())) (t88 x0 x0') :=
  TrOk.ofTest (fun h0 => TrOk.ofFin (PureRuns.of (e88_0 x0 x0') (All.cons h0 (All.nil)))) (fun h0 => TrOk.ofStop)

theorem ok88 : PureOk Go.Proofs.Try.prog 88 p88 := pureOk_of kf17_ok.base (T := fun (d : Tys.data as88) => t88 d.1.1 d.1.2.1) (by kernel_rfl) (fun (d : Tys.data as88) => ok88_t d.1.1 d.1.2.1)
def kf88 : Known := kf17.func 88 p88
theorem kf88_ok : KnownOk Go.Proofs.Try.prog kf88 := kf17_ok.func ok88

/-! loop 2 of ductility/motion.divisorOf -/

abbrev sh144_2 : Sh := { n := 23, slots := [3, 5, 6, 7, 8], pats := [.ty (.int .i64), .ty (.int .i64), .ty (.slice (.int .i64)), .ty (.int .i64), .ty (.int .i64)], boxes := [] }
abbrev shb144_2 : Sh := { n := 23, slots := [3, 6, 7, 8], pats := [.ty (.int .i64), .ty (.slice (.int .i64)), .ty (.int .i64), .ty (.int .i64)], boxes := [] }
abbrev shr144_2 : Sh := { n := 23, slots := [], pats := [], boxes := [] }

def t144_2 (x0 : Int) (x1 : Int) (x2 : (List Int)) (x3 : Int) (x4 : Int) : Tr (Out sh144_2.data shb144_2.data shr144_2.data) :=
  Tr.test ((!eqF x1 (0 : Int) : Bool))
    (Tr.test ((x1 == (0 : Int) : Bool))
      (Tr.stop /- none [op 3 of region 6 of F144] -/)
      (Tr.fin (.again ((x1, ((Int.tmod x0 x1 : Int), (x2, (x3, (x4, ()))))), ()))))
    (Tr.fin (.brk ((x0, (x2, (x3, (x4, ())))), ())))

def s144_2 (d : sh144_2.data) : Option (Out sh144_2.data shb144_2.data shr144_2.data) := (t144_2 d.1.1 d.1.2.1 d.1.2.2.1 d.1.2.2.2.1 d.1.2.2.2.2.1).val
def l144_2 (d : sh144_2.data) : Option (shb144_2.data ⊕ shr144_2.data) := itr s144_2 rounds d
def b144_2 (d : sh144_2.data) : shb144_2.data := outB shb144_2.dflt (l144_2 d)
def r144_2 (d : sh144_2.data) : shr144_2.data := outR shr144_2.dflt (l144_2 d)
def lc144_2 : LoopC := lcB sh144_2 shb144_2 shr144_2 l144_2 b144_2

theorem e144_2_1 (x0 : Int) (x1 : Int) (x2 : (List Int)) (x3 : Int) (x4 : Int) : runBody kf88.orc Go.Proofs.Try.prog 400 144 2 sh144_2 shb144_2 shr144_2 ((x0, x1, x2, x3, x4, ()), ()) [true, false] =
    (some (.again ((x1, ((Int.tmod x0 x1 : Int), (x2, (x3, (x4, ()))))), ()), [((x1 == (0 : Int) : Bool), false), ((!eqF x1 (0 : Int) : Bool), true)])) := by kernel_rfl
theorem e144_2_2 (x0 : Int) (x1 : Int) (x2 : (List Int)) (x3 : Int) (x4 : Int) : runBody kf88.orc Go.Proofs.Try.prog 400 144 2 sh144_2 shb144_2 shr144_2 ((x0, x1, x2, x3, x4, ()), ()) [false] =
    (some (.brk ((x0, (x2, (x3, (x4, ())))), ()), [((!eqF x1 (0 : Int) : Bool), false)])) := by kernel_rfl

theorem ok144_2_t (x0 : Int) (x1 : Int) (x2 : (List Int)) (x3 : Int) (x4 : Int) : TrOk (BodyRuns Go.Proofs.Try.prog kf88.orc 144 2 sh144_2 shb144_2 shr144_2 ((x0, x1, x2, x3, x4, ()), ())) (t144_2 x0 x1 x2 x3 x4) :=
  TrOk.ofTest (fun h0 => TrOk.ofTest (fun h1 => TrOk.ofStop) (fun h1 => TrOk.ofFin (BodyRuns.of (e144_2_1 x0 x1 x2 x3 x4) (All.cons h1 (All.cons h0 (All.nil)))))) (fun h0 => TrOk.ofFin (BodyRuns.of (e144_2_2 x0 x1 x2 x3 x4) (All.cons h0 (All.nil))))

theorem ok144_2 : LoopOk Go.Proofs.Try.prog 144 2 lc144_2 := loopOk_ofB kf88_ok.base (T := fun (d : sh144_2.data) => t144_2 d.1.1 d.1.2.1 d.1.2.2.1 d.1.2.2.2.1 d.1.2.2.2.2.1) (by kernel_rfl) rfl (fun (d : sh144_2.data) => ok144_2_t d.1.1 d.1.2.1 d.1.2.2.1 d.1.2.2.2.1 d.1.2.2.2.2.1) (fun _ => rfl)
def kl144_2 : Known := kf88.loop 144 2 lc144_2
theorem kl144_2_ok : KnownOk Go.Proofs.Try.prog kl144_2 := kf88_ok.loop ok144_2

/-! loop 0 of ductility/motion.divisorOf -/

abbrev sh144_0 : Sh := { n := 23, slots := [3, 6, 7, 8], pats := [.ty (.int .i64), .ty (.slice (.int .i64)), .ty (.int .i64), .ty (.int .i64)], boxes := [] }
abbrev shb144_0 : Sh := { n := 23, slots := [3], pats := [.ty (.int .i64)], boxes := [] }
abbrev shr144_0 : Sh := { n := 23, slots := [], pats := [], boxes := [] }

def t144_0 (x0 : Int) (x1 : (List Int)) (x2 : Int) (x3 : Int) : Tr (Out sh144_0.data shb144_0.data shr144_0.data) :=
  Tr.test ((!leF x2 x3 : Bool))
    (Tr.test ((decide ((0 : Int) ≤ x3) && decide (x3 < (↑(List.length x1) : Int)) : Bool))
      (Tr.test (isBrk (l144_2 ((x0, ((List.getD x1 (Int.toNat x3) (0 : Int) : Int), (x1, (x2, (x3, ()))))), ())))
        (let r0 : (Int × List Int × Int × Int × PUnit) × PUnit := b144_2 ((x0, ((List.getD x1 (Int.toNat x3) (0 : Int) : Int), (x1, (x2, (x3, ()))))), ());
        Tr.fin (.again (((r0.fst.fst : Int), ((r0.fst.snd.fst : List Int), ((r0.fst.snd.snd.fst : Int), ((wrap64 (r0.fst.snd.snd.snd.fst + (1 : Int)) : Int), ())))), ())))
        (Tr.stop))
      (Tr.stop /- none [op 0 of region 4 of F144] -/))
    (Tr.fin (.brk ((x0, ()), ())))

def s144_0 (d : sh144_0.data) : Option (Out sh144_0.data shb144_0.data shr144_0.data) := (t144_0 d.1.1 d.1.2.1 d.1.2.2.1 d.1.2.2.2.1).val
def l144_0 (d : sh144_0.data) : Option (shb144_0.data ⊕ shr144_0.data) := itr s144_0 rounds d
def b144_0 (d : sh144_0.data) : shb144_0.data := outB shb144_0.dflt (l144_0 d)
def r144_0 (d : sh144_0.data) : shr144_0.data := outR shr144_0.dflt (l144_0 d)
def lc144_0 : LoopC := lcB sh144_0 shb144_0 shr144_0 l144_0 b144_0

theorem e144_0_0 (x0 : Int) (x1 : (List Int)) (x2 : Int) (x3 : Int) : runBody kl144_2.orc Go.Proofs.Try.prog 400 144 0 sh144_0 shb144_0 shr144_0 ((x0, x1, x2, x3, ()), ()) [true, true, true, true] =
    (let r0 : (Int × List Int × Int × Int × PUnit) × PUnit := b144_2 ((x0, ((List.getD x1 (Int.toNat x3) (0 : Int) : Int), (x1, (x2, (x3, ()))))), ()); some (.again (((r0.fst.fst : Int), ((r0.fst.snd.fst : List Int), ((r0.fst.snd.snd.fst : Int), ((wrap64 (r0.fst.snd.snd.snd.fst + (1 : Int)) : Int), ())))), ()), [((true : Bool), true), (isBrk (l144_2 ((x0, ((List.getD x1 (Int.toNat x3) (0 : Int) : Int), (x1, (x2, (x3, ()))))), ())), true), ((decide ((0 : Int) ≤ x3) && decide (x3 < (↑(List.length x1) : Int)) : Bool), true), ((!leF x2 x3 : Bool), true)])) := by kernel_rfl
theorem e144_0_2 (x0 : Int) (x1 : (List Int)) (x2 : Int) (x3 : Int) : runBody kl144_2.orc Go.Proofs.Try.prog 400 144 0 sh144_0 shb144_0 shr144_0 ((x0, x1, x2, x3, ()), ()) [false] =
    (some (.brk ((x0, ()), ()), [((!leF x2 x3 : Bool), false)])) := by kernel_rfl

theorem ok144_0_t (x0 : Int) (x1 : (List Int)) (x2 : Int) (x3 : Int) : TrOk (BodyRuns Go.Proofs.Try.prog kl144_2.orc 144 0 sh144_0 shb144_0 shr144_0 ((x0, x1, x2, x3, ()), ())) (t144_0 x0 x1 x2 x3) :=
  TrOk.ofTest (fun h0 => TrOk.ofTest (fun h1 => TrOk.ofTest (fun h2 => TrOk.ofFin (BodyRuns.of (e144_0_0 x0 x1 x2 x3) (All.cons rfl (All.cons h2 (All.cons h1 (All.cons h0 (All.nil))))))) (fun h2 => TrOk.ofStop)) (fun h1 => TrOk.ofStop)) (fun h0 => TrOk.ofFin (BodyRuns.of (e144_0_2 x0 x1 x2 x3) (All.cons h0 (All.nil))))

theorem ok144_0 : LoopOk Go.Proofs.Try.prog 144 0 lc144_0 := loopOk_ofB kl144_2_ok.base (T := fun (d : sh144_0.data) => t144_0 d.1.1 d.1.2.1 d.1.2.2.1 d.1.2.2.2.1) (by kernel_rfl) rfl (fun (d : sh144_0.data) => ok144_0_t d.1.1 d.1.2.1 d.1.2.2.1 d.1.2.2.2.1) (fun _ => rfl)
def kl144_0 : Known := kl144_2.loop 144 0 lc144_0
theorem kl144_0_ok : KnownOk Go.Proofs.Try.prog kl144_0 := kl144_2_ok.loop ok144_0

/-! ductility/motion.divisorOf -/

abbrev as144 : List Ty := [(.slice (.int .i64))]
abbrev rs144 : List Ty := [(.int .i64)]

def t144 (x0 : (List Int)) : Tr (Tys.data rs144) :=
  Tr.test (isBrk (l144_0 (((0 : Int), (x0, ((↑(List.length x0) : Int), ((0 : Int), ())))), ())))
    (let r0 : (Int × PUnit) × PUnit := b144_0 (((0 : Int), (x0, ((↑(List.length x0) : Int), ((0 : Int), ())))), ());
    Tr.fin (((if r0.fst.fst < Go.IntKind.wrap Go.IntKind.i64 ((0 : Int) - r0.fst.fst) then Go.IntKind.wrap Go.IntKind.i64 ((0 : Int) - r0.fst.fst) else r0.fst.fst : Int), ())))
    (Tr.stop)

def f144 (d : Tys.data as144) : Option (Tys.data rs144) := (t144 d.1).val
def g144 (d : Tys.data as144) : Tys.data rs144 := (f144 d).getD (Tys.dflt rs144)
def p144 : PureC := pcOf as144 rs144 f144 g144

theorem e144_0 (x0 : (List Int)) : runPure kl144_0.orc Go.Proofs.Try.prog 400 144 as144 rs144 (x0, ()) [true, true] =
    (let r0 : (Int × PUnit) × PUnit := b144_0 (((0 : Int), (x0, ((↑(List.length x0) : Int), ((0 : Int), ())))), ()); some (((if r0.fst.fst < Go.IntKind.wrap Go.IntKind.i64 ((0 : Int) - r0.fst.fst) then Go.IntKind.wrap Go.IntKind.i64 ((0 : Int) - r0.fst.fst) else r0.fst.fst : Int), ()), [((true : Bool), true), (isBrk (l144_0 (((0 : Int), (x0, ((↑(List.length x0) : Int), ((0 : Int), ())))), ())), true)])) := by kernel_rfl

theorem ok144_t (x0 : (List Int)) : TrOk (PureRuns Go.Proofs.Try.prog kl144_0.orc 144 as144 rs144 (x0, ())) (t144 x0) :=
  TrOk.ofTest (fun h0 => TrOk.ofFin (PureRuns.of (e144_0 x0) (All.cons rfl (All.cons h0 (All.nil))))) (fun h0 => TrOk.ofStop)

theorem ok144 : PureOk Go.Proofs.Try.prog 144 p144 := pureOk_of kl144_0_ok.base (T := fun (d : Tys.data as144) => t144 d.1) (by kernel_rfl) (fun (d : Tys.data as144) => ok144_t d.1)
def kf144 : Known := kl144_0.func 144 p144
theorem kf144_ok : KnownOk Go.Proofs.Try.prog kf144 := kl144_0_ok.func ok144

/-! ductility/motion.isLowest -/

abbrev as145 : List Ty := [(.int .i64), (.slice (.int .i64))]
abbrev rs145 : List Ty := [.bool]

def t145 (x0 : Int) (x1 : (List Int)) : Tr (Tys.data rs145) :=
  Tr.test ((!leF x0 (0 : Int) : Bool))
    (Tr.test (Option.isSome (f144 (x1, ())))
      (let r0 : Int × PUnit := g144 (x1, ());
      Tr.test (Option.isSome (f144 (([x0, r0.fst] : List Int), ())))
        (let r1 : Int × PUnit := g144 (([x0, r0.fst] : List Int), ());
        Tr.fin (((eqF r1.fst (1 : Int) : Bool), ())))
        (Tr.stop))
      (Tr.stop))
    (Tr.fin (((false : Bool), ())))

def f145 (d : Tys.data as145) : Option (Tys.data rs145) := (t145 d.1 d.2.1).val
def g145 (d : Tys.data as145) : Tys.data rs145 := (f145 d).getD (Tys.dflt rs145)
def p145 : PureC := pcOf as145 rs145 f145 g145

theorem e145_0 (x0 : Int) (x1 : (List Int)) : runPure kf144.orc Go.Proofs.Try.prog 400 145 as145 rs145 (x0, x1, ()) [true, true, true, true, true, true, true, true, true, true] =
    (let r0 : Int × PUnit := g144 (x1, ()); let r1 : Int × PUnit := g144 (([x0, r0.fst] : List Int), ()); some (((eqF r1.fst (1 : Int) : Bool), ()), [((!leF x0 (0 : Int) : Bool), true), ((!leF x0 (0 : Int) : Bool), true), (Option.isSome (f144 (([x0, r0.fst] : List Int), ())), true), ((true : Bool), true), ((!leF x0 (0 : Int) : Bool), true), ((!leF x0 (0 : Int) : Bool), true), (Option.isSome (f144 (x1, ())), true), ((!leF x0 (0 : Int) : Bool), true), ((!leF x0 (0 : Int) : Bool), true), ((!leF x0 (0 : Int) : Bool), true)])) := by kernel_rfl
theorem e145_1 (x0 : Int) (x1 : (List Int)) : runPure kf144.orc Go.Proofs.Try.prog 400 145 as145 rs145 (x0, x1, ()) [false, false, false, false, false, false, false] =
    (some (((false : Bool), ()), [((!leF x0 (0 : Int) : Bool), false), ((!leF x0 (0 : Int) : Bool), false), ((!leF x0 (0 : Int) : Bool), false), ((!leF x0 (0 : Int) : Bool), false), ((!leF x0 (0 : Int) : Bool), false), ((!leF x0 (0 : Int) : Bool), false), ((!leF x0 (0 : Int) : Bool), false)])) := by kernel_rfl

theorem ok145_t (x0 : Int) (x1 : (List Int)) : TrOk (PureRuns Go.Proofs.Try.prog kf144.orc 145 as145 rs145 (x0, x1, ())) (t145 x0 x1) :=
  TrOk.ofTest (fun h0 => TrOk.ofTest (fun h3 => TrOk.ofTest (fun h7 => TrOk.ofFin (PureRuns.of (e145_0 x0 x1) (All.cons (not_of (of_not (h0))) (All.cons (not_of (of_not (h0))) (All.cons h7 (All.cons rfl (All.cons (not_of (of_not (h0))) (All.cons (not_of (of_not (h0))) (All.cons h3 (All.cons (not_of (of_not (h0))) (All.cons (not_of (of_not (h0))) (All.cons h0 (All.nil))))))))))))) (fun h7 => TrOk.ofStop)) (fun h3 => TrOk.ofStop)) (fun h0 => TrOk.ofFin (PureRuns.of (e145_1 x0 x1) (All.cons (not_of (of_not (h0))) (All.cons (not_of (of_not (h0))) (All.cons (not_of (of_not (h0))) (All.cons (not_of (of_not (h0))) (All.cons (not_of (of_not (h0))) (All.cons (not_of (of_not (h0))) (All.cons h0 (All.nil))))))))))

theorem ok145 : PureOk Go.Proofs.Try.prog 145 p145 := pureOk_of kf144_ok.base (T := fun (d : Tys.data as145) => t145 d.1 d.2.1) (by kernel_rfl) (fun (d : Tys.data as145) => ok145_t d.1 d.2.1)
def kf145 : Known := kf144.func 145 p145
theorem kf145_ok : KnownOk Go.Proofs.Try.prog kf145 := kf144_ok.func ok145

/-! ductility/motion.shareError -/

abbrev as134 : List Ty := [(.pair (.int .i64) (.pair (.int .i64) .unit))]
abbrev rs134 : List Ty := [(.int .i64)]

def t134 (x0 : Int) (x0' : Int) : Tr (Tys.data rs134) :=
  Tr.test (Option.isSome (f145 (x0', (([x0] : List Int), ()))))
    (let r0 : Bool × PUnit := g145 (x0', (([x0] : List Int), ()));
    Tr.test (Option.isSome (f86 ((!r0.fst : Bool), ((3 : Int), ()))))
      (Tr.test (Option.isSome (f94 ((0 : Int), (x0', (([x0] : List Int), ())))))
        (let r2 : Bool × PUnit := g94 ((0 : Int), (x0', (([x0] : List Int), ())));
        Tr.test ((!r2.fst : Bool))
          (Tr.test (Option.isSome (f86 ((true : Bool), ((2 : Int), ()))))
            (let r1 : Int × PUnit := g86 ((!r0.fst : Bool), ((3 : Int), ()));
            let r3 : Int × PUnit := g86 ((true : Bool), ((2 : Int), ()));
            Tr.test (Option.isSome (f85 (([r1.fst, r3.fst] : List Int), ())))
              (let r5 : Int × PUnit := g85 (([r1.fst, r3.fst] : List Int), ());
              Tr.fin (((r5.fst : Int), ())))
              (Tr.stop))
            (Tr.stop))
          (Tr.test (Option.isSome (f86 ((!leF x0' (1000 : Int) : Bool), ((2 : Int), ()))))
            (let r1 : Int × PUnit := g86 ((!r0.fst : Bool), ((3 : Int), ()));
            let r4 : Int × PUnit := g86 ((!leF x0' (1000 : Int) : Bool), ((2 : Int), ()));
            Tr.test (Option.isSome (f85 (([r1.fst, r4.fst] : List Int), ())))
              (let r6 : Int × PUnit := g85 (([r1.fst, r4.fst] : List Int), ());
              Tr.fin (((r6.fst : Int), ())))
              (Tr.stop))
            (Tr.stop)))
        (Tr.stop))
      (Tr.stop))
    (Tr.stop)

def f134 (d : Tys.data as134) : Option (Tys.data rs134) := (t134 d.1.1 d.1.2.1).val
def g134 (d : Tys.data as134) : Tys.data rs134 := (f134 d).getD (Tys.dflt rs134)
def p134 : PureC := pcOf as134 rs134 f134 g134

theorem e134_0 (x0 : Int) (x0' : Int) : runPure kf145.orc Go.Proofs.Try.prog 400 134 as134 rs134 ((x0, x0', ()), ()) [true, true, true, true, true, true, true, true, true, true, true, true] =
    (let r0 : Bool × PUnit := g145 (x0', (([x0] : List Int), ())); let r2 : Bool × PUnit := g94 ((0 : Int), (x0', (([x0] : List Int), ()))); let r1 : Int × PUnit := g86 ((!r0.fst : Bool), ((3 : Int), ())); let r3 : Int × PUnit := g86 ((true : Bool), ((2 : Int), ())); let r5 : Int × PUnit := g85 (([r1.fst, r3.fst] : List Int), ()); some (((r5.fst : Int), ()), [(Option.isSome (f85 (([r1.fst, r3.fst] : List Int), ())), true), ((true : Bool), true), (Option.isSome (f86 ((true : Bool), ((2 : Int), ()))), true), ((!r2.fst : Bool), true), ((!r2.fst : Bool), true), ((!r2.fst : Bool), true), ((!r2.fst : Bool), true), (Option.isSome (f94 ((0 : Int), (x0', (([x0] : List Int), ())))), true), ((true : Bool), true), (Option.isSome (f86 ((!r0.fst : Bool), ((3 : Int), ()))), true), (Option.isSome (f145 (x0', (([x0] : List Int), ()))), true), ((true : Bool), true)])) := by kernel_rfl
theorem e134_1 (x0 : Int) (x0' : Int) : runPure kf145.orc Go.Proofs.Try.prog 400 134 as134 rs134 ((x0, x0', ()), ()) [true, true, true, true, true, false, false, false, false, true, true, true] =
    (let r0 : Bool × PUnit := g145 (x0', (([x0] : List Int), ())); let r2 : Bool × PUnit := g94 ((0 : Int), (x0', (([x0] : List Int), ()))); let r1 : Int × PUnit := g86 ((!r0.fst : Bool), ((3 : Int), ())); let r4 : Int × PUnit := g86 ((!leF x0' (1000 : Int) : Bool), ((2 : Int), ())); let r6 : Int × PUnit := g85 (([r1.fst, r4.fst] : List Int), ()); some (((r6.fst : Int), ()), [(Option.isSome (f85 (([r1.fst, r4.fst] : List Int), ())), true), ((true : Bool), true), (Option.isSome (f86 ((!leF x0' (1000 : Int) : Bool), ((2 : Int), ()))), true), ((!r2.fst : Bool), false), ((!r2.fst : Bool), false), ((!r2.fst : Bool), false), ((!r2.fst : Bool), false), (Option.isSome (f94 ((0 : Int), (x0', (([x0] : List Int), ())))), true), ((true : Bool), true), (Option.isSome (f86 ((!r0.fst : Bool), ((3 : Int), ()))), true), (Option.isSome (f145 (x0', (([x0] : List Int), ()))), true), ((true : Bool), true)])) := by kernel_rfl

theorem ok134_t (x0 : Int) (x0' : Int) : TrOk (PureRuns Go.Proofs.Try.prog kf145.orc 134 as134 rs134 ((x0, x0', ()), ())) (t134 x0 x0') :=
  TrOk.ofTest (fun h1 => TrOk.ofTest (fun h2 => TrOk.ofTest (fun h4 => TrOk.ofTest (fun h5 => TrOk.ofTest (fun h9 => TrOk.ofTest (fun h11 => TrOk.ofFin (PureRuns.of (e134_0 x0 x0') (All.cons h11 (All.cons rfl (All.cons h9 (All.cons (not_of (of_not (h5))) (All.cons (not_of (of_not (h5))) (All.cons (not_of (of_not (h5))) (All.cons h5 (All.cons h4 (All.cons rfl (All.cons h2 (All.cons h1 (All.cons rfl (All.nil))))))))))))))) (fun h11 => TrOk.ofStop)) (fun h9 => TrOk.ofStop)) (fun h5 => TrOk.ofTest (fun h9 => TrOk.ofTest (fun h11 => TrOk.ofFin (PureRuns.of (e134_1 x0 x0') (All.cons h11 (All.cons rfl (All.cons h9 (All.cons (not_of (of_not (h5))) (All.cons (not_of (of_not (h5))) (All.cons (not_of (of_not (h5))) (All.cons h5 (All.cons h4 (All.cons rfl (All.cons h2 (All.cons h1 (All.cons rfl (All.nil))))))))))))))) (fun h11 => TrOk.ofStop)) (fun h9 => TrOk.ofStop))) (fun h4 => TrOk.ofStop)) (fun h2 => TrOk.ofStop)) (fun h1 => TrOk.ofStop)

theorem ok134 : PureOk Go.Proofs.Try.prog 134 p134 := pureOk_of kf145_ok.base (T := fun (d : Tys.data as134) => t134 d.1.1 d.1.2.1) (by kernel_rfl) (fun (d : Tys.data as134) => ok134_t d.1.1 d.1.2.1)
def kf134 : Known := kf145.func 134 p134
theorem kf134_ok : KnownOk Go.Proofs.Try.prog kf134 := kf145_ok.func ok134

/-! ductility/motion.isLess -/

abbrev as135 : List Ty := [(.pair (.int .i64) (.pair (.int .i64) .unit)), (.pair (.int .i64) (.pair (.int .i64) .unit))]
abbrev rs135 : List Ty := [.bool]

def t135 (x0 : Int) (x0' : Int) (x1 : Int) (x1' : Int) : Tr (Tys.data rs135) :=
  Tr.fin (((!leF (wrap64 (x1 * x0')) (wrap64 (x0 * x1')) : Bool), ()))

def f135 (d : Tys.data as135) : Option (Tys.data rs135) := (t135 d.1.1 d.1.2.1 d.2.1.1 d.2.1.2.1).val
def g135 (d : Tys.data as135) : Tys.data rs135 := (f135 d).getD (Tys.dflt rs135)
def p135 : PureC := pcOf as135 rs135 f135 g135

theorem e135_0 (x0 : Int) (x0' : Int) (x1 : Int) (x1' : Int) : runPure kf134.orc Go.Proofs.Try.prog 400 135 as135 rs135 ((x0, x0', ()), (x1, x1', ()), ()) [] =
    (some (((!leF (wrap64 (x1 * x0')) (wrap64 (x0 * x1')) : Bool), ()), [])) := by kernel_rfl

theorem ok135_t (x0 : Int) (x0' : Int) (x1 : Int) (x1' : Int) : TrOk (PureRuns Go.Proofs.Try.prog kf134.orc 135 as135 rs135 ((x0, x0', ()), (x1, x1', ()), ())) (t135 x0 x0' x1 x1') :=
  TrOk.ofFin (PureRuns.of (e135_0 x0 x0' x1 x1') (All.nil))

theorem ok135 : PureOk Go.Proofs.Try.prog 135 p135 := pureOk_of kf134_ok.base (T := fun (d : Tys.data as135) => t135 d.1.1 d.1.2.1 d.2.1.1 d.2.1.2.1) (by kernel_rfl) (fun (d : Tys.data as135) => ok135_t d.1.1 d.1.2.1 d.2.1.1 d.2.1.2.1)
def kf135 : Known := kf134.func 135 p135
theorem kf135_ok : KnownOk Go.Proofs.Try.prog kf135 := kf134_ok.func ok135

/-! loop 0 of ductility/motion.sumsOf -/

abbrev sh89_0 : Sh := { n := 22, slots := [3, 4, 7, 8, 9], pats := [.acc (.int .i64), .ty (.int .i64), .ty (.slice (.int .i64)), .ty (.int .i64), .ty (.int .i64)], boxes := [] }
abbrev shb89_0 : Sh := { n := 22, slots := [3], pats := [.acc (.int .i64)], boxes := [] }
abbrev shr89_0 : Sh := { n := 22, slots := [], pats := [], boxes := [] }

def t89_0 (x0 : (List Int)) (x1 : Int) (x2 : (List Int)) (x3 : Int) (x4 : Int) : Tr (Out sh89_0.data shb89_0.data shr89_0.data) :=
  Tr.test ((!leF x3 x4 : Bool))
    (Tr.test ((decide ((0 : Int) ≤ x4) && decide (x4 < (↑(List.length x2) : Int)) : Bool))
      (Tr.test ((Nat.ble (((2 : Nat) * (List.length x0 + (1 : Nat)) + (192 : Nat)) * (8 : Nat)) (281474976710656 : Nat) && Nat.ble (List.length x0 + (1 : Nat)) (281474976710656 : Nat) : Bool))
        (Tr.fin (.again (((x0 ++ [wrap64 (x1 + List.getD x2 (Int.toNat x4) (0 : Int))] : List Int), ((wrap64 (x1 + List.getD x2 (Int.toNat x4) (0 : Int)) : Int), (x2, (x3, ((wrap64 (x4 + (1 : Int)) : Int), ()))))), ())))
        (Tr.stop /- none [op 3 of region 7 of F89] -/))
      (Tr.stop /- none [op 0 of region 5 of F89] -/))
    (Tr.fin (.brk ((x0, ()), ())))

def s89_0 (d : sh89_0.data) : Option (Out sh89_0.data shb89_0.data shr89_0.data) := (t89_0 d.1.1 d.1.2.1 d.1.2.2.1 d.1.2.2.2.1 d.1.2.2.2.2.1).val
def l89_0 (d : sh89_0.data) : Option (shb89_0.data ⊕ shr89_0.data) := itr s89_0 rounds d
def b89_0 (d : sh89_0.data) : shb89_0.data := outB shb89_0.dflt (l89_0 d)
def r89_0 (d : sh89_0.data) : shr89_0.data := outR shr89_0.dflt (l89_0 d)
def lc89_0 : LoopC := lcB sh89_0 shb89_0 shr89_0 l89_0 b89_0

theorem e89_0_0 (x0 : (List Int)) (x1 : Int) (x2 : (List Int)) (x3 : Int) (x4 : Int) : runBody kf135.orc Go.Proofs.Try.prog 400 89 0 sh89_0 shb89_0 shr89_0 ((x0, x1, x2, x3, x4, ()), ()) [true, true, false, true, true] =
    (some (.again (((x0 ++ [wrap64 (x1 + List.getD x2 (Int.toNat x4) (0 : Int))] : List Int), ((wrap64 (x1 + List.getD x2 (Int.toNat x4) (0 : Int)) : Int), (x2, (x3, ((wrap64 (x4 + (1 : Int)) : Int), ()))))), ()), [((true : Bool), true), ((Nat.ble (((2 : Nat) * (List.length x0 + (1 : Nat)) + (192 : Nat)) * (8 : Nat)) (281474976710656 : Nat) && Nat.ble (List.length x0 + (1 : Nat)) (281474976710656 : Nat) : Bool), true), ((false : Bool), false), ((decide ((0 : Int) ≤ x4) && decide (x4 < (↑(List.length x2) : Int)) : Bool), true), ((!leF x3 x4 : Bool), true)])) := by kernel_rfl
theorem e89_0_3 (x0 : (List Int)) (x1 : Int) (x2 : (List Int)) (x3 : Int) (x4 : Int) : runBody kf135.orc Go.Proofs.Try.prog 400 89 0 sh89_0 shb89_0 shr89_0 ((x0, x1, x2, x3, x4, ()), ()) [false] =
    (some (.brk ((x0, ()), ()), [((!leF x3 x4 : Bool), false)])) := by kernel_rfl

theorem ok89_0_t (x0 : (List Int)) (x1 : Int) (x2 : (List Int)) (x3 : Int) (x4 : Int) : TrOk (BodyRuns Go.Proofs.Try.prog kf135.orc 89 0 sh89_0 shb89_0 shr89_0 ((x0, x1, x2, x3, x4, ()), ())) (t89_0 x0 x1 x2 x3 x4) :=
  TrOk.ofTest (fun h0 => TrOk.ofTest (fun h1 => TrOk.ofTest (fun h3 => TrOk.ofFin (BodyRuns.of (e89_0_0 x0 x1 x2 x3 x4) (All.cons rfl (All.cons h3 (All.cons rfl (All.cons h1 (All.cons h0 (All.nil)))))))) (fun h3 => TrOk.ofStop)) (fun h1 => TrOk.ofStop)) (fun h0 => TrOk.ofFin (BodyRuns.of (e89_0_3 x0 x1 x2 x3 x4) (All.cons h0 (All.nil))))

theorem ok89_0 : LoopOk Go.Proofs.Try.prog 89 0 lc89_0 := loopOk_ofB kf135_ok.base (T := fun (d : sh89_0.data) => t89_0 d.1.1 d.1.2.1 d.1.2.2.1 d.1.2.2.2.1 d.1.2.2.2.2.1) (by kernel_rfl) rfl (fun (d : sh89_0.data) => ok89_0_t d.1.1 d.1.2.1 d.1.2.2.1 d.1.2.2.2.1 d.1.2.2.2.2.1) (fun _ => rfl)
def kl89_0 : Known := kf135.loop 89 0 lc89_0
theorem kl89_0_ok : KnownOk Go.Proofs.Try.prog kl89_0 := kf135_ok.loop ok89_0

/-! ductility/motion.sumsOf -/

abbrev as89 : List Ty := [(.slice (.int .i64))]
abbrev rs89 : List Ty := [(.slice (.int .i64))]

def t89 (x0 : (List Int)) : Tr (Tys.data rs89) :=
  Tr.test (isBrk (l89_0 ((([] : List Int), ((0 : Int), (x0, ((↑(List.length x0) : Int), ((0 : Int), ()))))), ())))
    (let r0 : (List Int × PUnit) × PUnit := b89_0 ((([] : List Int), ((0 : Int), (x0, ((↑(List.length x0) : Int), ((0 : Int), ()))))), ());
    Tr.fin (((r0.fst.fst : List Int), ())))
    (Tr.stop)

def f89 (d : Tys.data as89) : Option (Tys.data rs89) := (t89 d.1).val
def g89 (d : Tys.data as89) : Tys.data rs89 := (f89 d).getD (Tys.dflt rs89)
def p89 : PureC := pcOf as89 rs89 f89 g89

theorem e89_0 (x0 : (List Int)) : runPure kl89_0.orc Go.Proofs.Try.prog 400 89 as89 rs89 (x0, ()) [true, true] =
    (let r0 : (List Int × PUnit) × PUnit := b89_0 ((([] : List Int), ((0 : Int), (x0, ((↑(List.length x0) : Int), ((0 : Int), ()))))), ()); some (((r0.fst.fst : List Int), ()), [((true : Bool), true), (isBrk (l89_0 ((([] : List Int), ((0 : Int), (x0, ((↑(List.length x0) : Int), ((0 : Int), ()))))), ())), true)])) := by kernel_rfl

theorem ok89_t (x0 : (List Int)) : TrOk (PureRuns Go.Proofs.Try.prog kl89_0.orc 89 as89 rs89 (x0, ())) (t89 x0) :=
  TrOk.ofTest (fun h0 => TrOk.ofFin (PureRuns.of (e89_0 x0) (All.cons rfl (All.cons h0 (All.nil))))) (fun h0 => TrOk.ofStop)

theorem ok89 : PureOk Go.Proofs.Try.prog 89 p89 := pureOk_of kl89_0_ok.base (T := fun (d : Tys.data as89) => t89 d.1) (by kernel_rfl) (fun (d : Tys.data as89) => ok89_t d.1)
def kf89 : Known := kl89_0.func 89 p89
theorem kf89_ok : KnownOk Go.Proofs.Try.prog kf89 := kl89_0_ok.func ok89

/-! loop 0 of ductility/motion.energiesOf -/

abbrev sh136_0 : Sh := { n := 21, slots := [3, 6, 7, 8], pats := [.acc (.int .i64), .ty (.slice (.int .i64)), .ty (.int .i64), .ty (.int .i64)], boxes := [] }
abbrev shb136_0 : Sh := { n := 21, slots := [3], pats := [.acc (.int .i64)], boxes := [] }
abbrev shr136_0 : Sh := { n := 21, slots := [], pats := [], boxes := [] }

def t136_0 (x0 : (List Int)) (x1 : (List Int)) (x2 : Int) (x3 : Int) : Tr (Out sh136_0.data shb136_0.data shr136_0.data) :=
  Tr.test ((!leF x2 x3 : Bool))
    (Tr.test ((decide ((0 : Int) ≤ x3) && decide (x3 < (↑(List.length x1) : Int)) : Bool))
      (Tr.test ((Nat.ble (((2 : Nat) * (List.length x0 + (1 : Nat)) + (192 : Nat)) * (8 : Nat)) (281474976710656 : Nat) && Nat.ble (List.length x0 + (1 : Nat)) (281474976710656 : Nat) : Bool))
        (Tr.fin (.again (((x0 ++ [wrap64 (List.getD x1 (Int.toNat x3) (0 : Int) * List.getD x1 (Int.toNat x3) (0 : Int))] : List Int), (x1, (x2, ((wrap64 (x3 + (1 : Int)) : Int), ())))), ())))
        (Tr.stop /- none [op 5 of region 5 of F136] -/))
      (Tr.stop /- none [op 0 of region 4 of F136] -/))
    (Tr.fin (.brk ((x0, ()), ())))

def s136_0 (d : sh136_0.data) : Option (Out sh136_0.data shb136_0.data shr136_0.data) := (t136_0 d.1.1 d.1.2.1 d.1.2.2.1 d.1.2.2.2.1).val
def l136_0 (d : sh136_0.data) : Option (shb136_0.data ⊕ shr136_0.data) := itr s136_0 rounds d
def b136_0 (d : sh136_0.data) : shb136_0.data := outB shb136_0.dflt (l136_0 d)
def r136_0 (d : sh136_0.data) : shr136_0.data := outR shr136_0.dflt (l136_0 d)
def lc136_0 : LoopC := lcB sh136_0 shb136_0 shr136_0 l136_0 b136_0

theorem e136_0_0 (x0 : (List Int)) (x1 : (List Int)) (x2 : Int) (x3 : Int) : runBody kf89.orc Go.Proofs.Try.prog 400 136 0 sh136_0 shb136_0 shr136_0 ((x0, x1, x2, x3, ()), ()) [true, true, false, true, true] =
    (some (.again (((x0 ++ [wrap64 (List.getD x1 (Int.toNat x3) (0 : Int) * List.getD x1 (Int.toNat x3) (0 : Int))] : List Int), (x1, (x2, ((wrap64 (x3 + (1 : Int)) : Int), ())))), ()), [((true : Bool), true), ((Nat.ble (((2 : Nat) * (List.length x0 + (1 : Nat)) + (192 : Nat)) * (8 : Nat)) (281474976710656 : Nat) && Nat.ble (List.length x0 + (1 : Nat)) (281474976710656 : Nat) : Bool), true), ((false : Bool), false), ((decide ((0 : Int) ≤ x3) && decide (x3 < (↑(List.length x1) : Int)) : Bool), true), ((!leF x2 x3 : Bool), true)])) := by kernel_rfl
theorem e136_0_3 (x0 : (List Int)) (x1 : (List Int)) (x2 : Int) (x3 : Int) : runBody kf89.orc Go.Proofs.Try.prog 400 136 0 sh136_0 shb136_0 shr136_0 ((x0, x1, x2, x3, ()), ()) [false] =
    (some (.brk ((x0, ()), ()), [((!leF x2 x3 : Bool), false)])) := by kernel_rfl

theorem ok136_0_t (x0 : (List Int)) (x1 : (List Int)) (x2 : Int) (x3 : Int) : TrOk (BodyRuns Go.Proofs.Try.prog kf89.orc 136 0 sh136_0 shb136_0 shr136_0 ((x0, x1, x2, x3, ()), ())) (t136_0 x0 x1 x2 x3) :=
  TrOk.ofTest (fun h0 => TrOk.ofTest (fun h1 => TrOk.ofTest (fun h3 => TrOk.ofFin (BodyRuns.of (e136_0_0 x0 x1 x2 x3) (All.cons rfl (All.cons h3 (All.cons rfl (All.cons h1 (All.cons h0 (All.nil)))))))) (fun h3 => TrOk.ofStop)) (fun h1 => TrOk.ofStop)) (fun h0 => TrOk.ofFin (BodyRuns.of (e136_0_3 x0 x1 x2 x3) (All.cons h0 (All.nil))))

theorem ok136_0 : LoopOk Go.Proofs.Try.prog 136 0 lc136_0 := loopOk_ofB kf89_ok.base (T := fun (d : sh136_0.data) => t136_0 d.1.1 d.1.2.1 d.1.2.2.1 d.1.2.2.2.1) (by kernel_rfl) rfl (fun (d : sh136_0.data) => ok136_0_t d.1.1 d.1.2.1 d.1.2.2.1 d.1.2.2.2.1) (fun _ => rfl)
def kl136_0 : Known := kf89.loop 136 0 lc136_0
theorem kl136_0_ok : KnownOk Go.Proofs.Try.prog kl136_0 := kf89_ok.loop ok136_0

/-! ductility/motion.energiesOf -/

abbrev as136 : List Ty := [(.slice (.int .i64))]
abbrev rs136 : List Ty := [(.slice (.int .i64))]

def t136 (x0 : (List Int)) : Tr (Tys.data rs136) :=
  Tr.test (isBrk (l136_0 ((([] : List Int), (x0, ((↑(List.length x0) : Int), ((0 : Int), ())))), ())))
    (let r0 : (List Int × PUnit) × PUnit := b136_0 ((([] : List Int), (x0, ((↑(List.length x0) : Int), ((0 : Int), ())))), ());
    Tr.test (Option.isSome (f89 ((r0.fst.fst : List Int), ())))
      (let r1 : List Int × PUnit := g89 ((r0.fst.fst : List Int), ());
      Tr.fin (((r1.fst : List Int), ())))
      (Tr.stop))
    (Tr.stop)

def f136 (d : Tys.data as136) : Option (Tys.data rs136) := (t136 d.1).val
def g136 (d : Tys.data as136) : Tys.data rs136 := (f136 d).getD (Tys.dflt rs136)
def p136 : PureC := pcOf as136 rs136 f136 g136

theorem e136_0 (x0 : (List Int)) : runPure kl136_0.orc Go.Proofs.Try.prog 400 136 as136 rs136 (x0, ()) [true, true, true] =
    (let r0 : (List Int × PUnit) × PUnit := b136_0 ((([] : List Int), (x0, ((↑(List.length x0) : Int), ((0 : Int), ())))), ()); let r1 : List Int × PUnit := g89 ((r0.fst.fst : List Int), ()); some (((r1.fst : List Int), ()), [(Option.isSome (f89 ((r0.fst.fst : List Int), ())), true), ((true : Bool), true), (isBrk (l136_0 ((([] : List Int), (x0, ((↑(List.length x0) : Int), ((0 : Int), ())))), ())), true)])) := by kernel_rfl

theorem ok136_t (x0 : (List Int)) : TrOk (PureRuns Go.Proofs.Try.prog kl136_0.orc 136 as136 rs136 (x0, ())) (t136 x0) :=
  TrOk.ofTest (fun h0 => TrOk.ofTest (fun h2 => TrOk.ofFin (PureRuns.of (e136_0 x0) (All.cons h2 (All.cons rfl (All.cons h0 (All.nil)))))) (fun h2 => TrOk.ofStop)) (fun h0 => TrOk.ofStop)

theorem ok136 : PureOk Go.Proofs.Try.prog 136 p136 := pureOk_of kl136_0_ok.base (T := fun (d : Tys.data as136) => t136 d.1) (by kernel_rfl) (fun (d : Tys.data as136) => ok136_t d.1)
def kf136 : Known := kl136_0.func 136 p136
theorem kf136_ok : KnownOk Go.Proofs.Try.prog kf136 := kl136_0_ok.func ok136

/-! loop 0 of slices.IndexFunc[[]int,int] -/

abbrev sh167_0 : Sh := { n := 19, slots := [0, 1, 7, 8], pats := [.ty (.slice (.int .i64)), .fn 168 [(0, 2), (1, 1)], .ty (.int .i64), .ty (.int .i64)], boxes := [.row [.ty (.int .i64), .ty (.int .i64)], .row [.ty (.int .i64)]] }
abbrev shb167_0 : Sh := { n := 19, slots := [], pats := [], boxes := [.row [.ty (.int .i64), .ty (.int .i64)], .row [.ty (.int .i64)]] }
abbrev shr167_0 : Sh := { n := 19, slots := [4], pats := [.ty (.int .i64)], boxes := [.row [.ty (.int .i64), .ty (.int .i64)], .row [.ty (.int .i64)]] }

def t167_0 (x0 : (List Int)) (x2 : Int) (x3 : Int) (b0_0 : Int) (b0_1 : Int) (b1_0 : Int) : Tr (Out sh167_0.data shb167_0.data shr167_0.data) :=
  Tr.test ((!leF x2 x3 : Bool))
    (Tr.test ((decide ((0 : Int) ≤ x3) && decide (x3 < (↑(List.length x0) : Int)) : Bool))
      (Tr.test ((leF (wrap64 (b1_0 * b0_0)) (wrap64 (List.getD x0 (Int.toNat x3) (0 : Int) * b0_1)) : Bool))
        (Tr.fin (.ret ((x3, ()), ((b0_0, (b0_1, ())), ((b1_0, ()), ())))))
        (Tr.fin (.again ((x0, (x2, ((wrap64 (x3 + (1 : Int)) : Int), ()))), ((b0_0, (b0_1, ())), ((b1_0, ()), ()))))))
      (Tr.stop /- none [op 3 of region 4 of F167] -/))
    (Tr.fin (.brk ((), ((b0_0, (b0_1, ())), ((b1_0, ()), ())))))

def s167_0 (d : sh167_0.data) : Option (Out sh167_0.data shb167_0.data shr167_0.data) := (t167_0 d.1.1 d.1.2.1 d.1.2.2.1 d.2.1.1 d.2.1.2.1 d.2.2.1.1).val
def l167_0 (d : sh167_0.data) : Option (shb167_0.data ⊕ shr167_0.data) := itr s167_0 rounds d
def b167_0 (d : sh167_0.data) : shb167_0.data := outB shb167_0.dflt (l167_0 d)
def r167_0 (d : sh167_0.data) : shr167_0.data := outR shr167_0.dflt (l167_0 d)
def lc167_0 : LoopC := lcOf sh167_0 shb167_0 shr167_0 l167_0 b167_0 r167_0

theorem e167_0_0 (x0 : (List Int)) (x2 : Int) (x3 : Int) (b0_0 : Int) (b0_1 : Int) (b1_0 : Int) : runBody kf136.orc Go.Proofs.Try.prog 400 167 0 sh167_0 shb167_0 shr167_0 ((x0, x2, x3, ()), (b0_0, b0_1, ()), (b1_0, ()), ()) [true, true, true] =
    (some (.ret ((x3, ()), ((b0_0, (b0_1, ())), ((b1_0, ()), ()))), [((leF (wrap64 (b1_0 * b0_0)) (wrap64 (List.getD x0 (Int.toNat x3) (0 : Int) * b0_1)) : Bool), true), ((decide ((0 : Int) ≤ x3) && decide (x3 < (↑(List.length x0) : Int)) : Bool), true), ((!leF x2 x3 : Bool), true)])) := by kernel_rfl
theorem e167_0_1 (x0 : (List Int)) (x2 : Int) (x3 : Int) (b0_0 : Int) (b0_1 : Int) (b1_0 : Int) : runBody kf136.orc Go.Proofs.Try.prog 400 167 0 sh167_0 shb167_0 shr167_0 ((x0, x2, x3, ()), (b0_0, b0_1, ()), (b1_0, ()), ()) [true, true, false] =
    (some (.again ((x0, (x2, ((wrap64 (x3 + (1 : Int)) : Int), ()))), ((b0_0, (b0_1, ())), ((b1_0, ()), ()))), [((leF (wrap64 (b1_0 * b0_0)) (wrap64 (List.getD x0 (Int.toNat x3) (0 : Int) * b0_1)) : Bool), false), ((decide ((0 : Int) ≤ x3) && decide (x3 < (↑(List.length x0) : Int)) : Bool), true), ((!leF x2 x3 : Bool), true)])) := by kernel_rfl
theorem e167_0_3 (x0 : (List Int)) (x2 : Int) (x3 : Int) (b0_0 : Int) (b0_1 : Int) (b1_0 : Int) : runBody kf136.orc Go.Proofs.Try.prog 400 167 0 sh167_0 shb167_0 shr167_0 ((x0, x2, x3, ()), (b0_0, b0_1, ()), (b1_0, ()), ()) [false] =
    (some (.brk ((), ((b0_0, (b0_1, ())), ((b1_0, ()), ()))), [((!leF x2 x3 : Bool), false)])) := by kernel_rfl

theorem ok167_0_t (x0 : (List Int)) (x2 : Int) (x3 : Int) (b0_0 : Int) (b0_1 : Int) (b1_0 : Int) : TrOk (BodyRuns Go.Proofs.Try.prog kf136.orc 167 0 sh167_0 shb167_0 shr167_0 ((x0, x2, x3, ()), (b0_0, b0_1, ()), (b1_0, ()), ())) (t167_0 x0 x2 x3 b0_0 b0_1 b1_0) :=
  TrOk.ofTest (fun h0 => TrOk.ofTest (fun h1 => TrOk.ofTest (fun h2 => TrOk.ofFin (BodyRuns.of (e167_0_0 x0 x2 x3 b0_0 b0_1 b1_0) (All.cons h2 (All.cons h1 (All.cons h0 (All.nil)))))) (fun h2 => TrOk.ofFin (BodyRuns.of (e167_0_1 x0 x2 x3 b0_0 b0_1 b1_0) (All.cons h2 (All.cons h1 (All.cons h0 (All.nil))))))) (fun h1 => TrOk.ofStop)) (fun h0 => TrOk.ofFin (BodyRuns.of (e167_0_3 x0 x2 x3 b0_0 b0_1 b1_0) (All.cons h0 (All.nil))))

theorem ok167_0 : LoopOk Go.Proofs.Try.prog 167 0 lc167_0 := loopOk_of kf136_ok.base (T := fun (d : sh167_0.data) => t167_0 d.1.1 d.1.2.1 d.1.2.2.1 d.2.1.1 d.2.1.2.1 d.2.2.1.1) (by kernel_rfl) rfl (fun (d : sh167_0.data) => ok167_0_t d.1.1 d.1.2.1 d.1.2.2.1 d.2.1.1 d.2.1.2.1 d.2.2.1.1) (fun _ => rfl)
def kl167_0 : Known := kf136.loop 167 0 lc167_0
theorem kl167_0_ok : KnownOk Go.Proofs.Try.prog kl167_0 := kf136_ok.loop ok167_0

/-! ductility/motion.reached -/

abbrev as137 : List Ty := [(.slice (.int .i64)), (.pair (.int .i64) (.pair (.int .i64) .unit))]
abbrev rs137 : List Ty := [(.int .i64)]

def t137 (x0 : (List Int)) (x1 : Int) (x1' : Int) : Tr (Tys.data rs137) :=
  Tr.test ((decide ((0 : Int) ≤ wrap64 ((↑(List.length x0) : Int) - (1 : Int))) && decide (wrap64 ((↑(List.length x0) : Int) - (1 : Int)) < (↑(List.length x0) : Int)) : Bool))
    (Tr.test (Option.isSome (l167_0 ((x0, ((↑(List.length x0) : Int), ((0 : Int), ()))), ((x1, (x1', ())), (((List.getD x0 (Int.toNat (wrap64 ((↑(List.length x0) : Int) - (1 : Int)))) (0 : Int) : Int), ()), ())))))
      (Tr.test (isRet (l167_0 ((x0, ((↑(List.length x0) : Int), ((0 : Int), ()))), ((x1, (x1', ())), (((List.getD x0 (Int.toNat (wrap64 ((↑(List.length x0) : Int) - (1 : Int)))) (0 : Int) : Int), ()), ())))))
        (let r0 : (Int × PUnit) × (Int × Int × PUnit) × (Int × PUnit) × PUnit := r167_0 ((x0, ((↑(List.length x0) : Int), ((0 : Int), ()))), ((x1, (x1', ())), (((List.getD x0 (Int.toNat (wrap64 ((↑(List.length x0) : Int) - (1 : Int)))) (0 : Int) : Int), ()), ())));
        Tr.fin (((r0.fst.fst : Int), ())))
        (Tr.fin (((-1 : Int), ()))))
      (Tr.stop))
    (Tr.stop /- none [op 4 of region 1 of F137] -/)

def f137 (d : Tys.data as137) : Option (Tys.data rs137) := (t137 d.1 d.2.1.1 d.2.1.2.1).val
def g137 (d : Tys.data as137) : Tys.data rs137 := (f137 d).getD (Tys.dflt rs137)
def p137 : PureC := pcOf as137 rs137 f137 g137

theorem e137_0 (x0 : (List Int)) (x1 : Int) (x1' : Int) : runPure kl167_0.orc Go.Proofs.Try.prog 400 137 as137 rs137 (x0, (x1, x1', ()), ()) [true, true, true] =
    (let r0 : (Int × PUnit) × (Int × Int × PUnit) × (Int × PUnit) × PUnit := r167_0 ((x0, ((↑(List.length x0) : Int), ((0 : Int), ()))), ((x1, (x1', ())), (((List.getD x0 (Int.toNat (wrap64 ((↑(List.length x0) : Int) - (1 : Int)))) (0 : Int) : Int), ()), ()))); some (((r0.fst.fst : Int), ()), [(isRet (l167_0 ((x0, ((↑(List.length x0) : Int), ((0 : Int), ()))), ((x1, (x1', ())), (((List.getD x0 (Int.toNat (wrap64 ((↑(List.length x0) : Int) - (1 : Int)))) (0 : Int) : Int), ()), ())))), true), (Option.isSome (l167_0 ((x0, ((↑(List.length x0) : Int), ((0 : Int), ()))), ((x1, (x1', ())), (((List.getD x0 (Int.toNat (wrap64 ((↑(List.length x0) : Int) - (1 : Int)))) (0 : Int) : Int), ()), ())))), true), ((decide ((0 : Int) ≤ wrap64 ((↑(List.length x0) : Int) - (1 : Int))) && decide (wrap64 ((↑(List.length x0) : Int) - (1 : Int)) < (↑(List.length x0) : Int)) : Bool), true)])) := by kernel_rfl
theorem e137_1 (x0 : (List Int)) (x1 : Int) (x1' : Int) : runPure kl167_0.orc Go.Proofs.Try.prog 400 137 as137 rs137 (x0, (x1, x1', ()), ()) [true, true, false] =
    (some (((-1 : Int), ()), [(isRet (l167_0 ((x0, ((↑(List.length x0) : Int), ((0 : Int), ()))), ((x1, (x1', ())), (((List.getD x0 (Int.toNat (wrap64 ((↑(List.length x0) : Int) - (1 : Int)))) (0 : Int) : Int), ()), ())))), false), (Option.isSome (l167_0 ((x0, ((↑(List.length x0) : Int), ((0 : Int), ()))), ((x1, (x1', ())), (((List.getD x0 (Int.toNat (wrap64 ((↑(List.length x0) : Int) - (1 : Int)))) (0 : Int) : Int), ()), ())))), true), ((decide ((0 : Int) ≤ wrap64 ((↑(List.length x0) : Int) - (1 : Int))) && decide (wrap64 ((↑(List.length x0) : Int) - (1 : Int)) < (↑(List.length x0) : Int)) : Bool), true)])) := by kernel_rfl

theorem ok137_t (x0 : (List Int)) (x1 : Int) (x1' : Int) : TrOk (PureRuns Go.Proofs.Try.prog kl167_0.orc 137 as137 rs137 (x0, (x1, x1', ()), ())) (t137 x0 x1 x1') :=
  TrOk.ofTest (fun h0 => TrOk.ofTest (fun h1 => TrOk.ofTest (fun h2 => TrOk.ofFin (PureRuns.of (e137_0 x0 x1 x1') (All.cons h2 (All.cons h1 (All.cons h0 (All.nil)))))) (fun h2 => TrOk.ofFin (PureRuns.of (e137_1 x0 x1 x1') (All.cons h2 (All.cons h1 (All.cons h0 (All.nil))))))) (fun h1 => TrOk.ofStop)) (fun h0 => TrOk.ofStop)

theorem ok137 : PureOk Go.Proofs.Try.prog 137 p137 := pureOk_of kl167_0_ok.base (T := fun (d : Tys.data as137) => t137 d.1 d.2.1.1 d.2.1.2.1) (by kernel_rfl) (fun (d : Tys.data as137) => ok137_t d.1 d.2.1.1 d.2.1.2.1)
def kf137 : Known := kl167_0.func 137 p137
theorem kf137_ok : KnownOk Go.Proofs.Try.prog kf137 := kl167_0_ok.func ok137

/-! ductility/motion.DurationOf -/

abbrev as79 : List Ty := [(.pair (.int .i64) (.pair (.slice (.int .i64)) .unit)), (.pair (.pair (.int .i64) (.pair (.int .i64) .unit)) (.pair (.pair (.int .i64) (.pair (.int .i64) .unit)) .unit))]
abbrev rs79 : List Ty := [(.pair (.int .i64) (.pair (.int .i64) .unit)), (.int .i64)]

def t79 (x0 : Int) (x0' : (List Int)) (x1_ : Int) (x1_' : Int) (x1'_ : Int) (x1'_' : Int) : Tr (Tys.data rs79) :=
  Tr.test (Option.isSome (f88 ((x0, (x0', ())), ())))
    (Tr.test (Option.isSome (f134 ((x1_, (x1_', ())), ())))
      (Tr.test (Option.isSome (f134 ((x1'_, (x1'_', ())), ())))
        (let r0 : Int × PUnit := g88 ((x0, (x0', ())), ());
        let r1 : Int × PUnit := g134 ((x1_, (x1_', ())), ());
        let r2 : Int × PUnit := g134 ((x1'_, (x1'_', ())), ());
        Tr.test (Option.isSome (f85 (([r0.fst, r1.fst, r2.fst] : List Int), ())))
          (Tr.test (Option.isSome (f135 ((x1'_, (x1'_', ())), ((x1_, (x1_', ())), ()))))
            (let r4 : Bool × PUnit := g135 ((x1'_, (x1'_', ())), ((x1_, (x1_', ())), ()));
            Tr.test (Option.isSome (f86 ((r4.fst : Bool), ((9 : Int), ()))))
              (let r3 : Int × PUnit := g85 (([r0.fst, r1.fst, r2.fst] : List Int), ());
              let r5 : Int × PUnit := g86 ((r4.fst : Bool), ((9 : Int), ()));
              Tr.test (Option.isSome (f85 (([r3.fst, r5.fst] : List Int), ())))
                (let r6 : Int × PUnit := g85 (([r3.fst, r5.fst] : List Int), ());
                Tr.test ((!eqF r6.fst (0 : Int) : Bool))
                  (Tr.fin ((((0 : Int), ((0 : Int), ())), ((r6.fst : Int), ()))))
                  (Tr.test (Option.isSome (f136 (x0', ())))
                    (let r7 : List Int × PUnit := g136 (x0', ());
                    Tr.test (Option.isSome (f137 ((r7.fst : List Int), ((x1_, (x1_', ())), ()))))
                      (Tr.test (Option.isSome (f137 ((r7.fst : List Int), ((x1'_, (x1'_', ())), ()))))
                        (let r8 : Int × PUnit := g137 ((r7.fst : List Int), ((x1_, (x1_', ())), ()));
                        let r9 : Int × PUnit := g137 ((r7.fst : List Int), ((x1'_, (x1'_', ())), ()));
                        Tr.fin ((((r8.fst : Int), ((r9.fst : Int), ())), ((0 : Int), ()))))
                        (Tr.stop))
                      (Tr.stop))
                    (Tr.stop)))
                (Tr.stop))
              (Tr.stop))
            (Tr.stop))
          (Tr.stop))
        (Tr.stop))
      (Tr.stop))
    (Tr.stop)

def f79 (d : Tys.data as79) : Option (Tys.data rs79) := (t79 d.1.1 d.1.2.1 d.2.1.1.1 d.2.1.1.2.1 d.2.1.2.1.1 d.2.1.2.1.2.1).val
def g79 (d : Tys.data as79) : Tys.data rs79 := (f79 d).getD (Tys.dflt rs79)
def p79 : PureC := pcOf as79 rs79 f79 g79

theorem e79_0 (x0 : Int) (x0' : (List Int)) (x1_ : Int) (x1_' : Int) (x1'_ : Int) (x1'_' : Int) : runPure kf137.orc Go.Proofs.Try.prog 400 79 as79 rs79 ((x0, x0', ()), ((x1_, x1_', ()), (x1'_, x1'_', ()), ()), ()) [true, true, true, true, true, true, true, true, true, true] =
    (let r0 : Int × PUnit := g88 ((x0, (x0', ())), ()); let r1 : Int × PUnit := g134 ((x1_, (x1_', ())), ()); let r2 : Int × PUnit := g134 ((x1'_, (x1'_', ())), ()); let r4 : Bool × PUnit := g135 ((x1'_, (x1'_', ())), ((x1_, (x1_', ())), ())); let r3 : Int × PUnit := g85 (([r0.fst, r1.fst, r2.fst] : List Int), ()); let r5 : Int × PUnit := g86 ((r4.fst : Bool), ((9 : Int), ())); let r6 : Int × PUnit := g85 (([r3.fst, r5.fst] : List Int), ()); some ((((0 : Int), ((0 : Int), ())), ((r6.fst : Int), ())), [((!eqF r6.fst (0 : Int) : Bool), true), (Option.isSome (f85 (([r3.fst, r5.fst] : List Int), ())), true), ((true : Bool), true), (Option.isSome (f86 ((r4.fst : Bool), ((9 : Int), ()))), true), (Option.isSome (f135 ((x1'_, (x1'_', ())), ((x1_, (x1_', ())), ()))), true), (Option.isSome (f85 (([r0.fst, r1.fst, r2.fst] : List Int), ())), true), ((true : Bool), true), (Option.isSome (f134 ((x1'_, (x1'_', ())), ())), true), (Option.isSome (f134 ((x1_, (x1_', ())), ())), true), (Option.isSome (f88 ((x0, (x0', ())), ())), true)])) := by kernel_rfl
theorem e79_1 (x0 : Int) (x0' : (List Int)) (x1_ : Int) (x1_' : Int) (x1'_ : Int) (x1'_' : Int) : runPure kf137.orc Go.Proofs.Try.prog 400 79 as79 rs79 ((x0, x0', ()), ((x1_, x1_', ()), (x1'_, x1'_', ()), ()), ()) [true, true, true, true, true, true, true, true, true, false, true, true, true] =
    (let r0 : Int × PUnit := g88 ((x0, (x0', ())), ()); let r1 : Int × PUnit := g134 ((x1_, (x1_', ())), ()); let r2 : Int × PUnit := g134 ((x1'_, (x1'_', ())), ()); let r4 : Bool × PUnit := g135 ((x1'_, (x1'_', ())), ((x1_, (x1_', ())), ())); let r3 : Int × PUnit := g85 (([r0.fst, r1.fst, r2.fst] : List Int), ()); let r5 : Int × PUnit := g86 ((r4.fst : Bool), ((9 : Int), ())); let r6 : Int × PUnit := g85 (([r3.fst, r5.fst] : List Int), ()); let r7 : List Int × PUnit := g136 (x0', ()); let r8 : Int × PUnit := g137 ((r7.fst : List Int), ((x1_, (x1_', ())), ())); let r9 : Int × PUnit := g137 ((r7.fst : List Int), ((x1'_, (x1'_', ())), ())); some ((((r8.fst : Int), ((r9.fst : Int), ())), ((0 : Int), ())), [(Option.isSome (f137 ((r7.fst : List Int), ((x1'_, (x1'_', ())), ()))), true), (Option.isSome (f137 ((r7.fst : List Int), ((x1_, (x1_', ())), ()))), true), (Option.isSome (f136 (x0', ())), true), ((!eqF r6.fst (0 : Int) : Bool), false), (Option.isSome (f85 (([r3.fst, r5.fst] : List Int), ())), true), ((true : Bool), true), (Option.isSome (f86 ((r4.fst : Bool), ((9 : Int), ()))), true), (Option.isSome (f135 ((x1'_, (x1'_', ())), ((x1_, (x1_', ())), ()))), true), (Option.isSome (f85 (([r0.fst, r1.fst, r2.fst] : List Int), ())), true), ((true : Bool), true), (Option.isSome (f134 ((x1'_, (x1'_', ())), ())), true), (Option.isSome (f134 ((x1_, (x1_', ())), ())), true), (Option.isSome (f88 ((x0, (x0', ())), ())), true)])) := by kernel_rfl

theorem ok79_t (x0 : Int) (x0' : (List Int)) (x1_ : Int) (x1_' : Int) (x1'_ : Int) (x1'_' : Int) : TrOk (PureRuns Go.Proofs.Try.prog kf137.orc 79 as79 rs79 ((x0, x0', ()), ((x1_, x1_', ()), (x1'_, x1'_', ()), ()), ())) (t79 x0 x0' x1_ x1_' x1'_ x1'_') :=
  TrOk.ofTest (fun h0 => TrOk.ofTest (fun h1 => TrOk.ofTest (fun h2 => TrOk.ofTest (fun h4 => TrOk.ofTest (fun h5 => TrOk.ofTest (fun h6 => TrOk.ofTest (fun h8 => TrOk.ofTest (fun h9 => TrOk.ofFin (PureRuns.of (e79_0 x0 x0' x1_ x1_' x1'_ x1'_') (All.cons h9 (All.cons h8 (All.cons rfl (All.cons h6 (All.cons h5 (All.cons h4 (All.cons rfl (All.cons h2 (All.cons h1 (All.cons h0 (All.nil))))))))))))) (fun h9 => TrOk.ofTest (fun h10 => TrOk.ofTest (fun h11 => TrOk.ofTest (fun h12 => TrOk.ofFin (PureRuns.of (e79_1 x0 x0' x1_ x1_' x1'_ x1'_') (All.cons h12 (All.cons h11 (All.cons h10 (All.cons h9 (All.cons h8 (All.cons rfl (All.cons h6 (All.cons h5 (All.cons h4 (All.cons rfl (All.cons h2 (All.cons h1 (All.cons h0 (All.nil)))))))))))))))) (fun h12 => TrOk.ofStop)) (fun h11 => TrOk.ofStop)) (fun h10 => TrOk.ofStop))) (fun h8 => TrOk.ofStop)) (fun h6 => TrOk.ofStop)) (fun h5 => TrOk.ofStop)) (fun h4 => TrOk.ofStop)) (fun h2 => TrOk.ofStop)) (fun h1 => TrOk.ofStop)) (fun h0 => TrOk.ofStop)

theorem ok79 : PureOk Go.Proofs.Try.prog 79 p79 := pureOk_of kf137_ok.base (T := fun (d : Tys.data as79) => t79 d.1.1 d.1.2.1 d.2.1.1.1 d.2.1.1.2.1 d.2.1.2.1.1 d.2.1.2.1.2.1) (by kernel_rfl) (fun (d : Tys.data as79) => ok79_t d.1.1 d.1.2.1 d.2.1.1.1 d.2.1.1.2.1 d.2.1.2.1.1 d.2.1.2.1.2.1)
def kf79 : Known := kf137.func 79 p79
theorem kf79_ok : KnownOk Go.Proofs.Try.prog kf79 := kf137_ok.func ok79

/-! ductility/ductilitybase.Within -/

abbrev as47 : List Ty := [(.int .i64), (.int .i64), (.int .i64)]
abbrev rs47 : List Ty := [.bool]

def t47 (x0 : Int) (x1 : Int) (x2 : Int) : Tr (Tys.data rs47) :=
  Tr.test ((leF x1 x0 : Bool))
    (Tr.fin (((leF x0 x2 : Bool), ())))
    (Tr.fin (((false : Bool), ())))

def f47 (d : Tys.data as47) : Option (Tys.data rs47) := (t47 d.1 d.2.1 d.2.2.1).val
def g47 (d : Tys.data as47) : Tys.data rs47 := (f47 d).getD (Tys.dflt rs47)
def p47 : PureC := pcOf as47 rs47 f47 g47

theorem e47_0 (x0 : Int) (x1 : Int) (x2 : Int) : runPure kf79.orc Go.Proofs.Try.prog 400 47 as47 rs47 (x0, x1, x2, ()) [true, true, true, true] =
    (some (((leF x0 x2 : Bool), ()), [((leF x1 x0 : Bool), true), ((leF x1 x0 : Bool), true), ((leF x1 x0 : Bool), true), ((leF x1 x0 : Bool), true)])) := by kernel_rfl
theorem e47_1 (x0 : Int) (x1 : Int) (x2 : Int) : runPure kf79.orc Go.Proofs.Try.prog 400 47 as47 rs47 (x0, x1, x2, ()) [false, false, false, false] =
    (some (((false : Bool), ()), [((leF x1 x0 : Bool), false), ((leF x1 x0 : Bool), false), ((leF x1 x0 : Bool), false), ((leF x1 x0 : Bool), false)])) := by kernel_rfl

theorem ok47_t (x0 : Int) (x1 : Int) (x2 : Int) : TrOk (PureRuns Go.Proofs.Try.prog kf79.orc 47 as47 rs47 (x0, x1, x2, ())) (t47 x0 x1 x2) :=
  TrOk.ofTest (fun h0 => TrOk.ofFin (PureRuns.of (e47_0 x0 x1 x2) (All.cons (h0) (All.cons (h0) (All.cons (h0) (All.cons h0 (All.nil))))))) (fun h0 => TrOk.ofFin (PureRuns.of (e47_1 x0 x1 x2) (All.cons (h0) (All.cons (h0) (All.cons (h0) (All.cons h0 (All.nil)))))))

theorem ok47 : PureOk Go.Proofs.Try.prog 47 p47 := pureOk_of kf79_ok.base (T := fun (d : Tys.data as47) => t47 d.1 d.2.1 d.2.2.1) (by kernel_rfl) (fun (d : Tys.data as47) => ok47_t d.1 d.2.1 d.2.2.1)
def kf47 : Known := kf79.func 47 p47
theorem kf47_ok : KnownOk Go.Proofs.Try.prog kf47 := kf79_ok.func ok47

/-! ductility/ductilityref02.IsSample -/

abbrev as54 : List Ty := [(.int .i64)]
abbrev rs54 : List Ty := [.bool]

def t54 (x0 : Int) : Tr (Tys.data rs54) :=
  Tr.test (Option.isSome (f47 (x0, ((-1000 : Int), ((1000 : Int), ())))))
    (let r0 : Bool × PUnit := g47 (x0, ((-1000 : Int), ((1000 : Int), ())));
    Tr.fin (((r0.fst : Bool), ())))
    (Tr.stop)

def f54 (d : Tys.data as54) : Option (Tys.data rs54) := (t54 d.1).val
def g54 (d : Tys.data as54) : Tys.data rs54 := (f54 d).getD (Tys.dflt rs54)
def p54 : PureC := pcOf as54 rs54 f54 g54

theorem e54_0 (x0 : Int) : runPure kf47.orc Go.Proofs.Try.prog 400 54 as54 rs54 (x0, ()) [true] =
    (let r0 : Bool × PUnit := g47 (x0, ((-1000 : Int), ((1000 : Int), ()))); some (((r0.fst : Bool), ()), [(Option.isSome (f47 (x0, ((-1000 : Int), ((1000 : Int), ())))), true)])) := by kernel_rfl

theorem ok54_t (x0 : Int) : TrOk (PureRuns Go.Proofs.Try.prog kf47.orc 54 as54 rs54 (x0, ())) (t54 x0) :=
  TrOk.ofTest (fun h0 => TrOk.ofFin (PureRuns.of (e54_0 x0) (All.cons h0 (All.nil)))) (fun h0 => TrOk.ofStop)

theorem ok54 : PureOk Go.Proofs.Try.prog 54 p54 := pureOk_of kf47_ok.base (T := fun (d : Tys.data as54) => t54 d.1) (by kernel_rfl) (fun (d : Tys.data as54) => ok54_t d.1)
def kf54 : Known := kf47.func 54 p54
theorem kf54_ok : KnownOk Go.Proofs.Try.prog kf54 := kf47_ok.func ok54

/-! loop 0 of ductility/ductilityref02.CheckRecord -/

abbrev sh22_0 : Sh := { n := 32, slots := [1, 4], pats := [.ptr 0 2 0, .ty (.int .i64)], boxes := [.row [.ty (.int .i64), .ty (.slice (.int .i64))]] }
abbrev shb22_0 : Sh := { n := 32, slots := [], pats := [], boxes := [.row [.ty (.int .i64), .ty (.slice (.int .i64))]] }
abbrev shr22_0 : Sh := { n := 32, slots := [2, 3], pats := [.ty (.int .i64), .ty (.int .i64)], boxes := [.row [.ty (.int .i64), .ty (.slice (.int .i64))]] }

def t22_0 (x1 : Int) (b0_0 : Int) (b0_1 : (List Int)) : Tr (Out sh22_0.data shb22_0.data shr22_0.data) :=
  Tr.test ((!leF (↑(List.length b0_1) : Int) x1 : Bool))
    (Tr.test ((decide ((0 : Int) ≤ x1) && decide (x1 < (↑(List.length b0_1) : Int)) : Bool))
      (Tr.test (Option.isSome (f54 ((List.getD b0_1 (Int.toNat x1) (0 : Int) : Int), ())))
        (let r0 : Bool × PUnit := g54 ((List.getD b0_1 (Int.toNat x1) (0 : Int) : Int), ());
        Tr.test ((!r0.fst : Bool))
          (Tr.fin (.ret ((x1, ((2 : Int), ())), ((b0_0, (b0_1, ())), ()))))
          (Tr.fin (.again (((wrap64 (x1 + (1 : Int)) : Int), ()), ((b0_0, (b0_1, ())), ())))))
        (Tr.stop))
      (Tr.stop /- none [op 3 of region 10 of F22] -/))
    (Tr.fin (.brk ((), ((b0_0, (b0_1, ())), ()))))

def s22_0 (d : sh22_0.data) : Option (Out sh22_0.data shb22_0.data shr22_0.data) := (t22_0 d.1.1 d.2.1.1 d.2.1.2.1).val
def l22_0 (d : sh22_0.data) : Option (shb22_0.data ⊕ shr22_0.data) := itr s22_0 rounds d
def b22_0 (d : sh22_0.data) : shb22_0.data := outB shb22_0.dflt (l22_0 d)
def r22_0 (d : sh22_0.data) : shr22_0.data := outR shr22_0.dflt (l22_0 d)
def lc22_0 : LoopC := lcOf sh22_0 shb22_0 shr22_0 l22_0 b22_0 r22_0

theorem e22_0_0 (x1 : Int) (b0_0 : Int) (b0_1 : (List Int)) : runBody kf54.orc Go.Proofs.Try.prog 400 22 0 sh22_0 shb22_0 shr22_0 ((x1, ()), (b0_0, b0_1, ()), ()) [true, true, true, true] =
    (let r0 : Bool × PUnit := g54 ((List.getD b0_1 (Int.toNat x1) (0 : Int) : Int), ()); some (.ret ((x1, ((2 : Int), ())), ((b0_0, (b0_1, ())), ())), [((!r0.fst : Bool), true), (Option.isSome (f54 ((List.getD b0_1 (Int.toNat x1) (0 : Int) : Int), ())), true), ((decide ((0 : Int) ≤ x1) && decide (x1 < (↑(List.length b0_1) : Int)) : Bool), true), ((!leF (↑(List.length b0_1) : Int) x1 : Bool), true)])) := by kernel_rfl
theorem e22_0_1 (x1 : Int) (b0_0 : Int) (b0_1 : (List Int)) : runBody kf54.orc Go.Proofs.Try.prog 400 22 0 sh22_0 shb22_0 shr22_0 ((x1, ()), (b0_0, b0_1, ()), ()) [true, true, true, false] =
    (let r0 : Bool × PUnit := g54 ((List.getD b0_1 (Int.toNat x1) (0 : Int) : Int), ()); some (.again (((wrap64 (x1 + (1 : Int)) : Int), ()), ((b0_0, (b0_1, ())), ())), [((!r0.fst : Bool), false), (Option.isSome (f54 ((List.getD b0_1 (Int.toNat x1) (0 : Int) : Int), ())), true), ((decide ((0 : Int) ≤ x1) && decide (x1 < (↑(List.length b0_1) : Int)) : Bool), true), ((!leF (↑(List.length b0_1) : Int) x1 : Bool), true)])) := by kernel_rfl
theorem e22_0_3 (x1 : Int) (b0_0 : Int) (b0_1 : (List Int)) : runBody kf54.orc Go.Proofs.Try.prog 400 22 0 sh22_0 shb22_0 shr22_0 ((x1, ()), (b0_0, b0_1, ()), ()) [false] =
    (some (.brk ((), ((b0_0, (b0_1, ())), ())), [((!leF (↑(List.length b0_1) : Int) x1 : Bool), false)])) := by kernel_rfl

theorem ok22_0_t (x1 : Int) (b0_0 : Int) (b0_1 : (List Int)) : TrOk (BodyRuns Go.Proofs.Try.prog kf54.orc 22 0 sh22_0 shb22_0 shr22_0 ((x1, ()), (b0_0, b0_1, ()), ())) (t22_0 x1 b0_0 b0_1) :=
  TrOk.ofTest (fun h0 => TrOk.ofTest (fun h1 => TrOk.ofTest (fun h2 => TrOk.ofTest (fun h3 => TrOk.ofFin (BodyRuns.of (e22_0_0 x1 b0_0 b0_1) (All.cons h3 (All.cons h2 (All.cons h1 (All.cons h0 (All.nil))))))) (fun h3 => TrOk.ofFin (BodyRuns.of (e22_0_1 x1 b0_0 b0_1) (All.cons h3 (All.cons h2 (All.cons h1 (All.cons h0 (All.nil)))))))) (fun h2 => TrOk.ofStop)) (fun h1 => TrOk.ofStop)) (fun h0 => TrOk.ofFin (BodyRuns.of (e22_0_3 x1 b0_0 b0_1) (All.cons h0 (All.nil))))

theorem ok22_0 : LoopOk Go.Proofs.Try.prog 22 0 lc22_0 := loopOk_of kf54_ok.base (T := fun (d : sh22_0.data) => t22_0 d.1.1 d.2.1.1 d.2.1.2.1) (by kernel_rfl) rfl (fun (d : sh22_0.data) => ok22_0_t d.1.1 d.2.1.1 d.2.1.2.1) (fun _ => rfl)
def kl22_0 : Known := kf54.loop 22 0 lc22_0
theorem kl22_0_ok : KnownOk Go.Proofs.Try.prog kl22_0 := kf54_ok.loop ok22_0

/-! ductility/ductilityref02.CheckRecord -/

abbrev as22 : List Ty := [(.pair (.int .i64) (.pair (.slice (.int .i64)) .unit))]
abbrev rs22 : List Ty := [(.int .i64), (.int .i64)]

def t22 (x0 : Int) (x0' : (List Int)) : Tr (Tys.data rs22) :=
  Tr.test (Option.isSome (f47 (x0, ((1 : Int), ((1000000 : Int), ())))))
    (let r0 : Bool × PUnit := g47 (x0, ((1 : Int), ((1000000 : Int), ())));
    Tr.test ((!r0.fst : Bool))
      (Tr.fin (((0 : Int), ((2 : Int), ()))))
      (Tr.test ((!leF (2 : Int) (↑(List.length x0') : Int) : Bool))
        (Tr.fin (((0 : Int), ((10 : Int), ()))))
        (Tr.test ((!leF (↑(List.length x0') : Int) (24 : Int) : Bool))
          (Tr.fin (((0 : Int), ((8 : Int), ()))))
          (Tr.test (Option.isSome (l22_0 (((0 : Int), ()), ((x0, (x0', ())), ()))))
            (Tr.test (isRet (l22_0 (((0 : Int), ()), ((x0, (x0', ())), ()))))
              (let r1 : (Int × Int × PUnit) × (Int × List Int × PUnit) × PUnit := r22_0 (((0 : Int), ()), ((x0, (x0', ())), ()));
              Tr.fin (((r1.fst.fst : Int), ((r1.fst.snd.fst : Int), ()))))
              (Tr.fin (((0 : Int), ((0 : Int), ())))))
            (Tr.stop)))))
    (Tr.stop)

def f22 (d : Tys.data as22) : Option (Tys.data rs22) := (t22 d.1.1 d.1.2.1).val
def g22 (d : Tys.data as22) : Tys.data rs22 := (f22 d).getD (Tys.dflt rs22)
def p22 : PureC := pcOf as22 rs22 f22 g22

theorem e22_0 (x0 : Int) (x0' : (List Int)) : runPure kl22_0.orc Go.Proofs.Try.prog 400 22 as22 rs22 ((x0, x0', ()), ()) [true, true] =
    (let r0 : Bool × PUnit := g47 (x0, ((1 : Int), ((1000000 : Int), ()))); some (((0 : Int), ((2 : Int), ())), [((!r0.fst : Bool), true), (Option.isSome (f47 (x0, ((1 : Int), ((1000000 : Int), ())))), true)])) := by kernel_rfl
theorem e22_1 (x0 : Int) (x0' : (List Int)) : runPure kl22_0.orc Go.Proofs.Try.prog 400 22 as22 rs22 ((x0, x0', ()), ()) [true, false, true] =
    (let r0 : Bool × PUnit := g47 (x0, ((1 : Int), ((1000000 : Int), ()))); some (((0 : Int), ((10 : Int), ())), [((!leF (2 : Int) (↑(List.length x0') : Int) : Bool), true), ((!r0.fst : Bool), false), (Option.isSome (f47 (x0, ((1 : Int), ((1000000 : Int), ())))), true)])) := by kernel_rfl
theorem e22_2 (x0 : Int) (x0' : (List Int)) : runPure kl22_0.orc Go.Proofs.Try.prog 400 22 as22 rs22 ((x0, x0', ()), ()) [true, false, false, true] =
    (let r0 : Bool × PUnit := g47 (x0, ((1 : Int), ((1000000 : Int), ()))); some (((0 : Int), ((8 : Int), ())), [((!leF (↑(List.length x0') : Int) (24 : Int) : Bool), true), ((!leF (2 : Int) (↑(List.length x0') : Int) : Bool), false), ((!r0.fst : Bool), false), (Option.isSome (f47 (x0, ((1 : Int), ((1000000 : Int), ())))), true)])) := by kernel_rfl
theorem e22_3 (x0 : Int) (x0' : (List Int)) : runPure kl22_0.orc Go.Proofs.Try.prog 400 22 as22 rs22 ((x0, x0', ()), ()) [true, false, false, false, true, true] =
    (let r0 : Bool × PUnit := g47 (x0, ((1 : Int), ((1000000 : Int), ()))); let r1 : (Int × Int × PUnit) × (Int × List Int × PUnit) × PUnit := r22_0 (((0 : Int), ()), ((x0, (x0', ())), ())); some (((r1.fst.fst : Int), ((r1.fst.snd.fst : Int), ())), [(isRet (l22_0 (((0 : Int), ()), ((x0, (x0', ())), ()))), true), (Option.isSome (l22_0 (((0 : Int), ()), ((x0, (x0', ())), ()))), true), ((!leF (↑(List.length x0') : Int) (24 : Int) : Bool), false), ((!leF (2 : Int) (↑(List.length x0') : Int) : Bool), false), ((!r0.fst : Bool), false), (Option.isSome (f47 (x0, ((1 : Int), ((1000000 : Int), ())))), true)])) := by kernel_rfl
theorem e22_4 (x0 : Int) (x0' : (List Int)) : runPure kl22_0.orc Go.Proofs.Try.prog 400 22 as22 rs22 ((x0, x0', ()), ()) [true, false, false, false, true, false] =
    (let r0 : Bool × PUnit := g47 (x0, ((1 : Int), ((1000000 : Int), ()))); some (((0 : Int), ((0 : Int), ())), [(isRet (l22_0 (((0 : Int), ()), ((x0, (x0', ())), ()))), false), (Option.isSome (l22_0 (((0 : Int), ()), ((x0, (x0', ())), ()))), true), ((!leF (↑(List.length x0') : Int) (24 : Int) : Bool), false), ((!leF (2 : Int) (↑(List.length x0') : Int) : Bool), false), ((!r0.fst : Bool), false), (Option.isSome (f47 (x0, ((1 : Int), ((1000000 : Int), ())))), true)])) := by kernel_rfl

theorem ok22_t (x0 : Int) (x0' : (List Int)) : TrOk (PureRuns Go.Proofs.Try.prog kl22_0.orc 22 as22 rs22 ((x0, x0', ()), ())) (t22 x0 x0') :=
  TrOk.ofTest (fun h0 => TrOk.ofTest (fun h1 => TrOk.ofFin (PureRuns.of (e22_0 x0 x0') (All.cons h1 (All.cons h0 (All.nil))))) (fun h1 => TrOk.ofTest (fun h2 => TrOk.ofFin (PureRuns.of (e22_1 x0 x0') (All.cons h2 (All.cons h1 (All.cons h0 (All.nil)))))) (fun h2 => TrOk.ofTest (fun h3 => TrOk.ofFin (PureRuns.of (e22_2 x0 x0') (All.cons h3 (All.cons h2 (All.cons h1 (All.cons h0 (All.nil))))))) (fun h3 => TrOk.ofTest (fun h4 => TrOk.ofTest (fun h5 => TrOk.ofFin (PureRuns.of (e22_3 x0 x0') (All.cons h5 (All.cons h4 (All.cons h3 (All.cons h2 (All.cons h1 (All.cons h0 (All.nil))))))))) (fun h5 => TrOk.ofFin (PureRuns.of (e22_4 x0 x0') (All.cons h5 (All.cons h4 (All.cons h3 (All.cons h2 (All.cons h1 (All.cons h0 (All.nil)))))))))) (fun h4 => TrOk.ofStop))))) (fun h0 => TrOk.ofStop)

theorem ok22 : PureOk Go.Proofs.Try.prog 22 p22 := pureOk_of kl22_0_ok.base (T := fun (d : Tys.data as22) => t22 d.1.1 d.1.2.1) (by kernel_rfl) (fun (d : Tys.data as22) => ok22_t d.1.1 d.1.2.1)
def kf22 : Known := kl22_0.func 22 p22
theorem kf22_ok : KnownOk Go.Proofs.Try.prog kf22 := kl22_0_ok.func ok22

/-! ductility/ductilityref02.RecordErr -/

abbrev as29 : List Ty := [(.pair (.int .i64) (.pair (.slice (.int .i64)) .unit))]
abbrev rs29 : List Ty := [(.int .i64)]

def t29 (x0 : Int) (x0' : (List Int)) : Tr (Tys.data rs29) :=
  Tr.test (Option.isSome (f22 ((x0, (x0', ())), ())))
    (let r0 : Int × Int × PUnit := g22 ((x0, (x0', ())), ());
    Tr.fin (((r0.snd.fst : Int), ())))
    (Tr.stop)

def f29 (d : Tys.data as29) : Option (Tys.data rs29) := (t29 d.1.1 d.1.2.1).val
def g29 (d : Tys.data as29) : Tys.data rs29 := (f29 d).getD (Tys.dflt rs29)
def p29 : PureC := pcOf as29 rs29 f29 g29

theorem e29_0 (x0 : Int) (x0' : (List Int)) : runPure kf22.orc Go.Proofs.Try.prog 400 29 as29 rs29 ((x0, x0', ()), ()) [true] =
    (let r0 : Int × Int × PUnit := g22 ((x0, (x0', ())), ()); some (((r0.snd.fst : Int), ()), [(Option.isSome (f22 ((x0, (x0', ())), ())), true)])) := by kernel_rfl

theorem ok29_t (x0 : Int) (x0' : (List Int)) : TrOk (PureRuns Go.Proofs.Try.prog kf22.orc 29 as29 rs29 ((x0, x0', ()), ())) (t29 x0 x0') :=
  TrOk.ofTest (fun h0 => TrOk.ofFin (PureRuns.of (e29_0 x0 x0') (All.cons h0 (All.nil)))) (fun h0 => TrOk.ofStop)

theorem ok29 : PureOk Go.Proofs.Try.prog 29 p29 := pureOk_of kf22_ok.base (T := fun (d : Tys.data as29) => t29 d.1.1 d.1.2.1) (by kernel_rfl) (fun (d : Tys.data as29) => ok29_t d.1.1 d.1.2.1)
def kf29 : Known := kf22.func 29 p29
theorem kf29_ok : KnownOk Go.Proofs.Try.prog kf29 := kf22_ok.func ok29

/-! ductility/ductilitybase.Size -/

abbrev as131 : List Ty := [(.int .i64)]
abbrev rs131 : List Ty := [(.int .i64)]

def t131 (x0 : Int) : Tr (Tys.data rs131) :=
  Tr.fin (((if x0 < Go.IntKind.wrap Go.IntKind.i64 ((0 : Int) - x0) then Go.IntKind.wrap Go.IntKind.i64 ((0 : Int) - x0) else x0 : Int), ()))

def f131 (d : Tys.data as131) : Option (Tys.data rs131) := (t131 d.1).val
def g131 (d : Tys.data as131) : Tys.data rs131 := (f131 d).getD (Tys.dflt rs131)
def p131 : PureC := pcOf as131 rs131 f131 g131

theorem e131_0 (x0 : Int) : runPure kf29.orc Go.Proofs.Try.prog 400 131 as131 rs131 (x0, ()) [] =
    (some (((if x0 < Go.IntKind.wrap Go.IntKind.i64 ((0 : Int) - x0) then Go.IntKind.wrap Go.IntKind.i64 ((0 : Int) - x0) else x0 : Int), ()), [])) := by kernel_rfl

theorem ok131_t (x0 : Int) : TrOk (PureRuns Go.Proofs.Try.prog kf29.orc 131 as131 rs131 (x0, ())) (t131 x0) :=
  TrOk.ofFin (PureRuns.of (e131_0 x0) (All.nil))

theorem ok131 : PureOk Go.Proofs.Try.prog 131 p131 := pureOk_of kf29_ok.base (T := fun (d : Tys.data as131) => t131 d.1) (by kernel_rfl) (fun (d : Tys.data as131) => ok131_t d.1)
def kf131 : Known := kf29.func 131 p131
theorem kf131_ok : KnownOk Go.Proofs.Try.prog kf131 := kf29_ok.func ok131

/-! loop 0 of ductility/ductilitybase.Gcd -/

abbrev sh142_0 : Sh := { n := 13, slots := [0, 1], pats := [.ty (.int .i64), .ty (.int .i64)], boxes := [] }
abbrev shb142_0 : Sh := { n := 13, slots := [0], pats := [.ty (.int .i64)], boxes := [] }
abbrev shr142_0 : Sh := { n := 13, slots := [], pats := [], boxes := [] }

def t142_0 (x0 : Int) (x1 : Int) : Tr (Out sh142_0.data shb142_0.data shr142_0.data) :=
  Tr.test ((!eqF x1 (0 : Int) : Bool))
    (Tr.test ((x1 == (0 : Int) : Bool))
      (Tr.stop /- none [op 3 of region 2 of F142] -/)
      (Tr.fin (.again ((x1, ((Int.tmod x0 x1 : Int), ())), ()))))
    (Tr.fin (.brk ((x0, ()), ())))

def s142_0 (d : sh142_0.data) : Option (Out sh142_0.data shb142_0.data shr142_0.data) := (t142_0 d.1.1 d.1.2.1).val
def l142_0 (d : sh142_0.data) : Option (shb142_0.data ⊕ shr142_0.data) := itr s142_0 rounds d
def b142_0 (d : sh142_0.data) : shb142_0.data := outB shb142_0.dflt (l142_0 d)
def r142_0 (d : sh142_0.data) : shr142_0.data := outR shr142_0.dflt (l142_0 d)
def lc142_0 : LoopC := lcB sh142_0 shb142_0 shr142_0 l142_0 b142_0

theorem e142_0_1 (x0 : Int) (x1 : Int) : runBody kf131.orc Go.Proofs.Try.prog 400 142 0 sh142_0 shb142_0 shr142_0 ((x0, x1, ()), ()) [true, false] =
    (some (.again ((x1, ((Int.tmod x0 x1 : Int), ())), ()), [((x1 == (0 : Int) : Bool), false), ((!eqF x1 (0 : Int) : Bool), true)])) := by kernel_rfl
theorem e142_0_2 (x0 : Int) (x1 : Int) : runBody kf131.orc Go.Proofs.Try.prog 400 142 0 sh142_0 shb142_0 shr142_0 ((x0, x1, ()), ()) [false] =
    (some (.brk ((x0, ()), ()), [((!eqF x1 (0 : Int) : Bool), false)])) := by kernel_rfl

theorem ok142_0_t (x0 : Int) (x1 : Int) : TrOk (BodyRuns Go.Proofs.Try.prog kf131.orc 142 0 sh142_0 shb142_0 shr142_0 ((x0, x1, ()), ())) (t142_0 x0 x1) :=
  TrOk.ofTest (fun h0 => TrOk.ofTest (fun h1 => TrOk.ofStop) (fun h1 => TrOk.ofFin (BodyRuns.of (e142_0_1 x0 x1) (All.cons h1 (All.cons h0 (All.nil)))))) (fun h0 => TrOk.ofFin (BodyRuns.of (e142_0_2 x0 x1) (All.cons h0 (All.nil))))

theorem ok142_0 : LoopOk Go.Proofs.Try.prog 142 0 lc142_0 := loopOk_ofB kf131_ok.base (T := fun (d : sh142_0.data) => t142_0 d.1.1 d.1.2.1) (by kernel_rfl) rfl (fun (d : sh142_0.data) => ok142_0_t d.1.1 d.1.2.1) (fun _ => rfl)
def kl142_0 : Known := kf131.loop 142 0 lc142_0
theorem kl142_0_ok : KnownOk Go.Proofs.Try.prog kl142_0 := kf131_ok.loop ok142_0

/-! ductility/ductilitybase.Gcd -/

abbrev as142 : List Ty := [(.int .i64), (.int .i64)]
abbrev rs142 : List Ty := [(.int .i64)]

def t142 (x0 : Int) (x1 : Int) : Tr (Tys.data rs142) :=
  Tr.test (isBrk (l142_0 ((x0, (x1, ())), ())))
    (let r0 : (Int × PUnit) × PUnit := b142_0 ((x0, (x1, ())), ());
    Tr.test (Option.isSome (f131 ((r0.fst.fst : Int), ())))
      (let r1 : Int × PUnit := g131 ((r0.fst.fst : Int), ());
      Tr.fin (((r1.fst : Int), ())))
      (Tr.stop))
    (Tr.stop)

def f142 (d : Tys.data as142) : Option (Tys.data rs142) := (t142 d.1 d.2.1).val
def g142 (d : Tys.data as142) : Tys.data rs142 := (f142 d).getD (Tys.dflt rs142)
def p142 : PureC := pcOf as142 rs142 f142 g142

theorem e142_0 (x0 : Int) (x1 : Int) : runPure kl142_0.orc Go.Proofs.Try.prog 400 142 as142 rs142 (x0, x1, ()) [true, true, true] =
    (let r0 : (Int × PUnit) × PUnit := b142_0 ((x0, (x1, ())), ()); let r1 : Int × PUnit := g131 ((r0.fst.fst : Int), ()); some (((r1.fst : Int), ()), [(Option.isSome (f131 ((r0.fst.fst : Int), ())), true), ((true : Bool), true), (isBrk (l142_0 ((x0, (x1, ())), ())), true)])) := by kernel_rfl

theorem ok142_t (x0 : Int) (x1 : Int) : TrOk (PureRuns Go.Proofs.Try.prog kl142_0.orc 142 as142 rs142 (x0, x1, ())) (t142 x0 x1) :=
  TrOk.ofTest (fun h0 => TrOk.ofTest (fun h2 => TrOk.ofFin (PureRuns.of (e142_0 x0 x1) (All.cons h2 (All.cons rfl (All.cons h0 (All.nil)))))) (fun h2 => TrOk.ofStop)) (fun h0 => TrOk.ofStop)

theorem ok142 : PureOk Go.Proofs.Try.prog 142 p142 := pureOk_of kl142_0_ok.base (T := fun (d : Tys.data as142) => t142 d.1 d.2.1) (by kernel_rfl) (fun (d : Tys.data as142) => ok142_t d.1 d.2.1)
def kf142 : Known := kl142_0.func 142 p142
theorem kf142_ok : KnownOk Go.Proofs.Try.prog kf142 := kl142_0_ok.func ok142

/-! ductility/ductilitybase.IsLowest -/

abbrev as169 : List Ty := [(.pair (.int .i64) (.pair (.int .i64) .unit))]
abbrev rs169 : List Ty := [.bool]

def t169 (x0 : Int) (x0' : Int) : Tr (Tys.data rs169) :=
  Tr.test ((!leF x0' (0 : Int) : Bool))
    (Tr.test (Option.isSome (f142 (x0, (x0', ()))))
      (let r0 : Int × PUnit := g142 (x0, (x0', ()));
      Tr.fin (((eqF r0.fst (1 : Int) : Bool), ())))
      (Tr.stop))
    (Tr.fin (((false : Bool), ())))

def f169 (d : Tys.data as169) : Option (Tys.data rs169) := (t169 d.1.1 d.1.2.1).val
def g169 (d : Tys.data as169) : Tys.data rs169 := (f169 d).getD (Tys.dflt rs169)
def p169 : PureC := pcOf as169 rs169 f169 g169

theorem e169_0 (x0 : Int) (x0' : Int) : runPure kf142.orc Go.Proofs.Try.prog 400 169 as169 rs169 ((x0, x0', ()), ()) [true, true, true, true, true, true, true, true] =
    (let r0 : Int × PUnit := g142 (x0, (x0', ())); some (((eqF r0.fst (1 : Int) : Bool), ()), [((!leF x0' (0 : Int) : Bool), true), ((!leF x0' (0 : Int) : Bool), true), (Option.isSome (f142 (x0, (x0', ()))), true), ((!leF x0' (0 : Int) : Bool), true), ((!leF x0' (0 : Int) : Bool), true), ((!leF x0' (0 : Int) : Bool), true), ((!leF x0' (0 : Int) : Bool), true), ((!leF x0' (0 : Int) : Bool), true)])) := by kernel_rfl
theorem e169_1 (x0 : Int) (x0' : Int) : runPure kf142.orc Go.Proofs.Try.prog 400 169 as169 rs169 ((x0, x0', ()), ()) [false, false, false, false, false, false, false] =
    (some (((false : Bool), ()), [((!leF x0' (0 : Int) : Bool), false), ((!leF x0' (0 : Int) : Bool), false), ((!leF x0' (0 : Int) : Bool), false), ((!leF x0' (0 : Int) : Bool), false), ((!leF x0' (0 : Int) : Bool), false), ((!leF x0' (0 : Int) : Bool), false), ((!leF x0' (0 : Int) : Bool), false)])) := by kernel_rfl

theorem ok169_t (x0 : Int) (x0' : Int) : TrOk (PureRuns Go.Proofs.Try.prog kf142.orc 169 as169 rs169 ((x0, x0', ()), ())) (t169 x0 x0') :=
  TrOk.ofTest (fun h0 => TrOk.ofTest (fun h5 => TrOk.ofFin (PureRuns.of (e169_0 x0 x0') (All.cons (not_of (of_not (h0))) (All.cons (not_of (of_not (h0))) (All.cons h5 (All.cons (not_of (of_not (h0))) (All.cons (not_of (of_not (h0))) (All.cons (not_of (of_not (h0))) (All.cons (not_of (of_not (h0))) (All.cons h0 (All.nil))))))))))) (fun h5 => TrOk.ofStop)) (fun h0 => TrOk.ofFin (PureRuns.of (e169_1 x0 x0') (All.cons (not_of (of_not (h0))) (All.cons (not_of (of_not (h0))) (All.cons (not_of (of_not (h0))) (All.cons (not_of (of_not (h0))) (All.cons (not_of (of_not (h0))) (All.cons (not_of (of_not (h0))) (All.cons h0 (All.nil))))))))))

theorem ok169 : PureOk Go.Proofs.Try.prog 169 p169 := pureOk_of kf142_ok.base (T := fun (d : Tys.data as169) => t169 d.1.1 d.1.2.1) (by kernel_rfl) (fun (d : Tys.data as169) => ok169_t d.1.1 d.1.2.1)
def kf169 : Known := kf142.func 169 p169
theorem kf169_ok : KnownOk Go.Proofs.Try.prog kf169 := kf142_ok.func ok169

/-! ductility/ductilityref02.shareErr -/

abbrev as138 : List Ty := [(.pair (.int .i64) (.pair (.int .i64) .unit))]
abbrev rs138 : List Ty := [(.int .i64)]

def t138 (x0 : Int) (x0' : Int) : Tr (Tys.data rs138) :=
  Tr.test (Option.isSome (f169 ((x0, (x0', ())), ())))
    (let r0 : Bool × PUnit := g169 ((x0, (x0', ())), ());
    Tr.test ((!r0.fst : Bool))
      (Tr.fin (((3 : Int), ())))
      (Tr.test (Option.isSome (f47 (x0, ((0 : Int), (x0', ())))))
        (let r1 : Bool × PUnit := g47 (x0, ((0 : Int), (x0', ())));
        Tr.test ((!r1.fst : Bool))
          (Tr.fin (((2 : Int), ())))
          (Tr.test ((!leF x0' (1000 : Int) : Bool))
            (Tr.fin (((2 : Int), ())))
            (Tr.fin (((0 : Int), ())))))
        (Tr.stop)))
    (Tr.stop)

def f138 (d : Tys.data as138) : Option (Tys.data rs138) := (t138 d.1.1 d.1.2.1).val
def g138 (d : Tys.data as138) : Tys.data rs138 := (f138 d).getD (Tys.dflt rs138)
def p138 : PureC := pcOf as138 rs138 f138 g138

theorem e138_0 (x0 : Int) (x0' : Int) : runPure kf169.orc Go.Proofs.Try.prog 400 138 as138 rs138 ((x0, x0', ()), ()) [true, true] =
    (let r0 : Bool × PUnit := g169 ((x0, (x0', ())), ()); some (((3 : Int), ()), [((!r0.fst : Bool), true), (Option.isSome (f169 ((x0, (x0', ())), ())), true)])) := by kernel_rfl
theorem e138_1 (x0 : Int) (x0' : Int) : runPure kf169.orc Go.Proofs.Try.prog 400 138 as138 rs138 ((x0, x0', ()), ()) [true, false, true, true, true, true, true, true] =
    (let r0 : Bool × PUnit := g169 ((x0, (x0', ())), ()); let r1 : Bool × PUnit := g47 (x0, ((0 : Int), (x0', ()))); some (((2 : Int), ()), [((true : Bool), true), ((!r1.fst : Bool), true), ((!r1.fst : Bool), true), ((!r1.fst : Bool), true), ((!r1.fst : Bool), true), (Option.isSome (f47 (x0, ((0 : Int), (x0', ())))), true), ((!r0.fst : Bool), false), (Option.isSome (f169 ((x0, (x0', ())), ())), true)])) := by kernel_rfl
theorem e138_2 (x0 : Int) (x0' : Int) : runPure kf169.orc Go.Proofs.Try.prog 400 138 as138 rs138 ((x0, x0', ()), ()) [true, false, true, false, false, false, false, true] =
    (let r0 : Bool × PUnit := g169 ((x0, (x0', ())), ()); let r1 : Bool × PUnit := g47 (x0, ((0 : Int), (x0', ()))); some (((2 : Int), ()), [((!leF x0' (1000 : Int) : Bool), true), ((!r1.fst : Bool), false), ((!r1.fst : Bool), false), ((!r1.fst : Bool), false), ((!r1.fst : Bool), false), (Option.isSome (f47 (x0, ((0 : Int), (x0', ())))), true), ((!r0.fst : Bool), false), (Option.isSome (f169 ((x0, (x0', ())), ())), true)])) := by kernel_rfl
theorem e138_3 (x0 : Int) (x0' : Int) : runPure kf169.orc Go.Proofs.Try.prog 400 138 as138 rs138 ((x0, x0', ()), ()) [true, false, true, false, false, false, false, false] =
    (let r0 : Bool × PUnit := g169 ((x0, (x0', ())), ()); let r1 : Bool × PUnit := g47 (x0, ((0 : Int), (x0', ()))); some (((0 : Int), ()), [((!leF x0' (1000 : Int) : Bool), false), ((!r1.fst : Bool), false), ((!r1.fst : Bool), false), ((!r1.fst : Bool), false), ((!r1.fst : Bool), false), (Option.isSome (f47 (x0, ((0 : Int), (x0', ())))), true), ((!r0.fst : Bool), false), (Option.isSome (f169 ((x0, (x0', ())), ())), true)])) := by kernel_rfl

theorem ok138_t (x0 : Int) (x0' : Int) : TrOk (PureRuns Go.Proofs.Try.prog kf169.orc 138 as138 rs138 ((x0, x0', ()), ())) (t138 x0 x0') :=
  TrOk.ofTest (fun h0 => TrOk.ofTest (fun h1 => TrOk.ofFin (PureRuns.of (e138_0 x0 x0') (All.cons h1 (All.cons h0 (All.nil))))) (fun h1 => TrOk.ofTest (fun h2 => TrOk.ofTest (fun h3 => TrOk.ofFin (PureRuns.of (e138_1 x0 x0') (All.cons rfl (All.cons (not_of (of_not (h3))) (All.cons (not_of (of_not (h3))) (All.cons (not_of (of_not (h3))) (All.cons h3 (All.cons h2 (All.cons h1 (All.cons h0 (All.nil))))))))))) (fun h3 => TrOk.ofTest (fun h7 => TrOk.ofFin (PureRuns.of (e138_2 x0 x0') (All.cons h7 (All.cons (not_of (of_not (h3))) (All.cons (not_of (of_not (h3))) (All.cons (not_of (of_not (h3))) (All.cons h3 (All.cons h2 (All.cons h1 (All.cons h0 (All.nil))))))))))) (fun h7 => TrOk.ofFin (PureRuns.of (e138_3 x0 x0') (All.cons h7 (All.cons (not_of (of_not (h3))) (All.cons (not_of (of_not (h3))) (All.cons (not_of (of_not (h3))) (All.cons h3 (All.cons h2 (All.cons h1 (All.cons h0 (All.nil))))))))))))) (fun h2 => TrOk.ofStop))) (fun h0 => TrOk.ofStop)

theorem ok138 : PureOk Go.Proofs.Try.prog 138 p138 := pureOk_of kf169_ok.base (T := fun (d : Tys.data as138) => t138 d.1.1 d.1.2.1) (by kernel_rfl) (fun (d : Tys.data as138) => ok138_t d.1.1 d.1.2.1)
def kf138 : Known := kf169.func 138 p138
theorem kf138_ok : KnownOk Go.Proofs.Try.prog kf138 := kf169_ok.func ok138

/-! ductility/ductilitybase.Cmp -/

abbrev as82 : List Ty := [(.pair (.int .i64) (.pair (.int .i64) .unit)), (.pair (.int .i64) (.pair (.int .i64) .unit))]
abbrev rs82 : List Ty := [(.int .i64)]

def t82 (x0 : Int) (x0' : Int) (x1 : Int) (x1' : Int) : Tr (Tys.data rs82) :=
  Tr.test ((!leF (wrap64 (x1 * x0')) (wrap64 (x0 * x1')) : Bool))
    (Tr.fin (((-1 : Int), ())))
    (Tr.test ((!leF (wrap64 (x0 * x1')) (wrap64 (x1 * x0')) : Bool))
      (Tr.fin (((1 : Int), ())))
      (Tr.fin (((0 : Int), ()))))

def f82 (d : Tys.data as82) : Option (Tys.data rs82) := (t82 d.1.1 d.1.2.1 d.2.1.1 d.2.1.2.1).val
def g82 (d : Tys.data as82) : Tys.data rs82 := (f82 d).getD (Tys.dflt rs82)
def p82 : PureC := pcOf as82 rs82 f82 g82

theorem e82_0 (x0 : Int) (x0' : Int) (x1 : Int) (x1' : Int) : runPure kf138.orc Go.Proofs.Try.prog 400 82 as82 rs82 ((x0, x0', ()), (x1, x1', ()), ()) [true] =
    (some (((-1 : Int), ()), [((!leF (wrap64 (x1 * x0')) (wrap64 (x0 * x1')) : Bool), true)])) := by kernel_rfl
theorem e82_1 (x0 : Int) (x0' : Int) (x1 : Int) (x1' : Int) : runPure kf138.orc Go.Proofs.Try.prog 400 82 as82 rs82 ((x0, x0', ()), (x1, x1', ()), ()) [false, true] =
    (some (((1 : Int), ()), [((!leF (wrap64 (x0 * x1')) (wrap64 (x1 * x0')) : Bool), true), ((!leF (wrap64 (x1 * x0')) (wrap64 (x0 * x1')) : Bool), false)])) := by kernel_rfl
theorem e82_2 (x0 : Int) (x0' : Int) (x1 : Int) (x1' : Int) : runPure kf138.orc Go.Proofs.Try.prog 400 82 as82 rs82 ((x0, x0', ()), (x1, x1', ()), ()) [false, false] =
    (some (((0 : Int), ()), [((!leF (wrap64 (x0 * x1')) (wrap64 (x1 * x0')) : Bool), false), ((!leF (wrap64 (x1 * x0')) (wrap64 (x0 * x1')) : Bool), false)])) := by kernel_rfl

theorem ok82_t (x0 : Int) (x0' : Int) (x1 : Int) (x1' : Int) : TrOk (PureRuns Go.Proofs.Try.prog kf138.orc 82 as82 rs82 ((x0, x0', ()), (x1, x1', ()), ())) (t82 x0 x0' x1 x1') :=
  TrOk.ofTest (fun h0 => TrOk.ofFin (PureRuns.of (e82_0 x0 x0' x1 x1') (All.cons h0 (All.nil)))) (fun h0 => TrOk.ofTest (fun h1 => TrOk.ofFin (PureRuns.of (e82_1 x0 x0' x1 x1') (All.cons h1 (All.cons h0 (All.nil))))) (fun h1 => TrOk.ofFin (PureRuns.of (e82_2 x0 x0' x1 x1') (All.cons h1 (All.cons h0 (All.nil))))))

theorem ok82 : PureOk Go.Proofs.Try.prog 82 p82 := pureOk_of kf138_ok.base (T := fun (d : Tys.data as82) => t82 d.1.1 d.1.2.1 d.2.1.1 d.2.1.2.1) (by kernel_rfl) (fun (d : Tys.data as82) => ok82_t d.1.1 d.1.2.1 d.2.1.1 d.2.1.2.1)
def kf82 : Known := kf138.func 82 p82
theorem kf82_ok : KnownOk Go.Proofs.Try.prog kf82 := kf138_ok.func ok82

/-! ductility/ductilityref02.SharesErr -/

abbrev as80 : List Ty := [(.pair (.pair (.int .i64) (.pair (.int .i64) .unit)) (.pair (.pair (.int .i64) (.pair (.int .i64) .unit)) .unit))]
abbrev rs80 : List Ty := [(.int .i64)]

def t80 (x0_ : Int) (x0_' : Int) (x0'_ : Int) (x0'_' : Int) : Tr (Tys.data rs80) :=
  Tr.test (Option.isSome (f138 ((x0_, (x0_', ())), ())))
    (let r0 : Int × PUnit := g138 ((x0_, (x0_', ())), ());
    Tr.test ((!eqF r0.fst (0 : Int) : Bool))
      (Tr.fin (((r0.fst : Int), ())))
      (Tr.test (Option.isSome (f138 ((x0'_, (x0'_', ())), ())))
        (let r1 : Int × PUnit := g138 ((x0'_, (x0'_', ())), ());
        Tr.test ((!eqF r1.fst (0 : Int) : Bool))
          (Tr.fin (((r1.fst : Int), ())))
          (Tr.test (Option.isSome (f82 ((x0_, (x0_', ())), ((x0'_, (x0'_', ())), ()))))
            (let r2 : Int × PUnit := g82 ((x0_, (x0_', ())), ((x0'_, (x0'_', ())), ()));
            Tr.test ((!leF r2.fst (0 : Int) : Bool))
              (Tr.fin (((9 : Int), ())))
              (Tr.fin (((0 : Int), ()))))
            (Tr.stop)))
        (Tr.stop)))
    (Tr.stop)

def f80 (d : Tys.data as80) : Option (Tys.data rs80) := (t80 d.1.1.1 d.1.1.2.1 d.1.2.1.1 d.1.2.1.2.1).val
def g80 (d : Tys.data as80) : Tys.data rs80 := (f80 d).getD (Tys.dflt rs80)
def p80 : PureC := pcOf as80 rs80 f80 g80

theorem e80_0 (x0_ : Int) (x0_' : Int) (x0'_ : Int) (x0'_' : Int) : runPure kf82.orc Go.Proofs.Try.prog 400 80 as80 rs80 (((x0_, x0_', ()), (x0'_, x0'_', ()), ()), ()) [true, true] =
    (let r0 : Int × PUnit := g138 ((x0_, (x0_', ())), ()); some (((r0.fst : Int), ()), [((!eqF r0.fst (0 : Int) : Bool), true), (Option.isSome (f138 ((x0_, (x0_', ())), ())), true)])) := by kernel_rfl
theorem e80_1 (x0_ : Int) (x0_' : Int) (x0'_ : Int) (x0'_' : Int) : runPure kf82.orc Go.Proofs.Try.prog 400 80 as80 rs80 (((x0_, x0_', ()), (x0'_, x0'_', ()), ()), ()) [true, false, true, true] =
    (let r0 : Int × PUnit := g138 ((x0_, (x0_', ())), ()); let r1 : Int × PUnit := g138 ((x0'_, (x0'_', ())), ()); some (((r1.fst : Int), ()), [((!eqF r1.fst (0 : Int) : Bool), true), (Option.isSome (f138 ((x0'_, (x0'_', ())), ())), true), ((!eqF r0.fst (0 : Int) : Bool), false), (Option.isSome (f138 ((x0_, (x0_', ())), ())), true)])) := by kernel_rfl
theorem e80_2 (x0_ : Int) (x0_' : Int) (x0'_ : Int) (x0'_' : Int) : runPure kf82.orc Go.Proofs.Try.prog 400 80 as80 rs80 (((x0_, x0_', ()), (x0'_, x0'_', ()), ()), ()) [true, false, true, false, true, true] =
    (let r0 : Int × PUnit := g138 ((x0_, (x0_', ())), ()); let r1 : Int × PUnit := g138 ((x0'_, (x0'_', ())), ()); let r2 : Int × PUnit := g82 ((x0_, (x0_', ())), ((x0'_, (x0'_', ())), ())); some (((9 : Int), ()), [((!leF r2.fst (0 : Int) : Bool), true), (Option.isSome (f82 ((x0_, (x0_', ())), ((x0'_, (x0'_', ())), ()))), true), ((!eqF r1.fst (0 : Int) : Bool), false), (Option.isSome (f138 ((x0'_, (x0'_', ())), ())), true), ((!eqF r0.fst (0 : Int) : Bool), false), (Option.isSome (f138 ((x0_, (x0_', ())), ())), true)])) := by kernel_rfl
theorem e80_3 (x0_ : Int) (x0_' : Int) (x0'_ : Int) (x0'_' : Int) : runPure kf82.orc Go.Proofs.Try.prog 400 80 as80 rs80 (((x0_, x0_', ()), (x0'_, x0'_', ()), ()), ()) [true, false, true, false, true, false] =
    (let r0 : Int × PUnit := g138 ((x0_, (x0_', ())), ()); let r1 : Int × PUnit := g138 ((x0'_, (x0'_', ())), ()); let r2 : Int × PUnit := g82 ((x0_, (x0_', ())), ((x0'_, (x0'_', ())), ())); some (((0 : Int), ()), [((!leF r2.fst (0 : Int) : Bool), false), (Option.isSome (f82 ((x0_, (x0_', ())), ((x0'_, (x0'_', ())), ()))), true), ((!eqF r1.fst (0 : Int) : Bool), false), (Option.isSome (f138 ((x0'_, (x0'_', ())), ())), true), ((!eqF r0.fst (0 : Int) : Bool), false), (Option.isSome (f138 ((x0_, (x0_', ())), ())), true)])) := by kernel_rfl

theorem ok80_t (x0_ : Int) (x0_' : Int) (x0'_ : Int) (x0'_' : Int) : TrOk (PureRuns Go.Proofs.Try.prog kf82.orc 80 as80 rs80 (((x0_, x0_', ()), (x0'_, x0'_', ()), ()), ())) (t80 x0_ x0_' x0'_ x0'_') :=
  TrOk.ofTest (fun h0 => TrOk.ofTest (fun h1 => TrOk.ofFin (PureRuns.of (e80_0 x0_ x0_' x0'_ x0'_') (All.cons h1 (All.cons h0 (All.nil))))) (fun h1 => TrOk.ofTest (fun h2 => TrOk.ofTest (fun h3 => TrOk.ofFin (PureRuns.of (e80_1 x0_ x0_' x0'_ x0'_') (All.cons h3 (All.cons h2 (All.cons h1 (All.cons h0 (All.nil))))))) (fun h3 => TrOk.ofTest (fun h4 => TrOk.ofTest (fun h5 => TrOk.ofFin (PureRuns.of (e80_2 x0_ x0_' x0'_ x0'_') (All.cons h5 (All.cons h4 (All.cons h3 (All.cons h2 (All.cons h1 (All.cons h0 (All.nil))))))))) (fun h5 => TrOk.ofFin (PureRuns.of (e80_3 x0_ x0_' x0'_ x0'_') (All.cons h5 (All.cons h4 (All.cons h3 (All.cons h2 (All.cons h1 (All.cons h0 (All.nil)))))))))) (fun h4 => TrOk.ofStop))) (fun h2 => TrOk.ofStop))) (fun h0 => TrOk.ofStop)

theorem ok80 : PureOk Go.Proofs.Try.prog 80 p80 := pureOk_of kf82_ok.base (T := fun (d : Tys.data as80) => t80 d.1.1.1 d.1.1.2.1 d.1.2.1.1 d.1.2.1.2.1) (by kernel_rfl) (fun (d : Tys.data as80) => ok80_t d.1.1.1 d.1.1.2.1 d.1.2.1.1 d.1.2.1.2.1)
def kf80 : Known := kf82.func 80 p80
theorem kf80_ok : KnownOk Go.Proofs.Try.prog kf80 := kf82_ok.func ok80

/-! loop 0 of ductility/ductilityref02.Energy -/

abbrev sh170_0 : Sh := { n := 24, slots := [0, 1, 5, 6], pats := [.ty (.slice (.int .i64)), .ty (.int .i64), .ty (.int .i64), .ty (.int .i64)], boxes := [] }
abbrev shb170_0 : Sh := { n := 24, slots := [5], pats := [.ty (.int .i64)], boxes := [] }
abbrev shr170_0 : Sh := { n := 24, slots := [], pats := [], boxes := [] }

def t170_0 (x0 : (List Int)) (x1 : Int) (x2 : Int) (x3 : Int) : Tr (Out sh170_0.data shb170_0.data shr170_0.data) :=
  Tr.test ((!leF x1 x3 : Bool))
    (Tr.test ((decide ((0 : Int) ≤ x3) && decide (x3 < (↑(List.length x0) : Int)) : Bool))
      (Tr.fin (.again ((x0, (x1, ((wrap64 (x2 + wrap64 (List.getD x0 (Int.toNat x3) (0 : Int) * List.getD x0 (Int.toNat x3) (0 : Int))) : Int), ((wrap64 (x3 + (1 : Int)) : Int), ())))), ())))
      (Tr.stop /- none [op 3 of region 5 of F170] -/))
    (Tr.fin (.brk ((x2, ()), ())))

def s170_0 (d : sh170_0.data) : Option (Out sh170_0.data shb170_0.data shr170_0.data) := (t170_0 d.1.1 d.1.2.1 d.1.2.2.1 d.1.2.2.2.1).val
def l170_0 (d : sh170_0.data) : Option (shb170_0.data ⊕ shr170_0.data) := itr s170_0 rounds d
def b170_0 (d : sh170_0.data) : shb170_0.data := outB shb170_0.dflt (l170_0 d)
def r170_0 (d : sh170_0.data) : shr170_0.data := outR shr170_0.dflt (l170_0 d)
def lc170_0 : LoopC := lcB sh170_0 shb170_0 shr170_0 l170_0 b170_0

theorem e170_0_0 (x0 : (List Int)) (x1 : Int) (x2 : Int) (x3 : Int) : runBody kf80.orc Go.Proofs.Try.prog 400 170 0 sh170_0 shb170_0 shr170_0 ((x0, x1, x2, x3, ()), ()) [true, true, true] =
    (some (.again ((x0, (x1, ((wrap64 (x2 + wrap64 (List.getD x0 (Int.toNat x3) (0 : Int) * List.getD x0 (Int.toNat x3) (0 : Int))) : Int), ((wrap64 (x3 + (1 : Int)) : Int), ())))), ()), [((decide ((0 : Int) ≤ x3) && decide (x3 < (↑(List.length x0) : Int)) : Bool), true), ((decide ((0 : Int) ≤ x3) && decide (x3 < (↑(List.length x0) : Int)) : Bool), true), ((!leF x1 x3 : Bool), true)])) := by kernel_rfl
theorem e170_0_2 (x0 : (List Int)) (x1 : Int) (x2 : Int) (x3 : Int) : runBody kf80.orc Go.Proofs.Try.prog 400 170 0 sh170_0 shb170_0 shr170_0 ((x0, x1, x2, x3, ()), ()) [false] =
    (some (.brk ((x2, ()), ()), [((!leF x1 x3 : Bool), false)])) := by kernel_rfl

theorem ok170_0_t (x0 : (List Int)) (x1 : Int) (x2 : Int) (x3 : Int) : TrOk (BodyRuns Go.Proofs.Try.prog kf80.orc 170 0 sh170_0 shb170_0 shr170_0 ((x0, x1, x2, x3, ()), ())) (t170_0 x0 x1 x2 x3) :=
  TrOk.ofTest (fun h0 => TrOk.ofTest (fun h1 => TrOk.ofFin (BodyRuns.of (e170_0_0 x0 x1 x2 x3) (All.cons (h1) (All.cons h1 (All.cons h0 (All.nil)))))) (fun h1 => TrOk.ofStop)) (fun h0 => TrOk.ofFin (BodyRuns.of (e170_0_2 x0 x1 x2 x3) (All.cons h0 (All.nil))))

theorem ok170_0 : LoopOk Go.Proofs.Try.prog 170 0 lc170_0 := loopOk_ofB kf80_ok.base (T := fun (d : sh170_0.data) => t170_0 d.1.1 d.1.2.1 d.1.2.2.1 d.1.2.2.2.1) (by kernel_rfl) rfl (fun (d : sh170_0.data) => ok170_0_t d.1.1 d.1.2.1 d.1.2.2.1 d.1.2.2.2.1) (fun _ => rfl)
def kl170_0 : Known := kf80.loop 170 0 lc170_0
theorem kl170_0_ok : KnownOk Go.Proofs.Try.prog kl170_0 := kf80_ok.loop ok170_0

/-! ductility/ductilityref02.Energy -/

abbrev as170 : List Ty := [(.slice (.int .i64)), (.int .i64)]
abbrev rs170 : List Ty := [(.int .i64)]

def t170 (x0 : (List Int)) (x1 : Int) : Tr (Tys.data rs170) :=
  Tr.test (isBrk (l170_0 ((x0, (x1, ((0 : Int), ((0 : Int), ())))), ())))
    (let r0 : (Int × PUnit) × PUnit := b170_0 ((x0, (x1, ((0 : Int), ((0 : Int), ())))), ());
    Tr.fin (((r0.fst.fst : Int), ())))
    (Tr.stop)

def f170 (d : Tys.data as170) : Option (Tys.data rs170) := (t170 d.1 d.2.1).val
def g170 (d : Tys.data as170) : Tys.data rs170 := (f170 d).getD (Tys.dflt rs170)
def p170 : PureC := pcOf as170 rs170 f170 g170

theorem e170_0 (x0 : (List Int)) (x1 : Int) : runPure kl170_0.orc Go.Proofs.Try.prog 400 170 as170 rs170 (x0, x1, ()) [true, true] =
    (let r0 : (Int × PUnit) × PUnit := b170_0 ((x0, (x1, ((0 : Int), ((0 : Int), ())))), ()); some (((r0.fst.fst : Int), ()), [((true : Bool), true), (isBrk (l170_0 ((x0, (x1, ((0 : Int), ((0 : Int), ())))), ())), true)])) := by kernel_rfl

theorem ok170_t (x0 : (List Int)) (x1 : Int) : TrOk (PureRuns Go.Proofs.Try.prog kl170_0.orc 170 as170 rs170 (x0, x1, ())) (t170 x0 x1) :=
  TrOk.ofTest (fun h0 => TrOk.ofFin (PureRuns.of (e170_0 x0 x1) (All.cons rfl (All.cons h0 (All.nil))))) (fun h0 => TrOk.ofStop)

theorem ok170 : PureOk Go.Proofs.Try.prog 170 p170 := pureOk_of kl170_0_ok.base (T := fun (d : Tys.data as170) => t170 d.1 d.2.1) (by kernel_rfl) (fun (d : Tys.data as170) => ok170_t d.1 d.2.1)
def kf170 : Known := kl170_0.func 170 p170
theorem kf170_ok : KnownOk Go.Proofs.Try.prog kf170 := kl170_0_ok.func ok170

/-! loop 0 of ductility/ductilityref02.reached -/

abbrev sh139_0 : Sh := { n := 31, slots := [0, 3, 5], pats := [.ty (.slice (.int .i64)), .ptr 0 2 0, .ty (.int .i64)], boxes := [.row [.ty (.int .i64), .ty (.int .i64)]] }
abbrev shb139_0 : Sh := { n := 31, slots := [0], pats := [.ty (.slice (.int .i64))], boxes := [.row [.ty (.int .i64), .ty (.int .i64)]] }
abbrev shr139_0 : Sh := { n := 31, slots := [4], pats := [.ty (.int .i64)], boxes := [.row [.ty (.int .i64), .ty (.int .i64)]] }

def t139_0 (x0 : (List Int)) (x2 : Int) (b0_0 : Int) (b0_1 : Int) : Tr (Out sh139_0.data shb139_0.data shr139_0.data) :=
  Tr.test ((!leF (↑(List.length x0) : Int) x2 : Bool))
    (Tr.test (Option.isSome (f170 (x0, ((wrap64 (x2 + (1 : Int)) : Int), ()))))
      (Tr.test (Option.isSome (f170 (x0, ((↑(List.length x0) : Int), ()))))
        (let r0 : Int × PUnit := g170 (x0, ((wrap64 (x2 + (1 : Int)) : Int), ()));
        let r1 : Int × PUnit := g170 (x0, ((↑(List.length x0) : Int), ()));
        Tr.test ((leF (wrap64 (r1.fst * b0_0)) (wrap64 (r0.fst * b0_1)) : Bool))
          (Tr.fin (.ret ((x2, ()), ((b0_0, (b0_1, ())), ()))))
          (Tr.fin (.again ((x0, ((wrap64 (x2 + (1 : Int)) : Int), ())), ((b0_0, (b0_1, ())), ())))))
        (Tr.stop))
      (Tr.stop))
    (Tr.fin (.brk ((x0, ()), ((b0_0, (b0_1, ())), ()))))

def s139_0 (d : sh139_0.data) : Option (Out sh139_0.data shb139_0.data shr139_0.data) := (t139_0 d.1.1 d.1.2.1 d.2.1.1 d.2.1.2.1).val
def l139_0 (d : sh139_0.data) : Option (shb139_0.data ⊕ shr139_0.data) := itr s139_0 rounds d
def b139_0 (d : sh139_0.data) : shb139_0.data := outB shb139_0.dflt (l139_0 d)
def r139_0 (d : sh139_0.data) : shr139_0.data := outR shr139_0.dflt (l139_0 d)
def lc139_0 : LoopC := lcOf sh139_0 shb139_0 shr139_0 l139_0 b139_0 r139_0

theorem e139_0_0 (x0 : (List Int)) (x2 : Int) (b0_0 : Int) (b0_1 : Int) : runBody kf170.orc Go.Proofs.Try.prog 400 139 0 sh139_0 shb139_0 shr139_0 ((x0, x2, ()), (b0_0, b0_1, ()), ()) [true, true, true, true] =
    (let r0 : Int × PUnit := g170 (x0, ((wrap64 (x2 + (1 : Int)) : Int), ())); let r1 : Int × PUnit := g170 (x0, ((↑(List.length x0) : Int), ())); some (.ret ((x2, ()), ((b0_0, (b0_1, ())), ())), [((leF (wrap64 (r1.fst * b0_0)) (wrap64 (r0.fst * b0_1)) : Bool), true), (Option.isSome (f170 (x0, ((↑(List.length x0) : Int), ()))), true), (Option.isSome (f170 (x0, ((wrap64 (x2 + (1 : Int)) : Int), ()))), true), ((!leF (↑(List.length x0) : Int) x2 : Bool), true)])) := by kernel_rfl
theorem e139_0_1 (x0 : (List Int)) (x2 : Int) (b0_0 : Int) (b0_1 : Int) : runBody kf170.orc Go.Proofs.Try.prog 400 139 0 sh139_0 shb139_0 shr139_0 ((x0, x2, ()), (b0_0, b0_1, ()), ()) [true, true, true, false] =
    (let r0 : Int × PUnit := g170 (x0, ((wrap64 (x2 + (1 : Int)) : Int), ())); let r1 : Int × PUnit := g170 (x0, ((↑(List.length x0) : Int), ())); some (.again ((x0, ((wrap64 (x2 + (1 : Int)) : Int), ())), ((b0_0, (b0_1, ())), ())), [((leF (wrap64 (r1.fst * b0_0)) (wrap64 (r0.fst * b0_1)) : Bool), false), (Option.isSome (f170 (x0, ((↑(List.length x0) : Int), ()))), true), (Option.isSome (f170 (x0, ((wrap64 (x2 + (1 : Int)) : Int), ()))), true), ((!leF (↑(List.length x0) : Int) x2 : Bool), true)])) := by kernel_rfl
theorem e139_0_2 (x0 : (List Int)) (x2 : Int) (b0_0 : Int) (b0_1 : Int) : runBody kf170.orc Go.Proofs.Try.prog 400 139 0 sh139_0 shb139_0 shr139_0 ((x0, x2, ()), (b0_0, b0_1, ()), ()) [false] =
    (some (.brk ((x0, ()), ((b0_0, (b0_1, ())), ())), [((!leF (↑(List.length x0) : Int) x2 : Bool), false)])) := by kernel_rfl

theorem ok139_0_t (x0 : (List Int)) (x2 : Int) (b0_0 : Int) (b0_1 : Int) : TrOk (BodyRuns Go.Proofs.Try.prog kf170.orc 139 0 sh139_0 shb139_0 shr139_0 ((x0, x2, ()), (b0_0, b0_1, ()), ())) (t139_0 x0 x2 b0_0 b0_1) :=
  TrOk.ofTest (fun h0 => TrOk.ofTest (fun h1 => TrOk.ofTest (fun h2 => TrOk.ofTest (fun h3 => TrOk.ofFin (BodyRuns.of (e139_0_0 x0 x2 b0_0 b0_1) (All.cons h3 (All.cons h2 (All.cons h1 (All.cons h0 (All.nil))))))) (fun h3 => TrOk.ofFin (BodyRuns.of (e139_0_1 x0 x2 b0_0 b0_1) (All.cons h3 (All.cons h2 (All.cons h1 (All.cons h0 (All.nil)))))))) (fun h2 => TrOk.ofStop)) (fun h1 => TrOk.ofStop)) (fun h0 => TrOk.ofFin (BodyRuns.of (e139_0_2 x0 x2 b0_0 b0_1) (All.cons h0 (All.nil))))

theorem ok139_0 : LoopOk Go.Proofs.Try.prog 139 0 lc139_0 := loopOk_of kf170_ok.base (T := fun (d : sh139_0.data) => t139_0 d.1.1 d.1.2.1 d.2.1.1 d.2.1.2.1) (by kernel_rfl) rfl (fun (d : sh139_0.data) => ok139_0_t d.1.1 d.1.2.1 d.2.1.1 d.2.1.2.1) (fun _ => rfl)
def kl139_0 : Known := kf170.loop 139 0 lc139_0
theorem kl139_0_ok : KnownOk Go.Proofs.Try.prog kl139_0 := kf170_ok.loop ok139_0

/-! ductility/ductilityref02.reached -/

abbrev as139 : List Ty := [(.slice (.int .i64)), (.pair (.int .i64) (.pair (.int .i64) .unit))]
abbrev rs139 : List Ty := [(.int .i64)]

def t139 (x0 : (List Int)) (x1 : Int) (x1' : Int) : Tr (Tys.data rs139) :=
  Tr.test (Option.isSome (l139_0 ((x0, ((0 : Int), ())), ((x1, (x1', ())), ()))))
    (Tr.test (isRet (l139_0 ((x0, ((0 : Int), ())), ((x1, (x1', ())), ()))))
      (let r0 : (Int × PUnit) × (Int × Int × PUnit) × PUnit := r139_0 ((x0, ((0 : Int), ())), ((x1, (x1', ())), ()));
      Tr.fin (((r0.fst.fst : Int), ())))
      (let r1 : (List Int × PUnit) × (Int × Int × PUnit) × PUnit := b139_0 ((x0, ((0 : Int), ())), ((x1, (x1', ())), ()));
      Tr.fin (((wrap64 ((↑(List.length r1.fst.fst) : Int) - (1 : Int)) : Int), ()))))
    (Tr.stop)

def f139 (d : Tys.data as139) : Option (Tys.data rs139) := (t139 d.1 d.2.1.1 d.2.1.2.1).val
def g139 (d : Tys.data as139) : Tys.data rs139 := (f139 d).getD (Tys.dflt rs139)
def p139 : PureC := pcOf as139 rs139 f139 g139

theorem e139_0 (x0 : (List Int)) (x1 : Int) (x1' : Int) : runPure kl139_0.orc Go.Proofs.Try.prog 400 139 as139 rs139 (x0, (x1, x1', ()), ()) [true, true] =
    (let r0 : (Int × PUnit) × (Int × Int × PUnit) × PUnit := r139_0 ((x0, ((0 : Int), ())), ((x1, (x1', ())), ())); some (((r0.fst.fst : Int), ()), [(isRet (l139_0 ((x0, ((0 : Int), ())), ((x1, (x1', ())), ()))), true), (Option.isSome (l139_0 ((x0, ((0 : Int), ())), ((x1, (x1', ())), ()))), true)])) := by kernel_rfl
theorem e139_1 (x0 : (List Int)) (x1 : Int) (x1' : Int) : runPure kl139_0.orc Go.Proofs.Try.prog 400 139 as139 rs139 (x0, (x1, x1', ()), ()) [true, false] =
    (let r1 : (List Int × PUnit) × (Int × Int × PUnit) × PUnit := b139_0 ((x0, ((0 : Int), ())), ((x1, (x1', ())), ())); some (((wrap64 ((↑(List.length r1.fst.fst) : Int) - (1 : Int)) : Int), ()), [(isRet (l139_0 ((x0, ((0 : Int), ())), ((x1, (x1', ())), ()))), false), (Option.isSome (l139_0 ((x0, ((0 : Int), ())), ((x1, (x1', ())), ()))), true)])) := by kernel_rfl

theorem ok139_t (x0 : (List Int)) (x1 : Int) (x1' : Int) : TrOk (PureRuns Go.Proofs.Try.prog kl139_0.orc 139 as139 rs139 (x0, (x1, x1', ()), ())) (t139 x0 x1 x1') :=
  TrOk.ofTest (fun h0 => TrOk.ofTest (fun h1 => TrOk.ofFin (PureRuns.of (e139_0 x0 x1 x1') (All.cons h1 (All.cons h0 (All.nil))))) (fun h1 => TrOk.ofFin (PureRuns.of (e139_1 x0 x1 x1') (All.cons h1 (All.cons h0 (All.nil)))))) (fun h0 => TrOk.ofStop)

theorem ok139 : PureOk Go.Proofs.Try.prog 139 p139 := pureOk_of kl139_0_ok.base (T := fun (d : Tys.data as139) => t139 d.1 d.2.1.1 d.2.1.2.1) (by kernel_rfl) (fun (d : Tys.data as139) => ok139_t d.1 d.2.1.1 d.2.1.2.1)
def kf139 : Known := kl139_0.func 139 p139
theorem kf139_ok : KnownOk Go.Proofs.Try.prog kf139 := kl139_0_ok.func ok139

/-! ductility/ductilityref02.Duration -/

abbrev as81 : List Ty := [(.slice (.int .i64)), (.pair (.pair (.int .i64) (.pair (.int .i64) .unit)) (.pair (.pair (.int .i64) (.pair (.int .i64) .unit)) .unit))]
abbrev rs81 : List Ty := [(.pair (.int .i64) (.pair (.int .i64) .unit))]

def t81 (x0 : (List Int)) (x1_ : Int) (x1_' : Int) (x1'_ : Int) (x1'_' : Int) : Tr (Tys.data rs81) :=
  Tr.test (Option.isSome (f139 (x0, ((x1_, (x1_', ())), ()))))
    (Tr.test (Option.isSome (f139 (x0, ((x1'_, (x1'_', ())), ()))))
      (let r0 : Int × PUnit := g139 (x0, ((x1_, (x1_', ())), ()));
      let r1 : Int × PUnit := g139 (x0, ((x1'_, (x1'_', ())), ()));
      Tr.fin ((((r0.fst : Int), ((r1.fst : Int), ())), ())))
      (Tr.stop))
    (Tr.stop)

def f81 (d : Tys.data as81) : Option (Tys.data rs81) := (t81 d.1 d.2.1.1.1 d.2.1.1.2.1 d.2.1.2.1.1 d.2.1.2.1.2.1).val
def g81 (d : Tys.data as81) : Tys.data rs81 := (f81 d).getD (Tys.dflt rs81)
def p81 : PureC := pcOf as81 rs81 f81 g81

theorem e81_0 (x0 : (List Int)) (x1_ : Int) (x1_' : Int) (x1'_ : Int) (x1'_' : Int) : runPure kf139.orc Go.Proofs.Try.prog 400 81 as81 rs81 (x0, ((x1_, x1_', ()), (x1'_, x1'_', ()), ()), ()) [true, true] =
    (let r0 : Int × PUnit := g139 (x0, ((x1_, (x1_', ())), ())); let r1 : Int × PUnit := g139 (x0, ((x1'_, (x1'_', ())), ())); some ((((r0.fst : Int), ((r1.fst : Int), ())), ()), [(Option.isSome (f139 (x0, ((x1'_, (x1'_', ())), ()))), true), (Option.isSome (f139 (x0, ((x1_, (x1_', ())), ()))), true)])) := by kernel_rfl

theorem ok81_t (x0 : (List Int)) (x1_ : Int) (x1_' : Int) (x1'_ : Int) (x1'_' : Int) : TrOk (PureRuns Go.Proofs.Try.prog kf139.orc 81 as81 rs81 (x0, ((x1_, x1_', ()), (x1'_, x1'_', ()), ()), ())) (t81 x0 x1_ x1_' x1'_ x1'_') :=
  TrOk.ofTest (fun h0 => TrOk.ofTest (fun h1 => TrOk.ofFin (PureRuns.of (e81_0 x0 x1_ x1_' x1'_ x1'_') (All.cons h1 (All.cons h0 (All.nil))))) (fun h1 => TrOk.ofStop)) (fun h0 => TrOk.ofStop)

theorem ok81 : PureOk Go.Proofs.Try.prog 81 p81 := pureOk_of kf139_ok.base (T := fun (d : Tys.data as81) => t81 d.1 d.2.1.1.1 d.2.1.1.2.1 d.2.1.2.1.1 d.2.1.2.1.2.1) (by kernel_rfl) (fun (d : Tys.data as81) => ok81_t d.1 d.2.1.1.1 d.2.1.1.2.1 d.2.1.2.1.1 d.2.1.2.1.2.1)
def kf81 : Known := kf139.func 81 p81
theorem kf81_ok : KnownOk Go.Proofs.Try.prog kf81 := kf139_ok.func ok81

/-! ductility/ductilitylaw02.MotionDurations -/

abbrev as14 : List Ty := [(.pair (.int .i64) (.pair (.slice (.int .i64)) .unit)), (.pair (.pair (.int .i64) (.pair (.int .i64) .unit)) (.pair (.pair (.int .i64) (.pair (.int .i64) .unit)) .unit)), (.pair (.pair (.int .i64) (.pair (.int .i64) .unit)) (.pair (.pair (.int .i64) (.pair (.int .i64) .unit)) .unit))]
abbrev rs14 : List Ty := [.bool]

def t14 (x0 : Int) (x0' : (List Int)) (x1_ : Int) (x1_' : Int) (x1'_ : Int) (x1'_' : Int) (x2_ : Int) (x2_' : Int) (x2'_ : Int) (x2'_' : Int) : Tr (Tys.data rs14) :=
  Tr.test (Option.isSome (f16 ((x0, (x0', ())), ())))
    (let r0 : Bool × PUnit := g16 ((x0, (x0', ())), ());
    Tr.test ((!r0.fst : Bool))
      (Tr.fin (((true : Bool), ())))
      (Tr.test (Option.isSome (f18 ((x0, (x0', ())), ())))
        (let r1 : (Int × List Int × PUnit) × PUnit := g18 ((x0, (x0', ())), ());
        Tr.test (Option.isSome (f79 (((r1.fst.fst : Int), ((r1.fst.snd.fst : List Int), ())), (((x1_, (x1_', ())), ((x1'_, (x1'_', ())), ())), ()))))
          (Tr.test (Option.isSome (f29 ((x0, (x0', ())), ())))
            (let r3 : Int × PUnit := g29 ((x0, (x0', ())), ());
            Tr.test ((eqF r3.fst (0 : Int) : Bool))
              (Tr.test (Option.isSome (f80 (((x1_, (x1_', ())), ((x1'_, (x1'_', ())), ())), ())))
                (let r4 : Int × PUnit := g80 (((x1_, (x1_', ())), ((x1'_, (x1'_', ())), ())), ());
                Tr.test ((!eqF r4.fst (0 : Int) : Bool))
                  (let r2 : (Int × Int × PUnit) × Int × PUnit := g79 (((r1.fst.fst : Int), ((r1.fst.snd.fst : List Int), ())), (((x1_, (x1_', ())), ((x1'_, (x1'_', ())), ())), ()));
                  Tr.test ((eqF r2.snd.fst r4.fst : Bool))
                    (Tr.fin (((r2.fst.fst == (0 : Int) && (r2.fst.snd.fst == (0 : Int) && true) : Bool), ())))
                    (Tr.fin (((false : Bool), ()))))
                  (let r2 : (Int × Int × PUnit) × Int × PUnit := g79 (((r1.fst.fst : Int), ((r1.fst.snd.fst : List Int), ())), (((x1_, (x1_', ())), ((x1'_, (x1'_', ())), ())), ()));
                  Tr.test ((!eqF r2.snd.fst (0 : Int) : Bool))
                    (Tr.fin (((false : Bool), ())))
                    (Tr.test (Option.isSome (f81 (x0', (((x1_, (x1_', ())), ((x1'_, (x1'_', ())), ())), ()))))
                      (let r5 : (Int × Int × PUnit) × PUnit := g81 (x0', (((x1_, (x1_', ())), ((x1'_, (x1'_', ())), ())), ()));
                      Tr.test ((!(r2.fst.fst == r5.fst.fst && (r2.fst.snd.fst == r5.fst.snd.fst && true)) : Bool))
                        (Tr.fin (((false : Bool), ())))
                        (Tr.test (Option.isSome (f47 ((r2.fst.fst : Int), ((0 : Int), ((r2.fst.snd.fst : Int), ())))))
                          (let r6 : Bool × PUnit := g47 ((r2.fst.fst : Int), ((0 : Int), ((r2.fst.snd.fst : Int), ())));
                          Tr.test ((!r6.fst : Bool))
                            (Tr.fin (((false : Bool), ())))
                            (Tr.test ((leF (↑(List.length x0') : Int) r2.fst.snd.fst : Bool))
                              (Tr.fin (((false : Bool), ())))
                              (Tr.test (Option.isSome (f80 (((x2_, (x2_', ())), ((x2'_, (x2'_', ())), ())), ())))
                                (let r7 : Int × PUnit := g80 (((x2_, (x2_', ())), ((x2'_, (x2'_', ())), ())), ());
                                Tr.test ((!eqF r7.fst (0 : Int) : Bool))
                                  (Tr.fin (((true : Bool), ())))
                                  (Tr.test (Option.isSome (f82 ((x2_, (x2_', ())), ((x1_, (x1_', ())), ()))))
                                    (let r8 : Int × PUnit := g82 ((x2_, (x2_', ())), ((x1_, (x1_', ())), ()));
                                    Tr.test ((!leF r8.fst (0 : Int) : Bool))
                                      (Tr.fin (((true : Bool), ())))
                                      (Tr.test (Option.isSome (f82 ((x2'_, (x2'_', ())), ((x1'_, (x1'_', ())), ()))))
                                        (let r9 : Int × PUnit := g82 ((x2'_, (x2'_', ())), ((x1'_, (x1'_', ())), ()));
                                        Tr.test ((!leF (0 : Int) r9.fst : Bool))
                                          (Tr.fin (((true : Bool), ())))
                                          (Tr.test (Option.isSome (f79 (((r1.fst.fst : Int), ((r1.fst.snd.fst : List Int), ())), (((x2_, (x2_', ())), ((x2'_, (x2'_', ())), ())), ()))))
                                            (let r10 : (Int × Int × PUnit) × Int × PUnit := g79 (((r1.fst.fst : Int), ((r1.fst.snd.fst : List Int), ())), (((x2_, (x2_', ())), ((x2'_, (x2'_', ())), ())), ()));
                                            Tr.test ((eqF r10.snd.fst (0 : Int) : Bool))
                                              (Tr.test ((leF r10.fst.fst r2.fst.fst : Bool))
                                                (Tr.fin (((leF r2.fst.snd.fst r10.fst.snd.fst : Bool), ())))
                                                (Tr.fin (((false : Bool), ()))))
                                              (Tr.fin (((false : Bool), ()))))
                                            (Tr.stop)))
                                        (Tr.stop)))
                                    (Tr.stop)))
                                (Tr.stop))))
                          (Tr.stop)))
                      (Tr.stop))))
                (Tr.stop))
              (let r2 : (Int × Int × PUnit) × Int × PUnit := g79 (((r1.fst.fst : Int), ((r1.fst.snd.fst : List Int), ())), (((x1_, (x1_', ())), ((x1'_, (x1'_', ())), ())), ()));
              Tr.test ((eqF r2.snd.fst r3.fst : Bool))
                (Tr.fin (((r2.fst.fst == (0 : Int) && (r2.fst.snd.fst == (0 : Int) && true) : Bool), ())))
                (Tr.fin (((false : Bool), ())))))
            (Tr.stop))
          (Tr.stop))
        (Tr.stop)))
    (Tr.stop)

def f14 (d : Tys.data as14) : Option (Tys.data rs14) := (t14 d.1.1 d.1.2.1 d.2.1.1.1 d.2.1.1.2.1 d.2.1.2.1.1 d.2.1.2.1.2.1 d.2.2.1.1.1 d.2.2.1.1.2.1 d.2.2.1.2.1.1 d.2.2.1.2.1.2.1).val
def g14 (d : Tys.data as14) : Tys.data rs14 := (f14 d).getD (Tys.dflt rs14)
def p14 : PureC := pcOf as14 rs14 f14 g14

theorem e14_0 (x0 : Int) (x0' : (List Int)) (x1_ : Int) (x1_' : Int) (x1'_ : Int) (x1'_' : Int) (x2_ : Int) (x2_' : Int) (x2'_ : Int) (x2'_' : Int) : runPure kf81.orc Go.Proofs.Try.prog 400 14 as14 rs14 ((x0, x0', ()), ((x1_, x1_', ()), (x1'_, x1'_', ()), ()), ((x2_, x2_', ()), (x2'_, x2'_', ()), ()), ()) [true, false, true, true] =
    (let r0 : Bool × PUnit := g16 ((x0, (x0', ())), ()); some (((true : Bool), ()), [((!r0.fst : Bool), true), (Option.isSome (f16 ((x0, (x0', ())), ())), true), ((false : Bool), false), ((true : Bool), true)])) := by kernel_rfl
theorem e14_1 (x0 : Int) (x0' : (List Int)) (x1_ : Int) (x1_' : Int) (x1'_ : Int) (x1'_' : Int) (x2_ : Int) (x2_' : Int) (x2'_ : Int) (x2'_' : Int) : runPure kf81.orc Go.Proofs.Try.prog 400 14 as14 rs14 ((x0, x0', ()), ((x1_, x1_', ()), (x1'_, x1'_', ()), ()), ((x2_, x2_', ()), (x2'_, x2'_', ()), ()), ()) [true, false, true, false, true, true, true, true, true, true, true, true, true, true] =
    (let r0 : Bool × PUnit := g16 ((x0, (x0', ())), ()); let r1 : (Int × List Int × PUnit) × PUnit := g18 ((x0, (x0', ())), ()); let r3 : Int × PUnit := g29 ((x0, (x0', ())), ()); let r4 : Int × PUnit := g80 (((x1_, (x1_', ())), ((x1'_, (x1'_', ())), ())), ()); let r2 : (Int × Int × PUnit) × Int × PUnit := g79 (((r1.fst.fst : Int), ((r1.fst.snd.fst : List Int), ())), (((x1_, (x1_', ())), ((x1'_, (x1'_', ())), ())), ())); some (((r2.fst.fst == (0 : Int) && (r2.fst.snd.fst == (0 : Int) && true) : Bool), ()), [((eqF r2.snd.fst r4.fst : Bool), true), ((eqF r2.snd.fst r4.fst : Bool), true), ((eqF r2.snd.fst r4.fst : Bool), true), ((eqF r2.snd.fst r4.fst : Bool), true), ((!eqF r4.fst (0 : Int) : Bool), true), (Option.isSome (f80 (((x1_, (x1_', ())), ((x1'_, (x1'_', ())), ())), ())), true), ((eqF r3.fst (0 : Int) : Bool), true), (Option.isSome (f29 ((x0, (x0', ())), ())), true), (Option.isSome (f79 (((r1.fst.fst : Int), ((r1.fst.snd.fst : List Int), ())), (((x1_, (x1_', ())), ((x1'_, (x1'_', ())), ())), ()))), true), (Option.isSome (f18 ((x0, (x0', ())), ())), true), ((!r0.fst : Bool), false), (Option.isSome (f16 ((x0, (x0', ())), ())), true), ((false : Bool), false), ((true : Bool), true)])) := by kernel_rfl
theorem e14_2 (x0 : Int) (x0' : (List Int)) (x1_ : Int) (x1_' : Int) (x1'_ : Int) (x1'_' : Int) (x2_ : Int) (x2_' : Int) (x2'_ : Int) (x2'_' : Int) : runPure kf81.orc Go.Proofs.Try.prog 400 14 as14 rs14 ((x0, x0', ()), ((x1_, x1_', ()), (x1'_, x1'_', ()), ()), ((x2_, x2_', ()), (x2'_, x2'_', ()), ()), ()) [true, false, true, false, true, true, true, true, true, true, false, false, false, false] =
    (let r0 : Bool × PUnit := g16 ((x0, (x0', ())), ()); let r1 : (Int × List Int × PUnit) × PUnit := g18 ((x0, (x0', ())), ()); let r3 : Int × PUnit := g29 ((x0, (x0', ())), ()); let r4 : Int × PUnit := g80 (((x1_, (x1_', ())), ((x1'_, (x1'_', ())), ())), ()); let r2 : (Int × Int × PUnit) × Int × PUnit := g79 (((r1.fst.fst : Int), ((r1.fst.snd.fst : List Int), ())), (((x1_, (x1_', ())), ((x1'_, (x1'_', ())), ())), ())); some (((false : Bool), ()), [((eqF r2.snd.fst r4.fst : Bool), false), ((eqF r2.snd.fst r4.fst : Bool), false), ((eqF r2.snd.fst r4.fst : Bool), false), ((eqF r2.snd.fst r4.fst : Bool), false), ((!eqF r4.fst (0 : Int) : Bool), true), (Option.isSome (f80 (((x1_, (x1_', ())), ((x1'_, (x1'_', ())), ())), ())), true), ((eqF r3.fst (0 : Int) : Bool), true), (Option.isSome (f29 ((x0, (x0', ())), ())), true), (Option.isSome (f79 (((r1.fst.fst : Int), ((r1.fst.snd.fst : List Int), ())), (((x1_, (x1_', ())), ((x1'_, (x1'_', ())), ())), ()))), true), (Option.isSome (f18 ((x0, (x0', ())), ())), true), ((!r0.fst : Bool), false), (Option.isSome (f16 ((x0, (x0', ())), ())), true), ((false : Bool), false), ((true : Bool), true)])) := by kernel_rfl
theorem e14_3 (x0 : Int) (x0' : (List Int)) (x1_ : Int) (x1_' : Int) (x1'_ : Int) (x1'_' : Int) (x2_ : Int) (x2_' : Int) (x2'_ : Int) (x2'_' : Int) : runPure kf81.orc Go.Proofs.Try.prog 400 14 as14 rs14 ((x0, x0', ()), ((x1_, x1_', ()), (x1'_, x1'_', ()), ()), ((x2_, x2_', ()), (x2'_, x2'_', ()), ()), ()) [true, false, true, false, true, true, true, true, true, false, true, true, true, true, true, true, true, true, true, true, true, true, true, true, true, true, true, true, true, true, true, true] =
    (let r0 : Bool × PUnit := g16 ((x0, (x0', ())), ()); let r1 : (Int × List Int × PUnit) × PUnit := g18 ((x0, (x0', ())), ()); let r3 : Int × PUnit := g29 ((x0, (x0', ())), ()); let r4 : Int × PUnit := g80 (((x1_, (x1_', ())), ((x1'_, (x1'_', ())), ())), ()); let r2 : (Int × Int × PUnit) × Int × PUnit := g79 (((r1.fst.fst : Int), ((r1.fst.snd.fst : List Int), ())), (((x1_, (x1_', ())), ((x1'_, (x1'_', ())), ())), ())); some (((false : Bool), ()), [((true : Bool), true), ((true : Bool), true), ((true : Bool), true), ((true : Bool), true), ((true : Bool), true), ((true : Bool), true), ((true : Bool), true), ((true : Bool), true), ((true : Bool), true), ((true : Bool), true), ((true : Bool), true), ((true : Bool), true), ((true : Bool), true), ((true : Bool), true), ((true : Bool), true), ((!eqF r2.snd.fst (0 : Int) : Bool), true), ((!eqF r2.snd.fst (0 : Int) : Bool), true), ((!eqF r2.snd.fst (0 : Int) : Bool), true), ((!eqF r2.snd.fst (0 : Int) : Bool), true), ((!eqF r2.snd.fst (0 : Int) : Bool), true), ((!eqF r2.snd.fst (0 : Int) : Bool), true), ((!eqF r2.snd.fst (0 : Int) : Bool), true), ((!eqF r4.fst (0 : Int) : Bool), false), (Option.isSome (f80 (((x1_, (x1_', ())), ((x1'_, (x1'_', ())), ())), ())), true), ((eqF r3.fst (0 : Int) : Bool), true), (Option.isSome (f29 ((x0, (x0', ())), ())), true), (Option.isSome (f79 (((r1.fst.fst : Int), ((r1.fst.snd.fst : List Int), ())), (((x1_, (x1_', ())), ((x1'_, (x1'_', ())), ())), ()))), true), (Option.isSome (f18 ((x0, (x0', ())), ())), true), ((!r0.fst : Bool), false), (Option.isSome (f16 ((x0, (x0', ())), ())), true), ((false : Bool), false), ((true : Bool), true)])) := by kernel_rfl
theorem e14_4 (x0 : Int) (x0' : (List Int)) (x1_ : Int) (x1_' : Int) (x1'_ : Int) (x1'_' : Int) (x2_ : Int) (x2_' : Int) (x2'_ : Int) (x2'_' : Int) : runPure kf81.orc Go.Proofs.Try.prog 400 14 as14 rs14 ((x0, x0', ()), ((x1_, x1_', ()), (x1'_, x1'_', ()), ()), ((x2_, x2_', ()), (x2'_, x2'_', ()), ()), ()) [true, false, true, false, true, true, true, true, true, false, false, false, false, false, false, true, false, false, true, true, true, true, true, true, true, true, true, true, true, true, true, true, true] =
    (let r0 : Bool × PUnit := g16 ((x0, (x0', ())), ()); let r1 : (Int × List Int × PUnit) × PUnit := g18 ((x0, (x0', ())), ()); let r3 : Int × PUnit := g29 ((x0, (x0', ())), ()); let r4 : Int × PUnit := g80 (((x1_, (x1_', ())), ((x1'_, (x1'_', ())), ())), ()); let r2 : (Int × Int × PUnit) × Int × PUnit := g79 (((r1.fst.fst : Int), ((r1.fst.snd.fst : List Int), ())), (((x1_, (x1_', ())), ((x1'_, (x1'_', ())), ())), ())); let r5 : (Int × Int × PUnit) × PUnit := g81 (x0', (((x1_, (x1_', ())), ((x1'_, (x1'_', ())), ())), ())); some (((false : Bool), ()), [((true : Bool), true), ((true : Bool), true), ((true : Bool), true), ((true : Bool), true), ((true : Bool), true), ((true : Bool), true), ((true : Bool), true), ((true : Bool), true), ((!(r2.fst.fst == r5.fst.fst && (r2.fst.snd.fst == r5.fst.snd.fst && true)) : Bool), true), ((!(r2.fst.fst == r5.fst.fst && (r2.fst.snd.fst == r5.fst.snd.fst && true)) : Bool), true), ((!(r2.fst.fst == r5.fst.fst && (r2.fst.snd.fst == r5.fst.snd.fst && true)) : Bool), true), ((!(r2.fst.fst == r5.fst.fst && (r2.fst.snd.fst == r5.fst.snd.fst && true)) : Bool), true), ((!(r2.fst.fst == r5.fst.fst && (r2.fst.snd.fst == r5.fst.snd.fst && true)) : Bool), true), ((!(r2.fst.fst == r5.fst.fst && (r2.fst.snd.fst == r5.fst.snd.fst && true)) : Bool), true), ((!(r2.fst.fst == r5.fst.fst && (r2.fst.snd.fst == r5.fst.snd.fst && true)) : Bool), true), ((!eqF r2.snd.fst (0 : Int) : Bool), false), ((!eqF r2.snd.fst (0 : Int) : Bool), false), (Option.isSome (f81 (x0', (((x1_, (x1_', ())), ((x1'_, (x1'_', ())), ())), ()))), true), ((!eqF r2.snd.fst (0 : Int) : Bool), false), ((!eqF r2.snd.fst (0 : Int) : Bool), false), ((!eqF r2.snd.fst (0 : Int) : Bool), false), ((!eqF r2.snd.fst (0 : Int) : Bool), false), ((!eqF r2.snd.fst (0 : Int) : Bool), false), ((!eqF r4.fst (0 : Int) : Bool), false), (Option.isSome (f80 (((x1_, (x1_', ())), ((x1'_, (x1'_', ())), ())), ())), true), ((eqF r3.fst (0 : Int) : Bool), true), (Option.isSome (f29 ((x0, (x0', ())), ())), true), (Option.isSome (f79 (((r1.fst.fst : Int), ((r1.fst.snd.fst : List Int), ())), (((x1_, (x1_', ())), ((x1'_, (x1'_', ())), ())), ()))), true), (Option.isSome (f18 ((x0, (x0', ())), ())), true), ((!r0.fst : Bool), false), (Option.isSome (f16 ((x0, (x0', ())), ())), true), ((false : Bool), false), ((true : Bool), true)])) := by kernel_rfl
theorem e14_5 (x0 : Int) (x0' : (List Int)) (x1_ : Int) (x1_' : Int) (x1'_ : Int) (x1'_' : Int) (x2_ : Int) (x2_' : Int) (x2'_ : Int) (x2'_' : Int) : runPure kf81.orc Go.Proofs.Try.prog 400 14 as14 rs14 ((x0, x0', ()), ((x1_, x1_', ()), (x1'_, x1'_', ()), ()), ((x2_, x2_', ()), (x2'_, x2'_', ()), ()), ()) [true, false, true, false, true, true, true, true, true, false, false, false, false, false, false, true, false, false, false, false, false, false, false, true, false, false, true, true, true, true, true, true, true, true] =
    (let r0 : Bool × PUnit := g16 ((x0, (x0', ())), ()); let r1 : (Int × List Int × PUnit) × PUnit := g18 ((x0, (x0', ())), ()); let r3 : Int × PUnit := g29 ((x0, (x0', ())), ()); let r4 : Int × PUnit := g80 (((x1_, (x1_', ())), ((x1'_, (x1'_', ())), ())), ()); let r2 : (Int × Int × PUnit) × Int × PUnit := g79 (((r1.fst.fst : Int), ((r1.fst.snd.fst : List Int), ())), (((x1_, (x1_', ())), ((x1'_, (x1'_', ())), ())), ())); let r5 : (Int × Int × PUnit) × PUnit := g81 (x0', (((x1_, (x1_', ())), ((x1'_, (x1'_', ())), ())), ())); let r6 : Bool × PUnit := g47 ((r2.fst.fst : Int), ((0 : Int), ((r2.fst.snd.fst : Int), ()))); some (((false : Bool), ()), [((true : Bool), true), ((!r6.fst : Bool), true), ((!r6.fst : Bool), true), ((!r6.fst : Bool), true), ((!r6.fst : Bool), true), ((!r6.fst : Bool), true), ((!r6.fst : Bool), true), ((!r6.fst : Bool), true), ((!(r2.fst.fst == r5.fst.fst && (r2.fst.snd.fst == r5.fst.snd.fst && true)) : Bool), false), ((!(r2.fst.fst == r5.fst.fst && (r2.fst.snd.fst == r5.fst.snd.fst && true)) : Bool), false), (Option.isSome (f47 ((r2.fst.fst : Int), ((0 : Int), ((r2.fst.snd.fst : Int), ())))), true), ((!(r2.fst.fst == r5.fst.fst && (r2.fst.snd.fst == r5.fst.snd.fst && true)) : Bool), false), ((!(r2.fst.fst == r5.fst.fst && (r2.fst.snd.fst == r5.fst.snd.fst && true)) : Bool), false), ((!(r2.fst.fst == r5.fst.fst && (r2.fst.snd.fst == r5.fst.snd.fst && true)) : Bool), false), ((!(r2.fst.fst == r5.fst.fst && (r2.fst.snd.fst == r5.fst.snd.fst && true)) : Bool), false), ((!(r2.fst.fst == r5.fst.fst && (r2.fst.snd.fst == r5.fst.snd.fst && true)) : Bool), false), ((!eqF r2.snd.fst (0 : Int) : Bool), false), ((!eqF r2.snd.fst (0 : Int) : Bool), false), (Option.isSome (f81 (x0', (((x1_, (x1_', ())), ((x1'_, (x1'_', ())), ())), ()))), true), ((!eqF r2.snd.fst (0 : Int) : Bool), false), ((!eqF r2.snd.fst (0 : Int) : Bool), false), ((!eqF r2.snd.fst (0 : Int) : Bool), false), ((!eqF r2.snd.fst (0 : Int) : Bool), false), ((!eqF r2.snd.fst (0 : Int) : Bool), false), ((!eqF r4.fst (0 : Int) : Bool), false), (Option.isSome (f80 (((x1_, (x1_', ())), ((x1'_, (x1'_', ())), ())), ())), true), ((eqF r3.fst (0 : Int) : Bool), true), (Option.isSome (f29 ((x0, (x0', ())), ())), true), (Option.isSome (f79 (((r1.fst.fst : Int), ((r1.fst.snd.fst : List Int), ())), (((x1_, (x1_', ())), ((x1'_, (x1'_', ())), ())), ()))), true), (Option.isSome (f18 ((x0, (x0', ())), ())), true), ((!r0.fst : Bool), false), (Option.isSome (f16 ((x0, (x0', ())), ())), true), ((false : Bool), false), ((true : Bool), true)])) := by kernel_rfl
theorem e14_6 (x0 : Int) (x0' : (List Int)) (x1_ : Int) (x1_' : Int) (x1'_ : Int) (x1'_' : Int) (x2_ : Int) (x2_' : Int) (x2'_ : Int) (x2'_' : Int) : runPure kf81.orc Go.Proofs.Try.prog 400 14 as14 rs14 ((x0, x0', ()), ((x1_, x1_', ()), (x1'_, x1'_', ()), ()), ((x2_, x2_', ()), (x2'_, x2'_', ()), ()), ()) [true, false, true, false, true, true, true, true, true, false, false, false, false, false, false, true, false, false, false, false, false, false, false, true, false, false, false, false, false, false, false, false, false, true] =
    (let r0 : Bool × PUnit := g16 ((x0, (x0', ())), ()); let r1 : (Int × List Int × PUnit) × PUnit := g18 ((x0, (x0', ())), ()); let r3 : Int × PUnit := g29 ((x0, (x0', ())), ()); let r4 : Int × PUnit := g80 (((x1_, (x1_', ())), ((x1'_, (x1'_', ())), ())), ()); let r2 : (Int × Int × PUnit) × Int × PUnit := g79 (((r1.fst.fst : Int), ((r1.fst.snd.fst : List Int), ())), (((x1_, (x1_', ())), ((x1'_, (x1'_', ())), ())), ())); let r5 : (Int × Int × PUnit) × PUnit := g81 (x0', (((x1_, (x1_', ())), ((x1'_, (x1'_', ())), ())), ())); let r6 : Bool × PUnit := g47 ((r2.fst.fst : Int), ((0 : Int), ((r2.fst.snd.fst : Int), ()))); some (((false : Bool), ()), [((leF (↑(List.length x0') : Int) r2.fst.snd.fst : Bool), true), ((!r6.fst : Bool), false), ((!r6.fst : Bool), false), ((!r6.fst : Bool), false), ((!r6.fst : Bool), false), ((!r6.fst : Bool), false), ((!r6.fst : Bool), false), ((!r6.fst : Bool), false), ((!(r2.fst.fst == r5.fst.fst && (r2.fst.snd.fst == r5.fst.snd.fst && true)) : Bool), false), ((!(r2.fst.fst == r5.fst.fst && (r2.fst.snd.fst == r5.fst.snd.fst && true)) : Bool), false), (Option.isSome (f47 ((r2.fst.fst : Int), ((0 : Int), ((r2.fst.snd.fst : Int), ())))), true), ((!(r2.fst.fst == r5.fst.fst && (r2.fst.snd.fst == r5.fst.snd.fst && true)) : Bool), false), ((!(r2.fst.fst == r5.fst.fst && (r2.fst.snd.fst == r5.fst.snd.fst && true)) : Bool), false), ((!(r2.fst.fst == r5.fst.fst && (r2.fst.snd.fst == r5.fst.snd.fst && true)) : Bool), false), ((!(r2.fst.fst == r5.fst.fst && (r2.fst.snd.fst == r5.fst.snd.fst && true)) : Bool), false), ((!(r2.fst.fst == r5.fst.fst && (r2.fst.snd.fst == r5.fst.snd.fst && true)) : Bool), false), ((!eqF r2.snd.fst (0 : Int) : Bool), false), ((!eqF r2.snd.fst (0 : Int) : Bool), false), (Option.isSome (f81 (x0', (((x1_, (x1_', ())), ((x1'_, (x1'_', ())), ())), ()))), true), ((!eqF r2.snd.fst (0 : Int) : Bool), false), ((!eqF r2.snd.fst (0 : Int) : Bool), false), ((!eqF r2.snd.fst (0 : Int) : Bool), false), ((!eqF r2.snd.fst (0 : Int) : Bool), false), ((!eqF r2.snd.fst (0 : Int) : Bool), false), ((!eqF r4.fst (0 : Int) : Bool), false), (Option.isSome (f80 (((x1_, (x1_', ())), ((x1'_, (x1'_', ())), ())), ())), true), ((eqF r3.fst (0 : Int) : Bool), true), (Option.isSome (f29 ((x0, (x0', ())), ())), true), (Option.isSome (f79 (((r1.fst.fst : Int), ((r1.fst.snd.fst : List Int), ())), (((x1_, (x1_', ())), ((x1'_, (x1'_', ())), ())), ()))), true), (Option.isSome (f18 ((x0, (x0', ())), ())), true), ((!r0.fst : Bool), false), (Option.isSome (f16 ((x0, (x0', ())), ())), true), ((false : Bool), false), ((true : Bool), true)])) := by kernel_rfl
theorem e14_7 (x0 : Int) (x0' : (List Int)) (x1_ : Int) (x1_' : Int) (x1'_ : Int) (x1'_' : Int) (x2_ : Int) (x2_' : Int) (x2'_ : Int) (x2'_' : Int) : runPure kf81.orc Go.Proofs.Try.prog 400 14 as14 rs14 ((x0, x0', ()), ((x1_, x1_', ()), (x1'_, x1'_', ()), ()), ((x2_, x2_', ()), (x2'_, x2'_', ()), ()), ()) [true, false, true, false, true, true, true, true, true, false, false, false, false, false, false, true, false, false, false, false, false, false, false, true, false, false, false, false, false, false, false, false, false, false, true, true, true, true, true, true, true, true, true, true, true, true, true, true, true, true] =
    (let r0 : Bool × PUnit := g16 ((x0, (x0', ())), ()); let r1 : (Int × List Int × PUnit) × PUnit := g18 ((x0, (x0', ())), ()); let r3 : Int × PUnit := g29 ((x0, (x0', ())), ()); let r4 : Int × PUnit := g80 (((x1_, (x1_', ())), ((x1'_, (x1'_', ())), ())), ()); let r2 : (Int × Int × PUnit) × Int × PUnit := g79 (((r1.fst.fst : Int), ((r1.fst.snd.fst : List Int), ())), (((x1_, (x1_', ())), ((x1'_, (x1'_', ())), ())), ())); let r5 : (Int × Int × PUnit) × PUnit := g81 (x0', (((x1_, (x1_', ())), ((x1'_, (x1'_', ())), ())), ())); let r6 : Bool × PUnit := g47 ((r2.fst.fst : Int), ((0 : Int), ((r2.fst.snd.fst : Int), ()))); let r7 : Int × PUnit := g80 (((x2_, (x2_', ())), ((x2'_, (x2'_', ())), ())), ()); some (((true : Bool), ()), [((true : Bool), true), ((true : Bool), true), ((true : Bool), true), ((true : Bool), true), ((true : Bool), true), ((true : Bool), true), ((true : Bool), true), ((true : Bool), true), ((!eqF r7.fst (0 : Int) : Bool), true), ((!eqF r7.fst (0 : Int) : Bool), true), ((!eqF r7.fst (0 : Int) : Bool), true), ((!eqF r7.fst (0 : Int) : Bool), true), ((!eqF r7.fst (0 : Int) : Bool), true), ((!eqF r7.fst (0 : Int) : Bool), true), ((!eqF r7.fst (0 : Int) : Bool), true), (Option.isSome (f80 (((x2_, (x2_', ())), ((x2'_, (x2'_', ())), ())), ())), true), ((leF (↑(List.length x0') : Int) r2.fst.snd.fst : Bool), false), ((!r6.fst : Bool), false), ((!r6.fst : Bool), false), ((!r6.fst : Bool), false), ((!r6.fst : Bool), false), ((!r6.fst : Bool), false), ((!r6.fst : Bool), false), ((!r6.fst : Bool), false), ((!(r2.fst.fst == r5.fst.fst && (r2.fst.snd.fst == r5.fst.snd.fst && true)) : Bool), false), ((!(r2.fst.fst == r5.fst.fst && (r2.fst.snd.fst == r5.fst.snd.fst && true)) : Bool), false), (Option.isSome (f47 ((r2.fst.fst : Int), ((0 : Int), ((r2.fst.snd.fst : Int), ())))), true), ((!(r2.fst.fst == r5.fst.fst && (r2.fst.snd.fst == r5.fst.snd.fst && true)) : Bool), false), ((!(r2.fst.fst == r5.fst.fst && (r2.fst.snd.fst == r5.fst.snd.fst && true)) : Bool), false), ((!(r2.fst.fst == r5.fst.fst && (r2.fst.snd.fst == r5.fst.snd.fst && true)) : Bool), false), ((!(r2.fst.fst == r5.fst.fst && (r2.fst.snd.fst == r5.fst.snd.fst && true)) : Bool), false), ((!(r2.fst.fst == r5.fst.fst && (r2.fst.snd.fst == r5.fst.snd.fst && true)) : Bool), false), ((!eqF r2.snd.fst (0 : Int) : Bool), false), ((!eqF r2.snd.fst (0 : Int) : Bool), false), (Option.isSome (f81 (x0', (((x1_, (x1_', ())), ((x1'_, (x1'_', ())), ())), ()))), true), ((!eqF r2.snd.fst (0 : Int) : Bool), false), ((!eqF r2.snd.fst (0 : Int) : Bool), false), ((!eqF r2.snd.fst (0 : Int) : Bool), false), ((!eqF r2.snd.fst (0 : Int) : Bool), false), ((!eqF r2.snd.fst (0 : Int) : Bool), false), ((!eqF r4.fst (0 : Int) : Bool), false), (Option.isSome (f80 (((x1_, (x1_', ())), ((x1'_, (x1'_', ())), ())), ())), true), ((eqF r3.fst (0 : Int) : Bool), true), (Option.isSome (f29 ((x0, (x0', ())), ())), true), (Option.isSome (f79 (((r1.fst.fst : Int), ((r1.fst.snd.fst : List Int), ())), (((x1_, (x1_', ())), ((x1'_, (x1'_', ())), ())), ()))), true), (Option.isSome (f18 ((x0, (x0', ())), ())), true), ((!r0.fst : Bool), false), (Option.isSome (f16 ((x0, (x0', ())), ())), true), ((false : Bool), false), ((true : Bool), true)])) := by kernel_rfl
theorem e14_8 (x0 : Int) (x0' : (List Int)) (x1_ : Int) (x1_' : Int) (x1'_ : Int) (x1'_' : Int) (x2_ : Int) (x2_' : Int) (x2'_ : Int) (x2'_' : Int) : runPure kf81.orc Go.Proofs.Try.prog 400 14 as14 rs14 ((x0, x0', ()), ((x1_, x1_', ()), (x1'_, x1'_', ()), ()), ((x2_, x2_', ()), (x2'_, x2'_', ()), ()), ()) [true, false, true, false, true, true, true, true, true, false, false, false, false, false, false, true, false, false, false, false, false, false, false, true, false, false, false, false, false, false, false, false, false, false, true, false, false, false, false, false, true, false, false, true, true, true, true, true, true, true, true] =
    (let r0 : Bool × PUnit := g16 ((x0, (x0', ())), ()); let r1 : (Int × List Int × PUnit) × PUnit := g18 ((x0, (x0', ())), ()); let r3 : Int × PUnit := g29 ((x0, (x0', ())), ()); let r4 : Int × PUnit := g80 (((x1_, (x1_', ())), ((x1'_, (x1'_', ())), ())), ()); let r2 : (Int × Int × PUnit) × Int × PUnit := g79 (((r1.fst.fst : Int), ((r1.fst.snd.fst : List Int), ())), (((x1_, (x1_', ())), ((x1'_, (x1'_', ())), ())), ())); let r5 : (Int × Int × PUnit) × PUnit := g81 (x0', (((x1_, (x1_', ())), ((x1'_, (x1'_', ())), ())), ())); let r6 : Bool × PUnit := g47 ((r2.fst.fst : Int), ((0 : Int), ((r2.fst.snd.fst : Int), ()))); let r7 : Int × PUnit := g80 (((x2_, (x2_', ())), ((x2'_, (x2'_', ())), ())), ()); let r8 : Int × PUnit := g82 ((x2_, (x2_', ())), ((x1_, (x1_', ())), ())); some (((true : Bool), ()), [((true : Bool), true), ((!leF r8.fst (0 : Int) : Bool), true), ((!leF r8.fst (0 : Int) : Bool), true), ((!leF r8.fst (0 : Int) : Bool), true), ((!leF r8.fst (0 : Int) : Bool), true), ((!leF r8.fst (0 : Int) : Bool), true), ((!leF r8.fst (0 : Int) : Bool), true), ((!leF r8.fst (0 : Int) : Bool), true), ((!eqF r7.fst (0 : Int) : Bool), false), ((!eqF r7.fst (0 : Int) : Bool), false), (Option.isSome (f82 ((x2_, (x2_', ())), ((x1_, (x1_', ())), ()))), true), ((!eqF r7.fst (0 : Int) : Bool), false), ((!eqF r7.fst (0 : Int) : Bool), false), ((!eqF r7.fst (0 : Int) : Bool), false), ((!eqF r7.fst (0 : Int) : Bool), false), ((!eqF r7.fst (0 : Int) : Bool), false), (Option.isSome (f80 (((x2_, (x2_', ())), ((x2'_, (x2'_', ())), ())), ())), true), ((leF (↑(List.length x0') : Int) r2.fst.snd.fst : Bool), false), ((!r6.fst : Bool), false), ((!r6.fst : Bool), false), ((!r6.fst : Bool), false), ((!r6.fst : Bool), false), ((!r6.fst : Bool), false), ((!r6.fst : Bool), false), ((!r6.fst : Bool), false), ((!(r2.fst.fst == r5.fst.fst && (r2.fst.snd.fst == r5.fst.snd.fst && true)) : Bool), false), ((!(r2.fst.fst == r5.fst.fst && (r2.fst.snd.fst == r5.fst.snd.fst && true)) : Bool), false), (Option.isSome (f47 ((r2.fst.fst : Int), ((0 : Int), ((r2.fst.snd.fst : Int), ())))), true), ((!(r2.fst.fst == r5.fst.fst && (r2.fst.snd.fst == r5.fst.snd.fst && true)) : Bool), false), ((!(r2.fst.fst == r5.fst.fst && (r2.fst.snd.fst == r5.fst.snd.fst && true)) : Bool), false), ((!(r2.fst.fst == r5.fst.fst && (r2.fst.snd.fst == r5.fst.snd.fst && true)) : Bool), false), ((!(r2.fst.fst == r5.fst.fst && (r2.fst.snd.fst == r5.fst.snd.fst && true)) : Bool), false), ((!(r2.fst.fst == r5.fst.fst && (r2.fst.snd.fst == r5.fst.snd.fst && true)) : Bool), false), ((!eqF r2.snd.fst (0 : Int) : Bool), false), ((!eqF r2.snd.fst (0 : Int) : Bool), false), (Option.isSome (f81 (x0', (((x1_, (x1_', ())), ((x1'_, (x1'_', ())), ())), ()))), true), ((!eqF r2.snd.fst (0 : Int) : Bool), false), ((!eqF r2.snd.fst (0 : Int) : Bool), false), ((!eqF r2.snd.fst (0 : Int) : Bool), false), ((!eqF r2.snd.fst (0 : Int) : Bool), false), ((!eqF r2.snd.fst (0 : Int) : Bool), false), ((!eqF r4.fst (0 : Int) : Bool), false), (Option.isSome (f80 (((x1_, (x1_', ())), ((x1'_, (x1'_', ())), ())), ())), true), ((eqF r3.fst (0 : Int) : Bool), true), (Option.isSome (f29 ((x0, (x0', ())), ())), true), (Option.isSome (f79 (((r1.fst.fst : Int), ((r1.fst.snd.fst : List Int), ())), (((x1_, (x1_', ())), ((x1'_, (x1'_', ())), ())), ()))), true), (Option.isSome (f18 ((x0, (x0', ())), ())), true), ((!r0.fst : Bool), false), (Option.isSome (f16 ((x0, (x0', ())), ())), true), ((false : Bool), false), ((true : Bool), true)])) := by kernel_rfl
theorem e14_9 (x0 : Int) (x0' : (List Int)) (x1_ : Int) (x1_' : Int) (x1'_ : Int) (x1'_' : Int) (x2_ : Int) (x2_' : Int) (x2'_ : Int) (x2'_' : Int) : runPure kf81.orc Go.Proofs.Try.prog 400 14 as14 rs14 ((x0, x0', ()), ((x1_, x1_', ()), (x1'_, x1'_', ()), ()), ((x2_, x2_', ()), (x2'_, x2'_', ()), ()), ()) [true, false, true, false, true, true, true, true, true, false, false, false, false, false, false, true, false, false, false, false, false, false, false, true, false, false, false, false, false, false, false, false, false, false, true, false, false, false, false, false, true, false, false, false, false, false, false, false, true, false, false, true] =
    (let r0 : Bool × PUnit := g16 ((x0, (x0', ())), ()); let r1 : (Int × List Int × PUnit) × PUnit := g18 ((x0, (x0', ())), ()); let r3 : Int × PUnit := g29 ((x0, (x0', ())), ()); let r4 : Int × PUnit := g80 (((x1_, (x1_', ())), ((x1'_, (x1'_', ())), ())), ()); let r2 : (Int × Int × PUnit) × Int × PUnit := g79 (((r1.fst.fst : Int), ((r1.fst.snd.fst : List Int), ())), (((x1_, (x1_', ())), ((x1'_, (x1'_', ())), ())), ())); let r5 : (Int × Int × PUnit) × PUnit := g81 (x0', (((x1_, (x1_', ())), ((x1'_, (x1'_', ())), ())), ())); let r6 : Bool × PUnit := g47 ((r2.fst.fst : Int), ((0 : Int), ((r2.fst.snd.fst : Int), ()))); let r7 : Int × PUnit := g80 (((x2_, (x2_', ())), ((x2'_, (x2'_', ())), ())), ()); let r8 : Int × PUnit := g82 ((x2_, (x2_', ())), ((x1_, (x1_', ())), ())); let r9 : Int × PUnit := g82 ((x2'_, (x2'_', ())), ((x1'_, (x1'_', ())), ())); some (((true : Bool), ()), [((!leF (0 : Int) r9.fst : Bool), true), ((!leF r8.fst (0 : Int) : Bool), false), ((!leF r8.fst (0 : Int) : Bool), false), (Option.isSome (f82 ((x2'_, (x2'_', ())), ((x1'_, (x1'_', ())), ()))), true), ((!leF r8.fst (0 : Int) : Bool), false), ((!leF r8.fst (0 : Int) : Bool), false), ((!leF r8.fst (0 : Int) : Bool), false), ((!leF r8.fst (0 : Int) : Bool), false), ((!leF r8.fst (0 : Int) : Bool), false), ((!eqF r7.fst (0 : Int) : Bool), false), ((!eqF r7.fst (0 : Int) : Bool), false), (Option.isSome (f82 ((x2_, (x2_', ())), ((x1_, (x1_', ())), ()))), true), ((!eqF r7.fst (0 : Int) : Bool), false), ((!eqF r7.fst (0 : Int) : Bool), false), ((!eqF r7.fst (0 : Int) : Bool), false), ((!eqF r7.fst (0 : Int) : Bool), false), ((!eqF r7.fst (0 : Int) : Bool), false), (Option.isSome (f80 (((x2_, (x2_', ())), ((x2'_, (x2'_', ())), ())), ())), true), ((leF (↑(List.length x0') : Int) r2.fst.snd.fst : Bool), false), ((!r6.fst : Bool), false), ((!r6.fst : Bool), false), ((!r6.fst : Bool), false), ((!r6.fst : Bool), false), ((!r6.fst : Bool), false), ((!r6.fst : Bool), false), ((!r6.fst : Bool), false), ((!(r2.fst.fst == r5.fst.fst && (r2.fst.snd.fst == r5.fst.snd.fst && true)) : Bool), false), ((!(r2.fst.fst == r5.fst.fst && (r2.fst.snd.fst == r5.fst.snd.fst && true)) : Bool), false), (Option.isSome (f47 ((r2.fst.fst : Int), ((0 : Int), ((r2.fst.snd.fst : Int), ())))), true), ((!(r2.fst.fst == r5.fst.fst && (r2.fst.snd.fst == r5.fst.snd.fst && true)) : Bool), false), ((!(r2.fst.fst == r5.fst.fst && (r2.fst.snd.fst == r5.fst.snd.fst && true)) : Bool), false), ((!(r2.fst.fst == r5.fst.fst && (r2.fst.snd.fst == r5.fst.snd.fst && true)) : Bool), false), ((!(r2.fst.fst == r5.fst.fst && (r2.fst.snd.fst == r5.fst.snd.fst && true)) : Bool), false), ((!(r2.fst.fst == r5.fst.fst && (r2.fst.snd.fst == r5.fst.snd.fst && true)) : Bool), false), ((!eqF r2.snd.fst (0 : Int) : Bool), false), ((!eqF r2.snd.fst (0 : Int) : Bool), false), (Option.isSome (f81 (x0', (((x1_, (x1_', ())), ((x1'_, (x1'_', ())), ())), ()))), true), ((!eqF r2.snd.fst (0 : Int) : Bool), false), ((!eqF r2.snd.fst (0 : Int) : Bool), false), ((!eqF r2.snd.fst (0 : Int) : Bool), false), ((!eqF r2.snd.fst (0 : Int) : Bool), false), ((!eqF r2.snd.fst (0 : Int) : Bool), false), ((!eqF r4.fst (0 : Int) : Bool), false), (Option.isSome (f80 (((x1_, (x1_', ())), ((x1'_, (x1'_', ())), ())), ())), true), ((eqF r3.fst (0 : Int) : Bool), true), (Option.isSome (f29 ((x0, (x0', ())), ())), true), (Option.isSome (f79 (((r1.fst.fst : Int), ((r1.fst.snd.fst : List Int), ())), (((x1_, (x1_', ())), ((x1'_, (x1'_', ())), ())), ()))), true), (Option.isSome (f18 ((x0, (x0', ())), ())), true), ((!r0.fst : Bool), false), (Option.isSome (f16 ((x0, (x0', ())), ())), true), ((false : Bool), false), ((true : Bool), true)])) := by kernel_rfl
theorem e14_10 (x0 : Int) (x0' : (List Int)) (x1_ : Int) (x1_' : Int) (x1'_ : Int) (x1'_' : Int) (x2_ : Int) (x2_' : Int) (x2'_ : Int) (x2'_' : Int) : runPure kf81.orc Go.Proofs.Try.prog 400 14 as14 rs14 ((x0, x0', ()), ((x1_, x1_', ()), (x1'_, x1'_', ()), ()), ((x2_, x2_', ()), (x2'_, x2'_', ()), ()), ()) [true, false, true, false, true, true, true, true, true, false, false, false, false, false, false, true, false, false, false, false, false, false, false, true, false, false, false, false, false, false, false, false, false, false, true, false, false, false, false, false, true, false, false, false, false, false, false, false, true, false, false, false, true, true, true, true, true, true, true, true, true, true, true, true, true, true] =
    (let r0 : Bool × PUnit := g16 ((x0, (x0', ())), ()); let r1 : (Int × List Int × PUnit) × PUnit := g18 ((x0, (x0', ())), ()); let r3 : Int × PUnit := g29 ((x0, (x0', ())), ()); let r4 : Int × PUnit := g80 (((x1_, (x1_', ())), ((x1'_, (x1'_', ())), ())), ()); let r2 : (Int × Int × PUnit) × Int × PUnit := g79 (((r1.fst.fst : Int), ((r1.fst.snd.fst : List Int), ())), (((x1_, (x1_', ())), ((x1'_, (x1'_', ())), ())), ())); let r5 : (Int × Int × PUnit) × PUnit := g81 (x0', (((x1_, (x1_', ())), ((x1'_, (x1'_', ())), ())), ())); let r6 : Bool × PUnit := g47 ((r2.fst.fst : Int), ((0 : Int), ((r2.fst.snd.fst : Int), ()))); let r7 : Int × PUnit := g80 (((x2_, (x2_', ())), ((x2'_, (x2'_', ())), ())), ()); let r8 : Int × PUnit := g82 ((x2_, (x2_', ())), ((x1_, (x1_', ())), ())); let r9 : Int × PUnit := g82 ((x2'_, (x2'_', ())), ((x1'_, (x1'_', ())), ())); let r10 : (Int × Int × PUnit) × Int × PUnit := g79 (((r1.fst.fst : Int), ((r1.fst.snd.fst : List Int), ())), (((x2_, (x2_', ())), ((x2'_, (x2'_', ())), ())), ())); some (((leF r2.fst.snd.fst r10.fst.snd.fst : Bool), ()), [((leF r10.fst.fst r2.fst.fst : Bool), true), ((leF r10.fst.fst r2.fst.fst : Bool), true), ((leF r10.fst.fst r2.fst.fst : Bool), true), ((leF r10.fst.fst r2.fst.fst : Bool), true), ((leF r10.fst.fst r2.fst.fst : Bool), true), ((leF r10.fst.fst r2.fst.fst : Bool), true), ((eqF r10.snd.fst (0 : Int) : Bool), true), ((eqF r10.snd.fst (0 : Int) : Bool), true), ((eqF r10.snd.fst (0 : Int) : Bool), true), ((eqF r10.snd.fst (0 : Int) : Bool), true), ((eqF r10.snd.fst (0 : Int) : Bool), true), ((eqF r10.snd.fst (0 : Int) : Bool), true), (Option.isSome (f79 (((r1.fst.fst : Int), ((r1.fst.snd.fst : List Int), ())), (((x2_, (x2_', ())), ((x2'_, (x2'_', ())), ())), ()))), true), (Option.isSome (f18 ((x0, (x0', ())), ())), true), ((!leF (0 : Int) r9.fst : Bool), false), ((!leF r8.fst (0 : Int) : Bool), false), ((!leF r8.fst (0 : Int) : Bool), false), (Option.isSome (f82 ((x2'_, (x2'_', ())), ((x1'_, (x1'_', ())), ()))), true), ((!leF r8.fst (0 : Int) : Bool), false), ((!leF r8.fst (0 : Int) : Bool), false), ((!leF r8.fst (0 : Int) : Bool), false), ((!leF r8.fst (0 : Int) : Bool), false), ((!leF r8.fst (0 : Int) : Bool), false), ((!eqF r7.fst (0 : Int) : Bool), false), ((!eqF r7.fst (0 : Int) : Bool), false), (Option.isSome (f82 ((x2_, (x2_', ())), ((x1_, (x1_', ())), ()))), true), ((!eqF r7.fst (0 : Int) : Bool), false), ((!eqF r7.fst (0 : Int) : Bool), false), ((!eqF r7.fst (0 : Int) : Bool), false), ((!eqF r7.fst (0 : Int) : Bool), false), ((!eqF r7.fst (0 : Int) : Bool), false), (Option.isSome (f80 (((x2_, (x2_', ())), ((x2'_, (x2'_', ())), ())), ())), true), ((leF (↑(List.length x0') : Int) r2.fst.snd.fst : Bool), false), ((!r6.fst : Bool), false), ((!r6.fst : Bool), false), ((!r6.fst : Bool), false), ((!r6.fst : Bool), false), ((!r6.fst : Bool), false), ((!r6.fst : Bool), false), ((!r6.fst : Bool), false), ((!(r2.fst.fst == r5.fst.fst && (r2.fst.snd.fst == r5.fst.snd.fst && true)) : Bool), false), ((!(r2.fst.fst == r5.fst.fst && (r2.fst.snd.fst == r5.fst.snd.fst && true)) : Bool), false), (Option.isSome (f47 ((r2.fst.fst : Int), ((0 : Int), ((r2.fst.snd.fst : Int), ())))), true), ((!(r2.fst.fst == r5.fst.fst && (r2.fst.snd.fst == r5.fst.snd.fst && true)) : Bool), false), ((!(r2.fst.fst == r5.fst.fst && (r2.fst.snd.fst == r5.fst.snd.fst && true)) : Bool), false), ((!(r2.fst.fst == r5.fst.fst && (r2.fst.snd.fst == r5.fst.snd.fst && true)) : Bool), false), ((!(r2.fst.fst == r5.fst.fst && (r2.fst.snd.fst == r5.fst.snd.fst && true)) : Bool), false), ((!(r2.fst.fst == r5.fst.fst && (r2.fst.snd.fst == r5.fst.snd.fst && true)) : Bool), false), ((!eqF r2.snd.fst (0 : Int) : Bool), false), ((!eqF r2.snd.fst (0 : Int) : Bool), false), (Option.isSome (f81 (x0', (((x1_, (x1_', ())), ((x1'_, (x1'_', ())), ())), ()))), true), ((!eqF r2.snd.fst (0 : Int) : Bool), false), ((!eqF r2.snd.fst (0 : Int) : Bool), false), ((!eqF r2.snd.fst (0 : Int) : Bool), false), ((!eqF r2.snd.fst (0 : Int) : Bool), false), ((!eqF r2.snd.fst (0 : Int) : Bool), false), ((!eqF r4.fst (0 : Int) : Bool), false), (Option.isSome (f80 (((x1_, (x1_', ())), ((x1'_, (x1'_', ())), ())), ())), true), ((eqF r3.fst (0 : Int) : Bool), true), (Option.isSome (f29 ((x0, (x0', ())), ())), true), (Option.isSome (f79 (((r1.fst.fst : Int), ((r1.fst.snd.fst : List Int), ())), (((x1_, (x1_', ())), ((x1'_, (x1'_', ())), ())), ()))), true), (Option.isSome (f18 ((x0, (x0', ())), ())), true), ((!r0.fst : Bool), false), (Option.isSome (f16 ((x0, (x0', ())), ())), true), ((false : Bool), false), ((true : Bool), true)])) := by kernel_rfl
theorem e14_11 (x0 : Int) (x0' : (List Int)) (x1_ : Int) (x1_' : Int) (x1'_ : Int) (x1'_' : Int) (x2_ : Int) (x2_' : Int) (x2'_ : Int) (x2'_' : Int) : runPure kf81.orc Go.Proofs.Try.prog 400 14 as14 rs14 ((x0, x0', ()), ((x1_, x1_', ()), (x1'_, x1'_', ()), ()), ((x2_, x2_', ()), (x2'_, x2'_', ()), ()), ()) [true, false, true, false, true, true, true, true, true, false, false, false, false, false, false, true, false, false, false, false, false, false, false, true, false, false, false, false, false, false, false, false, false, false, true, false, false, false, false, false, true, false, false, false, false, false, false, false, true, false, false, false, true, true, true, true, true, true, true, true, false, false, false, false, false, false] =
    (let r0 : Bool × PUnit := g16 ((x0, (x0', ())), ()); let r1 : (Int × List Int × PUnit) × PUnit := g18 ((x0, (x0', ())), ()); let r3 : Int × PUnit := g29 ((x0, (x0', ())), ()); let r4 : Int × PUnit := g80 (((x1_, (x1_', ())), ((x1'_, (x1'_', ())), ())), ()); let r2 : (Int × Int × PUnit) × Int × PUnit := g79 (((r1.fst.fst : Int), ((r1.fst.snd.fst : List Int), ())), (((x1_, (x1_', ())), ((x1'_, (x1'_', ())), ())), ())); let r5 : (Int × Int × PUnit) × PUnit := g81 (x0', (((x1_, (x1_', ())), ((x1'_, (x1'_', ())), ())), ())); let r6 : Bool × PUnit := g47 ((r2.fst.fst : Int), ((0 : Int), ((r2.fst.snd.fst : Int), ()))); let r7 : Int × PUnit := g80 (((x2_, (x2_', ())), ((x2'_, (x2'_', ())), ())), ()); let r8 : Int × PUnit := g82 ((x2_, (x2_', ())), ((x1_, (x1_', ())), ())); let r9 : Int × PUnit := g82 ((x2'_, (x2'_', ())), ((x1'_, (x1'_', ())), ())); let r10 : (Int × Int × PUnit) × Int × PUnit := g79 (((r1.fst.fst : Int), ((r1.fst.snd.fst : List Int), ())), (((x2_, (x2_', ())), ((x2'_, (x2'_', ())), ())), ())); some (((false : Bool), ()), [((leF r10.fst.fst r2.fst.fst : Bool), false), ((leF r10.fst.fst r2.fst.fst : Bool), false), ((leF r10.fst.fst r2.fst.fst : Bool), false), ((leF r10.fst.fst r2.fst.fst : Bool), false), ((leF r10.fst.fst r2.fst.fst : Bool), false), ((leF r10.fst.fst r2.fst.fst : Bool), false), ((eqF r10.snd.fst (0 : Int) : Bool), true), ((eqF r10.snd.fst (0 : Int) : Bool), true), ((eqF r10.snd.fst (0 : Int) : Bool), true), ((eqF r10.snd.fst (0 : Int) : Bool), true), ((eqF r10.snd.fst (0 : Int) : Bool), true), ((eqF r10.snd.fst (0 : Int) : Bool), true), (Option.isSome (f79 (((r1.fst.fst : Int), ((r1.fst.snd.fst : List Int), ())), (((x2_, (x2_', ())), ((x2'_, (x2'_', ())), ())), ()))), true), (Option.isSome (f18 ((x0, (x0', ())), ())), true), ((!leF (0 : Int) r9.fst : Bool), false), ((!leF r8.fst (0 : Int) : Bool), false), ((!leF r8.fst (0 : Int) : Bool), false), (Option.isSome (f82 ((x2'_, (x2'_', ())), ((x1'_, (x1'_', ())), ()))), true), ((!leF r8.fst (0 : Int) : Bool), false), ((!leF r8.fst (0 : Int) : Bool), false), ((!leF r8.fst (0 : Int) : Bool), false), ((!leF r8.fst (0 : Int) : Bool), false), ((!leF r8.fst (0 : Int) : Bool), false), ((!eqF r7.fst (0 : Int) : Bool), false), ((!eqF r7.fst (0 : Int) : Bool), false), (Option.isSome (f82 ((x2_, (x2_', ())), ((x1_, (x1_', ())), ()))), true), ((!eqF r7.fst (0 : Int) : Bool), false), ((!eqF r7.fst (0 : Int) : Bool), false), ((!eqF r7.fst (0 : Int) : Bool), false), ((!eqF r7.fst (0 : Int) : Bool), false), ((!eqF r7.fst (0 : Int) : Bool), false), (Option.isSome (f80 (((x2_, (x2_', ())), ((x2'_, (x2'_', ())), ())), ())), true), ((leF (↑(List.length x0') : Int) r2.fst.snd.fst : Bool), false), ((!r6.fst : Bool), false), ((!r6.fst : Bool), false), ((!r6.fst : Bool), false), ((!r6.fst : Bool), false), ((!r6.fst : Bool), false), ((!r6.fst : Bool), false), ((!r6.fst : Bool), false), ((!(r2.fst.fst == r5.fst.fst && (r2.fst.snd.fst == r5.fst.snd.fst && true)) : Bool), false), ((!(r2.fst.fst == r5.fst.fst && (r2.fst.snd.fst == r5.fst.snd.fst && true)) : Bool), false), (Option.isSome (f47 ((r2.fst.fst : Int), ((0 : Int), ((r2.fst.snd.fst : Int), ())))), true), ((!(r2.fst.fst == r5.fst.fst && (r2.fst.snd.fst == r5.fst.snd.fst && true)) : Bool), false), ((!(r2.fst.fst == r5.fst.fst && (r2.fst.snd.fst == r5.fst.snd.fst && true)) : Bool), false), ((!(r2.fst.fst == r5.fst.fst && (r2.fst.snd.fst == r5.fst.snd.fst && true)) : Bool), false), ((!(r2.fst.fst == r5.fst.fst && (r2.fst.snd.fst == r5.fst.snd.fst && true)) : Bool), false), ((!(r2.fst.fst == r5.fst.fst && (r2.fst.snd.fst == r5.fst.snd.fst && true)) : Bool), false), ((!eqF r2.snd.fst (0 : Int) : Bool), false), ((!eqF r2.snd.fst (0 : Int) : Bool), false), (Option.isSome (f81 (x0', (((x1_, (x1_', ())), ((x1'_, (x1'_', ())), ())), ()))), true), ((!eqF r2.snd.fst (0 : Int) : Bool), false), ((!eqF r2.snd.fst (0 : Int) : Bool), false), ((!eqF r2.snd.fst (0 : Int) : Bool), false), ((!eqF r2.snd.fst (0 : Int) : Bool), false), ((!eqF r2.snd.fst (0 : Int) : Bool), false), ((!eqF r4.fst (0 : Int) : Bool), false), (Option.isSome (f80 (((x1_, (x1_', ())), ((x1'_, (x1'_', ())), ())), ())), true), ((eqF r3.fst (0 : Int) : Bool), true), (Option.isSome (f29 ((x0, (x0', ())), ())), true), (Option.isSome (f79 (((r1.fst.fst : Int), ((r1.fst.snd.fst : List Int), ())), (((x1_, (x1_', ())), ((x1'_, (x1'_', ())), ())), ()))), true), (Option.isSome (f18 ((x0, (x0', ())), ())), true), ((!r0.fst : Bool), false), (Option.isSome (f16 ((x0, (x0', ())), ())), true), ((false : Bool), false), ((true : Bool), true)])) := by kernel_rfl
theorem e14_12 (x0 : Int) (x0' : (List Int)) (x1_ : Int) (x1_' : Int) (x1'_ : Int) (x1'_' : Int) (x2_ : Int) (x2_' : Int) (x2'_ : Int) (x2'_' : Int) : runPure kf81.orc Go.Proofs.Try.prog 400 14 as14 rs14 ((x0, x0', ()), ((x1_, x1_', ()), (x1'_, x1'_', ()), ()), ((x2_, x2_', ()), (x2'_, x2'_', ()), ()), ()) [true, false, true, false, true, true, true, true, true, false, false, false, false, false, false, true, false, false, false, false, false, false, false, true, false, false, false, false, false, false, false, false, false, false, true, false, false, false, false, false, true, false, false, false, false, false, false, false, true, false, false, false, true, true, false, false, false, false, false, false, false, false, false, false, false, false] =
    (let r0 : Bool × PUnit := g16 ((x0, (x0', ())), ()); let r1 : (Int × List Int × PUnit) × PUnit := g18 ((x0, (x0', ())), ()); let r3 : Int × PUnit := g29 ((x0, (x0', ())), ()); let r4 : Int × PUnit := g80 (((x1_, (x1_', ())), ((x1'_, (x1'_', ())), ())), ()); let r2 : (Int × Int × PUnit) × Int × PUnit := g79 (((r1.fst.fst : Int), ((r1.fst.snd.fst : List Int), ())), (((x1_, (x1_', ())), ((x1'_, (x1'_', ())), ())), ())); let r5 : (Int × Int × PUnit) × PUnit := g81 (x0', (((x1_, (x1_', ())), ((x1'_, (x1'_', ())), ())), ())); let r6 : Bool × PUnit := g47 ((r2.fst.fst : Int), ((0 : Int), ((r2.fst.snd.fst : Int), ()))); let r7 : Int × PUnit := g80 (((x2_, (x2_', ())), ((x2'_, (x2'_', ())), ())), ()); let r8 : Int × PUnit := g82 ((x2_, (x2_', ())), ((x1_, (x1_', ())), ())); let r9 : Int × PUnit := g82 ((x2'_, (x2'_', ())), ((x1'_, (x1'_', ())), ())); let r10 : (Int × Int × PUnit) × Int × PUnit := g79 (((r1.fst.fst : Int), ((r1.fst.snd.fst : List Int), ())), (((x2_, (x2_', ())), ((x2'_, (x2'_', ())), ())), ())); some (((false : Bool), ()), [((false : Bool), false), ((false : Bool), false), ((false : Bool), false), ((false : Bool), false), ((false : Bool), false), ((false : Bool), false), ((eqF r10.snd.fst (0 : Int) : Bool), false), ((eqF r10.snd.fst (0 : Int) : Bool), false), ((eqF r10.snd.fst (0 : Int) : Bool), false), ((eqF r10.snd.fst (0 : Int) : Bool), false), ((eqF r10.snd.fst (0 : Int) : Bool), false), ((eqF r10.snd.fst (0 : Int) : Bool), false), (Option.isSome (f79 (((r1.fst.fst : Int), ((r1.fst.snd.fst : List Int), ())), (((x2_, (x2_', ())), ((x2'_, (x2'_', ())), ())), ()))), true), (Option.isSome (f18 ((x0, (x0', ())), ())), true), ((!leF (0 : Int) r9.fst : Bool), false), ((!leF r8.fst (0 : Int) : Bool), false), ((!leF r8.fst (0 : Int) : Bool), false), (Option.isSome (f82 ((x2'_, (x2'_', ())), ((x1'_, (x1'_', ())), ()))), true), ((!leF r8.fst (0 : Int) : Bool), false), ((!leF r8.fst (0 : Int) : Bool), false), ((!leF r8.fst (0 : Int) : Bool), false), ((!leF r8.fst (0 : Int) : Bool), false), ((!leF r8.fst (0 : Int) : Bool), false), ((!eqF r7.fst (0 : Int) : Bool), false), ((!eqF r7.fst (0 : Int) : Bool), false), (Option.isSome (f82 ((x2_, (x2_', ())), ((x1_, (x1_', ())), ()))), true), ((!eqF r7.fst (0 : Int) : Bool), false), ((!eqF r7.fst (0 : Int) : Bool), false), ((!eqF r7.fst (0 : Int) : Bool), false), ((!eqF r7.fst (0 : Int) : Bool), false), ((!eqF r7.fst (0 : Int) : Bool), false), (Option.isSome (f80 (((x2_, (x2_', ())), ((x2'_, (x2'_', ())), ())), ())), true), ((leF (↑(List.length x0') : Int) r2.fst.snd.fst : Bool), false), ((!r6.fst : Bool), false), ((!r6.fst : Bool), false), ((!r6.fst : Bool), false), ((!r6.fst : Bool), false), ((!r6.fst : Bool), false), ((!r6.fst : Bool), false), ((!r6.fst : Bool), false), ((!(r2.fst.fst == r5.fst.fst && (r2.fst.snd.fst == r5.fst.snd.fst && true)) : Bool), false), ((!(r2.fst.fst == r5.fst.fst && (r2.fst.snd.fst == r5.fst.snd.fst && true)) : Bool), false), (Option.isSome (f47 ((r2.fst.fst : Int), ((0 : Int), ((r2.fst.snd.fst : Int), ())))), true), ((!(r2.fst.fst == r5.fst.fst && (r2.fst.snd.fst == r5.fst.snd.fst && true)) : Bool), false), ((!(r2.fst.fst == r5.fst.fst && (r2.fst.snd.fst == r5.fst.snd.fst && true)) : Bool), false), ((!(r2.fst.fst == r5.fst.fst && (r2.fst.snd.fst == r5.fst.snd.fst && true)) : Bool), false), ((!(r2.fst.fst == r5.fst.fst && (r2.fst.snd.fst == r5.fst.snd.fst && true)) : Bool), false), ((!(r2.fst.fst == r5.fst.fst && (r2.fst.snd.fst == r5.fst.snd.fst && true)) : Bool), false), ((!eqF r2.snd.fst (0 : Int) : Bool), false), ((!eqF r2.snd.fst (0 : Int) : Bool), false), (Option.isSome (f81 (x0', (((x1_, (x1_', ())), ((x1'_, (x1'_', ())), ())), ()))), true), ((!eqF r2.snd.fst (0 : Int) : Bool), false), ((!eqF r2.snd.fst (0 : Int) : Bool), false), ((!eqF r2.snd.fst (0 : Int) : Bool), false), ((!eqF r2.snd.fst (0 : Int) : Bool), false), ((!eqF r2.snd.fst (0 : Int) : Bool), false), ((!eqF r4.fst (0 : Int) : Bool), false), (Option.isSome (f80 (((x1_, (x1_', ())), ((x1'_, (x1'_', ())), ())), ())), true), ((eqF r3.fst (0 : Int) : Bool), true), (Option.isSome (f29 ((x0, (x0', ())), ())), true), (Option.isSome (f79 (((r1.fst.fst : Int), ((r1.fst.snd.fst : List Int), ())), (((x1_, (x1_', ())), ((x1'_, (x1'_', ())), ())), ()))), true), (Option.isSome (f18 ((x0, (x0', ())), ())), true), ((!r0.fst : Bool), false), (Option.isSome (f16 ((x0, (x0', ())), ())), true), ((false : Bool), false), ((true : Bool), true)])) := by kernel_rfl
theorem e14_13 (x0 : Int) (x0' : (List Int)) (x1_ : Int) (x1_' : Int) (x1'_ : Int) (x1'_' : Int) (x2_ : Int) (x2_' : Int) (x2'_ : Int) (x2'_' : Int) : runPure kf81.orc Go.Proofs.Try.prog 400 14 as14 rs14 ((x0, x0', ()), ((x1_, x1_', ()), (x1'_, x1'_', ()), ()), ((x2_, x2_', ()), (x2'_, x2'_', ()), ()), ()) [true, false, true, false, true, true, true, false, true, true, true, true, true] =
    (let r0 : Bool × PUnit := g16 ((x0, (x0', ())), ()); let r1 : (Int × List Int × PUnit) × PUnit := g18 ((x0, (x0', ())), ()); let r3 : Int × PUnit := g29 ((x0, (x0', ())), ()); let r2 : (Int × Int × PUnit) × Int × PUnit := g79 (((r1.fst.fst : Int), ((r1.fst.snd.fst : List Int), ())), (((x1_, (x1_', ())), ((x1'_, (x1'_', ())), ())), ())); some (((r2.fst.fst == (0 : Int) && (r2.fst.snd.fst == (0 : Int) && true) : Bool), ()), [((eqF r2.snd.fst r3.fst : Bool), true), ((eqF r2.snd.fst r3.fst : Bool), true), ((eqF r2.snd.fst r3.fst : Bool), true), ((eqF r2.snd.fst r3.fst : Bool), true), ((!eqF r3.fst (0 : Int) : Bool), true), ((eqF r3.fst (0 : Int) : Bool), false), (Option.isSome (f29 ((x0, (x0', ())), ())), true), (Option.isSome (f79 (((r1.fst.fst : Int), ((r1.fst.snd.fst : List Int), ())), (((x1_, (x1_', ())), ((x1'_, (x1'_', ())), ())), ()))), true), (Option.isSome (f18 ((x0, (x0', ())), ())), true), ((!r0.fst : Bool), false), (Option.isSome (f16 ((x0, (x0', ())), ())), true), ((false : Bool), false), ((true : Bool), true)])) := by kernel_rfl
theorem e14_14 (x0 : Int) (x0' : (List Int)) (x1_ : Int) (x1_' : Int) (x1'_ : Int) (x1'_' : Int) (x2_ : Int) (x2_' : Int) (x2'_ : Int) (x2'_' : Int) : runPure kf81.orc Go.Proofs.Try.prog 400 14 as14 rs14 ((x0, x0', ()), ((x1_, x1_', ()), (x1'_, x1'_', ()), ()), ((x2_, x2_', ()), (x2'_, x2'_', ()), ()), ()) [true, false, true, false, true, true, true, false, true, false, false, false, false] =
    (let r0 : Bool × PUnit := g16 ((x0, (x0', ())), ()); let r1 : (Int × List Int × PUnit) × PUnit := g18 ((x0, (x0', ())), ()); let r3 : Int × PUnit := g29 ((x0, (x0', ())), ()); let r2 : (Int × Int × PUnit) × Int × PUnit := g79 (((r1.fst.fst : Int), ((r1.fst.snd.fst : List Int), ())), (((x1_, (x1_', ())), ((x1'_, (x1'_', ())), ())), ())); some (((false : Bool), ()), [((eqF r2.snd.fst r3.fst : Bool), false), ((eqF r2.snd.fst r3.fst : Bool), false), ((eqF r2.snd.fst r3.fst : Bool), false), ((eqF r2.snd.fst r3.fst : Bool), false), ((!eqF r3.fst (0 : Int) : Bool), true), ((eqF r3.fst (0 : Int) : Bool), false), (Option.isSome (f29 ((x0, (x0', ())), ())), true), (Option.isSome (f79 (((r1.fst.fst : Int), ((r1.fst.snd.fst : List Int), ())), (((x1_, (x1_', ())), ((x1'_, (x1'_', ())), ())), ()))), true), (Option.isSome (f18 ((x0, (x0', ())), ())), true), ((!r0.fst : Bool), false), (Option.isSome (f16 ((x0, (x0', ())), ())), true), ((false : Bool), false), ((true : Bool), true)])) := by kernel_rfl

theorem ok14_t (x0 : Int) (x0' : (List Int)) (x1_ : Int) (x1_' : Int) (x1'_ : Int) (x1'_' : Int) (x2_ : Int) (x2_' : Int) (x2'_ : Int) (x2'_' : Int) : TrOk (PureRuns Go.Proofs.Try.prog kf81.orc 14 as14 rs14 ((x0, x0', ()), ((x1_, x1_', ()), (x1'_, x1'_', ()), ()), ((x2_, x2_', ()), (x2'_, x2'_', ()), ()), ())) (t14 x0 x0' x1_ x1_' x1'_ x1'_' x2_ x2_' x2'_ x2'_') :=
  TrOk.ofTest (fun h2 => TrOk.ofTest (fun h3 => TrOk.ofFin (PureRuns.of (e14_0 x0 x0' x1_ x1_' x1'_ x1'_' x2_ x2_' x2'_ x2'_') (All.cons h3 (All.cons h2 (All.cons rfl (All.cons rfl (All.nil))))))) (fun h3 => TrOk.ofTest (fun h4 => TrOk.ofTest (fun h5 => TrOk.ofTest (fun h6 => TrOk.ofTest (fun h7 => TrOk.ofTest (fun h8 => TrOk.ofTest (fun h9 => TrOk.ofTest (fun h10 => TrOk.ofFin (PureRuns.of (e14_1 x0 x0' x1_ x1_' x1'_ x1'_' x2_ x2_' x2'_ x2'_') (All.cons (h10) (All.cons (h10) (All.cons (h10) (All.cons h10 (All.cons h9 (All.cons h8 (All.cons h7 (All.cons h6 (All.cons h5 (All.cons h4 (All.cons h3 (All.cons h2 (All.cons rfl (All.cons rfl (All.nil))))))))))))))))) (fun h10 => TrOk.ofFin (PureRuns.of (e14_2 x0 x0' x1_ x1_' x1'_ x1'_' x2_ x2_' x2'_ x2'_') (All.cons (h10) (All.cons (h10) (All.cons (h10) (All.cons h10 (All.cons h9 (All.cons h8 (All.cons h7 (All.cons h6 (All.cons h5 (All.cons h4 (All.cons h3 (All.cons h2 (All.cons rfl (All.cons rfl (All.nil)))))))))))))))))) (fun h9 => TrOk.ofTest (fun h10 => TrOk.ofFin (PureRuns.of (e14_3 x0 x0' x1_ x1_' x1'_ x1'_' x2_ x2_' x2'_ x2'_') (All.cons rfl (All.cons rfl (All.cons rfl (All.cons rfl (All.cons rfl (All.cons rfl (All.cons rfl (All.cons rfl (All.cons rfl (All.cons rfl (All.cons rfl (All.cons rfl (All.cons rfl (All.cons rfl (All.cons rfl (All.cons (not_of (of_not (h10))) (All.cons (not_of (of_not (h10))) (All.cons (not_of (of_not (h10))) (All.cons (not_of (of_not (h10))) (All.cons (not_of (of_not (h10))) (All.cons (not_of (of_not (h10))) (All.cons h10 (All.cons h9 (All.cons h8 (All.cons h7 (All.cons h6 (All.cons h5 (All.cons h4 (All.cons h3 (All.cons h2 (All.cons rfl (All.cons rfl (All.nil))))))))))))))))))))))))))))))))))) (fun h10 => TrOk.ofTest (fun h15 => TrOk.ofTest (fun h18 => TrOk.ofFin (PureRuns.of (e14_4 x0 x0' x1_ x1_' x1'_ x1'_' x2_ x2_' x2'_ x2'_') (All.cons rfl (All.cons rfl (All.cons rfl (All.cons rfl (All.cons rfl (All.cons rfl (All.cons rfl (All.cons rfl (All.cons (not_of (of_not (h18))) (All.cons (not_of (of_not (h18))) (All.cons (not_of (of_not (h18))) (All.cons (not_of (of_not (h18))) (All.cons (not_of (of_not (h18))) (All.cons (not_of (of_not (h18))) (All.cons h18 (All.cons (not_of (of_not (h10))) (All.cons (not_of (of_not (h10))) (All.cons h15 (All.cons (not_of (of_not (h10))) (All.cons (not_of (of_not (h10))) (All.cons (not_of (of_not (h10))) (All.cons (not_of (of_not (h10))) (All.cons h10 (All.cons h9 (All.cons h8 (All.cons h7 (All.cons h6 (All.cons h5 (All.cons h4 (All.cons h3 (All.cons h2 (All.cons rfl (All.cons rfl (All.nil)))))))))))))))))))))))))))))))))))) (fun h18 => TrOk.ofTest (fun h23 => TrOk.ofTest (fun h26 => TrOk.ofFin (PureRuns.of (e14_5 x0 x0' x1_ x1_' x1'_ x1'_' x2_ x2_' x2'_ x2'_') (All.cons rfl (All.cons (not_of (of_not (h26))) (All.cons (not_of (of_not (h26))) (All.cons (not_of (of_not (h26))) (All.cons (not_of (of_not (h26))) (All.cons (not_of (of_not (h26))) (All.cons (not_of (of_not (h26))) (All.cons h26 (All.cons (not_of (of_not (h18))) (All.cons (not_of (of_not (h18))) (All.cons h23 (All.cons (not_of (of_not (h18))) (All.cons (not_of (of_not (h18))) (All.cons (not_of (of_not (h18))) (All.cons (not_of (of_not (h18))) (All.cons h18 (All.cons (not_of (of_not (h10))) (All.cons (not_of (of_not (h10))) (All.cons h15 (All.cons (not_of (of_not (h10))) (All.cons (not_of (of_not (h10))) (All.cons (not_of (of_not (h10))) (All.cons (not_of (of_not (h10))) (All.cons h10 (All.cons h9 (All.cons h8 (All.cons h7 (All.cons h6 (All.cons h5 (All.cons h4 (All.cons h3 (All.cons h2 (All.cons rfl (All.cons rfl (All.nil))))))))))))))))))))))))))))))))))))) (fun h26 => TrOk.ofTest (fun h33 => TrOk.ofFin (PureRuns.of (e14_6 x0 x0' x1_ x1_' x1'_ x1'_' x2_ x2_' x2'_ x2'_') (All.cons h33 (All.cons (not_of (of_not (h26))) (All.cons (not_of (of_not (h26))) (All.cons (not_of (of_not (h26))) (All.cons (not_of (of_not (h26))) (All.cons (not_of (of_not (h26))) (All.cons (not_of (of_not (h26))) (All.cons h26 (All.cons (not_of (of_not (h18))) (All.cons (not_of (of_not (h18))) (All.cons h23 (All.cons (not_of (of_not (h18))) (All.cons (not_of (of_not (h18))) (All.cons (not_of (of_not (h18))) (All.cons (not_of (of_not (h18))) (All.cons h18 (All.cons (not_of (of_not (h10))) (All.cons (not_of (of_not (h10))) (All.cons h15 (All.cons (not_of (of_not (h10))) (All.cons (not_of (of_not (h10))) (All.cons (not_of (of_not (h10))) (All.cons (not_of (of_not (h10))) (All.cons h10 (All.cons h9 (All.cons h8 (All.cons h7 (All.cons h6 (All.cons h5 (All.cons h4 (All.cons h3 (All.cons h2 (All.cons rfl (All.cons rfl (All.nil))))))))))))))))))))))))))))))))))))) (fun h33 => TrOk.ofTest (fun h34 => TrOk.ofTest (fun h35 => TrOk.ofFin (PureRuns.of (e14_7 x0 x0' x1_ x1_' x1'_ x1'_' x2_ x2_' x2'_ x2'_') (All.cons rfl (All.cons rfl (All.cons rfl (All.cons rfl (All.cons rfl (All.cons rfl (All.cons rfl (All.cons rfl (All.cons (not_of (of_not (h35))) (All.cons (not_of (of_not (h35))) (All.cons (not_of (of_not (h35))) (All.cons (not_of (of_not (h35))) (All.cons (not_of (of_not (h35))) (All.cons (not_of (of_not (h35))) (All.cons h35 (All.cons h34 (All.cons h33 (All.cons (not_of (of_not (h26))) (All.cons (not_of (of_not (h26))) (All.cons (not_of (of_not (h26))) (All.cons (not_of (of_not (h26))) (All.cons (not_of (of_not (h26))) (All.cons (not_of (of_not (h26))) (All.cons h26 (All.cons (not_of (of_not (h18))) (All.cons (not_of (of_not (h18))) (All.cons h23 (All.cons (not_of (of_not (h18))) (All.cons (not_of (of_not (h18))) (All.cons (not_of (of_not (h18))) (All.cons (not_of (of_not (h18))) (All.cons h18 (All.cons (not_of (of_not (h10))) (All.cons (not_of (of_not (h10))) (All.cons h15 (All.cons (not_of (of_not (h10))) (All.cons (not_of (of_not (h10))) (All.cons (not_of (of_not (h10))) (All.cons (not_of (of_not (h10))) (All.cons h10 (All.cons h9 (All.cons h8 (All.cons h7 (All.cons h6 (All.cons h5 (All.cons h4 (All.cons h3 (All.cons h2 (All.cons rfl (All.cons rfl (All.nil))))))))))))))))))))))))))))))))))))))))))))))))))))) (fun h35 => TrOk.ofTest (fun h40 => TrOk.ofTest (fun h43 => TrOk.ofFin (PureRuns.of (e14_8 x0 x0' x1_ x1_' x1'_ x1'_' x2_ x2_' x2'_ x2'_') (All.cons rfl (All.cons (not_of (of_not (h43))) (All.cons (not_of (of_not (h43))) (All.cons (not_of (of_not (h43))) (All.cons (not_of (of_not (h43))) (All.cons (not_of (of_not (h43))) (All.cons (not_of (of_not (h43))) (All.cons h43 (All.cons (not_of (of_not (h35))) (All.cons (not_of (of_not (h35))) (All.cons h40 (All.cons (not_of (of_not (h35))) (All.cons (not_of (of_not (h35))) (All.cons (not_of (of_not (h35))) (All.cons (not_of (of_not (h35))) (All.cons h35 (All.cons h34 (All.cons h33 (All.cons (not_of (of_not (h26))) (All.cons (not_of (of_not (h26))) (All.cons (not_of (of_not (h26))) (All.cons (not_of (of_not (h26))) (All.cons (not_of (of_not (h26))) (All.cons (not_of (of_not (h26))) (All.cons h26 (All.cons (not_of (of_not (h18))) (All.cons (not_of (of_not (h18))) (All.cons h23 (All.cons (not_of (of_not (h18))) (All.cons (not_of (of_not (h18))) (All.cons (not_of (of_not (h18))) (All.cons (not_of (of_not (h18))) (All.cons h18 (All.cons (not_of (of_not (h10))) (All.cons (not_of (of_not (h10))) (All.cons h15 (All.cons (not_of (of_not (h10))) (All.cons (not_of (of_not (h10))) (All.cons (not_of (of_not (h10))) (All.cons (not_of (of_not (h10))) (All.cons h10 (All.cons h9 (All.cons h8 (All.cons h7 (All.cons h6 (All.cons h5 (All.cons h4 (All.cons h3 (All.cons h2 (All.cons rfl (All.cons rfl (All.nil)))))))))))))))))))))))))))))))))))))))))))))))))))))) (fun h43 => TrOk.ofTest (fun h48 => TrOk.ofTest (fun h51 => TrOk.ofFin (PureRuns.of (e14_9 x0 x0' x1_ x1_' x1'_ x1'_' x2_ x2_' x2'_ x2'_') (All.cons h51 (All.cons (not_of (of_not (h43))) (All.cons (not_of (of_not (h43))) (All.cons h48 (All.cons (not_of (of_not (h43))) (All.cons (not_of (of_not (h43))) (All.cons (not_of (of_not (h43))) (All.cons (not_of (of_not (h43))) (All.cons h43 (All.cons (not_of (of_not (h35))) (All.cons (not_of (of_not (h35))) (All.cons h40 (All.cons (not_of (of_not (h35))) (All.cons (not_of (of_not (h35))) (All.cons (not_of (of_not (h35))) (All.cons (not_of (of_not (h35))) (All.cons h35 (All.cons h34 (All.cons h33 (All.cons (not_of (of_not (h26))) (All.cons (not_of (of_not (h26))) (All.cons (not_of (of_not (h26))) (All.cons (not_of (of_not (h26))) (All.cons (not_of (of_not (h26))) (All.cons (not_of (of_not (h26))) (All.cons h26 (All.cons (not_of (of_not (h18))) (All.cons (not_of (of_not (h18))) (All.cons h23 (All.cons (not_of (of_not (h18))) (All.cons (not_of (of_not (h18))) (All.cons (not_of (of_not (h18))) (All.cons (not_of (of_not (h18))) (All.cons h18 (All.cons (not_of (of_not (h10))) (All.cons (not_of (of_not (h10))) (All.cons h15 (All.cons (not_of (of_not (h10))) (All.cons (not_of (of_not (h10))) (All.cons (not_of (of_not (h10))) (All.cons (not_of (of_not (h10))) (All.cons h10 (All.cons h9 (All.cons h8 (All.cons h7 (All.cons h6 (All.cons h5 (All.cons h4 (All.cons h3 (All.cons h2 (All.cons rfl (All.cons rfl (All.nil))))))))))))))))))))))))))))))))))))))))))))))))))))))) (fun h51 => TrOk.ofTest (fun h53 => TrOk.ofTest (fun h54 => TrOk.ofTest (fun h60 => TrOk.ofFin (PureRuns.of (e14_10 x0 x0' x1_ x1_' x1'_ x1'_' x2_ x2_' x2'_ x2'_') (All.cons (h60) (All.cons (h60) (All.cons (h60) (All.cons (h60) (All.cons (h60) (All.cons h60 (All.cons (h54) (All.cons (h54) (All.cons (h54) (All.cons (h54) (All.cons (h54) (All.cons h54 (All.cons h53 (All.cons (h4) (All.cons h51 (All.cons (not_of (of_not (h43))) (All.cons (not_of (of_not (h43))) (All.cons h48 (All.cons (not_of (of_not (h43))) (All.cons (not_of (of_not (h43))) (All.cons (not_of (of_not (h43))) (All.cons (not_of (of_not (h43))) (All.cons h43 (All.cons (not_of (of_not (h35))) (All.cons (not_of (of_not (h35))) (All.cons h40 (All.cons (not_of (of_not (h35))) (All.cons (not_of (of_not (h35))) (All.cons (not_of (of_not (h35))) (All.cons (not_of (of_not (h35))) (All.cons h35 (All.cons h34 (All.cons h33 (All.cons (not_of (of_not (h26))) (All.cons (not_of (of_not (h26))) (All.cons (not_of (of_not (h26))) (All.cons (not_of (of_not (h26))) (All.cons (not_of (of_not (h26))) (All.cons (not_of (of_not (h26))) (All.cons h26 (All.cons (not_of (of_not (h18))) (All.cons (not_of (of_not (h18))) (All.cons h23 (All.cons (not_of (of_not (h18))) (All.cons (not_of (of_not (h18))) (All.cons (not_of (of_not (h18))) (All.cons (not_of (of_not (h18))) (All.cons h18 (All.cons (not_of (of_not (h10))) (All.cons (not_of (of_not (h10))) (All.cons h15 (All.cons (not_of (of_not (h10))) (All.cons (not_of (of_not (h10))) (All.cons (not_of (of_not (h10))) (All.cons (not_of (of_not (h10))) (All.cons h10 (All.cons h9 (All.cons h8 (All.cons h7 (All.cons h6 (All.cons h5 (All.cons h4 (All.cons h3 (All.cons h2 (All.cons rfl (All.cons rfl (All.nil))))))))))))))))))))))))))))))))))))))))))))))))))))))))))))))))))))) (fun h60 => TrOk.ofFin (PureRuns.of (e14_11 x0 x0' x1_ x1_' x1'_ x1'_' x2_ x2_' x2'_ x2'_') (All.cons (h60) (All.cons (h60) (All.cons (h60) (All.cons (h60) (All.cons (h60) (All.cons h60 (All.cons (h54) (All.cons (h54) (All.cons (h54) (All.cons (h54) (All.cons (h54) (All.cons h54 (All.cons h53 (All.cons (h4) (All.cons h51 (All.cons (not_of (of_not (h43))) (All.cons (not_of (of_not (h43))) (All.cons h48 (All.cons (not_of (of_not (h43))) (All.cons (not_of (of_not (h43))) (All.cons (not_of (of_not (h43))) (All.cons (not_of (of_not (h43))) (All.cons h43 (All.cons (not_of (of_not (h35))) (All.cons (not_of (of_not (h35))) (All.cons h40 (All.cons (not_of (of_not (h35))) (All.cons (not_of (of_not (h35))) (All.cons (not_of (of_not (h35))) (All.cons (not_of (of_not (h35))) (All.cons h35 (All.cons h34 (All.cons h33 (All.cons (not_of (of_not (h26))) (All.cons (not_of (of_not (h26))) (All.cons (not_of (of_not (h26))) (All.cons (not_of (of_not (h26))) (All.cons (not_of (of_not (h26))) (All.cons (not_of (of_not (h26))) (All.cons h26 (All.cons (not_of (of_not (h18))) (All.cons (not_of (of_not (h18))) (All.cons h23 (All.cons (not_of (of_not (h18))) (All.cons (not_of (of_not (h18))) (All.cons (not_of (of_not (h18))) (All.cons (not_of (of_not (h18))) (All.cons h18 (All.cons (not_of (of_not (h10))) (All.cons (not_of (of_not (h10))) (All.cons h15 (All.cons (not_of (of_not (h10))) (All.cons (not_of (of_not (h10))) (All.cons (not_of (of_not (h10))) (All.cons (not_of (of_not (h10))) (All.cons h10 (All.cons h9 (All.cons h8 (All.cons h7 (All.cons h6 (All.cons h5 (All.cons h4 (All.cons h3 (All.cons h2 (All.cons rfl (All.cons rfl (All.nil)))))))))))))))))))))))))))))))))))))))))))))))))))))))))))))))))))))) (fun h54 => TrOk.ofFin (PureRuns.of (e14_12 x0 x0' x1_ x1_' x1'_ x1'_' x2_ x2_' x2'_ x2'_') (All.cons rfl (All.cons rfl (All.cons rfl (All.cons rfl (All.cons rfl (All.cons rfl (All.cons (h54) (All.cons (h54) (All.cons (h54) (All.cons (h54) (All.cons (h54) (All.cons h54 (All.cons h53 (All.cons (h4) (All.cons h51 (All.cons (not_of (of_not (h43))) (All.cons (not_of (of_not (h43))) (All.cons h48 (All.cons (not_of (of_not (h43))) (All.cons (not_of (of_not (h43))) (All.cons (not_of (of_not (h43))) (All.cons (not_of (of_not (h43))) (All.cons h43 (All.cons (not_of (of_not (h35))) (All.cons (not_of (of_not (h35))) (All.cons h40 (All.cons (not_of (of_not (h35))) (All.cons (not_of (of_not (h35))) (All.cons (not_of (of_not (h35))) (All.cons (not_of (of_not (h35))) (All.cons h35 (All.cons h34 (All.cons h33 (All.cons (not_of (of_not (h26))) (All.cons (not_of (of_not (h26))) (All.cons (not_of (of_not (h26))) (All.cons (not_of (of_not (h26))) (All.cons (not_of (of_not (h26))) (All.cons (not_of (of_not (h26))) (All.cons h26 (All.cons (not_of (of_not (h18))) (All.cons (not_of (of_not (h18))) (All.cons h23 (All.cons (not_of (of_not (h18))) (All.cons (not_of (of_not (h18))) (All.cons (not_of (of_not (h18))) (All.cons (not_of (of_not (h18))) (All.cons h18 (All.cons (not_of (of_not (h10))) (All.cons (not_of (of_not (h10))) (All.cons h15 (All.cons (not_of (of_not (h10))) (All.cons (not_of (of_not (h10))) (All.cons (not_of (of_not (h10))) (All.cons (not_of (of_not (h10))) (All.cons h10 (All.cons h9 (All.cons h8 (All.cons h7 (All.cons h6 (All.cons h5 (All.cons h4 (All.cons h3 (All.cons h2 (All.cons rfl (All.cons rfl (All.nil)))))))))))))))))))))))))))))))))))))))))))))))))))))))))))))))))))))) (fun h53 => TrOk.ofStop))) (fun h48 => TrOk.ofStop))) (fun h40 => TrOk.ofStop))) (fun h34 => TrOk.ofStop)))) (fun h23 => TrOk.ofStop))) (fun h15 => TrOk.ofStop)))) (fun h8 => TrOk.ofStop)) (fun h7 => TrOk.ofTest (fun h9 => TrOk.ofFin (PureRuns.of (e14_13 x0 x0' x1_ x1_' x1'_ x1'_' x2_ x2_' x2'_ x2'_') (All.cons (h9) (All.cons (h9) (All.cons (h9) (All.cons h9 (All.cons (not_of (h7)) (All.cons h7 (All.cons h6 (All.cons h5 (All.cons h4 (All.cons h3 (All.cons h2 (All.cons rfl (All.cons rfl (All.nil)))))))))))))))) (fun h9 => TrOk.ofFin (PureRuns.of (e14_14 x0 x0' x1_ x1_' x1'_ x1'_' x2_ x2_' x2'_ x2'_') (All.cons (h9) (All.cons (h9) (All.cons (h9) (All.cons h9 (All.cons (not_of (h7)) (All.cons h7 (All.cons h6 (All.cons h5 (All.cons h4 (All.cons h3 (All.cons h2 (All.cons rfl (All.cons rfl (All.nil)))))))))))))))))) (fun h6 => TrOk.ofStop)) (fun h5 => TrOk.ofStop)) (fun h4 => TrOk.ofStop))) (fun h2 => TrOk.ofStop)

theorem ok14 : PureOk Go.Proofs.Try.prog 14 p14 := pureOk_of kf81_ok.base (T := fun (d : Tys.data as14) => t14 d.1.1 d.1.2.1 d.2.1.1.1 d.2.1.1.2.1 d.2.1.2.1.1 d.2.1.2.1.2.1 d.2.2.1.1.1 d.2.2.1.1.2.1 d.2.2.1.2.1.1 d.2.2.1.2.1.2.1) (by kernel_rfl) (fun (d : Tys.data as14) => ok14_t d.1.1 d.1.2.1 d.2.1.1.1 d.2.1.1.2.1 d.2.1.2.1.1 d.2.1.2.1.2.1 d.2.2.1.1.1 d.2.2.1.1.2.1 d.2.2.1.2.1.1 d.2.2.1.2.1.2.1)
def kf14 : Known := kf81.func 14 p14
theorem kf14_ok : KnownOk Go.Proofs.Try.prog kf14 := kf81_ok.func ok14

end Go.Vm.Mo
