import Derived.Test.YtappjfcejjmdeaaA3
import Derived.KernelRfl
import Derived.Test.YtappjfcejjmdeaaProg
set_option linter.unusedVariables false
set_option linter.unusedSimpArgs false

namespace Go.Vm.Mo
open Go
set_option linter.unusedVariables false

def kn0 : Known := ⟨[], []⟩

theorem plainP : Plain Go.Proofs.Try.prog := by
  have h : (Go.Proofs.Try.prog.funcs.toList.all fun fn => !(fn.body.isSome && fn.name == "runtime.NumGoroutine")) = true := by kernel_rfl
  intro f fn hf hb
  have hm : fn ∈ Go.Proofs.Try.prog.funcs.toList := by
    have := Array.getElem?_eq_some_iff.1 hf
    obtain ⟨hlt, rfl⟩ := this
    simp
  have := List.all_eq_true.1 h fn hm
  rw [hb] at this
  simpa using this

theorem kn0_ok : KnownOk Go.Proofs.Try.prog kn0 := ⟨plainP, by kernel_rfl, (fun _ h => by cases h), (fun _ h => by cases h)⟩

/-! ductility/ductilitylaw02.awake -/

abbrev as15 : List Ty := []
abbrev rs15 : List Ty := [.bool]
def f15 (_ : Tys.data as15) : Option (Tys.data rs15) := some (true, ())
def g15 (_ : Tys.data as15) : Tys.data rs15 := (true, ())
def p15 : PureC := pcOf as15 rs15 f15 g15

theorem e15 : runAsk kn0.orc Go.Proofs.Try.prog 400 15 as15 rs15 () none = some ((true, ()), []) := by kernel_rfl
theorem ok15 : PureOk Go.Proofs.Try.prog 15 p15 := pureOk_closed kn0_ok.base (by kernel_rfl) e15 All.nil
def kf15 : Known := kn0.func 15 p15
theorem kf15_ok : KnownOk Go.Proofs.Try.prog kf15 := kn0_ok.func ok15

/-! ductility/ductilitybase.Within -/

abbrev as47 : List Ty := [(.int .i64), (.int .i64), (.int .i64)]
abbrev rs47 : List Ty := [.bool]

def t47 (x0 : Int) (x1 : Int) (x2 : Int) : Tr (Tys.data rs47) :=
  Tr.test ((leF x1 x0 : Bool))
    (Tr.fin (((leF x0 x2 : Bool), ())))
    (Tr.fin (((false : Bool), ())))

def f47 (d : Tys.data as47) : Option (Tys.data rs47) := (t47 d.1 d.2.1 d.2.2.1).val
def g47 (d : Tys.data as47) : Tys.data rs47 := (f47 d).getD (Tys.dflt rs47)
def p47 : PureC := pcOf as47 rs47 f47 g47

theorem e47_0 (x0 : Int) (x1 : Int) (x2 : Int) : runPure kf15.orc Go.Proofs.Try.prog 400 47 as47 rs47 (x0, x1, x2, ()) [true, true, true, true] =
    (some (((leF x0 x2 : Bool), ()), [((leF x1 x0 : Bool), true), ((leF x1 x0 : Bool), true), ((leF x1 x0 : Bool), true), ((leF x1 x0 : Bool), true)])) := by kernel_rfl
theorem e47_1 (x0 : Int) (x1 : Int) (x2 : Int) : runPure kf15.orc Go.Proofs.Try.prog 400 47 as47 rs47 (x0, x1, x2, ()) [false, false, false, false] =
    (some (((false : Bool), ()), [((leF x1 x0 : Bool), false), ((leF x1 x0 : Bool), false), ((leF x1 x0 : Bool), false), ((leF x1 x0 : Bool), false)])) := by kernel_rfl

theorem ok47_t (x0 : Int) (x1 : Int) (x2 : Int) : TrOk (PureRuns Go.Proofs.Try.prog kf15.orc 47 as47 rs47 (x0, x1, x2, ())) (t47 x0 x1 x2) :=
  TrOk.ofTest (fun h0 => TrOk.ofFin (PureRuns.of (e47_0 x0 x1 x2) (All.cons (h0) (All.cons (h0) (All.cons (h0) (All.cons h0 (All.nil))))))) (fun h0 => TrOk.ofFin (PureRuns.of (e47_1 x0 x1 x2) (All.cons (h0) (All.cons (h0) (All.cons (h0) (All.cons h0 (All.nil)))))))

theorem ok47 : PureOk Go.Proofs.Try.prog 47 p47 := pureOk_of kf15_ok.base (T := fun (d : Tys.data as47) => t47 d.1 d.2.1 d.2.2.1) (by kernel_rfl) (fun (d : Tys.data as47) => ok47_t d.1 d.2.1 d.2.2.1)
def kf47 : Known := kf15.func 47 p47
theorem kf47_ok : KnownOk Go.Proofs.Try.prog kf47 := kf15_ok.func ok47

/-! ductility/ductilityref02.IsSample -/

abbrev as54 : List Ty := [(.int .i64)]
abbrev rs54 : List Ty := [.bool]

def t54 (x0 : Int) : Tr (Tys.data rs54) :=
  Tr.test (Option.isSome (f47 (x0, ((-1000 : Int), ((1000 : Int), ())))))
    (let r0 : Bool × PUnit := g47 (x0, ((-1000 : Int), ((1000 : Int), ())));
    Tr.fin (((r0.fst : Bool), ())))
    (Tr.stop)

def f54 (d : Tys.data as54) : Option (Tys.data rs54) := (t54 d.1).val
def g54 (d : Tys.data as54) : Tys.data rs54 := (f54 d).getD (Tys.dflt rs54)
def p54 : PureC := pcOf as54 rs54 f54 g54

theorem e54_0 (x0 : Int) : runPure kf47.orc Go.Proofs.Try.prog 400 54 as54 rs54 (x0, ()) [true] =
    (let r0 : Bool × PUnit := g47 (x0, ((-1000 : Int), ((1000 : Int), ()))); some (((r0.fst : Bool), ()), [(Option.isSome (f47 (x0, ((-1000 : Int), ((1000 : Int), ())))), true)])) := by kernel_rfl

theorem ok54_t (x0 : Int) : TrOk (PureRuns Go.Proofs.Try.prog kf47.orc 54 as54 rs54 (x0, ())) (t54 x0) :=
  TrOk.ofTest (fun h0 => TrOk.ofFin (PureRuns.of (e54_0 x0) (All.cons h0 (All.nil)))) (fun h0 => TrOk.ofStop)

theorem ok54 : PureOk Go.Proofs.Try.prog 54 p54 := pureOk_of kf47_ok.base (T := fun (d : Tys.data as54) => t54 d.1) (by kernel_rfl) (fun (d : Tys.data as54) => ok54_t d.1)
def kf54 : Known := kf47.func 54 p54
theorem kf54_ok : KnownOk Go.Proofs.Try.prog kf54 := kf47_ok.func ok54

/-! loop 0 of ductility/ductilityref02.CheckRecord -/

abbrev sh22_0 : Sh := { n := 32, slots := [1, 4], pats := [.ptr 0 2 0, .ty (.int .i64)], boxes := [.row [.ty (.int .i64), .ty (.slice (.int .i64))]] }
abbrev shb22_0 : Sh := { n := 32, slots := [], pats := [], boxes := [.row [.ty (.int .i64), .ty (.slice (.int .i64))]] }
abbrev shr22_0 : Sh := { n := 32, slots := [2, 3], pats := [.ty (.int .i64), .ty (.int .i64)], boxes := [.row [.ty (.int .i64), .ty (.slice (.int .i64))]] }

def t22_0 (x1 : Int) (b0_0 : Int) (b0_1 : (List Int)) : Tr (Out sh22_0.data shb22_0.data shr22_0.data) :=
  Tr.test ((!leF (↑(List.length b0_1) : Int) x1 : Bool))
    (Tr.test ((decide ((0 : Int) ≤ x1) && decide (x1 < (↑(List.length b0_1) : Int)) : Bool))
      (Tr.test (Option.isSome (f54 ((List.getD b0_1 (Int.toNat x1) (0 : Int) : Int), ())))
        (let r0 : Bool × PUnit := g54 ((List.getD b0_1 (Int.toNat x1) (0 : Int) : Int), ());
        Tr.test ((!r0.fst : Bool))
          (Tr.fin (.ret ((x1, ((2 : Int), ())), ((b0_0, (b0_1, ())), ()))))
          (Tr.fin (.again (((wrap64 (x1 + (1 : Int)) : Int), ()), ((b0_0, (b0_1, ())), ())))))
        (Tr.stop))
      (Tr.stop /- none [op 3 of region 10 of F22] -/))
    (Tr.fin (.brk ((), ((b0_0, (b0_1, ())), ()))))

def s22_0 (d : sh22_0.data) : Option (Out sh22_0.data shb22_0.data shr22_0.data) := (t22_0 d.1.1 d.2.1.1 d.2.1.2.1).val
def l22_0 (d : sh22_0.data) : Option (shb22_0.data ⊕ shr22_0.data) := itr s22_0 rounds d
def b22_0 (d : sh22_0.data) : shb22_0.data := outB shb22_0.dflt (l22_0 d)
def r22_0 (d : sh22_0.data) : shr22_0.data := outR shr22_0.dflt (l22_0 d)
def lc22_0 : LoopC := lcOf sh22_0 shb22_0 shr22_0 l22_0 b22_0 r22_0

theorem e22_0_0 (x1 : Int) (b0_0 : Int) (b0_1 : (List Int)) : runBody kf54.orc Go.Proofs.Try.prog 400 22 0 sh22_0 shb22_0 shr22_0 ((x1, ()), (b0_0, b0_1, ()), ()) [true, true, true, true] =
    (let r0 : Bool × PUnit := g54 ((List.getD b0_1 (Int.toNat x1) (0 : Int) : Int), ()); some (.ret ((x1, ((2 : Int), ())), ((b0_0, (b0_1, ())), ())), [((!r0.fst : Bool), true), (Option.isSome (f54 ((List.getD b0_1 (Int.toNat x1) (0 : Int) : Int), ())), true), ((decide ((0 : Int) ≤ x1) && decide (x1 < (↑(List.length b0_1) : Int)) : Bool), true), ((!leF (↑(List.length b0_1) : Int) x1 : Bool), true)])) := by kernel_rfl
theorem e22_0_1 (x1 : Int) (b0_0 : Int) (b0_1 : (List Int)) : runBody kf54.orc Go.Proofs.Try.prog 400 22 0 sh22_0 shb22_0 shr22_0 ((x1, ()), (b0_0, b0_1, ()), ()) [true, true, true, false] =
    (let r0 : Bool × PUnit := g54 ((List.getD b0_1 (Int.toNat x1) (0 : Int) : Int), ()); some (.again (((wrap64 (x1 + (1 : Int)) : Int), ()), ((b0_0, (b0_1, ())), ())), [((!r0.fst : Bool), false), (Option.isSome (f54 ((List.getD b0_1 (Int.toNat x1) (0 : Int) : Int), ())), true), ((decide ((0 : Int) ≤ x1) && decide (x1 < (↑(List.length b0_1) : Int)) : Bool), true), ((!leF (↑(List.length b0_1) : Int) x1 : Bool), true)])) := by kernel_rfl
theorem e22_0_3 (x1 : Int) (b0_0 : Int) (b0_1 : (List Int)) : runBody kf54.orc Go.Proofs.Try.prog 400 22 0 sh22_0 shb22_0 shr22_0 ((x1, ()), (b0_0, b0_1, ()), ()) [false] =
    (some (.brk ((), ((b0_0, (b0_1, ())), ())), [((!leF (↑(List.length b0_1) : Int) x1 : Bool), false)])) := by kernel_rfl

theorem ok22_0_t (x1 : Int) (b0_0 : Int) (b0_1 : (List Int)) : TrOk (BodyRuns Go.Proofs.Try.prog kf54.orc 22 0 sh22_0 shb22_0 shr22_0 ((x1, ()), (b0_0, b0_1, ()), ())) (t22_0 x1 b0_0 b0_1) :=
  TrOk.ofTest (fun h0 => TrOk.ofTest (fun h1 => TrOk.ofTest (fun h2 => TrOk.ofTest (fun h3 => TrOk.ofFin (BodyRuns.of (e22_0_0 x1 b0_0 b0_1) (All.cons h3 (All.cons h2 (All.cons h1 (All.cons h0 (All.nil))))))) (fun h3 => TrOk.ofFin (BodyRuns.of (e22_0_1 x1 b0_0 b0_1) (All.cons h3 (All.cons h2 (All.cons h1 (All.cons h0 (All.nil)))))))) (fun h2 => TrOk.ofStop)) (fun h1 => TrOk.ofStop)) (fun h0 => TrOk.ofFin (BodyRuns.of (e22_0_3 x1 b0_0 b0_1) (All.cons h0 (All.nil))))

theorem ok22_0 : LoopOk Go.Proofs.Try.prog 22 0 lc22_0 := loopOk_of kf54_ok.base (T := fun (d : sh22_0.data) => t22_0 d.1.1 d.2.1.1 d.2.1.2.1) (by kernel_rfl) rfl (fun (d : sh22_0.data) => ok22_0_t d.1.1 d.2.1.1 d.2.1.2.1) (fun _ => rfl)
def kl22_0 : Known := kf54.loop 22 0 lc22_0
theorem kl22_0_ok : KnownOk Go.Proofs.Try.prog kl22_0 := kf54_ok.loop ok22_0

/-! ductility/ductilityref02.CheckRecord -/

abbrev as22 : List Ty := [(.pair (.int .i64) (.pair (.slice (.int .i64)) .unit))]
abbrev rs22 : List Ty := [(.int .i64), (.int .i64)]

def t22 (x0 : Int) (x0' : (List Int)) : Tr (Tys.data rs22) :=
  Tr.test (Option.isSome (f47 (x0, ((1 : Int), ((1000000 : Int), ())))))
    (let r0 : Bool × PUnit := g47 (x0, ((1 : Int), ((1000000 : Int), ())));
    Tr.test ((!r0.fst : Bool))
      (Tr.fin (((0 : Int), ((2 : Int), ()))))
      (Tr.test ((!leF (2 : Int) (↑(List.length x0') : Int) : Bool))
        (Tr.fin (((0 : Int), ((10 : Int), ()))))
        (Tr.test ((!leF (↑(List.length x0') : Int) (24 : Int) : Bool))
          (Tr.fin (((0 : Int), ((8 : Int), ()))))
          (Tr.test (Option.isSome (l22_0 (((0 : Int), ()), ((x0, (x0', ())), ()))))
            (Tr.test (isRet (l22_0 (((0 : Int), ()), ((x0, (x0', ())), ()))))
              (let r1 : (Int × Int × PUnit) × (Int × List Int × PUnit) × PUnit := r22_0 (((0 : Int), ()), ((x0, (x0', ())), ()));
              Tr.fin (((r1.fst.fst : Int), ((r1.fst.snd.fst : Int), ()))))
              (Tr.fin (((0 : Int), ((0 : Int), ())))))
            (Tr.stop)))))
    (Tr.stop)

def f22 (d : Tys.data as22) : Option (Tys.data rs22) := (t22 d.1.1 d.1.2.1).val
def g22 (d : Tys.data as22) : Tys.data rs22 := (f22 d).getD (Tys.dflt rs22)
def p22 : PureC := pcOf as22 rs22 f22 g22

theorem e22_0 (x0 : Int) (x0' : (List Int)) : runPure kl22_0.orc Go.Proofs.Try.prog 400 22 as22 rs22 ((x0, x0', ()), ()) [true, true] =
    (let r0 : Bool × PUnit := g47 (x0, ((1 : Int), ((1000000 : Int), ()))); some (((0 : Int), ((2 : Int), ())), [((!r0.fst : Bool), true), (Option.isSome (f47 (x0, ((1 : Int), ((1000000 : Int), ())))), true)])) := by kernel_rfl
theorem e22_1 (x0 : Int) (x0' : (List Int)) : runPure kl22_0.orc Go.Proofs.Try.prog 400 22 as22 rs22 ((x0, x0', ()), ()) [true, false, true] =
    (let r0 : Bool × PUnit := g47 (x0, ((1 : Int), ((1000000 : Int), ()))); some (((0 : Int), ((10 : Int), ())), [((!leF (2 : Int) (↑(List.length x0') : Int) : Bool), true), ((!r0.fst : Bool), false), (Option.isSome (f47 (x0, ((1 : Int), ((1000000 : Int), ())))), true)])) := by kernel_rfl
theorem e22_2 (x0 : Int) (x0' : (List Int)) : runPure kl22_0.orc Go.Proofs.Try.prog 400 22 as22 rs22 ((x0, x0', ()), ()) [true, false, false, true] =
    (let r0 : Bool × PUnit := g47 (x0, ((1 : Int), ((1000000 : Int), ()))); some (((0 : Int), ((8 : Int), ())), [((!leF (↑(List.length x0') : Int) (24 : Int) : Bool), true), ((!leF (2 : Int) (↑(List.length x0') : Int) : Bool), false), ((!r0.fst : Bool), false), (Option.isSome (f47 (x0, ((1 : Int), ((1000000 : Int), ())))), true)])) := by kernel_rfl
theorem e22_3 (x0 : Int) (x0' : (List Int)) : runPure kl22_0.orc Go.Proofs.Try.prog 400 22 as22 rs22 ((x0, x0', ()), ()) [true, false, false, false, true, true] =
    (let r0 : Bool × PUnit := g47 (x0, ((1 : Int), ((1000000 : Int), ()))); let r1 : (Int × Int × PUnit) × (Int × List Int × PUnit) × PUnit := r22_0 (((0 : Int), ()), ((x0, (x0', ())), ())); some (((r1.fst.fst : Int), ((r1.fst.snd.fst : Int), ())), [(isRet (l22_0 (((0 : Int), ()), ((x0, (x0', ())), ()))), true), (Option.isSome (l22_0 (((0 : Int), ()), ((x0, (x0', ())), ()))), true), ((!leF (↑(List.length x0') : Int) (24 : Int) : Bool), false), ((!leF (2 : Int) (↑(List.length x0') : Int) : Bool), false), ((!r0.fst : Bool), false), (Option.isSome (f47 (x0, ((1 : Int), ((1000000 : Int), ())))), true)])) := by kernel_rfl
theorem e22_4 (x0 : Int) (x0' : (List Int)) : runPure kl22_0.orc Go.Proofs.Try.prog 400 22 as22 rs22 ((x0, x0', ()), ()) [true, false, false, false, true, false] =
    (let r0 : Bool × PUnit := g47 (x0, ((1 : Int), ((1000000 : Int), ()))); some (((0 : Int), ((0 : Int), ())), [(isRet (l22_0 (((0 : Int), ()), ((x0, (x0', ())), ()))), false), (Option.isSome (l22_0 (((0 : Int), ()), ((x0, (x0', ())), ()))), true), ((!leF (↑(List.length x0') : Int) (24 : Int) : Bool), false), ((!leF (2 : Int) (↑(List.length x0') : Int) : Bool), false), ((!r0.fst : Bool), false), (Option.isSome (f47 (x0, ((1 : Int), ((1000000 : Int), ())))), true)])) := by kernel_rfl

theorem ok22_t (x0 : Int) (x0' : (List Int)) : TrOk (PureRuns Go.Proofs.Try.prog kl22_0.orc 22 as22 rs22 ((x0, x0', ()), ())) (t22 x0 x0') :=
  TrOk.ofTest (fun h0 => TrOk.ofTest (fun h1 => TrOk.ofFin (PureRuns.of (e22_0 x0 x0') (All.cons h1 (All.cons h0 (All.nil))))) (fun h1 => TrOk.ofTest (fun h2 => TrOk.ofFin (PureRuns.of (e22_1 x0 x0') (All.cons h2 (All.cons h1 (All.cons h0 (All.nil)))))) (fun h2 => TrOk.ofTest (fun h3 => TrOk.ofFin (PureRuns.of (e22_2 x0 x0') (All.cons h3 (All.cons h2 (All.cons h1 (All.cons h0 (All.nil))))))) (fun h3 => TrOk.ofTest (fun h4 => TrOk.ofTest (fun h5 => TrOk.ofFin (PureRuns.of (e22_3 x0 x0') (All.cons h5 (All.cons h4 (All.cons h3 (All.cons h2 (All.cons h1 (All.cons h0 (All.nil))))))))) (fun h5 => TrOk.ofFin (PureRuns.of (e22_4 x0 x0') (All.cons h5 (All.cons h4 (All.cons h3 (All.cons h2 (All.cons h1 (All.cons h0 (All.nil)))))))))) (fun h4 => TrOk.ofStop))))) (fun h0 => TrOk.ofStop)

theorem ok22 : PureOk Go.Proofs.Try.prog 22 p22 := pureOk_of kl22_0_ok.base (T := fun (d : Tys.data as22) => t22 d.1.1 d.1.2.1) (by kernel_rfl) (fun (d : Tys.data as22) => ok22_t d.1.1 d.1.2.1)
def kf22 : Known := kl22_0.func 22 p22
theorem kf22_ok : KnownOk Go.Proofs.Try.prog kf22 := kl22_0_ok.func ok22

/-! ductility/ductilityref02.RecordErr -/

abbrev as29 : List Ty := [(.pair (.int .i64) (.pair (.slice (.int .i64)) .unit))]
abbrev rs29 : List Ty := [(.int .i64)]

def t29 (x0 : Int) (x0' : (List Int)) : Tr (Tys.data rs29) :=
  Tr.test (Option.isSome (f22 ((x0, (x0', ())), ())))
    (let r0 : Int × Int × PUnit := g22 ((x0, (x0', ())), ());
    Tr.fin (((r0.snd.fst : Int), ())))
    (Tr.stop)

def f29 (d : Tys.data as29) : Option (Tys.data rs29) := (t29 d.1.1 d.1.2.1).val
def g29 (d : Tys.data as29) : Tys.data rs29 := (f29 d).getD (Tys.dflt rs29)
def p29 : PureC := pcOf as29 rs29 f29 g29

theorem e29_0 (x0 : Int) (x0' : (List Int)) : runPure kf22.orc Go.Proofs.Try.prog 400 29 as29 rs29 ((x0, x0', ()), ()) [true] =
    (let r0 : Int × Int × PUnit := g22 ((x0, (x0', ())), ()); some (((r0.snd.fst : Int), ()), [(Option.isSome (f22 ((x0, (x0', ())), ())), true)])) := by kernel_rfl

theorem ok29_t (x0 : Int) (x0' : (List Int)) : TrOk (PureRuns Go.Proofs.Try.prog kf22.orc 29 as29 rs29 ((x0, x0', ()), ())) (t29 x0 x0') :=
  TrOk.ofTest (fun h0 => TrOk.ofFin (PureRuns.of (e29_0 x0 x0') (All.cons h0 (All.nil)))) (fun h0 => TrOk.ofStop)

theorem ok29 : PureOk Go.Proofs.Try.prog 29 p29 := pureOk_of kf22_ok.base (T := fun (d : Tys.data as29) => t29 d.1.1 d.1.2.1) (by kernel_rfl) (fun (d : Tys.data as29) => ok29_t d.1.1 d.1.2.1)
def kf29 : Known := kf22.func 29 p29
theorem kf29_ok : KnownOk Go.Proofs.Try.prog kf29 := kf22_ok.func ok29

/-! ductility/ductilityref02.OscillatorErr -/

abbrev as58 : List Ty := [(.pair (.int .i64) (.pair (.int .i64) .unit))]
abbrev rs58 : List Ty := [(.int .i64)]

def t58 (x0 : Int) (x0' : Int) : Tr (Tys.data rs58) :=
  Tr.test (Option.isSome (f47 (x0, ((0 : Int), ((3000 : Int), ())))))
    (let r0 : Bool × PUnit := g47 (x0, ((0 : Int), ((3000 : Int), ())));
    Tr.test ((!r0.fst : Bool))
      (Tr.fin (((2 : Int), ())))
      (Tr.test (Option.isSome (f47 (x0', ((0 : Int), ((500 : Int), ())))))
        (let r1 : Bool × PUnit := g47 (x0', ((0 : Int), ((500 : Int), ())));
        Tr.test ((!r1.fst : Bool))
          (Tr.fin (((2 : Int), ())))
          (Tr.fin (((0 : Int), ()))))
        (Tr.stop)))
    (Tr.stop)

def f58 (d : Tys.data as58) : Option (Tys.data rs58) := (t58 d.1.1 d.1.2.1).val
def g58 (d : Tys.data as58) : Tys.data rs58 := (f58 d).getD (Tys.dflt rs58)
def p58 : PureC := pcOf as58 rs58 f58 g58

theorem e58_0 (x0 : Int) (x0' : Int) : runPure kf29.orc Go.Proofs.Try.prog 400 58 as58 rs58 ((x0, x0', ()), ()) [true, true, true, true, true, true, true] =
    (let r0 : Bool × PUnit := g47 (x0, ((0 : Int), ((3000 : Int), ()))); some (((2 : Int), ()), [((true : Bool), true), ((!r0.fst : Bool), true), ((!r0.fst : Bool), true), ((!r0.fst : Bool), true), ((!r0.fst : Bool), true), ((!r0.fst : Bool), true), (Option.isSome (f47 (x0, ((0 : Int), ((3000 : Int), ())))), true)])) := by kernel_rfl
theorem e58_1 (x0 : Int) (x0' : Int) : runPure kf29.orc Go.Proofs.Try.prog 400 58 as58 rs58 ((x0, x0', ()), ()) [true, false, false, false, true, false, false, true] =
    (let r0 : Bool × PUnit := g47 (x0, ((0 : Int), ((3000 : Int), ()))); let r1 : Bool × PUnit := g47 (x0', ((0 : Int), ((500 : Int), ()))); some (((2 : Int), ()), [((!r1.fst : Bool), true), ((!r0.fst : Bool), false), ((!r0.fst : Bool), false), (Option.isSome (f47 (x0', ((0 : Int), ((500 : Int), ())))), true), ((!r0.fst : Bool), false), ((!r0.fst : Bool), false), ((!r0.fst : Bool), false), (Option.isSome (f47 (x0, ((0 : Int), ((3000 : Int), ())))), true)])) := by kernel_rfl
theorem e58_2 (x0 : Int) (x0' : Int) : runPure kf29.orc Go.Proofs.Try.prog 400 58 as58 rs58 ((x0, x0', ()), ()) [true, false, false, false, true, false, false, false] =
    (let r0 : Bool × PUnit := g47 (x0, ((0 : Int), ((3000 : Int), ()))); let r1 : Bool × PUnit := g47 (x0', ((0 : Int), ((500 : Int), ()))); some (((0 : Int), ()), [((!r1.fst : Bool), false), ((!r0.fst : Bool), false), ((!r0.fst : Bool), false), (Option.isSome (f47 (x0', ((0 : Int), ((500 : Int), ())))), true), ((!r0.fst : Bool), false), ((!r0.fst : Bool), false), ((!r0.fst : Bool), false), (Option.isSome (f47 (x0, ((0 : Int), ((3000 : Int), ())))), true)])) := by kernel_rfl

theorem ok58_t (x0 : Int) (x0' : Int) : TrOk (PureRuns Go.Proofs.Try.prog kf29.orc 58 as58 rs58 ((x0, x0', ()), ())) (t58 x0 x0') :=
  TrOk.ofTest (fun h0 => TrOk.ofTest (fun h1 => TrOk.ofFin (PureRuns.of (e58_0 x0 x0') (All.cons rfl (All.cons (not_of (of_not (h1))) (All.cons (not_of (of_not (h1))) (All.cons (not_of (of_not (h1))) (All.cons (not_of (of_not (h1))) (All.cons h1 (All.cons h0 (All.nil)))))))))) (fun h1 => TrOk.ofTest (fun h4 => TrOk.ofTest (fun h7 => TrOk.ofFin (PureRuns.of (e58_1 x0 x0') (All.cons h7 (All.cons (not_of (of_not (h1))) (All.cons (not_of (of_not (h1))) (All.cons h4 (All.cons (not_of (of_not (h1))) (All.cons (not_of (of_not (h1))) (All.cons h1 (All.cons h0 (All.nil))))))))))) (fun h7 => TrOk.ofFin (PureRuns.of (e58_2 x0 x0') (All.cons h7 (All.cons (not_of (of_not (h1))) (All.cons (not_of (of_not (h1))) (All.cons h4 (All.cons (not_of (of_not (h1))) (All.cons (not_of (of_not (h1))) (All.cons h1 (All.cons h0 (All.nil)))))))))))) (fun h4 => TrOk.ofStop))) (fun h0 => TrOk.ofStop)

theorem ok58 : PureOk Go.Proofs.Try.prog 58 p58 := pureOk_of kf29_ok.base (T := fun (d : Tys.data as58) => t58 d.1.1 d.1.2.1) (by kernel_rfl) (fun (d : Tys.data as58) => ok58_t d.1.1 d.1.2.1)
def kf58 : Known := kf29.func 58 p58
theorem kf58_ok : KnownOk Go.Proofs.Try.prog kf58 := kf29_ok.func ok58

/-! ductility/ductilitybase.CopyInts -/

abbrev as70 : List Ty := [(.slice (.int .i64))]
abbrev rs70 : List Ty := [(.slice (.int .i64))]

def t70 (x0 : (List Int)) : Tr (Tys.data rs70) :=
  Tr.test ((Nat.beq (List.length x0) (0 : Nat) : Bool))
    (Tr.fin ((([] : List Int), ())))
    (Tr.test ((Nat.ble ((0 : Nat) + List.length x0) (0 : Nat) : Bool))
      (Tr.stop /- none [op 2 of region 1 of F70] -/)
      (Tr.test ((Nat.ble (((2 : Nat) * ((0 : Nat) + List.length x0) + (192 : Nat)) * (8 : Nat)) (281474976710656 : Nat) && Nat.ble ((0 : Nat) + List.length x0) (281474976710656 : Nat) : Bool))
        (Tr.test ((Nat.beq ((0 : Nat) + List.length x0) (List.length ([] ++ x0)) : Bool))
          (Tr.fin ((([] ++ x0 : List Int), ())))
          (Tr.stop))
        (Tr.stop /- none [op 2 of region 1 of F70] -/)))

def f70 (d : Tys.data as70) : Option (Tys.data rs70) := (t70 d.1).val
def g70 (d : Tys.data as70) : Tys.data rs70 := (f70 d).getD (Tys.dflt rs70)
def p70 : PureC := pcOf as70 rs70 f70 g70

theorem e70_0 (x0 : (List Int)) : runPure kf58.orc Go.Proofs.Try.prog 400 70 as70 rs70 (x0, ()) [true, true] =
    (some ((([] : List Int), ()), [((true : Bool), true), ((Nat.beq (List.length x0) (0 : Nat) : Bool), true)])) := by kernel_rfl
theorem e70_2 (x0 : (List Int)) : runPure kf58.orc Go.Proofs.Try.prog 400 70 as70 rs70 (x0, ()) [false, false, true, true, true] =
    (some ((([] ++ x0 : List Int), ()), [((Nat.beq ((0 : Nat) + List.length x0) (List.length ([] ++ x0)) : Bool), true), ((true : Bool), true), ((Nat.ble (((2 : Nat) * ((0 : Nat) + List.length x0) + (192 : Nat)) * (8 : Nat)) (281474976710656 : Nat) && Nat.ble ((0 : Nat) + List.length x0) (281474976710656 : Nat) : Bool), true), ((Nat.ble ((0 : Nat) + List.length x0) (0 : Nat) : Bool), false), ((Nat.beq (List.length x0) (0 : Nat) : Bool), false)])) := by kernel_rfl

theorem ok70_t (x0 : (List Int)) : TrOk (PureRuns Go.Proofs.Try.prog kf58.orc 70 as70 rs70 (x0, ())) (t70 x0) :=
  TrOk.ofTest (fun h0 => TrOk.ofFin (PureRuns.of (e70_0 x0) (All.cons rfl (All.cons h0 (All.nil))))) (fun h0 => TrOk.ofTest (fun h1 => TrOk.ofStop) (fun h1 => TrOk.ofTest (fun h2 => TrOk.ofTest (fun h4 => TrOk.ofFin (PureRuns.of (e70_2 x0) (All.cons h4 (All.cons rfl (All.cons h2 (All.cons h1 (All.cons h0 (All.nil)))))))) (fun h4 => TrOk.ofStop)) (fun h2 => TrOk.ofStop)))

theorem ok70 : PureOk Go.Proofs.Try.prog 70 p70 := pureOk_of kf58_ok.base (T := fun (d : Tys.data as70) => t70 d.1) (by kernel_rfl) (fun (d : Tys.data as70) => ok70_t d.1)
def kf70 : Known := kf58.func 70 p70
theorem kf70_ok : KnownOk Go.Proofs.Try.prog kf70 := kf58_ok.func ok70

/-! ductility/ductilityref02.Copy -/

abbrev as18 : List Ty := [(.pair (.int .i64) (.pair (.slice (.int .i64)) .unit))]
abbrev rs18 : List Ty := [(.pair (.int .i64) (.pair (.slice (.int .i64)) .unit))]

def t18 (x0 : Int) (x0' : (List Int)) : Tr (Tys.data rs18) :=
  Tr.test (Option.isSome (f70 (x0', ())))
    (let r0 : List Int × PUnit := g70 (x0', ());
    Tr.fin (((x0, ((r0.fst : List Int), ())), ())))
    (Tr.stop)

def f18 (d : Tys.data as18) : Option (Tys.data rs18) := (t18 d.1.1 d.1.2.1).val
def g18 (d : Tys.data as18) : Tys.data rs18 := (f18 d).getD (Tys.dflt rs18)
def p18 : PureC := pcOf as18 rs18 f18 g18

theorem e18_0 (x0 : Int) (x0' : (List Int)) : runPure kf70.orc Go.Proofs.Try.prog 400 18 as18 rs18 ((x0, x0', ()), ()) [true] =
    (let r0 : List Int × PUnit := g70 (x0', ()); some (((x0, ((r0.fst : List Int), ())), ()), [(Option.isSome (f70 (x0', ())), true)])) := by kernel_rfl

theorem ok18_t (x0 : Int) (x0' : (List Int)) : TrOk (PureRuns Go.Proofs.Try.prog kf70.orc 18 as18 rs18 ((x0, x0', ()), ())) (t18 x0 x0') :=
  TrOk.ofTest (fun h0 => TrOk.ofFin (PureRuns.of (e18_0 x0 x0') (All.cons h0 (All.nil)))) (fun h0 => TrOk.ofStop)

theorem ok18 : PureOk Go.Proofs.Try.prog 18 p18 := pureOk_of kf70_ok.base (T := fun (d : Tys.data as18) => t18 d.1.1 d.1.2.1) (by kernel_rfl) (fun (d : Tys.data as18) => ok18_t d.1.1 d.1.2.1)
def kf18 : Known := kf70.func 18 p18
theorem kf18_ok : KnownOk Go.Proofs.Try.prog kf18 := kf70_ok.func ok18

/-! ductility/motion.when -/

abbrev as86 : List Ty := [.bool, (.int .i64)]
abbrev rs86 : List Ty := [(.int .i64)]

def t86 (x0 : Bool) (x1 : Int) : Tr (Tys.data rs86) :=
  Tr.test (x0)
    (Tr.fin ((x1, ())))
    (Tr.fin (((0 : Int), ())))

def f86 (d : Tys.data as86) : Option (Tys.data rs86) := (t86 d.1 d.2.1).val
def g86 (d : Tys.data as86) : Tys.data rs86 := (f86 d).getD (Tys.dflt rs86)
def p86 : PureC := pcOf as86 rs86 f86 g86

theorem e86_0 (x0 : Bool) (x1 : Int) : runPure kf18.orc Go.Proofs.Try.prog 400 86 as86 rs86 (x0, x1, ()) [true] =
    (some ((x1, ()), [(x0, true)])) := by kernel_rfl
theorem e86_1 (x0 : Bool) (x1 : Int) : runPure kf18.orc Go.Proofs.Try.prog 400 86 as86 rs86 (x0, x1, ()) [false] =
    (some (((0 : Int), ()), [(x0, false)])) := by kernel_rfl

theorem ok86_t (x0 : Bool) (x1 : Int) : TrOk (PureRuns Go.Proofs.Try.prog kf18.orc 86 as86 rs86 (x0, x1, ())) (t86 x0 x1) :=
  TrOk.ofTest (fun h0 => TrOk.ofFin (PureRuns.of (e86_0 x0 x1) (All.cons h0 (All.nil)))) (fun h0 => TrOk.ofFin (PureRuns.of (e86_1 x0 x1) (All.cons h0 (All.nil))))

theorem ok86 : PureOk Go.Proofs.Try.prog 86 p86 := pureOk_of kf18_ok.base (T := fun (d : Tys.data as86) => t86 d.1 d.2.1) (by kernel_rfl) (fun (d : Tys.data as86) => ok86_t d.1 d.2.1)
def kf86 : Known := kf18.func 86 p86
theorem kf86_ok : KnownOk Go.Proofs.Try.prog kf86 := kf18_ok.func ok86

/-! loop 0 of ductility/motion.firstOf -/

abbrev sh85_0 : Sh := { n := 15, slots := [5, 6, 7], pats := [.ty (.slice (.int .i64)), .ty (.int .i64), .ty (.int .i64)], boxes := [] }
abbrev shb85_0 : Sh := { n := 15, slots := [], pats := [], boxes := [] }
abbrev shr85_0 : Sh := { n := 15, slots := [2], pats := [.ty (.int .i64)], boxes := [] }

def t85_0 (x0 : (List Int)) (x1 : Int) (x2 : Int) : Tr (Out sh85_0.data shb85_0.data shr85_0.data) :=
  Tr.test ((!leF x1 x2 : Bool))
    (Tr.test ((decide ((0 : Int) ≤ x2) && decide (x2 < (↑(List.length x0) : Int)) : Bool))
      (Tr.test ((!eqF (List.getD x0 (Int.toNat x2) (0 : Int)) (0 : Int) : Bool))
        (Tr.fin (.ret (((List.getD x0 (Int.toNat x2) (0 : Int) : Int), ()), ())))
        (Tr.fin (.again ((x0, (x1, ((wrap64 (x2 + (1 : Int)) : Int), ()))), ()))))
      (Tr.stop /- none [op 0 of region 3 of F85] -/))
    (Tr.fin (.brk ((), ())))

def s85_0 (d : sh85_0.data) : Option (Out sh85_0.data shb85_0.data shr85_0.data) := (t85_0 d.1.1 d.1.2.1 d.1.2.2.1).val
def l85_0 (d : sh85_0.data) : Option (shb85_0.data ⊕ shr85_0.data) := itr s85_0 rounds d
def b85_0 (d : sh85_0.data) : shb85_0.data := outB shb85_0.dflt (l85_0 d)
def r85_0 (d : sh85_0.data) : shr85_0.data := outR shr85_0.dflt (l85_0 d)
def lc85_0 : LoopC := lcOf sh85_0 shb85_0 shr85_0 l85_0 b85_0 r85_0

theorem e85_0_0 (x0 : (List Int)) (x1 : Int) (x2 : Int) : runBody kf86.orc Go.Proofs.Try.prog 400 85 0 sh85_0 shb85_0 shr85_0 ((x0, x1, x2, ()), ()) [true, true, true] =
    (some (.ret (((List.getD x0 (Int.toNat x2) (0 : Int) : Int), ()), ()), [((!eqF (List.getD x0 (Int.toNat x2) (0 : Int)) (0 : Int) : Bool), true), ((decide ((0 : Int) ≤ x2) && decide (x2 < (↑(List.length x0) : Int)) : Bool), true), ((!leF x1 x2 : Bool), true)])) := by kernel_rfl
theorem e85_0_1 (x0 : (List Int)) (x1 : Int) (x2 : Int) : runBody kf86.orc Go.Proofs.Try.prog 400 85 0 sh85_0 shb85_0 shr85_0 ((x0, x1, x2, ()), ()) [true, true, false] =
    (some (.again ((x0, (x1, ((wrap64 (x2 + (1 : Int)) : Int), ()))), ()), [((!eqF (List.getD x0 (Int.toNat x2) (0 : Int)) (0 : Int) : Bool), false), ((decide ((0 : Int) ≤ x2) && decide (x2 < (↑(List.length x0) : Int)) : Bool), true), ((!leF x1 x2 : Bool), true)])) := by kernel_rfl
theorem e85_0_3 (x0 : (List Int)) (x1 : Int) (x2 : Int) : runBody kf86.orc Go.Proofs.Try.prog 400 85 0 sh85_0 shb85_0 shr85_0 ((x0, x1, x2, ()), ()) [false] =
    (some (.brk ((), ()), [((!leF x1 x2 : Bool), false)])) := by kernel_rfl

theorem ok85_0_t (x0 : (List Int)) (x1 : Int) (x2 : Int) : TrOk (BodyRuns Go.Proofs.Try.prog kf86.orc 85 0 sh85_0 shb85_0 shr85_0 ((x0, x1, x2, ()), ())) (t85_0 x0 x1 x2) :=
  TrOk.ofTest (fun h0 => TrOk.ofTest (fun h1 => TrOk.ofTest (fun h2 => TrOk.ofFin (BodyRuns.of (e85_0_0 x0 x1 x2) (All.cons h2 (All.cons h1 (All.cons h0 (All.nil)))))) (fun h2 => TrOk.ofFin (BodyRuns.of (e85_0_1 x0 x1 x2) (All.cons h2 (All.cons h1 (All.cons h0 (All.nil))))))) (fun h1 => TrOk.ofStop)) (fun h0 => TrOk.ofFin (BodyRuns.of (e85_0_3 x0 x1 x2) (All.cons h0 (All.nil))))

theorem ok85_0 : LoopOk Go.Proofs.Try.prog 85 0 lc85_0 := loopOk_of kf86_ok.base (T := fun (d : sh85_0.data) => t85_0 d.1.1 d.1.2.1 d.1.2.2.1) (by kernel_rfl) rfl (fun (d : sh85_0.data) => ok85_0_t d.1.1 d.1.2.1 d.1.2.2.1) (fun _ => rfl)
def kl85_0 : Known := kf86.loop 85 0 lc85_0
theorem kl85_0_ok : KnownOk Go.Proofs.Try.prog kl85_0 := kf86_ok.loop ok85_0

/-! ductility/motion.firstOf -/

abbrev as85 : List Ty := [(.slice (.int .i64))]
abbrev rs85 : List Ty := [(.int .i64)]

def t85 (x0 : (List Int)) : Tr (Tys.data rs85) :=
  Tr.test (Option.isSome (l85_0 ((x0, ((↑(List.length x0) : Int), ((0 : Int), ()))), ())))
    (Tr.test (isRet (l85_0 ((x0, ((↑(List.length x0) : Int), ((0 : Int), ()))), ())))
      (let r0 : (Int × PUnit) × PUnit := r85_0 ((x0, ((↑(List.length x0) : Int), ((0 : Int), ()))), ());
      Tr.fin (((r0.fst.fst : Int), ())))
      (Tr.fin (((0 : Int), ()))))
    (Tr.stop)

def f85 (d : Tys.data as85) : Option (Tys.data rs85) := (t85 d.1).val
def g85 (d : Tys.data as85) : Tys.data rs85 := (f85 d).getD (Tys.dflt rs85)
def p85 : PureC := pcOf as85 rs85 f85 g85

theorem e85_0 (x0 : (List Int)) : runPure kl85_0.orc Go.Proofs.Try.prog 400 85 as85 rs85 (x0, ()) [true, true] =
    (let r0 : (Int × PUnit) × PUnit := r85_0 ((x0, ((↑(List.length x0) : Int), ((0 : Int), ()))), ()); some (((r0.fst.fst : Int), ()), [(isRet (l85_0 ((x0, ((↑(List.length x0) : Int), ((0 : Int), ()))), ())), true), (Option.isSome (l85_0 ((x0, ((↑(List.length x0) : Int), ((0 : Int), ()))), ())), true)])) := by kernel_rfl
theorem e85_1 (x0 : (List Int)) : runPure kl85_0.orc Go.Proofs.Try.prog 400 85 as85 rs85 (x0, ()) [true, false] =
    (some (((0 : Int), ()), [(isRet (l85_0 ((x0, ((↑(List.length x0) : Int), ((0 : Int), ()))), ())), false), (Option.isSome (l85_0 ((x0, ((↑(List.length x0) : Int), ((0 : Int), ()))), ())), true)])) := by kernel_rfl

theorem ok85_t (x0 : (List Int)) : TrOk (PureRuns Go.Proofs.Try.prog kl85_0.orc 85 as85 rs85 (x0, ())) (t85 x0) :=
  TrOk.ofTest (fun h0 => TrOk.ofTest (fun h1 => TrOk.ofFin (PureRuns.of (e85_0 x0) (All.cons h1 (All.cons h0 (All.nil))))) (fun h1 => TrOk.ofFin (PureRuns.of (e85_1 x0) (All.cons h1 (All.cons h0 (All.nil)))))) (fun h0 => TrOk.ofStop)

theorem ok85 : PureOk Go.Proofs.Try.prog 85 p85 := pureOk_of kl85_0_ok.base (T := fun (d : Tys.data as85) => t85 d.1) (by kernel_rfl) (fun (d : Tys.data as85) => ok85_t d.1)
def kf85 : Known := kl85_0.func 85 p85
theorem kf85_ok : KnownOk Go.Proofs.Try.prog kf85 := kl85_0_ok.func ok85

/-! loop 0 of ductility/motion.areWithin -/

abbrev sh94_0 : Sh := { n := 24, slots := [0, 1, 9, 10, 11], pats := [.ty (.int .i64), .ty (.int .i64), .ty (.slice (.int .i64)), .ty (.int .i64), .ty (.int .i64)], boxes := [] }
abbrev shb94_0 : Sh := { n := 24, slots := [], pats := [], boxes := [] }
abbrev shr94_0 : Sh := { n := 24, slots := [6], pats := [.ty .bool], boxes := [] }

def t94_0 (x0 : Int) (x1 : Int) (x2 : (List Int)) (x3 : Int) (x4 : Int) : Tr (Out sh94_0.data shb94_0.data shr94_0.data) :=
  Tr.test ((!leF x3 x4 : Bool))
    (Tr.test ((decide ((0 : Int) ≤ x4) && decide (x4 < (↑(List.length x2) : Int)) : Bool))
      (Tr.test ((!leF x0 (List.getD x2 (Int.toNat x4) (0 : Int)) : Bool))
        (Tr.fin (.ret (((false : Bool), ()), ())))
        (Tr.test ((!leF (List.getD x2 (Int.toNat x4) (0 : Int)) x1 : Bool))
          (Tr.fin (.ret (((false : Bool), ()), ())))
          (Tr.fin (.again ((x0, (x1, (x2, (x3, ((wrap64 (x4 + (1 : Int)) : Int), ()))))), ())))))
      (Tr.stop /- none [op 0 of region 3 of F94] -/))
    (Tr.fin (.brk ((), ())))

def s94_0 (d : sh94_0.data) : Option (Out sh94_0.data shb94_0.data shr94_0.data) := (t94_0 d.1.1 d.1.2.1 d.1.2.2.1 d.1.2.2.2.1 d.1.2.2.2.2.1).val
def l94_0 (d : sh94_0.data) : Option (shb94_0.data ⊕ shr94_0.data) := itr s94_0 rounds d
def b94_0 (d : sh94_0.data) : shb94_0.data := outB shb94_0.dflt (l94_0 d)
def r94_0 (d : sh94_0.data) : shr94_0.data := outR shr94_0.dflt (l94_0 d)
def lc94_0 : LoopC := lcOf sh94_0 shb94_0 shr94_0 l94_0 b94_0 r94_0

theorem e94_0_0 (x0 : Int) (x1 : Int) (x2 : (List Int)) (x3 : Int) (x4 : Int) : runBody kf85.orc Go.Proofs.Try.prog 400 94 0 sh94_0 shb94_0 shr94_0 ((x0, x1, x2, x3, x4, ()), ()) [true, true, true, true, true, true, true] =
    (some (.ret (((false : Bool), ()), ()), [((true : Bool), true), ((!leF x0 (List.getD x2 (Int.toNat x4) (0 : Int)) : Bool), true), ((!leF x0 (List.getD x2 (Int.toNat x4) (0 : Int)) : Bool), true), ((!leF x0 (List.getD x2 (Int.toNat x4) (0 : Int)) : Bool), true), ((!leF x0 (List.getD x2 (Int.toNat x4) (0 : Int)) : Bool), true), ((decide ((0 : Int) ≤ x4) && decide (x4 < (↑(List.length x2) : Int)) : Bool), true), ((!leF x3 x4 : Bool), true)])) := by kernel_rfl
theorem e94_0_1 (x0 : Int) (x1 : Int) (x2 : (List Int)) (x3 : Int) (x4 : Int) : runBody kf85.orc Go.Proofs.Try.prog 400 94 0 sh94_0 shb94_0 shr94_0 ((x0, x1, x2, x3, x4, ()), ()) [true, true, false, false, false, false, true] =
    (some (.ret (((false : Bool), ()), ()), [((!leF (List.getD x2 (Int.toNat x4) (0 : Int)) x1 : Bool), true), ((!leF x0 (List.getD x2 (Int.toNat x4) (0 : Int)) : Bool), false), ((!leF x0 (List.getD x2 (Int.toNat x4) (0 : Int)) : Bool), false), ((!leF x0 (List.getD x2 (Int.toNat x4) (0 : Int)) : Bool), false), ((!leF x0 (List.getD x2 (Int.toNat x4) (0 : Int)) : Bool), false), ((decide ((0 : Int) ≤ x4) && decide (x4 < (↑(List.length x2) : Int)) : Bool), true), ((!leF x3 x4 : Bool), true)])) := by kernel_rfl
theorem e94_0_2 (x0 : Int) (x1 : Int) (x2 : (List Int)) (x3 : Int) (x4 : Int) : runBody kf85.orc Go.Proofs.Try.prog 400 94 0 sh94_0 shb94_0 shr94_0 ((x0, x1, x2, x3, x4, ()), ()) [true, true, false, false, false, false, false] =
    (some (.again ((x0, (x1, (x2, (x3, ((wrap64 (x4 + (1 : Int)) : Int), ()))))), ()), [((!leF (List.getD x2 (Int.toNat x4) (0 : Int)) x1 : Bool), false), ((!leF x0 (List.getD x2 (Int.toNat x4) (0 : Int)) : Bool), false), ((!leF x0 (List.getD x2 (Int.toNat x4) (0 : Int)) : Bool), false), ((!leF x0 (List.getD x2 (Int.toNat x4) (0 : Int)) : Bool), false), ((!leF x0 (List.getD x2 (Int.toNat x4) (0 : Int)) : Bool), false), ((decide ((0 : Int) ≤ x4) && decide (x4 < (↑(List.length x2) : Int)) : Bool), true), ((!leF x3 x4 : Bool), true)])) := by kernel_rfl
theorem e94_0_4 (x0 : Int) (x1 : Int) (x2 : (List Int)) (x3 : Int) (x4 : Int) : runBody kf85.orc Go.Proofs.Try.prog 400 94 0 sh94_0 shb94_0 shr94_0 ((x0, x1, x2, x3, x4, ()), ()) [false] =
    (some (.brk ((), ()), [((!leF x3 x4 : Bool), false)])) := by kernel_rfl

theorem ok94_0_t (x0 : Int) (x1 : Int) (x2 : (List Int)) (x3 : Int) (x4 : Int) : TrOk (BodyRuns Go.Proofs.Try.prog kf85.orc 94 0 sh94_0 shb94_0 shr94_0 ((x0, x1, x2, x3, x4, ()), ())) (t94_0 x0 x1 x2 x3 x4) :=
  TrOk.ofTest (fun h0 => TrOk.ofTest (fun h1 => TrOk.ofTest (fun h2 => TrOk.ofFin (BodyRuns.of (e94_0_0 x0 x1 x2 x3 x4) (All.cons rfl (All.cons (not_of (of_not (h2))) (All.cons (not_of (of_not (h2))) (All.cons (not_of (of_not (h2))) (All.cons h2 (All.cons h1 (All.cons h0 (All.nil)))))))))) (fun h2 => TrOk.ofTest (fun h6 => TrOk.ofFin (BodyRuns.of (e94_0_1 x0 x1 x2 x3 x4) (All.cons h6 (All.cons (not_of (of_not (h2))) (All.cons (not_of (of_not (h2))) (All.cons (not_of (of_not (h2))) (All.cons h2 (All.cons h1 (All.cons h0 (All.nil)))))))))) (fun h6 => TrOk.ofFin (BodyRuns.of (e94_0_2 x0 x1 x2 x3 x4) (All.cons h6 (All.cons (not_of (of_not (h2))) (All.cons (not_of (of_not (h2))) (All.cons (not_of (of_not (h2))) (All.cons h2 (All.cons h1 (All.cons h0 (All.nil)))))))))))) (fun h1 => TrOk.ofStop)) (fun h0 => TrOk.ofFin (BodyRuns.of (e94_0_4 x0 x1 x2 x3 x4) (All.cons h0 (All.nil))))

theorem ok94_0 : LoopOk Go.Proofs.Try.prog 94 0 lc94_0 := loopOk_of kf85_ok.base (T := fun (d : sh94_0.data) => t94_0 d.1.1 d.1.2.1 d.1.2.2.1 d.1.2.2.2.1 d.1.2.2.2.2.1) (by kernel_rfl) rfl (fun (d : sh94_0.data) => ok94_0_t d.1.1 d.1.2.1 d.1.2.2.1 d.1.2.2.2.1 d.1.2.2.2.2.1) (fun _ => rfl)
def kl94_0 : Known := kf85.loop 94 0 lc94_0
theorem kl94_0_ok : KnownOk Go.Proofs.Try.prog kl94_0 := kf85_ok.loop ok94_0

/-! ductility/motion.areWithin -/

abbrev as94 : List Ty := [(.int .i64), (.int .i64), (.slice (.int .i64))]
abbrev rs94 : List Ty := [.bool]

def t94 (x0 : Int) (x1 : Int) (x2 : (List Int)) : Tr (Tys.data rs94) :=
  Tr.test (Option.isSome (l94_0 ((x0, (x1, (x2, ((↑(List.length x2) : Int), ((0 : Int), ()))))), ())))
    (Tr.test (isRet (l94_0 ((x0, (x1, (x2, ((↑(List.length x2) : Int), ((0 : Int), ()))))), ())))
      (let r0 : (Bool × PUnit) × PUnit := r94_0 ((x0, (x1, (x2, ((↑(List.length x2) : Int), ((0 : Int), ()))))), ());
      Tr.fin (((r0.fst.fst : Bool), ())))
      (Tr.fin (((true : Bool), ()))))
    (Tr.stop)

def f94 (d : Tys.data as94) : Option (Tys.data rs94) := (t94 d.1 d.2.1 d.2.2.1).val
def g94 (d : Tys.data as94) : Tys.data rs94 := (f94 d).getD (Tys.dflt rs94)
def p94 : PureC := pcOf as94 rs94 f94 g94

theorem e94_0 (x0 : Int) (x1 : Int) (x2 : (List Int)) : runPure kl94_0.orc Go.Proofs.Try.prog 400 94 as94 rs94 (x0, x1, x2, ()) [true, true] =
    (let r0 : (Bool × PUnit) × PUnit := r94_0 ((x0, (x1, (x2, ((↑(List.length x2) : Int), ((0 : Int), ()))))), ()); some (((r0.fst.fst : Bool), ()), [(isRet (l94_0 ((x0, (x1, (x2, ((↑(List.length x2) : Int), ((0 : Int), ()))))), ())), true), (Option.isSome (l94_0 ((x0, (x1, (x2, ((↑(List.length x2) : Int), ((0 : Int), ()))))), ())), true)])) := by kernel_rfl
theorem e94_1 (x0 : Int) (x1 : Int) (x2 : (List Int)) : runPure kl94_0.orc Go.Proofs.Try.prog 400 94 as94 rs94 (x0, x1, x2, ()) [true, false] =
    (some (((true : Bool), ()), [(isRet (l94_0 ((x0, (x1, (x2, ((↑(List.length x2) : Int), ((0 : Int), ()))))), ())), false), (Option.isSome (l94_0 ((x0, (x1, (x2, ((↑(List.length x2) : Int), ((0 : Int), ()))))), ())), true)])) := by kernel_rfl

theorem ok94_t (x0 : Int) (x1 : Int) (x2 : (List Int)) : TrOk (PureRuns Go.Proofs.Try.prog kl94_0.orc 94 as94 rs94 (x0, x1, x2, ())) (t94 x0 x1 x2) :=
  TrOk.ofTest (fun h0 => TrOk.ofTest (fun h1 => TrOk.ofFin (PureRuns.of (e94_0 x0 x1 x2) (All.cons h1 (All.cons h0 (All.nil))))) (fun h1 => TrOk.ofFin (PureRuns.of (e94_1 x0 x1 x2) (All.cons h1 (All.cons h0 (All.nil)))))) (fun h0 => TrOk.ofStop)

theorem ok94 : PureOk Go.Proofs.Try.prog 94 p94 := pureOk_of kl94_0_ok.base (T := fun (d : Tys.data as94) => t94 d.1 d.2.1 d.2.2.1) (by kernel_rfl) (fun (d : Tys.data as94) => ok94_t d.1 d.2.1 d.2.2.1)
def kf94 : Known := kl94_0.func 94 p94
theorem kf94_ok : KnownOk Go.Proofs.Try.prog kf94 := kl94_0_ok.func ok94

/-! ductility/motion.isBeyond -/

abbrev as141 : List Ty := [(.int .i64), (.slice (.int .i64))]
abbrev rs141 : List Ty := [.bool]

def t141 (x0 : Int) (x1 : (List Int)) : Tr (Tys.data rs141) :=
  Tr.test (Option.isSome (f94 ((Go.IntKind.wrap Go.IntKind.i64 ((0 : Int) - x0) : Int), (x0, (x1, ())))))
    (let r0 : Bool × PUnit := g94 ((Go.IntKind.wrap Go.IntKind.i64 ((0 : Int) - x0) : Int), (x0, (x1, ())));
    Tr.fin (((!r0.fst : Bool), ())))
    (Tr.stop)

def f141 (d : Tys.data as141) : Option (Tys.data rs141) := (t141 d.1 d.2.1).val
def g141 (d : Tys.data as141) : Tys.data rs141 := (f141 d).getD (Tys.dflt rs141)
def p141 : PureC := pcOf as141 rs141 f141 g141

theorem e141_0 (x0 : Int) (x1 : (List Int)) : runPure kf94.orc Go.Proofs.Try.prog 400 141 as141 rs141 (x0, x1, ()) [true] =
    (let r0 : Bool × PUnit := g94 ((Go.IntKind.wrap Go.IntKind.i64 ((0 : Int) - x0) : Int), (x0, (x1, ()))); some (((!r0.fst : Bool), ()), [(Option.isSome (f94 ((Go.IntKind.wrap Go.IntKind.i64 ((0 : Int) - x0) : Int), (x0, (x1, ())))), true)])) := by kernel_rfl

theorem ok141_t (x0 : Int) (x1 : (List Int)) : TrOk (PureRuns Go.Proofs.Try.prog kf94.orc 141 as141 rs141 (x0, x1, ())) (t141 x0 x1) :=
  TrOk.ofTest (fun h0 => TrOk.ofFin (PureRuns.of (e141_0 x0 x1) (All.cons h0 (All.nil)))) (fun h0 => TrOk.ofStop)

theorem ok141 : PureOk Go.Proofs.Try.prog 141 p141 := pureOk_of kf94_ok.base (T := fun (d : Tys.data as141) => t141 d.1 d.2.1) (by kernel_rfl) (fun (d : Tys.data as141) => ok141_t d.1 d.2.1)
def kf141 : Known := kf94.func 141 p141
theorem kf141_ok : KnownOk Go.Proofs.Try.prog kf141 := kf94_ok.func ok141

/-! ductility/motion.checkSamples$1 -/

abbrev as140 : List Ty := [(.int .i64), (.int .i64)]
abbrev rs140 : List Ty := [(.int .i64)]

def t140 (x0 : Int) (x1 : Int) : Tr (Tys.data rs140) :=
  Tr.test (Option.isSome (f141 ((1000 : Int), (([x1] : List Int), ()))))
    (let r0 : Bool × PUnit := g141 ((1000 : Int), (([x1] : List Int), ()));
    Tr.test (Option.isSome (f86 ((r0.fst : Bool), ((2 : Int), ()))))
      (let r1 : Int × PUnit := g86 ((r0.fst : Bool), ((2 : Int), ()));
      Tr.fin (((r1.fst : Int), ())))
      (Tr.stop))
    (Tr.stop)

def f140 (d : Tys.data as140) : Option (Tys.data rs140) := (t140 d.1 d.2.1).val
def g140 (d : Tys.data as140) : Tys.data rs140 := (f140 d).getD (Tys.dflt rs140)
def p140 : PureC := pcOf as140 rs140 f140 g140

theorem e140_0 (x0 : Int) (x1 : Int) : runPure kf141.orc Go.Proofs.Try.prog 400 140 as140 rs140 (x0, x1, ()) [true, true, true] =
    (let r0 : Bool × PUnit := g141 ((1000 : Int), (([x1] : List Int), ())); let r1 : Int × PUnit := g86 ((r0.fst : Bool), ((2 : Int), ())); some (((r1.fst : Int), ()), [(Option.isSome (f86 ((r0.fst : Bool), ((2 : Int), ()))), true), (Option.isSome (f141 ((1000 : Int), (([x1] : List Int), ()))), true), ((true : Bool), true)])) := by kernel_rfl

theorem ok140_t (x0 : Int) (x1 : Int) : TrOk (PureRuns Go.Proofs.Try.prog kf141.orc 140 as140 rs140 (x0, x1, ())) (t140 x0 x1) :=
  TrOk.ofTest (fun h1 => TrOk.ofTest (fun h2 => TrOk.ofFin (PureRuns.of (e140_0 x0 x1) (All.cons h2 (All.cons h1 (All.cons rfl (All.nil)))))) (fun h2 => TrOk.ofStop)) (fun h1 => TrOk.ofStop)

theorem ok140 : PureOk Go.Proofs.Try.prog 140 p140 := pureOk_of kf141_ok.base (T := fun (d : Tys.data as140) => t140 d.1 d.2.1) (by kernel_rfl) (fun (d : Tys.data as140) => ok140_t d.1 d.2.1)
def kf140 : Known := kf141.func 140 p140
theorem kf140_ok : KnownOk Go.Proofs.Try.prog kf140 := kf141_ok.func ok140

/-! loop 0 of ductility/motion.checkItems[int] -/

abbrev sh106_0 : Sh := { n := 25, slots := [1, 9, 10, 11], pats := [.fn 140 [], .ty (.slice (.int .i64)), .ty (.int .i64), .ty (.int .i64)], boxes := [] }
abbrev shb106_0 : Sh := { n := 25, slots := [], pats := [], boxes := [] }
abbrev shr106_0 : Sh := { n := 25, slots := [4, 5], pats := [.ty (.int .i64), .ty (.int .i64)], boxes := [] }

def t106_0 (x1 : (List Int)) (x2 : Int) (x3 : Int) : Tr (Out sh106_0.data shb106_0.data shr106_0.data) :=
  Tr.test ((!leF x2 x3 : Bool))
    (Tr.test ((decide ((0 : Int) ≤ x3) && decide (x3 < (↑(List.length x1) : Int)) : Bool))
      (Tr.test (Option.isSome (f140 (x3, ((List.getD x1 (Int.toNat x3) (0 : Int) : Int), ()))))
        (let r0 : Int × PUnit := g140 (x3, ((List.getD x1 (Int.toNat x3) (0 : Int) : Int), ()));
        Tr.test ((!eqF r0.fst (0 : Int) : Bool))
          (Tr.fin (.ret ((x3, ((r0.fst : Int), ())), ())))
          (Tr.fin (.again ((x1, (x2, ((wrap64 (x3 + (1 : Int)) : Int), ()))), ()))))
        (Tr.stop))
      (Tr.stop /- none [op 1 of region 3 of F106] -/))
    (Tr.fin (.brk ((), ())))

def s106_0 (d : sh106_0.data) : Option (Out sh106_0.data shb106_0.data shr106_0.data) := (t106_0 d.1.1 d.1.2.1 d.1.2.2.1).val
def l106_0 (d : sh106_0.data) : Option (shb106_0.data ⊕ shr106_0.data) := itr s106_0 rounds d
def b106_0 (d : sh106_0.data) : shb106_0.data := outB shb106_0.dflt (l106_0 d)
def r106_0 (d : sh106_0.data) : shr106_0.data := outR shr106_0.dflt (l106_0 d)
def lc106_0 : LoopC := lcOf sh106_0 shb106_0 shr106_0 l106_0 b106_0 r106_0

theorem e106_0_0 (x1 : (List Int)) (x2 : Int) (x3 : Int) : runBody kf140.orc Go.Proofs.Try.prog 400 106 0 sh106_0 shb106_0 shr106_0 ((x1, x2, x3, ()), ()) [true, true, true, true] =
    (let r0 : Int × PUnit := g140 (x3, ((List.getD x1 (Int.toNat x3) (0 : Int) : Int), ())); some (.ret ((x3, ((r0.fst : Int), ())), ()), [((!eqF r0.fst (0 : Int) : Bool), true), (Option.isSome (f140 (x3, ((List.getD x1 (Int.toNat x3) (0 : Int) : Int), ()))), true), ((decide ((0 : Int) ≤ x3) && decide (x3 < (↑(List.length x1) : Int)) : Bool), true), ((!leF x2 x3 : Bool), true)])) := by kernel_rfl
theorem e106_0_1 (x1 : (List Int)) (x2 : Int) (x3 : Int) : runBody kf140.orc Go.Proofs.Try.prog 400 106 0 sh106_0 shb106_0 shr106_0 ((x1, x2, x3, ()), ()) [true, true, true, false] =
    (let r0 : Int × PUnit := g140 (x3, ((List.getD x1 (Int.toNat x3) (0 : Int) : Int), ())); some (.again ((x1, (x2, ((wrap64 (x3 + (1 : Int)) : Int), ()))), ()), [((!eqF r0.fst (0 : Int) : Bool), false), (Option.isSome (f140 (x3, ((List.getD x1 (Int.toNat x3) (0 : Int) : Int), ()))), true), ((decide ((0 : Int) ≤ x3) && decide (x3 < (↑(List.length x1) : Int)) : Bool), true), ((!leF x2 x3 : Bool), true)])) := by kernel_rfl
theorem e106_0_3 (x1 : (List Int)) (x2 : Int) (x3 : Int) : runBody kf140.orc Go.Proofs.Try.prog 400 106 0 sh106_0 shb106_0 shr106_0 ((x1, x2, x3, ()), ()) [false] =
    (some (.brk ((), ()), [((!leF x2 x3 : Bool), false)])) := by kernel_rfl

theorem ok106_0_t (x1 : (List Int)) (x2 : Int) (x3 : Int) : TrOk (BodyRuns Go.Proofs.Try.prog kf140.orc 106 0 sh106_0 shb106_0 shr106_0 ((x1, x2, x3, ()), ())) (t106_0 x1 x2 x3) :=
  TrOk.ofTest (fun h0 => TrOk.ofTest (fun h1 => TrOk.ofTest (fun h2 => TrOk.ofTest (fun h3 => TrOk.ofFin (BodyRuns.of (e106_0_0 x1 x2 x3) (All.cons h3 (All.cons h2 (All.cons h1 (All.cons h0 (All.nil))))))) (fun h3 => TrOk.ofFin (BodyRuns.of (e106_0_1 x1 x2 x3) (All.cons h3 (All.cons h2 (All.cons h1 (All.cons h0 (All.nil)))))))) (fun h2 => TrOk.ofStop)) (fun h1 => TrOk.ofStop)) (fun h0 => TrOk.ofFin (BodyRuns.of (e106_0_3 x1 x2 x3) (All.cons h0 (All.nil))))

theorem ok106_0 : LoopOk Go.Proofs.Try.prog 106 0 lc106_0 := loopOk_of kf140_ok.base (T := fun (d : sh106_0.data) => t106_0 d.1.1 d.1.2.1 d.1.2.2.1) (by kernel_rfl) rfl (fun (d : sh106_0.data) => ok106_0_t d.1.1 d.1.2.1 d.1.2.2.1) (fun _ => rfl)
def kl106_0 : Known := kf140.loop 106 0 lc106_0
theorem kl106_0_ok : KnownOk Go.Proofs.Try.prog kl106_0 := kf140_ok.loop ok106_0

/-! ductility/motion.checkSamples -/

abbrev as87 : List Ty := [(.slice (.int .i64))]
abbrev rs87 : List Ty := [(.int .i64), (.int .i64)]

def t87 (x0 : (List Int)) : Tr (Tys.data rs87) :=
  Tr.test (Option.isSome (l106_0 ((x0, ((↑(List.length x0) : Int), ((0 : Int), ()))), ())))
    (Tr.test (isRet (l106_0 ((x0, ((↑(List.length x0) : Int), ((0 : Int), ()))), ())))
      (let r0 : (Int × Int × PUnit) × PUnit := r106_0 ((x0, ((↑(List.length x0) : Int), ((0 : Int), ()))), ());
      Tr.fin (((r0.fst.fst : Int), ((r0.fst.snd.fst : Int), ()))))
      (Tr.fin (((0 : Int), ((0 : Int), ())))))
    (Tr.stop)

def f87 (d : Tys.data as87) : Option (Tys.data rs87) := (t87 d.1).val
def g87 (d : Tys.data as87) : Tys.data rs87 := (f87 d).getD (Tys.dflt rs87)
def p87 : PureC := pcOf as87 rs87 f87 g87

theorem e87_0 (x0 : (List Int)) : runPure kl106_0.orc Go.Proofs.Try.prog 400 87 as87 rs87 (x0, ()) [true, true] =
    (let r0 : (Int × Int × PUnit) × PUnit := r106_0 ((x0, ((↑(List.length x0) : Int), ((0 : Int), ()))), ()); some (((r0.fst.fst : Int), ((r0.fst.snd.fst : Int), ())), [(isRet (l106_0 ((x0, ((↑(List.length x0) : Int), ((0 : Int), ()))), ())), true), (Option.isSome (l106_0 ((x0, ((↑(List.length x0) : Int), ((0 : Int), ()))), ())), true)])) := by kernel_rfl
theorem e87_1 (x0 : (List Int)) : runPure kl106_0.orc Go.Proofs.Try.prog 400 87 as87 rs87 (x0, ()) [true, false] =
    (some (((0 : Int), ((0 : Int), ())), [(isRet (l106_0 ((x0, ((↑(List.length x0) : Int), ((0 : Int), ()))), ())), false), (Option.isSome (l106_0 ((x0, ((↑(List.length x0) : Int), ((0 : Int), ()))), ())), true)])) := by kernel_rfl

theorem ok87_t (x0 : (List Int)) : TrOk (PureRuns Go.Proofs.Try.prog kl106_0.orc 87 as87 rs87 (x0, ())) (t87 x0) :=
  TrOk.ofTest (fun h0 => TrOk.ofTest (fun h1 => TrOk.ofFin (PureRuns.of (e87_0 x0) (All.cons h1 (All.cons h0 (All.nil))))) (fun h1 => TrOk.ofFin (PureRuns.of (e87_1 x0) (All.cons h1 (All.cons h0 (All.nil)))))) (fun h0 => TrOk.ofStop)

theorem ok87 : PureOk Go.Proofs.Try.prog 87 p87 := pureOk_of kl106_0_ok.base (T := fun (d : Tys.data as87) => t87 d.1) (by kernel_rfl) (fun (d : Tys.data as87) => ok87_t d.1)
def kf87 : Known := kl106_0.func 87 p87
theorem kf87_ok : KnownOk Go.Proofs.Try.prog kf87 := kl106_0_ok.func ok87

/-! ductility/motion.CheckRecord -/

abbrev as17 : List Ty := [(.pair (.int .i64) (.pair (.slice (.int .i64)) .unit))]
abbrev rs17 : List Ty := [(.int .i64), (.int .i64)]

def t17 (x0 : Int) (x0' : (List Int)) : Tr (Tys.data rs17) :=
  Tr.test ((!leF (1 : Int) x0 : Bool))
    (Tr.test (Option.isSome (f86 ((true : Bool), ((2 : Int), ()))))
      (Tr.test (Option.isSome (f86 ((!leF (2 : Int) (↑(List.length x0') : Int) : Bool), ((10 : Int), ()))))
        (Tr.test (Option.isSome (f86 ((!leF (↑(List.length x0') : Int) (24 : Int) : Bool), ((8 : Int), ()))))
          (let r0 : Int × PUnit := g86 ((true : Bool), ((2 : Int), ()));
          let r2 : Int × PUnit := g86 ((!leF (2 : Int) (↑(List.length x0') : Int) : Bool), ((10 : Int), ()));
          let r3 : Int × PUnit := g86 ((!leF (↑(List.length x0') : Int) (24 : Int) : Bool), ((8 : Int), ()));
          Tr.test (Option.isSome (f85 (([r0.fst, r2.fst, r3.fst] : List Int), ())))
            (let r4 : Int × PUnit := g85 (([r0.fst, r2.fst, r3.fst] : List Int), ());
            Tr.test ((!eqF r4.fst (0 : Int) : Bool))
              (Tr.fin (((0 : Int), ((r4.fst : Int), ()))))
              (Tr.test (Option.isSome (f87 (x0', ())))
                (let r6 : Int × Int × PUnit := g87 (x0', ());
                Tr.fin (((r6.fst : Int), ((r6.snd.fst : Int), ()))))
                (Tr.stop)))
            (Tr.stop))
          (Tr.stop))
        (Tr.stop))
      (Tr.stop))
    (Tr.test (Option.isSome (f86 ((!leF x0 (1000000 : Int) : Bool), ((2 : Int), ()))))
      (Tr.test (Option.isSome (f86 ((!leF (2 : Int) (↑(List.length x0') : Int) : Bool), ((10 : Int), ()))))
        (Tr.test (Option.isSome (f86 ((!leF (↑(List.length x0') : Int) (24 : Int) : Bool), ((8 : Int), ()))))
          (let r1 : Int × PUnit := g86 ((!leF x0 (1000000 : Int) : Bool), ((2 : Int), ()));
          let r2 : Int × PUnit := g86 ((!leF (2 : Int) (↑(List.length x0') : Int) : Bool), ((10 : Int), ()));
          let r3 : Int × PUnit := g86 ((!leF (↑(List.length x0') : Int) (24 : Int) : Bool), ((8 : Int), ()));
          Tr.test (Option.isSome (f85 (([r1.fst, r2.fst, r3.fst] : List Int), ())))
            (let r5 : Int × PUnit := g85 (([r1.fst, r2.fst, r3.fst] : List Int), ());
            Tr.test ((!eqF r5.fst (0 : Int) : Bool))
              (Tr.fin (((0 : Int), ((r5.fst : Int), ()))))
              (Tr.test (Option.isSome (f87 (x0', ())))
                (let r6 : Int × Int × PUnit := g87 (x0', ());
                Tr.fin (((r6.fst : Int), ((r6.snd.fst : Int), ()))))
                (Tr.stop)))
            (Tr.stop))
          (Tr.stop))
        (Tr.stop))
      (Tr.stop))

def f17 (d : Tys.data as17) : Option (Tys.data rs17) := (t17 d.1.1 d.1.2.1).val
def g17 (d : Tys.data as17) : Tys.data rs17 := (f17 d).getD (Tys.dflt rs17)
def p17 : PureC := pcOf as17 rs17 f17 g17

theorem e17_0 (x0 : Int) (x0' : (List Int)) : runPure kf87.orc Go.Proofs.Try.prog 400 17 as17 rs17 ((x0, x0', ()), ()) [true, true, true, true, true, true, true, true, true, true] =
    (let r0 : Int × PUnit := g86 ((true : Bool), ((2 : Int), ())); let r2 : Int × PUnit := g86 ((!leF (2 : Int) (↑(List.length x0') : Int) : Bool), ((10 : Int), ())); let r3 : Int × PUnit := g86 ((!leF (↑(List.length x0') : Int) (24 : Int) : Bool), ((8 : Int), ())); let r4 : Int × PUnit := g85 (([r0.fst, r2.fst, r3.fst] : List Int), ()); some (((0 : Int), ((r4.fst : Int), ())), [((!eqF r4.fst (0 : Int) : Bool), true), (Option.isSome (f85 (([r0.fst, r2.fst, r3.fst] : List Int), ())), true), ((true : Bool), true), (Option.isSome (f86 ((!leF (↑(List.length x0') : Int) (24 : Int) : Bool), ((8 : Int), ()))), true), (Option.isSome (f86 ((!leF (2 : Int) (↑(List.length x0') : Int) : Bool), ((10 : Int), ()))), true), (Option.isSome (f86 ((true : Bool), ((2 : Int), ()))), true), ((!leF (1 : Int) x0 : Bool), true), ((!leF (1 : Int) x0 : Bool), true), ((!leF (1 : Int) x0 : Bool), true), ((!leF (1 : Int) x0 : Bool), true)])) := by kernel_rfl
theorem e17_1 (x0 : Int) (x0' : (List Int)) : runPure kf87.orc Go.Proofs.Try.prog 400 17 as17 rs17 ((x0, x0', ()), ()) [true, true, true, true, true, true, true, true, true, false, true] =
    (let r0 : Int × PUnit := g86 ((true : Bool), ((2 : Int), ())); let r2 : Int × PUnit := g86 ((!leF (2 : Int) (↑(List.length x0') : Int) : Bool), ((10 : Int), ())); let r3 : Int × PUnit := g86 ((!leF (↑(List.length x0') : Int) (24 : Int) : Bool), ((8 : Int), ())); let r4 : Int × PUnit := g85 (([r0.fst, r2.fst, r3.fst] : List Int), ()); let r6 : Int × Int × PUnit := g87 (x0', ()); some (((r6.fst : Int), ((r6.snd.fst : Int), ())), [(Option.isSome (f87 (x0', ())), true), ((!eqF r4.fst (0 : Int) : Bool), false), (Option.isSome (f85 (([r0.fst, r2.fst, r3.fst] : List Int), ())), true), ((true : Bool), true), (Option.isSome (f86 ((!leF (↑(List.length x0') : Int) (24 : Int) : Bool), ((8 : Int), ()))), true), (Option.isSome (f86 ((!leF (2 : Int) (↑(List.length x0') : Int) : Bool), ((10 : Int), ()))), true), (Option.isSome (f86 ((true : Bool), ((2 : Int), ()))), true), ((!leF (1 : Int) x0 : Bool), true), ((!leF (1 : Int) x0 : Bool), true), ((!leF (1 : Int) x0 : Bool), true), ((!leF (1 : Int) x0 : Bool), true)])) := by kernel_rfl
theorem e17_2 (x0 : Int) (x0' : (List Int)) : runPure kf87.orc Go.Proofs.Try.prog 400 17 as17 rs17 ((x0, x0', ()), ()) [false, false, false, false, true, true, true, true, true, true] =
    (let r1 : Int × PUnit := g86 ((!leF x0 (1000000 : Int) : Bool), ((2 : Int), ())); let r2 : Int × PUnit := g86 ((!leF (2 : Int) (↑(List.length x0') : Int) : Bool), ((10 : Int), ())); let r3 : Int × PUnit := g86 ((!leF (↑(List.length x0') : Int) (24 : Int) : Bool), ((8 : Int), ())); let r5 : Int × PUnit := g85 (([r1.fst, r2.fst, r3.fst] : List Int), ()); some (((0 : Int), ((r5.fst : Int), ())), [((!eqF r5.fst (0 : Int) : Bool), true), (Option.isSome (f85 (([r1.fst, r2.fst, r3.fst] : List Int), ())), true), ((true : Bool), true), (Option.isSome (f86 ((!leF (↑(List.length x0') : Int) (24 : Int) : Bool), ((8 : Int), ()))), true), (Option.isSome (f86 ((!leF (2 : Int) (↑(List.length x0') : Int) : Bool), ((10 : Int), ()))), true), (Option.isSome (f86 ((!leF x0 (1000000 : Int) : Bool), ((2 : Int), ()))), true), ((!leF (1 : Int) x0 : Bool), false), ((!leF (1 : Int) x0 : Bool), false), ((!leF (1 : Int) x0 : Bool), false), ((!leF (1 : Int) x0 : Bool), false)])) := by kernel_rfl
theorem e17_3 (x0 : Int) (x0' : (List Int)) : runPure kf87.orc Go.Proofs.Try.prog 400 17 as17 rs17 ((x0, x0', ()), ()) [false, false, false, false, true, true, true, true, true, false, true] =
    (let r1 : Int × PUnit := g86 ((!leF x0 (1000000 : Int) : Bool), ((2 : Int), ())); let r2 : Int × PUnit := g86 ((!leF (2 : Int) (↑(List.length x0') : Int) : Bool), ((10 : Int), ())); let r3 : Int × PUnit := g86 ((!leF (↑(List.length x0') : Int) (24 : Int) : Bool), ((8 : Int), ())); let r5 : Int × PUnit := g85 (([r1.fst, r2.fst, r3.fst] : List Int), ()); let r6 : Int × Int × PUnit := g87 (x0', ()); some (((r6.fst : Int), ((r6.snd.fst : Int), ())), [(Option.isSome (f87 (x0', ())), true), ((!eqF r5.fst (0 : Int) : Bool), false), (Option.isSome (f85 (([r1.fst, r2.fst, r3.fst] : List Int), ())), true), ((true : Bool), true), (Option.isSome (f86 ((!leF (↑(List.length x0') : Int) (24 : Int) : Bool), ((8 : Int), ()))), true), (Option.isSome (f86 ((!leF (2 : Int) (↑(List.length x0') : Int) : Bool), ((10 : Int), ()))), true), (Option.isSome (f86 ((!leF x0 (1000000 : Int) : Bool), ((2 : Int), ()))), true), ((!leF (1 : Int) x0 : Bool), false), ((!leF (1 : Int) x0 : Bool), false), ((!leF (1 : Int) x0 : Bool), false), ((!leF (1 : Int) x0 : Bool), false)])) := by kernel_rfl

theorem ok17_t (x0 : Int) (x0' : (List Int)) : TrOk (PureRuns Go.Proofs.Try.prog kf87.orc 17 as17 rs17 ((x0, x0', ()), ())) (t17 x0 x0') :=
  TrOk.ofTest (fun h0 => TrOk.ofTest (fun h4 => TrOk.ofTest (fun h5 => TrOk.ofTest (fun h6 => TrOk.ofTest (fun h8 => TrOk.ofTest (fun h9 => TrOk.ofFin (PureRuns.of (e17_0 x0 x0') (All.cons h9 (All.cons h8 (All.cons rfl (All.cons h6 (All.cons h5 (All.cons h4 (All.cons (not_of (of_not (h0))) (All.cons (not_of (of_not (h0))) (All.cons (not_of (of_not (h0))) (All.cons h0 (All.nil))))))))))))) (fun h9 => TrOk.ofTest (fun h10 => TrOk.ofFin (PureRuns.of (e17_1 x0 x0') (All.cons h10 (All.cons h9 (All.cons h8 (All.cons rfl (All.cons h6 (All.cons h5 (All.cons h4 (All.cons (not_of (of_not (h0))) (All.cons (not_of (of_not (h0))) (All.cons (not_of (of_not (h0))) (All.cons h0 (All.nil)))))))))))))) (fun h10 => TrOk.ofStop))) (fun h8 => TrOk.ofStop)) (fun h6 => TrOk.ofStop)) (fun h5 => TrOk.ofStop)) (fun h4 => TrOk.ofStop)) (fun h0 => TrOk.ofTest (fun h4 => TrOk.ofTest (fun h5 => TrOk.ofTest (fun h6 => TrOk.ofTest (fun h8 => TrOk.ofTest (fun h9 => TrOk.ofFin (PureRuns.of (e17_2 x0 x0') (All.cons h9 (All.cons h8 (All.cons rfl (All.cons h6 (All.cons h5 (All.cons h4 (All.cons (not_of (of_not (h0))) (All.cons (not_of (of_not (h0))) (All.cons (not_of (of_not (h0))) (All.cons h0 (All.nil))))))))))))) (fun h9 => TrOk.ofTest (fun h10 => TrOk.ofFin (PureRuns.of (e17_3 x0 x0') (All.cons h10 (All.cons h9 (All.cons h8 (All.cons rfl (All.cons h6 (All.cons h5 (All.cons h4 (All.cons (not_of (of_not (h0))) (All.cons (not_of (of_not (h0))) (All.cons (not_of (of_not (h0))) (All.cons h0 (All.nil)))))))))))))) (fun h10 => TrOk.ofStop))) (fun h8 => TrOk.ofStop)) (fun h6 => TrOk.ofStop)) (fun h5 => TrOk.ofStop)) (fun h4 => TrOk.ofStop))

theorem ok17 : PureOk Go.Proofs.Try.prog 17 p17 := pureOk_of kf87_ok.base (T := fun (d : Tys.data as17) => t17 d.1.1 d.1.2.1) (by kernel_rfl) (fun (d : Tys.data as17) => ok17_t d.1.1 d.1.2.1)
def kf17 : Known := kf87.func 17 p17
theorem kf17_ok : KnownOk Go.Proofs.Try.prog kf17 := kf87_ok.func ok17

/-! ductility/motion.recordError -/

abbrev as88 : List Ty := [(.pair (.int .i64) (.pair (.slice (.int .i64)) .unit))]
abbrev rs88 : List Ty := [(.int .i64)]

def t88 (x0 : Int) (x0' : (List Int)) : Tr (Tys.data rs88) :=
  Tr.test (Option.isSome (f17 ((x0, (x0', ())), ())))
    (let r0 : Int × Int × PUnit := g17 ((x0, (x0', ())), ());
    Tr.fin (((r0.snd.fst : Int), ())))
    (Tr.stop)

def f88 (d : Tys.data as88) : Option (Tys.data rs88) := (t88 d.1.1 d.1.2.1).val
def g88 (d : Tys.data as88) : Tys.data rs88 := (f88 d).getD (Tys.dflt rs88)
def p88 : PureC := pcOf as88 rs88 f88 g88

theorem e88_0 (x0 : Int) (x0' : (List Int)) : runPure kf17.orc Go.Proofs.Try.prog 400 88 as88 rs88 ((x0, x0', ()), ()) [true] =
    (let r0 : Int × Int × PUnit := g17 ((x0, (x0', ())), ()); some (((r0.snd.fst : Int), ()), [(Option.isSome (f17 ((x0, (x0', ())), ())), true)])) := by kernel_rfl

theorem ok88_t (x0 : Int) (x0' : (List Int)) : TrOk (PureRuns Go.Proofs.Try.prog kf17.orc 88 as88 rs88 ((x0, x0', ()), ())) (t88 x0 x0') :=
  TrOk.ofTest (fun h0 => TrOk.ofFin (PureRuns.of (e88_0 x0 x0') (All.cons h0 (All.nil)))) (fun h0 => TrOk.ofStop)

theorem ok88 : PureOk Go.Proofs.Try.prog 88 p88 := pureOk_of kf17_ok.base (T := fun (d : Tys.data as88) => t88 d.1.1 d.1.2.1) (by kernel_rfl) (fun (d : Tys.data as88) => ok88_t d.1.1 d.1.2.1)
def kf88 : Known := kf17.func 88 p88
theorem kf88_ok : KnownOk Go.Proofs.Try.prog kf88 := kf17_ok.func ok88

/-! ductility/motion.oscillatorError -/

abbrev as119 : List Ty := [(.pair (.int .i64) (.pair (.int .i64) .unit))]
abbrev rs119 : List Ty := [(.int .i64)]

def t119 (x0 : Int) (x0' : Int) : Tr (Tys.data rs119) :=
  Tr.test (Option.isSome (f94 ((0 : Int), ((3000 : Int), (([x0] : List Int), ())))))
    (let r0 : Bool × PUnit := g94 ((0 : Int), ((3000 : Int), (([x0] : List Int), ())));
    Tr.test (Option.isSome (f86 ((!r0.fst : Bool), ((2 : Int), ()))))
      (Tr.test (Option.isSome (f94 ((0 : Int), ((500 : Int), (([x0'] : List Int), ())))))
        (let r2 : Bool × PUnit := g94 ((0 : Int), ((500 : Int), (([x0'] : List Int), ())));
        Tr.test (Option.isSome (f86 ((!r2.fst : Bool), ((2 : Int), ()))))
          (let r1 : Int × PUnit := g86 ((!r0.fst : Bool), ((2 : Int), ()));
          let r3 : Int × PUnit := g86 ((!r2.fst : Bool), ((2 : Int), ()));
          Tr.test (Option.isSome (f85 (([r1.fst, r3.fst] : List Int), ())))
            (let r4 : Int × PUnit := g85 (([r1.fst, r3.fst] : List Int), ());
            Tr.fin (((r4.fst : Int), ())))
            (Tr.stop))
          (Tr.stop))
        (Tr.stop))
      (Tr.stop))
    (Tr.stop)

def f119 (d : Tys.data as119) : Option (Tys.data rs119) := (t119 d.1.1 d.1.2.1).val
def g119 (d : Tys.data as119) : Tys.data rs119 := (f119 d).getD (Tys.dflt rs119)
def p119 : PureC := pcOf as119 rs119 f119 g119

theorem e119_0 (x0 : Int) (x0' : Int) : runPure kf88.orc Go.Proofs.Try.prog 400 119 as119 rs119 ((x0, x0', ()), ()) [true, true, true, true, true, true, true, true] =
    (let r0 : Bool × PUnit := g94 ((0 : Int), ((3000 : Int), (([x0] : List Int), ()))); let r2 : Bool × PUnit := g94 ((0 : Int), ((500 : Int), (([x0'] : List Int), ()))); let r1 : Int × PUnit := g86 ((!r0.fst : Bool), ((2 : Int), ())); let r3 : Int × PUnit := g86 ((!r2.fst : Bool), ((2 : Int), ())); let r4 : Int × PUnit := g85 (([r1.fst, r3.fst] : List Int), ()); some (((r4.fst : Int), ()), [(Option.isSome (f85 (([r1.fst, r3.fst] : List Int), ())), true), ((true : Bool), true), (Option.isSome (f86 ((!r2.fst : Bool), ((2 : Int), ()))), true), (Option.isSome (f94 ((0 : Int), ((500 : Int), (([x0'] : List Int), ())))), true), ((true : Bool), true), (Option.isSome (f86 ((!r0.fst : Bool), ((2 : Int), ()))), true), (Option.isSome (f94 ((0 : Int), ((3000 : Int), (([x0] : List Int), ())))), true), ((true : Bool), true)])) := by kernel_rfl

theorem ok119_t (x0 : Int) (x0' : Int) : TrOk (PureRuns Go.Proofs.Try.prog kf88.orc 119 as119 rs119 ((x0, x0', ()), ())) (t119 x0 x0') :=
  TrOk.ofTest (fun h1 => TrOk.ofTest (fun h2 => TrOk.ofTest (fun h4 => TrOk.ofTest (fun h5 => TrOk.ofTest (fun h7 => TrOk.ofFin (PureRuns.of (e119_0 x0 x0') (All.cons h7 (All.cons rfl (All.cons h5 (All.cons h4 (All.cons rfl (All.cons h2 (All.cons h1 (All.cons rfl (All.nil))))))))))) (fun h7 => TrOk.ofStop)) (fun h5 => TrOk.ofStop)) (fun h4 => TrOk.ofStop)) (fun h2 => TrOk.ofStop)) (fun h1 => TrOk.ofStop)

theorem ok119 : PureOk Go.Proofs.Try.prog 119 p119 := pureOk_of kf88_ok.base (T := fun (d : Tys.data as119) => t119 d.1.1 d.1.2.1) (by kernel_rfl) (fun (d : Tys.data as119) => ok119_t d.1.1 d.1.2.1)
def kf119 : Known := kf88.func 119 p119
theorem kf119_ok : KnownOk Go.Proofs.Try.prog kf119 := kf88_ok.func ok119

/-! loop 0 of ductility/motion.responseOf -/

abbrev sh120_0 : Sh := { n := 44, slots := [3, 5, 6, 7, 11, 12, 13], pats := [.ptr 0 2 0, .acc (.int .i64), .ty (.int .i64), .ty (.int .i64), .ty (.slice (.int .i64)), .ty (.int .i64), .ty (.int .i64)], boxes := [.row [.ty (.int .i64), .ty (.int .i64)]] }
abbrev shb120_0 : Sh := { n := 44, slots := [5], pats := [.acc (.int .i64)], boxes := [.row [.ty (.int .i64), .ty (.int .i64)]] }
abbrev shr120_0 : Sh := { n := 44, slots := [], pats := [], boxes := [.row [.ty (.int .i64), .ty (.int .i64)]] }

def t120_0 (x1 : (List Int)) (x2 : Int) (x3 : Int) (x4 : (List Int)) (x5 : Int) (x6 : Int) (b0_0 : Int) (b0_1 : Int) : Tr (Out sh120_0.data shb120_0.data shr120_0.data) :=
  Tr.test ((!leF x5 x6 : Bool))
    (Tr.test ((decide ((0 : Int) ≤ x6) && decide (x6 < (↑(List.length x4) : Int)) : Bool))
      (Tr.test ((Nat.ble (((2 : Nat) * (List.length x1 + (1 : Nat)) + (192 : Nat)) * (8 : Nat)) (281474976710656 : Nat) && Nat.ble (List.length x1 + (1 : Nat)) (281474976710656 : Nat) : Bool))
        (Tr.fin (.again (((x1 ++ [wrap64 (wrap64 (wrap64 (wrap64 ((2 : Int) * x2) - x3) - Go.IntKind.wrap Go.IntKind.i64 (Int.tdiv (wrap64 (wrap64 (b0_0 * x2) + wrap64 (b0_1 * wrap64 (x2 - x3)))) (1000 : Int))) - List.getD x4 (Int.toNat x6) (0 : Int))] : List Int), ((wrap64 (wrap64 (wrap64 (wrap64 ((2 : Int) * x2) - x3) - Go.IntKind.wrap Go.IntKind.i64 (Int.tdiv (wrap64 (wrap64 (b0_0 * x2) + wrap64 (b0_1 * wrap64 (x2 - x3)))) (1000 : Int))) - List.getD x4 (Int.toNat x6) (0 : Int)) : Int), (x2, (x4, (x5, ((wrap64 (x6 + (1 : Int)) : Int), ())))))), ((b0_0, (b0_1, ())), ()))))
        (Tr.stop /- none [op 3 of region 8 of F120] -/))
      (Tr.stop /- none [op 0 of region 5 of F120] -/))
    (Tr.fin (.brk ((x1, ()), ((b0_0, (b0_1, ())), ()))))

def s120_0 (d : sh120_0.data) : Option (Out sh120_0.data shb120_0.data shr120_0.data) := (t120_0 d.1.1 d.1.2.1 d.1.2.2.1 d.1.2.2.2.1 d.1.2.2.2.2.1 d.1.2.2.2.2.2.1 d.2.1.1 d.2.1.2.1).val
def l120_0 (d : sh120_0.data) : Option (shb120_0.data ⊕ shr120_0.data) := itr s120_0 rounds d
def b120_0 (d : sh120_0.data) : shb120_0.data := outB shb120_0.dflt (l120_0 d)
def r120_0 (d : sh120_0.data) : shr120_0.data := outR shr120_0.dflt (l120_0 d)
def lc120_0 : LoopC := lcB sh120_0 shb120_0 shr120_0 l120_0 b120_0

theorem e120_0_0 (x1 : (List Int)) (x2 : Int) (x3 : Int) (x4 : (List Int)) (x5 : Int) (x6 : Int) (b0_0 : Int) (b0_1 : Int) : runBody kf119.orc Go.Proofs.Try.prog 400 120 0 sh120_0 shb120_0 shr120_0 ((x1, x2, x3, x4, x5, x6, ()), (b0_0, b0_1, ()), ()) [true, true, false, false, true, true] =
    (some (.again (((x1 ++ [wrap64 (wrap64 (wrap64 (wrap64 ((2 : Int) * x2) - x3) - Go.IntKind.wrap Go.IntKind.i64 (Int.tdiv (wrap64 (wrap64 (b0_0 * x2) + wrap64 (b0_1 * wrap64 (x2 - x3)))) (1000 : Int))) - List.getD x4 (Int.toNat x6) (0 : Int))] : List Int), ((wrap64 (wrap64 (wrap64 (wrap64 ((2 : Int) * x2) - x3) - Go.IntKind.wrap Go.IntKind.i64 (Int.tdiv (wrap64 (wrap64 (b0_0 * x2) + wrap64 (b0_1 * wrap64 (x2 - x3)))) (1000 : Int))) - List.getD x4 (Int.toNat x6) (0 : Int)) : Int), (x2, (x4, (x5, ((wrap64 (x6 + (1 : Int)) : Int), ())))))), ((b0_0, (b0_1, ())), ())), [((true : Bool), true), ((Nat.ble (((2 : Nat) * (List.length x1 + (1 : Nat)) + (192 : Nat)) * (8 : Nat)) (281474976710656 : Nat) && Nat.ble (List.length x1 + (1 : Nat)) (281474976710656 : Nat) : Bool), true), ((false : Bool), false), ((false : Bool), false), ((decide ((0 : Int) ≤ x6) && decide (x6 < (↑(List.length x4) : Int)) : Bool), true), ((!leF x5 x6 : Bool), true)])) := by kernel_rfl
theorem e120_0_3 (x1 : (List Int)) (x2 : Int) (x3 : Int) (x4 : (List Int)) (x5 : Int) (x6 : Int) (b0_0 : Int) (b0_1 : Int) : runBody kf119.orc Go.Proofs.Try.prog 400 120 0 sh120_0 shb120_0 shr120_0 ((x1, x2, x3, x4, x5, x6, ()), (b0_0, b0_1, ()), ()) [false] =
    (some (.brk ((x1, ()), ((b0_0, (b0_1, ())), ())), [((!leF x5 x6 : Bool), false)])) := by kernel_rfl

theorem ok120_0_t (x1 : (List Int)) (x2 : Int) (x3 : Int) (x4 : (List Int)) (x5 : Int) (x6 : Int) (b0_0 : Int) (b0_1 : Int) : TrOk (BodyRuns Go.Proofs.Try.prog kf119.orc 120 0 sh120_0 shb120_0 shr120_0 ((x1, x2, x3, x4, x5, x6, ()), (b0_0, b0_1, ()), ())) (t120_0 x1 x2 x3 x4 x5 x6 b0_0 b0_1) :=
  TrOk.ofTest (fun h0 => TrOk.ofTest (fun h1 => TrOk.ofTest (fun h4 => TrOk.ofFin (BodyRuns.of (e120_0_0 x1 x2 x3 x4 x5 x6 b0_0 b0_1) (All.cons rfl (All.cons h4 (All.cons rfl (All.cons rfl (All.cons h1 (All.cons h0 (All.nil))))))))) (fun h4 => TrOk.ofStop)) (fun h1 => TrOk.ofStop)) (fun h0 => TrOk.ofFin (BodyRuns.of (e120_0_3 x1 x2 x3 x4 x5 x6 b0_0 b0_1) (All.cons h0 (All.nil))))

theorem ok120_0 : LoopOk Go.Proofs.Try.prog 120 0 lc120_0 := loopOk_ofB kf119_ok.base (T := fun (d : sh120_0.data) => t120_0 d.1.1 d.1.2.1 d.1.2.2.1 d.1.2.2.2.1 d.1.2.2.2.2.1 d.1.2.2.2.2.2.1 d.2.1.1 d.2.1.2.1) (by kernel_rfl) rfl (fun (d : sh120_0.data) => ok120_0_t d.1.1 d.1.2.1 d.1.2.2.1 d.1.2.2.2.1 d.1.2.2.2.2.1 d.1.2.2.2.2.2.1 d.2.1.1 d.2.1.2.1) (fun _ => rfl)
def kl120_0 : Known := kf119.loop 120 0 lc120_0
theorem kl120_0_ok : KnownOk Go.Proofs.Try.prog kl120_0 := kf119_ok.loop ok120_0

/-! ductility/motion.responseOf -/

abbrev as120 : List Ty := [(.slice (.int .i64)), (.pair (.int .i64) (.pair (.int .i64) .unit))]
abbrev rs120 : List Ty := [(.slice (.int .i64))]

def t120 (x0 : (List Int)) (x1 : Int) (x1' : Int) : Tr (Tys.data rs120) :=
  Tr.test (isBrk (l120_0 ((([] : List Int), ((0 : Int), ((0 : Int), (x0, ((↑(List.length x0) : Int), ((0 : Int), ())))))), ((x1, (x1', ())), ()))))
    (let r0 : (List Int × PUnit) × (Int × Int × PUnit) × PUnit := b120_0 ((([] : List Int), ((0 : Int), ((0 : Int), (x0, ((↑(List.length x0) : Int), ((0 : Int), ())))))), ((x1, (x1', ())), ()));
    Tr.fin (((r0.fst.fst : List Int), ())))
    (Tr.stop)

def f120 (d : Tys.data as120) : Option (Tys.data rs120) := (t120 d.1 d.2.1.1 d.2.1.2.1).val
def g120 (d : Tys.data as120) : Tys.data rs120 := (f120 d).getD (Tys.dflt rs120)
def p120 : PureC := pcOf as120 rs120 f120 g120

theorem e120_0 (x0 : (List Int)) (x1 : Int) (x1' : Int) : runPure kl120_0.orc Go.Proofs.Try.prog 400 120 as120 rs120 (x0, (x1, x1', ()), ()) [true, true] =
    (let r0 : (List Int × PUnit) × (Int × Int × PUnit) × PUnit := b120_0 ((([] : List Int), ((0 : Int), ((0 : Int), (x0, ((↑(List.length x0) : Int), ((0 : Int), ())))))), ((x1, (x1', ())), ())); some (((r0.fst.fst : List Int), ()), [((true : Bool), true), (isBrk (l120_0 ((([] : List Int), ((0 : Int), ((0 : Int), (x0, ((↑(List.length x0) : Int), ((0 : Int), ())))))), ((x1, (x1', ())), ()))), true)])) := by kernel_rfl

theorem ok120_t (x0 : (List Int)) (x1 : Int) (x1' : Int) : TrOk (PureRuns Go.Proofs.Try.prog kl120_0.orc 120 as120 rs120 (x0, (x1, x1', ()), ())) (t120 x0 x1 x1') :=
  TrOk.ofTest (fun h0 => TrOk.ofFin (PureRuns.of (e120_0 x0 x1 x1') (All.cons rfl (All.cons h0 (All.nil))))) (fun h0 => TrOk.ofStop)

theorem ok120 : PureOk Go.Proofs.Try.prog 120 p120 := pureOk_of kl120_0_ok.base (T := fun (d : Tys.data as120) => t120 d.1 d.2.1.1 d.2.1.2.1) (by kernel_rfl) (fun (d : Tys.data as120) => ok120_t d.1 d.2.1.1 d.2.1.2.1)
def kf120 : Known := kl120_0.func 120 p120
theorem kf120_ok : KnownOk Go.Proofs.Try.prog kf120 := kl120_0_ok.func ok120

/-! ductility/motion.ResponseOf -/

abbrev as56 : List Ty := [(.pair (.int .i64) (.pair (.slice (.int .i64)) .unit)), (.pair (.int .i64) (.pair (.int .i64) .unit))]
abbrev rs56 : List Ty := [(.slice (.int .i64)), (.int .i64)]

def t56 (x0 : Int) (x0' : (List Int)) (x1 : Int) (x1' : Int) : Tr (Tys.data rs56) :=
  Tr.test (Option.isSome (f88 ((x0, (x0', ())), ())))
    (Tr.test (Option.isSome (f119 ((x1, (x1', ())), ())))
      (let r0 : Int × PUnit := g88 ((x0, (x0', ())), ());
      let r1 : Int × PUnit := g119 ((x1, (x1', ())), ());
      Tr.test (Option.isSome (f85 (([r0.fst, r1.fst] : List Int), ())))
        (let r2 : Int × PUnit := g85 (([r0.fst, r1.fst] : List Int), ());
        Tr.test ((!eqF r2.fst (0 : Int) : Bool))
          (Tr.fin ((([] : List Int), ((r2.fst : Int), ()))))
          (Tr.test (Option.isSome (f120 (x0', ((x1, (x1', ())), ()))))
            (let r3 : List Int × PUnit := g120 (x0', ((x1, (x1', ())), ()));
            Tr.fin (((r3.fst : List Int), ((0 : Int), ()))))
            (Tr.stop)))
        (Tr.stop))
      (Tr.stop))
    (Tr.stop)

def f56 (d : Tys.data as56) : Option (Tys.data rs56) := (t56 d.1.1 d.1.2.1 d.2.1.1 d.2.1.2.1).val
def g56 (d : Tys.data as56) : Tys.data rs56 := (f56 d).getD (Tys.dflt rs56)
def p56 : PureC := pcOf as56 rs56 f56 g56

theorem e56_0 (x0 : Int) (x0' : (List Int)) (x1 : Int) (x1' : Int) : runPure kf120.orc Go.Proofs.Try.prog 400 56 as56 rs56 ((x0, x0', ()), (x1, x1', ()), ()) [true, true, true, true, true] =
    (let r0 : Int × PUnit := g88 ((x0, (x0', ())), ()); let r1 : Int × PUnit := g119 ((x1, (x1', ())), ()); let r2 : Int × PUnit := g85 (([r0.fst, r1.fst] : List Int), ()); some ((([] : List Int), ((r2.fst : Int), ())), [((!eqF r2.fst (0 : Int) : Bool), true), (Option.isSome (f85 (([r0.fst, r1.fst] : List Int), ())), true), ((true : Bool), true), (Option.isSome (f119 ((x1, (x1', ())), ())), true), (Option.isSome (f88 ((x0, (x0', ())), ())), true)])) := by kernel_rfl
theorem e56_1 (x0 : Int) (x0' : (List Int)) (x1 : Int) (x1' : Int) : runPure kf120.orc Go.Proofs.Try.prog 400 56 as56 rs56 ((x0, x0', ()), (x1, x1', ()), ()) [true, true, true, true, false, true] =
    (let r0 : Int × PUnit := g88 ((x0, (x0', ())), ()); let r1 : Int × PUnit := g119 ((x1, (x1', ())), ()); let r2 : Int × PUnit := g85 (([r0.fst, r1.fst] : List Int), ()); let r3 : List Int × PUnit := g120 (x0', ((x1, (x1', ())), ())); some (((r3.fst : List Int), ((0 : Int), ())), [(Option.isSome (f120 (x0', ((x1, (x1', ())), ()))), true), ((!eqF r2.fst (0 : Int) : Bool), false), (Option.isSome (f85 (([r0.fst, r1.fst] : List Int), ())), true), ((true : Bool), true), (Option.isSome (f119 ((x1, (x1', ())), ())), true), (Option.isSome (f88 ((x0, (x0', ())), ())), true)])) := by kernel_rfl

theorem ok56_t (x0 : Int) (x0' : (List Int)) (x1 : Int) (x1' : Int) : TrOk (PureRuns Go.Proofs.Try.prog kf120.orc 56 as56 rs56 ((x0, x0', ()), (x1, x1', ()), ())) (t56 x0 x0' x1 x1') :=
  TrOk.ofTest (fun h0 => TrOk.ofTest (fun h1 => TrOk.ofTest (fun h3 => TrOk.ofTest (fun h4 => TrOk.ofFin (PureRuns.of (e56_0 x0 x0' x1 x1') (All.cons h4 (All.cons h3 (All.cons rfl (All.cons h1 (All.cons h0 (All.nil)))))))) (fun h4 => TrOk.ofTest (fun h5 => TrOk.ofFin (PureRuns.of (e56_1 x0 x0' x1 x1') (All.cons h5 (All.cons h4 (All.cons h3 (All.cons rfl (All.cons h1 (All.cons h0 (All.nil))))))))) (fun h5 => TrOk.ofStop))) (fun h3 => TrOk.ofStop)) (fun h1 => TrOk.ofStop)) (fun h0 => TrOk.ofStop)

theorem ok56 : PureOk Go.Proofs.Try.prog 56 p56 := pureOk_of kf120_ok.base (T := fun (d : Tys.data as56) => t56 d.1.1 d.1.2.1 d.2.1.1 d.2.1.2.1) (by kernel_rfl) (fun (d : Tys.data as56) => ok56_t d.1.1 d.1.2.1 d.2.1.1 d.2.1.2.1)
def kf56 : Known := kf120.func 56 p56
theorem kf56_ok : KnownOk Go.Proofs.Try.prog kf56 := kf120_ok.func ok56

/-! ductility/ductilitylaw02.with -/

abbrev as38 : List Ty := [(.pair (.int .i64) (.pair (.slice (.int .i64)) .unit)), (.slice (.int .i64))]
abbrev rs38 : List Ty := [(.pair (.int .i64) (.pair (.slice (.int .i64)) .unit))]

def t38 (x0 : Int) (x0' : (List Int)) (x1 : (List Int)) : Tr (Tys.data rs38) :=
  Tr.test (Option.isSome (f70 (x1, ())))
    (let r0 : List Int × PUnit := g70 (x1, ());
    Tr.fin (((x0, ((r0.fst : List Int), ())), ())))
    (Tr.stop)

def f38 (d : Tys.data as38) : Option (Tys.data rs38) := (t38 d.1.1 d.1.2.1 d.2.1).val
def g38 (d : Tys.data as38) : Tys.data rs38 := (f38 d).getD (Tys.dflt rs38)
def p38 : PureC := pcOf as38 rs38 f38 g38

theorem e38_0 (x0 : Int) (x0' : (List Int)) (x1 : (List Int)) : runPure kf56.orc Go.Proofs.Try.prog 400 38 as38 rs38 ((x0, x0', ()), x1, ()) [true] =
    (let r0 : List Int × PUnit := g70 (x1, ()); some (((x0, ((r0.fst : List Int), ())), ()), [(Option.isSome (f70 (x1, ())), true)])) := by kernel_rfl

theorem ok38_t (x0 : Int) (x0' : (List Int)) (x1 : (List Int)) : TrOk (PureRuns Go.Proofs.Try.prog kf56.orc 38 as38 rs38 ((x0, x0', ()), x1, ())) (t38 x0 x0' x1) :=
  TrOk.ofTest (fun h0 => TrOk.ofFin (PureRuns.of (e38_0 x0 x0' x1) (All.cons h0 (All.nil)))) (fun h0 => TrOk.ofStop)

theorem ok38 : PureOk Go.Proofs.Try.prog 38 p38 := pureOk_of kf56_ok.base (T := fun (d : Tys.data as38) => t38 d.1.1 d.1.2.1 d.2.1) (by kernel_rfl) (fun (d : Tys.data as38) => ok38_t d.1.1 d.1.2.1 d.2.1)
def kf38 : Known := kf56.func 38 p38
theorem kf38_ok : KnownOk Go.Proofs.Try.prog kf38 := kf56_ok.func ok38

/-! loop 0 of ductility/motion.sumsOf -/

abbrev sh89_0 : Sh := { n := 22, slots := [3, 4, 7, 8, 9], pats := [.acc (.int .i64), .ty (.int .i64), .ty (.slice (.int .i64)), .ty (.int .i64), .ty (.int .i64)], boxes := [] }
abbrev shb89_0 : Sh := { n := 22, slots := [3], pats := [.acc (.int .i64)], boxes := [] }
abbrev shr89_0 : Sh := { n := 22, slots := [], pats := [], boxes := [] }

def t89_0 (x0 : (List Int)) (x1 : Int) (x2 : (List Int)) (x3 : Int) (x4 : Int) : Tr (Out sh89_0.data shb89_0.data shr89_0.data) :=
  Tr.test ((!leF x3 x4 : Bool))
    (Tr.test ((decide ((0 : Int) ≤ x4) && decide (x4 < (↑(List.length x2) : Int)) : Bool))
      (Tr.test ((Nat.ble (((2 : Nat) * (List.length x0 + (1 : Nat)) + (192 : Nat)) * (8 : Nat)) (281474976710656 : Nat) && Nat.ble (List.length x0 + (1 : Nat)) (281474976710656 : Nat) : Bool))
        (Tr.fin (.again (((x0 ++ [wrap64 (x1 + List.getD x2 (Int.toNat x4) (0 : Int))] : List Int), ((wrap64 (x1 + List.getD x2 (Int.toNat x4) (0 : Int)) : Int), (x2, (x3, ((wrap64 (x4 + (1 : Int)) : Int), ()))))), ())))
        (Tr.stop /- none [op 3 of region 7 of F89] -/))
      (Tr.stop /- none [op 0 of region 5 of F89] -/))
    (Tr.fin (.brk ((x0, ()), ())))

def s89_0 (d : sh89_0.data) : Option (Out sh89_0.data shb89_0.data shr89_0.data) := (t89_0 d.1.1 d.1.2.1 d.1.2.2.1 d.1.2.2.2.1 d.1.2.2.2.2.1).val
def l89_0 (d : sh89_0.data) : Option (shb89_0.data ⊕ shr89_0.data) := itr s89_0 rounds d
def b89_0 (d : sh89_0.data) : shb89_0.data := outB shb89_0.dflt (l89_0 d)
def r89_0 (d : sh89_0.data) : shr89_0.data := outR shr89_0.dflt (l89_0 d)
def lc89_0 : LoopC := lcB sh89_0 shb89_0 shr89_0 l89_0 b89_0

theorem e89_0_0 (x0 : (List Int)) (x1 : Int) (x2 : (List Int)) (x3 : Int) (x4 : Int) : runBody kf38.orc Go.Proofs.Try.prog 400 89 0 sh89_0 shb89_0 shr89_0 ((x0, x1, x2, x3, x4, ()), ()) [true, true, false, true, true] =
    (some (.again (((x0 ++ [wrap64 (x1 + List.getD x2 (Int.toNat x4) (0 : Int))] : List Int), ((wrap64 (x1 + List.getD x2 (Int.toNat x4) (0 : Int)) : Int), (x2, (x3, ((wrap64 (x4 + (1 : Int)) : Int), ()))))), ()), [((true : Bool), true), ((Nat.ble (((2 : Nat) * (List.length x0 + (1 : Nat)) + (192 : Nat)) * (8 : Nat)) (281474976710656 : Nat) && Nat.ble (List.length x0 + (1 : Nat)) (281474976710656 : Nat) : Bool), true), ((false : Bool), false), ((decide ((0 : Int) ≤ x4) && decide (x4 < (↑(List.length x2) : Int)) : Bool), true), ((!leF x3 x4 : Bool), true)])) := by kernel_rfl
theorem e89_0_3 (x0 : (List Int)) (x1 : Int) (x2 : (List Int)) (x3 : Int) (x4 : Int) : runBody kf38.orc Go.Proofs.Try.prog 400 89 0 sh89_0 shb89_0 shr89_0 ((x0, x1, x2, x3, x4, ()), ()) [false] =
    (some (.brk ((x0, ()), ()), [((!leF x3 x4 : Bool), false)])) := by kernel_rfl

theorem ok89_0_t (x0 : (List Int)) (x1 : Int) (x2 : (List Int)) (x3 : Int) (x4 : Int) : TrOk (BodyRuns Go.Proofs.Try.prog kf38.orc 89 0 sh89_0 shb89_0 shr89_0 ((x0, x1, x2, x3, x4, ()), ())) (t89_0 x0 x1 x2 x3 x4) :=
  TrOk.ofTest (fun h0 => TrOk.ofTest (fun h1 => TrOk.ofTest (fun h3 => TrOk.ofFin (BodyRuns.of (e89_0_0 x0 x1 x2 x3 x4) (All.cons rfl (All.cons h3 (All.cons rfl (All.cons h1 (All.cons h0 (All.nil)))))))) (fun h3 => TrOk.ofStop)) (fun h1 => TrOk.ofStop)) (fun h0 => TrOk.ofFin (BodyRuns.of (e89_0_3 x0 x1 x2 x3 x4) (All.cons h0 (All.nil))))

theorem ok89_0 : LoopOk Go.Proofs.Try.prog 89 0 lc89_0 := loopOk_ofB kf38_ok.base (T := fun (d : sh89_0.data) => t89_0 d.1.1 d.1.2.1 d.1.2.2.1 d.1.2.2.2.1 d.1.2.2.2.2.1) (by kernel_rfl) rfl (fun (d : sh89_0.data) => ok89_0_t d.1.1 d.1.2.1 d.1.2.2.1 d.1.2.2.2.1 d.1.2.2.2.2.1) (fun _ => rfl)
def kl89_0 : Known := kf38.loop 89 0 lc89_0
theorem kl89_0_ok : KnownOk Go.Proofs.Try.prog kl89_0 := kf38_ok.loop ok89_0

/-! ductility/motion.sumsOf -/

abbrev as89 : List Ty := [(.slice (.int .i64))]
abbrev rs89 : List Ty := [(.slice (.int .i64))]

def t89 (x0 : (List Int)) : Tr (Tys.data rs89) :=
  Tr.test (isBrk (l89_0 ((([] : List Int), ((0 : Int), (x0, ((↑(List.length x0) : Int), ((0 : Int), ()))))), ())))
    (let r0 : (List Int × PUnit) × PUnit := b89_0 ((([] : List Int), ((0 : Int), (x0, ((↑(List.length x0) : Int), ((0 : Int), ()))))), ());
    Tr.fin (((r0.fst.fst : List Int), ())))
    (Tr.stop)

def f89 (d : Tys.data as89) : Option (Tys.data rs89) := (t89 d.1).val
def g89 (d : Tys.data as89) : Tys.data rs89 := (f89 d).getD (Tys.dflt rs89)
def p89 : PureC := pcOf as89 rs89 f89 g89

theorem e89_0 (x0 : (List Int)) : runPure kl89_0.orc Go.Proofs.Try.prog 400 89 as89 rs89 (x0, ()) [true, true] =
    (let r0 : (List Int × PUnit) × PUnit := b89_0 ((([] : List Int), ((0 : Int), (x0, ((↑(List.length x0) : Int), ((0 : Int), ()))))), ()); some (((r0.fst.fst : List Int), ()), [((true : Bool), true), (isBrk (l89_0 ((([] : List Int), ((0 : Int), (x0, ((↑(List.length x0) : Int), ((0 : Int), ()))))), ())), true)])) := by kernel_rfl

theorem ok89_t (x0 : (List Int)) : TrOk (PureRuns Go.Proofs.Try.prog kl89_0.orc 89 as89 rs89 (x0, ())) (t89 x0) :=
  TrOk.ofTest (fun h0 => TrOk.ofFin (PureRuns.of (e89_0 x0) (All.cons rfl (All.cons h0 (All.nil))))) (fun h0 => TrOk.ofStop)

theorem ok89 : PureOk Go.Proofs.Try.prog 89 p89 := pureOk_of kl89_0_ok.base (T := fun (d : Tys.data as89) => t89 d.1) (by kernel_rfl) (fun (d : Tys.data as89) => ok89_t d.1)
def kf89 : Known := kl89_0.func 89 p89
theorem kf89_ok : KnownOk Go.Proofs.Try.prog kf89 := kl89_0_ok.func ok89

/-! loop 0 of ductility/motion.peakOf -/

abbrev sh122_0 : Sh := { n := 19, slots := [3, 6, 7, 8], pats := [.ty (.int .i64), .ty (.slice (.int .i64)), .ty (.int .i64), .ty (.int .i64)], boxes := [] }
abbrev shb122_0 : Sh := { n := 19, slots := [3], pats := [.ty (.int .i64)], boxes := [] }
abbrev shr122_0 : Sh := { n := 19, slots := [], pats := [], boxes := [] }

def t122_0 (x0 : Int) (x1 : (List Int)) (x2 : Int) (x3 : Int) : Tr (Out sh122_0.data shb122_0.data shr122_0.data) :=
  Tr.test ((!leF x2 x3 : Bool))
    (Tr.test ((decide ((0 : Int) ≤ x3) && decide (x3 < (↑(List.length x1) : Int)) : Bool))
      (Tr.fin (.again (((if (if x0 < List.getD x1 (Int.toNat x3) (0 : Int) then List.getD x1 (Int.toNat x3) (0 : Int) else x0) < Go.IntKind.wrap Go.IntKind.i64 ((0 : Int) - List.getD x1 (Int.toNat x3) (0 : Int)) then Go.IntKind.wrap Go.IntKind.i64 ((0 : Int) - List.getD x1 (Int.toNat x3) (0 : Int)) else if x0 < List.getD x1 (Int.toNat x3) (0 : Int) then List.getD x1 (Int.toNat x3) (0 : Int) else x0 : Int), (x1, (x2, ((wrap64 (x3 + (1 : Int)) : Int), ())))), ())))
      (Tr.stop /- none [op 0 of region 4 of F122] -/))
    (Tr.fin (.brk ((x0, ()), ())))

def s122_0 (d : sh122_0.data) : Option (Out sh122_0.data shb122_0.data shr122_0.data) := (t122_0 d.1.1 d.1.2.1 d.1.2.2.1 d.1.2.2.2.1).val
def l122_0 (d : sh122_0.data) : Option (shb122_0.data ⊕ shr122_0.data) := itr s122_0 rounds d
def b122_0 (d : sh122_0.data) : shb122_0.data := outB shb122_0.dflt (l122_0 d)
def r122_0 (d : sh122_0.data) : shr122_0.data := outR shr122_0.dflt (l122_0 d)
def lc122_0 : LoopC := lcB sh122_0 shb122_0 shr122_0 l122_0 b122_0

theorem e122_0_0 (x0 : Int) (x1 : (List Int)) (x2 : Int) (x3 : Int) : runBody kf89.orc Go.Proofs.Try.prog 400 122 0 sh122_0 shb122_0 shr122_0 ((x0, x1, x2, x3, ()), ()) [true, true] =
    (some (.again (((if (if x0 < List.getD x1 (Int.toNat x3) (0 : Int) then List.getD x1 (Int.toNat x3) (0 : Int) else x0) < Go.IntKind.wrap Go.IntKind.i64 ((0 : Int) - List.getD x1 (Int.toNat x3) (0 : Int)) then Go.IntKind.wrap Go.IntKind.i64 ((0 : Int) - List.getD x1 (Int.toNat x3) (0 : Int)) else if x0 < List.getD x1 (Int.toNat x3) (0 : Int) then List.getD x1 (Int.toNat x3) (0 : Int) else x0 : Int), (x1, (x2, ((wrap64 (x3 + (1 : Int)) : Int), ())))), ()), [((decide ((0 : Int) ≤ x3) && decide (x3 < (↑(List.length x1) : Int)) : Bool), true), ((!leF x2 x3 : Bool), true)])) := by kernel_rfl
theorem e122_0_2 (x0 : Int) (x1 : (List Int)) (x2 : Int) (x3 : Int) : runBody kf89.orc Go.Proofs.Try.prog 400 122 0 sh122_0 shb122_0 shr122_0 ((x0, x1, x2, x3, ()), ()) [false] =
    (some (.brk ((x0, ()), ()), [((!leF x2 x3 : Bool), false)])) := by kernel_rfl

theorem ok122_0_t (x0 : Int) (x1 : (List Int)) (x2 : Int) (x3 : Int) : TrOk (BodyRuns Go.Proofs.Try.prog kf89.orc 122 0 sh122_0 shb122_0 shr122_0 ((x0, x1, x2, x3, ()), ())) (t122_0 x0 x1 x2 x3) :=
  TrOk.ofTest (fun h0 => TrOk.ofTest (fun h1 => TrOk.ofFin (BodyRuns.of (e122_0_0 x0 x1 x2 x3) (All.cons h1 (All.cons h0 (All.nil))))) (fun h1 => TrOk.ofStop)) (fun h0 => TrOk.ofFin (BodyRuns.of (e122_0_2 x0 x1 x2 x3) (All.cons h0 (All.nil))))

theorem ok122_0 : LoopOk Go.Proofs.Try.prog 122 0 lc122_0 := loopOk_ofB kf89_ok.base (T := fun (d : sh122_0.data) => t122_0 d.1.1 d.1.2.1 d.1.2.2.1 d.1.2.2.2.1) (by kernel_rfl) rfl (fun (d : sh122_0.data) => ok122_0_t d.1.1 d.1.2.1 d.1.2.2.1 d.1.2.2.2.1) (fun _ => rfl)
def kl122_0 : Known := kf89.loop 122 0 lc122_0
theorem kl122_0_ok : KnownOk Go.Proofs.Try.prog kl122_0 := kf89_ok.loop ok122_0

/-! ductility/motion.peakOf -/

abbrev as122 : List Ty := [(.slice (.int .i64))]
abbrev rs122 : List Ty := [(.int .i64)]

def t122 (x0 : (List Int)) : Tr (Tys.data rs122) :=
  Tr.test (isBrk (l122_0 (((0 : Int), (x0, ((↑(List.length x0) : Int), ((0 : Int), ())))), ())))
    (let r0 : (Int × PUnit) × PUnit := b122_0 (((0 : Int), (x0, ((↑(List.length x0) : Int), ((0 : Int), ())))), ());
    Tr.fin (((r0.fst.fst : Int), ())))
    (Tr.stop)

def f122 (d : Tys.data as122) : Option (Tys.data rs122) := (t122 d.1).val
def g122 (d : Tys.data as122) : Tys.data rs122 := (f122 d).getD (Tys.dflt rs122)
def p122 : PureC := pcOf as122 rs122 f122 g122

theorem e122_0 (x0 : (List Int)) : runPure kl122_0.orc Go.Proofs.Try.prog 400 122 as122 rs122 (x0, ()) [true, true] =
    (let r0 : (Int × PUnit) × PUnit := b122_0 (((0 : Int), (x0, ((↑(List.length x0) : Int), ((0 : Int), ())))), ()); some (((r0.fst.fst : Int), ()), [((true : Bool), true), (isBrk (l122_0 (((0 : Int), (x0, ((↑(List.length x0) : Int), ((0 : Int), ())))), ())), true)])) := by kernel_rfl

theorem ok122_t (x0 : (List Int)) : TrOk (PureRuns Go.Proofs.Try.prog kl122_0.orc 122 as122 rs122 (x0, ())) (t122 x0) :=
  TrOk.ofTest (fun h0 => TrOk.ofFin (PureRuns.of (e122_0 x0) (All.cons rfl (All.cons h0 (All.nil))))) (fun h0 => TrOk.ofStop)

theorem ok122 : PureOk Go.Proofs.Try.prog 122 p122 := pureOk_of kl122_0_ok.base (T := fun (d : Tys.data as122) => t122 d.1) (by kernel_rfl) (fun (d : Tys.data as122) => ok122_t d.1)
def kf122 : Known := kl122_0.func 122 p122
theorem kf122_ok : KnownOk Go.Proofs.Try.prog kf122 := kl122_0_ok.func ok122

/-! ductility/motion.peaksOf -/

abbrev as92 : List Ty := [(.slice (.int .i64))]
abbrev rs92 : List Ty := [(.pair (.int .i64) (.pair (.int .i64) (.pair (.int .i64) .unit)))]

def t92 (x0 : (List Int)) : Tr (Tys.data rs92) :=
  Tr.test (Option.isSome (f89 (x0, ())))
    (Tr.test (Option.isSome (f122 (x0, ())))
      (let r0 : List Int × PUnit := g89 (x0, ());
      Tr.test (Option.isSome (f122 ((r0.fst : List Int), ())))
        (Tr.test (Option.isSome (f89 ((r0.fst : List Int), ())))
          (let r3 : List Int × PUnit := g89 ((r0.fst : List Int), ());
          Tr.test (Option.isSome (f122 ((r3.fst : List Int), ())))
            (let r1 : Int × PUnit := g122 (x0, ());
            let r2 : Int × PUnit := g122 ((r0.fst : List Int), ());
            let r4 : Int × PUnit := g122 ((r3.fst : List Int), ());
            Tr.fin ((((r1.fst : Int), ((r2.fst : Int), ((r4.fst : Int), ()))), ())))
            (Tr.stop))
          (Tr.stop))
        (Tr.stop))
      (Tr.stop))
    (Tr.stop)

def f92 (d : Tys.data as92) : Option (Tys.data rs92) := (t92 d.1).val
def g92 (d : Tys.data as92) : Tys.data rs92 := (f92 d).getD (Tys.dflt rs92)
def p92 : PureC := pcOf as92 rs92 f92 g92

theorem e92_0 (x0 : (List Int)) : runPure kf122.orc Go.Proofs.Try.prog 400 92 as92 rs92 (x0, ()) [true, true, true, true, true] =
    (let r0 : List Int × PUnit := g89 (x0, ()); let r3 : List Int × PUnit := g89 ((r0.fst : List Int), ()); let r1 : Int × PUnit := g122 (x0, ()); let r2 : Int × PUnit := g122 ((r0.fst : List Int), ()); let r4 : Int × PUnit := g122 ((r3.fst : List Int), ()); some ((((r1.fst : Int), ((r2.fst : Int), ((r4.fst : Int), ()))), ()), [(Option.isSome (f122 ((r3.fst : List Int), ())), true), (Option.isSome (f89 ((r0.fst : List Int), ())), true), (Option.isSome (f122 ((r0.fst : List Int), ())), true), (Option.isSome (f122 (x0, ())), true), (Option.isSome (f89 (x0, ())), true)])) := by kernel_rfl

theorem ok92_t (x0 : (List Int)) : TrOk (PureRuns Go.Proofs.Try.prog kf122.orc 92 as92 rs92 (x0, ())) (t92 x0) :=
  TrOk.ofTest (fun h0 => TrOk.ofTest (fun h1 => TrOk.ofTest (fun h2 => TrOk.ofTest (fun h3 => TrOk.ofTest (fun h4 => TrOk.ofFin (PureRuns.of (e92_0 x0) (All.cons h4 (All.cons h3 (All.cons h2 (All.cons h1 (All.cons h0 (All.nil)))))))) (fun h4 => TrOk.ofStop)) (fun h3 => TrOk.ofStop)) (fun h2 => TrOk.ofStop)) (fun h1 => TrOk.ofStop)) (fun h0 => TrOk.ofStop)

theorem ok92 : PureOk Go.Proofs.Try.prog 92 p92 := pureOk_of kf122_ok.base (T := fun (d : Tys.data as92) => t92 d.1) (by kernel_rfl) (fun (d : Tys.data as92) => ok92_t d.1)
def kf92 : Known := kf122.func 92 p92
theorem kf92_ok : KnownOk Go.Proofs.Try.prog kf92 := kf122_ok.func ok92

/-! ductility/motion.PeaksOf -/

abbrev as27 : List Ty := [(.pair (.int .i64) (.pair (.slice (.int .i64)) .unit))]
abbrev rs27 : List Ty := [(.pair (.int .i64) (.pair (.int .i64) (.pair (.int .i64) .unit))), (.int .i64)]

def t27 (x0 : Int) (x0' : (List Int)) : Tr (Tys.data rs27) :=
  Tr.test (Option.isSome (f88 ((x0, (x0', ())), ())))
    (let r0 : Int × PUnit := g88 ((x0, (x0', ())), ());
    Tr.test ((!eqF r0.fst (0 : Int) : Bool))
      (Tr.fin ((((0 : Int), ((0 : Int), ((0 : Int), ()))), ((r0.fst : Int), ()))))
      (Tr.test (Option.isSome (f92 (x0', ())))
        (let r1 : (Int × Int × Int × PUnit) × PUnit := g92 (x0', ());
        Tr.fin ((((r1.fst.fst : Int), ((r1.fst.snd.fst : Int), ((r1.fst.snd.snd.fst : Int), ()))), ((0 : Int), ()))))
        (Tr.stop)))
    (Tr.stop)

def f27 (d : Tys.data as27) : Option (Tys.data rs27) := (t27 d.1.1 d.1.2.1).val
def g27 (d : Tys.data as27) : Tys.data rs27 := (f27 d).getD (Tys.dflt rs27)
def p27 : PureC := pcOf as27 rs27 f27 g27

theorem e27_0 (x0 : Int) (x0' : (List Int)) : runPure kf92.orc Go.Proofs.Try.prog 400 27 as27 rs27 ((x0, x0', ()), ()) [true, true] =
    (let r0 : Int × PUnit := g88 ((x0, (x0', ())), ()); some ((((0 : Int), ((0 : Int), ((0 : Int), ()))), ((r0.fst : Int), ())), [((!eqF r0.fst (0 : Int) : Bool), true), (Option.isSome (f88 ((x0, (x0', ())), ())), true)])) := by kernel_rfl
theorem e27_1 (x0 : Int) (x0' : (List Int)) : runPure kf92.orc Go.Proofs.Try.prog 400 27 as27 rs27 ((x0, x0', ()), ()) [true, false, true, true, true, true] =
    (let r0 : Int × PUnit := g88 ((x0, (x0', ())), ()); let r1 : (Int × Int × Int × PUnit) × PUnit := g92 (x0', ()); some ((((r1.fst.fst : Int), ((r1.fst.snd.fst : Int), ((r1.fst.snd.snd.fst : Int), ()))), ((0 : Int), ())), [((true : Bool), true), ((true : Bool), true), ((true : Bool), true), (Option.isSome (f92 (x0', ())), true), ((!eqF r0.fst (0 : Int) : Bool), false), (Option.isSome (f88 ((x0, (x0', ())), ())), true)])) := by kernel_rfl

theorem ok27_t (x0 : Int) (x0' : (List Int)) : TrOk (PureRuns Go.Proofs.Try.prog kf92.orc 27 as27 rs27 ((x0, x0', ()), ())) (t27 x0 x0') :=
  TrOk.ofTest (fun h0 => TrOk.ofTest (fun h1 => TrOk.ofFin (PureRuns.of (e27_0 x0 x0') (All.cons h1 (All.cons h0 (All.nil))))) (fun h1 => TrOk.ofTest (fun h2 => TrOk.ofFin (PureRuns.of (e27_1 x0 x0') (All.cons rfl (All.cons rfl (All.cons rfl (All.cons h2 (All.cons h1 (All.cons h0 (All.nil))))))))) (fun h2 => TrOk.ofStop))) (fun h0 => TrOk.ofStop)

theorem ok27 : PureOk Go.Proofs.Try.prog 27 p27 := pureOk_of kf92_ok.base (T := fun (d : Tys.data as27) => t27 d.1.1 d.1.2.1) (by kernel_rfl) (fun (d : Tys.data as27) => ok27_t d.1.1 d.1.2.1)
def kf27 : Known := kf92.func 27 p27
theorem kf27_ok : KnownOk Go.Proofs.Try.prog kf27 := kf92_ok.func ok27

/-! ductility/motion.DisplacementsOf -/

abbrev as20 : List Ty := [(.pair (.int .i64) (.pair (.slice (.int .i64)) .unit))]
abbrev rs20 : List Ty := [(.slice (.int .i64)), (.int .i64)]

def t20 (x0 : Int) (x0' : (List Int)) : Tr (Tys.data rs20) :=
  Tr.test (Option.isSome (f88 ((x0, (x0', ())), ())))
    (let r0 : Int × PUnit := g88 ((x0, (x0', ())), ());
    Tr.test ((!eqF r0.fst (0 : Int) : Bool))
      (Tr.fin ((([] : List Int), ((r0.fst : Int), ()))))
      (Tr.test (Option.isSome (f89 (x0', ())))
        (let r1 : List Int × PUnit := g89 (x0', ());
        Tr.test (Option.isSome (f89 ((r1.fst : List Int), ())))
          (let r2 : List Int × PUnit := g89 ((r1.fst : List Int), ());
          Tr.fin (((r2.fst : List Int), ((0 : Int), ()))))
          (Tr.stop))
        (Tr.stop)))
    (Tr.stop)

def f20 (d : Tys.data as20) : Option (Tys.data rs20) := (t20 d.1.1 d.1.2.1).val
def g20 (d : Tys.data as20) : Tys.data rs20 := (f20 d).getD (Tys.dflt rs20)
def p20 : PureC := pcOf as20 rs20 f20 g20

theorem e20_0 (x0 : Int) (x0' : (List Int)) : runPure kf27.orc Go.Proofs.Try.prog 400 20 as20 rs20 ((x0, x0', ()), ()) [true, true] =
    (let r0 : Int × PUnit := g88 ((x0, (x0', ())), ()); some ((([] : List Int), ((r0.fst : Int), ())), [((!eqF r0.fst (0 : Int) : Bool), true), (Option.isSome (f88 ((x0, (x0', ())), ())), true)])) := by kernel_rfl
theorem e20_1 (x0 : Int) (x0' : (List Int)) : runPure kf27.orc Go.Proofs.Try.prog 400 20 as20 rs20 ((x0, x0', ()), ()) [true, false, true, true] =
    (let r0 : Int × PUnit := g88 ((x0, (x0', ())), ()); let r1 : List Int × PUnit := g89 (x0', ()); let r2 : List Int × PUnit := g89 ((r1.fst : List Int), ()); some (((r2.fst : List Int), ((0 : Int), ())), [(Option.isSome (f89 ((r1.fst : List Int), ())), true), (Option.isSome (f89 (x0', ())), true), ((!eqF r0.fst (0 : Int) : Bool), false), (Option.isSome (f88 ((x0, (x0', ())), ())), true)])) := by kernel_rfl

theorem ok20_t (x0 : Int) (x0' : (List Int)) : TrOk (PureRuns Go.Proofs.Try.prog kf27.orc 20 as20 rs20 ((x0, x0', ()), ())) (t20 x0 x0') :=
  TrOk.ofTest (fun h0 => TrOk.ofTest (fun h1 => TrOk.ofFin (PureRuns.of (e20_0 x0 x0') (All.cons h1 (All.cons h0 (All.nil))))) (fun h1 => TrOk.ofTest (fun h2 => TrOk.ofTest (fun h3 => TrOk.ofFin (PureRuns.of (e20_1 x0 x0') (All.cons h3 (All.cons h2 (All.cons h1 (All.cons h0 (All.nil))))))) (fun h3 => TrOk.ofStop)) (fun h2 => TrOk.ofStop))) (fun h0 => TrOk.ofStop)

theorem ok20 : PureOk Go.Proofs.Try.prog 20 p20 := pureOk_of kf27_ok.base (T := fun (d : Tys.data as20) => t20 d.1.1 d.1.2.1) (by kernel_rfl) (fun (d : Tys.data as20) => ok20_t d.1.1 d.1.2.1)
def kf20 : Known := kf27.func 20 p20
theorem kf20_ok : KnownOk Go.Proofs.Try.prog kf20 := kf27_ok.func ok20

/-! loop 0 of ductility/ductilitylaw02.MotionOpposite -/

abbrev sh9_0 : Sh := { n := 272, slots := [2, 3, 5, 6], pats := [.ptr 0 2 0, .ptr 1 2 0, .acc (.int .i64), .ty (.int .i64)], boxes := [.row [.ty (.int .i64), .ty (.slice (.int .i64))], .row [.ty (.int .i64), .ty (.int .i64)]] }
abbrev shb9_0 : Sh := { n := 272, slots := [2, 3, 5], pats := [.ptr 0 2 0, .ptr 1 2 0, .acc (.int .i64)], boxes := [.row [.ty (.int .i64), .ty (.slice (.int .i64))], .row [.ty (.int .i64), .ty (.int .i64)]] }
abbrev shr9_0 : Sh := { n := 272, slots := [], pats := [], boxes := [.row [.ty (.int .i64), .ty (.slice (.int .i64))], .row [.ty (.int .i64), .ty (.int .i64)]] }

def t9_0 (x2 : (List Int)) (x3 : Int) (b0_0 : Int) (b0_1 : (List Int)) (b1_0 : Int) (b1_1 : Int) : Tr (Out sh9_0.data shb9_0.data shr9_0.data) :=
  Tr.test ((!leF (↑(List.length b0_1) : Int) x3 : Bool))
    (Tr.test ((decide ((0 : Int) ≤ x3) && decide (x3 < (↑(List.length b0_1) : Int)) : Bool))
      (Tr.test ((Nat.ble (((2 : Nat) * (List.length x2 + (1 : Nat)) + (192 : Nat)) * (8 : Nat)) (281474976710656 : Nat) && Nat.ble (List.length x2 + (1 : Nat)) (281474976710656 : Nat) : Bool))
        (Tr.fin (.again (((x2 ++ [Go.IntKind.wrap Go.IntKind.i64 ((0 : Int) - List.getD b0_1 (Int.toNat x3) (0 : Int))] : List Int), ((wrap64 (x3 + (1 : Int)) : Int), ())), ((b0_0, (b0_1, ())), ((b1_0, (b1_1, ())), ())))))
        (Tr.stop /- none [op 8 of region 9 of F9] -/))
      (Tr.stop /- none [op 4 of region 9 of F9] -/))
    (Tr.fin (.brk ((x2, ()), ((b0_0, (b0_1, ())), ((b1_0, (b1_1, ())), ())))))

def s9_0 (d : sh9_0.data) : Option (Out sh9_0.data shb9_0.data shr9_0.data) := (t9_0 d.1.1 d.1.2.1 d.2.1.1 d.2.1.2.1 d.2.2.1.1 d.2.2.1.2.1).val
def l9_0 (d : sh9_0.data) : Option (shb9_0.data ⊕ shr9_0.data) := itr s9_0 rounds d
def b9_0 (d : sh9_0.data) : shb9_0.data := outB shb9_0.dflt (l9_0 d)
def r9_0 (d : sh9_0.data) : shr9_0.data := outR shr9_0.dflt (l9_0 d)
def lc9_0 : LoopC := lcB sh9_0 shb9_0 shr9_0 l9_0 b9_0

theorem e9_0_0 (x2 : (List Int)) (x3 : Int) (b0_0 : Int) (b0_1 : (List Int)) (b1_0 : Int) (b1_1 : Int) : runBody kf20.orc Go.Proofs.Try.prog 400 9 0 sh9_0 shb9_0 shr9_0 ((x2, x3, ()), (b0_0, b0_1, ()), (b1_0, b1_1, ()), ()) [true, true, false, true, true] =
    (some (.again (((x2 ++ [Go.IntKind.wrap Go.IntKind.i64 ((0 : Int) - List.getD b0_1 (Int.toNat x3) (0 : Int))] : List Int), ((wrap64 (x3 + (1 : Int)) : Int), ())), ((b0_0, (b0_1, ())), ((b1_0, (b1_1, ())), ()))), [((true : Bool), true), ((Nat.ble (((2 : Nat) * (List.length x2 + (1 : Nat)) + (192 : Nat)) * (8 : Nat)) (281474976710656 : Nat) && Nat.ble (List.length x2 + (1 : Nat)) (281474976710656 : Nat) : Bool), true), ((false : Bool), false), ((decide ((0 : Int) ≤ x3) && decide (x3 < (↑(List.length b0_1) : Int)) : Bool), true), ((!leF (↑(List.length b0_1) : Int) x3 : Bool), true)])) := by kernel_rfl
theorem e9_0_3 (x2 : (List Int)) (x3 : Int) (b0_0 : Int) (b0_1 : (List Int)) (b1_0 : Int) (b1_1 : Int) : runBody kf20.orc Go.Proofs.Try.prog 400 9 0 sh9_0 shb9_0 shr9_0 ((x2, x3, ()), (b0_0, b0_1, ()), (b1_0, b1_1, ()), ()) [false] =
    (some (.brk ((x2, ()), ((b0_0, (b0_1, ())), ((b1_0, (b1_1, ())), ()))), [((!leF (↑(List.length b0_1) : Int) x3 : Bool), false)])) := by kernel_rfl

theorem ok9_0_t (x2 : (List Int)) (x3 : Int) (b0_0 : Int) (b0_1 : (List Int)) (b1_0 : Int) (b1_1 : Int) : TrOk (BodyRuns Go.Proofs.Try.prog kf20.orc 9 0 sh9_0 shb9_0 shr9_0 ((x2, x3, ()), (b0_0, b0_1, ()), (b1_0, b1_1, ()), ())) (t9_0 x2 x3 b0_0 b0_1 b1_0 b1_1) :=
  TrOk.ofTest (fun h0 => TrOk.ofTest (fun h1 => TrOk.ofTest (fun h3 => TrOk.ofFin (BodyRuns.of (e9_0_0 x2 x3 b0_0 b0_1 b1_0 b1_1) (All.cons rfl (All.cons h3 (All.cons rfl (All.cons h1 (All.cons h0 (All.nil)))))))) (fun h3 => TrOk.ofStop)) (fun h1 => TrOk.ofStop)) (fun h0 => TrOk.ofFin (BodyRuns.of (e9_0_3 x2 x3 b0_0 b0_1 b1_0 b1_1) (All.cons h0 (All.nil))))

theorem ok9_0 : LoopOk Go.Proofs.Try.prog 9 0 lc9_0 := loopOk_ofB kf20_ok.base (T := fun (d : sh9_0.data) => t9_0 d.1.1 d.1.2.1 d.2.1.1 d.2.1.2.1 d.2.2.1.1 d.2.2.1.2.1) (by kernel_rfl) rfl (fun (d : sh9_0.data) => ok9_0_t d.1.1 d.1.2.1 d.2.1.1 d.2.1.2.1 d.2.2.1.1 d.2.2.1.2.1) (fun _ => rfl)
def kl9_0 : Known := kf20.loop 9 0 lc9_0
theorem kl9_0_ok : KnownOk Go.Proofs.Try.prog kl9_0 := kf20_ok.loop ok9_0

/-! loop 2 of ductility/ductilitylaw02.MotionOpposite -/

abbrev sh9_2 : Sh := { n := 272, slots := [2, 5, 8, 10, 12, 14, 16], pats := [.ptr 0 2 0, .acc (.int .i64), .ty (.slice (.int .i64)), .ty (.slice (.int .i64)), .ty (.slice (.int .i64)), .ty (.slice (.int .i64)), .ty (.int .i64)], boxes := [.row [.ty (.int .i64), .ty (.slice (.int .i64))]] }
abbrev shb9_2 : Sh := { n := 272, slots := [2, 5, 8], pats := [.ptr 0 2 0, .acc (.int .i64), .ty (.slice (.int .i64))], boxes := [.row [.ty (.int .i64), .ty (.slice (.int .i64))]] }
abbrev shr9_2 : Sh := { n := 272, slots := [4], pats := [.ty .bool], boxes := [.row [.ty (.int .i64), .ty (.slice (.int .i64))]] }

def t9_2 (x1 : (List Int)) (x2 : (List Int)) (x3 : (List Int)) (x4 : (List Int)) (x5 : (List Int)) (x6 : Int) (b0_0 : Int) (b0_1 : (List Int)) : Tr (Out sh9_2.data shb9_2.data shr9_2.data) :=
  Tr.test ((!leF (↑(List.length x2) : Int) x6 : Bool))
    (Tr.test ((decide ((0 : Int) ≤ x6) && decide (x6 < (↑(List.length x2) : Int)) : Bool))
      (Tr.test (Option.isSome (f47 ((List.getD x2 (Int.toNat x6) (0 : Int) : Int), ((-1099511627776 : Int), ((1099511627776 : Int), ())))))
        (let r0 : Bool × PUnit := g47 ((List.getD x2 (Int.toNat x6) (0 : Int) : Int), ((-1099511627776 : Int), ((1099511627776 : Int), ())));
        Tr.test ((!r0.fst : Bool))
          (Tr.fin (.ret (((false : Bool), ()), ((b0_0, (b0_1, ())), ()))))
          (Tr.test ((decide ((0 : Int) ≤ x6) && decide (x6 < (↑(List.length x3) : Int)) : Bool))
            (Tr.test ((!eqF (List.getD x3 (Int.toNat x6) (0 : Int)) (Go.IntKind.wrap Go.IntKind.i64 ((0 : Int) - List.getD x2 (Int.toNat x6) (0 : Int))) : Bool))
              (Tr.fin (.ret (((false : Bool), ()), ((b0_0, (b0_1, ())), ()))))
              (Tr.test ((decide ((0 : Int) ≤ wrap64 (x6 + (1 : Int))) && decide (wrap64 (x6 + (1 : Int)) < (↑(List.length x4) : Int)) : Bool))
                (Tr.test ((!eqF (List.getD x4 (Int.toNat (wrap64 (x6 + (1 : Int)))) (0 : Int)) (List.getD x2 (Int.toNat x6) (0 : Int)) : Bool))
                  (Tr.fin (.ret (((false : Bool), ()), ((b0_0, (b0_1, ())), ()))))
                  (Tr.test ((decide ((0 : Int) ≤ x6) && decide (x6 < (↑(List.length x5) : Int)) : Bool))
                    (Tr.test ((!eqF (List.getD x5 (Int.toNat x6) (0 : Int)) (0 : Int) : Bool))
                      (Tr.fin (.ret (((false : Bool), ()), ((b0_0, (b0_1, ())), ()))))
                      (Tr.fin (.again ((x1, (x2, (x3, (x4, (x5, ((wrap64 (x6 + (1 : Int)) : Int), ())))))), ((b0_0, (b0_1, ())), ())))))
                    (Tr.stop /- none [op 33 of region 20 of F9] -/)))
                (Tr.stop /- none [op 22 of region 20 of F9] -/)))
            (Tr.stop /- none [op 9 of region 20 of F9] -/)))
        (Tr.stop))
      (Tr.stop /- none [op 2 of region 20 of F9] -/))
    (Tr.fin (.brk ((x1, (x2, ())), ((b0_0, (b0_1, ())), ()))))

def s9_2 (d : sh9_2.data) : Option (Out sh9_2.data shb9_2.data shr9_2.data) := (t9_2 d.1.1 d.1.2.1 d.1.2.2.1 d.1.2.2.2.1 d.1.2.2.2.2.1 d.1.2.2.2.2.2.1 d.2.1.1 d.2.1.2.1).val
def l9_2 (d : sh9_2.data) : Option (shb9_2.data ⊕ shr9_2.data) := itr s9_2 rounds d
def b9_2 (d : sh9_2.data) : shb9_2.data := outB shb9_2.dflt (l9_2 d)
def r9_2 (d : sh9_2.data) : shr9_2.data := outR shr9_2.dflt (l9_2 d)
def lc9_2 : LoopC := lcOf sh9_2 shb9_2 shr9_2 l9_2 b9_2 r9_2

theorem e9_2_0 (x1 : (List Int)) (x2 : (List Int)) (x3 : (List Int)) (x4 : (List Int)) (x5 : (List Int)) (x6 : Int) (b0_0 : Int) (b0_1 : (List Int)) : runBody kl9_0.orc Go.Proofs.Try.prog 400 9 2 sh9_2 shb9_2 shr9_2 ((x1, x2, x3, x4, x5, x6, ()), (b0_0, b0_1, ()), ()) [true, true, true, true, true, true, true, true, true, true, true, true, true, true, true, true, true, true, true, true, true, true, true, true, true, true, true, true, true, true, true, true] =
    (let r0 : Bool × PUnit := g47 ((List.getD x2 (Int.toNat x6) (0 : Int) : Int), ((-1099511627776 : Int), ((1099511627776 : Int), ()))); some (.ret (((false : Bool), ()), ((b0_0, (b0_1, ())), ())), [((true : Bool), true), ((true : Bool), true), ((true : Bool), true), ((true : Bool), true), ((true : Bool), true), ((true : Bool), true), ((true : Bool), true), ((true : Bool), true), ((true : Bool), true), ((true : Bool), true), ((true : Bool), true), ((true : Bool), true), ((true : Bool), true), ((true : Bool), true), ((true : Bool), true), ((true : Bool), true), ((true : Bool), true), ((true : Bool), true), ((!r0.fst : Bool), true), ((!r0.fst : Bool), true), ((!r0.fst : Bool), true), ((!r0.fst : Bool), true), ((!r0.fst : Bool), true), ((!r0.fst : Bool), true), ((!r0.fst : Bool), true), ((!r0.fst : Bool), true), ((!r0.fst : Bool), true), ((!r0.fst : Bool), true), ((!r0.fst : Bool), true), (Option.isSome (f47 ((List.getD x2 (Int.toNat x6) (0 : Int) : Int), ((-1099511627776 : Int), ((1099511627776 : Int), ())))), true), ((decide ((0 : Int) ≤ x6) && decide (x6 < (↑(List.length x2) : Int)) : Bool), true), ((!leF (↑(List.length x2) : Int) x6 : Bool), true)])) := by kernel_rfl
theorem e9_2_1 (x1 : (List Int)) (x2 : (List Int)) (x3 : (List Int)) (x4 : (List Int)) (x5 : (List Int)) (x6 : Int) (b0_0 : Int) (b0_1 : (List Int)) : runBody kl9_0.orc Go.Proofs.Try.prog 400 9 2 sh9_2 shb9_2 shr9_2 ((x1, x2, x3, x4, x5, x6, ()), (b0_0, b0_1, ()), ()) [true, true, true, false, false, false, true, false, false, false, false, true, false, false, false, false, true, true, true, true, true, true, true, true, true, true, true, true, true, true, true, true, true, true] =
    (let r0 : Bool × PUnit := g47 ((List.getD x2 (Int.toNat x6) (0 : Int) : Int), ((-1099511627776 : Int), ((1099511627776 : Int), ()))); some (.ret (((false : Bool), ()), ((b0_0, (b0_1, ())), ())), [((true : Bool), true), ((true : Bool), true), ((true : Bool), true), ((true : Bool), true), ((true : Bool), true), ((true : Bool), true), ((true : Bool), true), ((!eqF (List.getD x3 (Int.toNat x6) (0 : Int)) (Go.IntKind.wrap Go.IntKind.i64 ((0 : Int) - List.getD x2 (Int.toNat x6) (0 : Int))) : Bool), true), ((!eqF (List.getD x3 (Int.toNat x6) (0 : Int)) (Go.IntKind.wrap Go.IntKind.i64 ((0 : Int) - List.getD x2 (Int.toNat x6) (0 : Int))) : Bool), true), ((!eqF (List.getD x3 (Int.toNat x6) (0 : Int)) (Go.IntKind.wrap Go.IntKind.i64 ((0 : Int) - List.getD x2 (Int.toNat x6) (0 : Int))) : Bool), true), ((!eqF (List.getD x3 (Int.toNat x6) (0 : Int)) (Go.IntKind.wrap Go.IntKind.i64 ((0 : Int) - List.getD x2 (Int.toNat x6) (0 : Int))) : Bool), true), ((!eqF (List.getD x3 (Int.toNat x6) (0 : Int)) (Go.IntKind.wrap Go.IntKind.i64 ((0 : Int) - List.getD x2 (Int.toNat x6) (0 : Int))) : Bool), true), ((!eqF (List.getD x3 (Int.toNat x6) (0 : Int)) (Go.IntKind.wrap Go.IntKind.i64 ((0 : Int) - List.getD x2 (Int.toNat x6) (0 : Int))) : Bool), true), ((!eqF (List.getD x3 (Int.toNat x6) (0 : Int)) (Go.IntKind.wrap Go.IntKind.i64 ((0 : Int) - List.getD x2 (Int.toNat x6) (0 : Int))) : Bool), true), ((!eqF (List.getD x3 (Int.toNat x6) (0 : Int)) (Go.IntKind.wrap Go.IntKind.i64 ((0 : Int) - List.getD x2 (Int.toNat x6) (0 : Int))) : Bool), true), ((!eqF (List.getD x3 (Int.toNat x6) (0 : Int)) (Go.IntKind.wrap Go.IntKind.i64 ((0 : Int) - List.getD x2 (Int.toNat x6) (0 : Int))) : Bool), true), ((!eqF (List.getD x3 (Int.toNat x6) (0 : Int)) (Go.IntKind.wrap Go.IntKind.i64 ((0 : Int) - List.getD x2 (Int.toNat x6) (0 : Int))) : Bool), true), ((!eqF (List.getD x3 (Int.toNat x6) (0 : Int)) (Go.IntKind.wrap Go.IntKind.i64 ((0 : Int) - List.getD x2 (Int.toNat x6) (0 : Int))) : Bool), true), ((!r0.fst : Bool), false), ((!r0.fst : Bool), false), ((!r0.fst : Bool), false), ((!r0.fst : Bool), false), ((decide ((0 : Int) ≤ x6) && decide (x6 < (↑(List.length x2) : Int)) : Bool), true), ((!r0.fst : Bool), false), ((!r0.fst : Bool), false), ((!r0.fst : Bool), false), ((!r0.fst : Bool), false), ((decide ((0 : Int) ≤ x6) && decide (x6 < (↑(List.length x3) : Int)) : Bool), true), ((!r0.fst : Bool), false), ((!r0.fst : Bool), false), ((!r0.fst : Bool), false), (Option.isSome (f47 ((List.getD x2 (Int.toNat x6) (0 : Int) : Int), ((-1099511627776 : Int), ((1099511627776 : Int), ())))), true), ((decide ((0 : Int) ≤ x6) && decide (x6 < (↑(List.length x2) : Int)) : Bool), true), ((!leF (↑(List.length x2) : Int) x6 : Bool), true)])) := by kernel_rfl
theorem e9_2_2 (x1 : (List Int)) (x2 : (List Int)) (x3 : (List Int)) (x4 : (List Int)) (x5 : (List Int)) (x6 : Int) (b0_0 : Int) (b0_1 : (List Int)) : runBody kl9_0.orc Go.Proofs.Try.prog 400 9 2 sh9_2 shb9_2 shr9_2 ((x1, x2, x3, x4, x5, x6, ()), (b0_0, b0_1, ()), ()) [true, true, true, false, false, false, true, false, false, false, false, true, false, false, false, false, false, false, false, false, true, false, false, false, false, true, false, false, false, true, true, true, true, true, true, true] =
    (let r0 : Bool × PUnit := g47 ((List.getD x2 (Int.toNat x6) (0 : Int) : Int), ((-1099511627776 : Int), ((1099511627776 : Int), ()))); some (.ret (((false : Bool), ()), ((b0_0, (b0_1, ())), ())), [((true : Bool), true), ((!eqF (List.getD x4 (Int.toNat (wrap64 (x6 + (1 : Int)))) (0 : Int)) (List.getD x2 (Int.toNat x6) (0 : Int)) : Bool), true), ((!eqF (List.getD x4 (Int.toNat (wrap64 (x6 + (1 : Int)))) (0 : Int)) (List.getD x2 (Int.toNat x6) (0 : Int)) : Bool), true), ((!eqF (List.getD x4 (Int.toNat (wrap64 (x6 + (1 : Int)))) (0 : Int)) (List.getD x2 (Int.toNat x6) (0 : Int)) : Bool), true), ((!eqF (List.getD x4 (Int.toNat (wrap64 (x6 + (1 : Int)))) (0 : Int)) (List.getD x2 (Int.toNat x6) (0 : Int)) : Bool), true), ((!eqF (List.getD x4 (Int.toNat (wrap64 (x6 + (1 : Int)))) (0 : Int)) (List.getD x2 (Int.toNat x6) (0 : Int)) : Bool), true), ((!eqF (List.getD x4 (Int.toNat (wrap64 (x6 + (1 : Int)))) (0 : Int)) (List.getD x2 (Int.toNat x6) (0 : Int)) : Bool), true), ((!eqF (List.getD x3 (Int.toNat x6) (0 : Int)) (Go.IntKind.wrap Go.IntKind.i64 ((0 : Int) - List.getD x2 (Int.toNat x6) (0 : Int))) : Bool), false), ((!eqF (List.getD x3 (Int.toNat x6) (0 : Int)) (Go.IntKind.wrap Go.IntKind.i64 ((0 : Int) - List.getD x2 (Int.toNat x6) (0 : Int))) : Bool), false), ((!eqF (List.getD x3 (Int.toNat x6) (0 : Int)) (Go.IntKind.wrap Go.IntKind.i64 ((0 : Int) - List.getD x2 (Int.toNat x6) (0 : Int))) : Bool), false), ((decide ((0 : Int) ≤ x6) && decide (x6 < (↑(List.length x2) : Int)) : Bool), true), ((!eqF (List.getD x3 (Int.toNat x6) (0 : Int)) (Go.IntKind.wrap Go.IntKind.i64 ((0 : Int) - List.getD x2 (Int.toNat x6) (0 : Int))) : Bool), false), ((!eqF (List.getD x3 (Int.toNat x6) (0 : Int)) (Go.IntKind.wrap Go.IntKind.i64 ((0 : Int) - List.getD x2 (Int.toNat x6) (0 : Int))) : Bool), false), ((!eqF (List.getD x3 (Int.toNat x6) (0 : Int)) (Go.IntKind.wrap Go.IntKind.i64 ((0 : Int) - List.getD x2 (Int.toNat x6) (0 : Int))) : Bool), false), ((!eqF (List.getD x3 (Int.toNat x6) (0 : Int)) (Go.IntKind.wrap Go.IntKind.i64 ((0 : Int) - List.getD x2 (Int.toNat x6) (0 : Int))) : Bool), false), ((decide ((0 : Int) ≤ wrap64 (x6 + (1 : Int))) && decide (wrap64 (x6 + (1 : Int)) < (↑(List.length x4) : Int)) : Bool), true), ((!eqF (List.getD x3 (Int.toNat x6) (0 : Int)) (Go.IntKind.wrap Go.IntKind.i64 ((0 : Int) - List.getD x2 (Int.toNat x6) (0 : Int))) : Bool), false), ((!eqF (List.getD x3 (Int.toNat x6) (0 : Int)) (Go.IntKind.wrap Go.IntKind.i64 ((0 : Int) - List.getD x2 (Int.toNat x6) (0 : Int))) : Bool), false), ((!eqF (List.getD x3 (Int.toNat x6) (0 : Int)) (Go.IntKind.wrap Go.IntKind.i64 ((0 : Int) - List.getD x2 (Int.toNat x6) (0 : Int))) : Bool), false), ((!eqF (List.getD x3 (Int.toNat x6) (0 : Int)) (Go.IntKind.wrap Go.IntKind.i64 ((0 : Int) - List.getD x2 (Int.toNat x6) (0 : Int))) : Bool), false), ((!r0.fst : Bool), false), ((!r0.fst : Bool), false), ((!r0.fst : Bool), false), ((!r0.fst : Bool), false), ((decide ((0 : Int) ≤ x6) && decide (x6 < (↑(List.length x2) : Int)) : Bool), true), ((!r0.fst : Bool), false), ((!r0.fst : Bool), false), ((!r0.fst : Bool), false), ((!r0.fst : Bool), false), ((decide ((0 : Int) ≤ x6) && decide (x6 < (↑(List.length x3) : Int)) : Bool), true), ((!r0.fst : Bool), false), ((!r0.fst : Bool), false), ((!r0.fst : Bool), false), (Option.isSome (f47 ((List.getD x2 (Int.toNat x6) (0 : Int) : Int), ((-1099511627776 : Int), ((1099511627776 : Int), ())))), true), ((decide ((0 : Int) ≤ x6) && decide (x6 < (↑(List.length x2) : Int)) : Bool), true), ((!leF (↑(List.length x2) : Int) x6 : Bool), true)])) := by kernel_rfl
theorem e9_2_3 (x1 : (List Int)) (x2 : (List Int)) (x3 : (List Int)) (x4 : (List Int)) (x5 : (List Int)) (x6 : Int) (b0_0 : Int) (b0_1 : (List Int)) : runBody kl9_0.orc Go.Proofs.Try.prog 400 9 2 sh9_2 shb9_2 shr9_2 ((x1, x2, x3, x4, x5, x6, ()), (b0_0, b0_1, ()), ()) [true, true, true, false, false, false, true, false, false, false, false, true, false, false, false, false, false, false, false, false, true, false, false, false, false, true, false, false, false, false, false, false, true, false, false, false, true] =
    (let r0 : Bool × PUnit := g47 ((List.getD x2 (Int.toNat x6) (0 : Int) : Int), ((-1099511627776 : Int), ((1099511627776 : Int), ()))); some (.ret (((false : Bool), ()), ((b0_0, (b0_1, ())), ())), [((!eqF (List.getD x5 (Int.toNat x6) (0 : Int)) (0 : Int) : Bool), true), ((!eqF (List.getD x4 (Int.toNat (wrap64 (x6 + (1 : Int)))) (0 : Int)) (List.getD x2 (Int.toNat x6) (0 : Int)) : Bool), false), ((!eqF (List.getD x4 (Int.toNat (wrap64 (x6 + (1 : Int)))) (0 : Int)) (List.getD x2 (Int.toNat x6) (0 : Int)) : Bool), false), ((!eqF (List.getD x4 (Int.toNat (wrap64 (x6 + (1 : Int)))) (0 : Int)) (List.getD x2 (Int.toNat x6) (0 : Int)) : Bool), false), ((decide ((0 : Int) ≤ x6) && decide (x6 < (↑(List.length x5) : Int)) : Bool), true), ((!eqF (List.getD x4 (Int.toNat (wrap64 (x6 + (1 : Int)))) (0 : Int)) (List.getD x2 (Int.toNat x6) (0 : Int)) : Bool), false), ((!eqF (List.getD x4 (Int.toNat (wrap64 (x6 + (1 : Int)))) (0 : Int)) (List.getD x2 (Int.toNat x6) (0 : Int)) : Bool), false), ((!eqF (List.getD x4 (Int.toNat (wrap64 (x6 + (1 : Int)))) (0 : Int)) (List.getD x2 (Int.toNat x6) (0 : Int)) : Bool), false), ((!eqF (List.getD x3 (Int.toNat x6) (0 : Int)) (Go.IntKind.wrap Go.IntKind.i64 ((0 : Int) - List.getD x2 (Int.toNat x6) (0 : Int))) : Bool), false), ((!eqF (List.getD x3 (Int.toNat x6) (0 : Int)) (Go.IntKind.wrap Go.IntKind.i64 ((0 : Int) - List.getD x2 (Int.toNat x6) (0 : Int))) : Bool), false), ((!eqF (List.getD x3 (Int.toNat x6) (0 : Int)) (Go.IntKind.wrap Go.IntKind.i64 ((0 : Int) - List.getD x2 (Int.toNat x6) (0 : Int))) : Bool), false), ((decide ((0 : Int) ≤ x6) && decide (x6 < (↑(List.length x2) : Int)) : Bool), true), ((!eqF (List.getD x3 (Int.toNat x6) (0 : Int)) (Go.IntKind.wrap Go.IntKind.i64 ((0 : Int) - List.getD x2 (Int.toNat x6) (0 : Int))) : Bool), false), ((!eqF (List.getD x3 (Int.toNat x6) (0 : Int)) (Go.IntKind.wrap Go.IntKind.i64 ((0 : Int) - List.getD x2 (Int.toNat x6) (0 : Int))) : Bool), false), ((!eqF (List.getD x3 (Int.toNat x6) (0 : Int)) (Go.IntKind.wrap Go.IntKind.i64 ((0 : Int) - List.getD x2 (Int.toNat x6) (0 : Int))) : Bool), false), ((!eqF (List.getD x3 (Int.toNat x6) (0 : Int)) (Go.IntKind.wrap Go.IntKind.i64 ((0 : Int) - List.getD x2 (Int.toNat x6) (0 : Int))) : Bool), false), ((decide ((0 : Int) ≤ wrap64 (x6 + (1 : Int))) && decide (wrap64 (x6 + (1 : Int)) < (↑(List.length x4) : Int)) : Bool), true), ((!eqF (List.getD x3 (Int.toNat x6) (0 : Int)) (Go.IntKind.wrap Go.IntKind.i64 ((0 : Int) - List.getD x2 (Int.toNat x6) (0 : Int))) : Bool), false), ((!eqF (List.getD x3 (Int.toNat x6) (0 : Int)) (Go.IntKind.wrap Go.IntKind.i64 ((0 : Int) - List.getD x2 (Int.toNat x6) (0 : Int))) : Bool), false), ((!eqF (List.getD x3 (Int.toNat x6) (0 : Int)) (Go.IntKind.wrap Go.IntKind.i64 ((0 : Int) - List.getD x2 (Int.toNat x6) (0 : Int))) : Bool), false), ((!eqF (List.getD x3 (Int.toNat x6) (0 : Int)) (Go.IntKind.wrap Go.IntKind.i64 ((0 : Int) - List.getD x2 (Int.toNat x6) (0 : Int))) : Bool), false), ((!r0.fst : Bool), false), ((!r0.fst : Bool), false), ((!r0.fst : Bool), false), ((!r0.fst : Bool), false), ((decide ((0 : Int) ≤ x6) && decide (x6 < (↑(List.length x2) : Int)) : Bool), true), ((!r0.fst : Bool), false), ((!r0.fst : Bool), false), ((!r0.fst : Bool), false), ((!r0.fst : Bool), false), ((decide ((0 : Int) ≤ x6) && decide (x6 < (↑(List.length x3) : Int)) : Bool), true), ((!r0.fst : Bool), false), ((!r0.fst : Bool), false), ((!r0.fst : Bool), false), (Option.isSome (f47 ((List.getD x2 (Int.toNat x6) (0 : Int) : Int), ((-1099511627776 : Int), ((1099511627776 : Int), ())))), true), ((decide ((0 : Int) ≤ x6) && decide (x6 < (↑(List.length x2) : Int)) : Bool), true), ((!leF (↑(List.length x2) : Int) x6 : Bool), true)])) := by kernel_rfl
theorem e9_2_4 (x1 : (List Int)) (x2 : (List Int)) (x3 : (List Int)) (x4 : (List Int)) (x5 : (List Int)) (x6 : Int) (b0_0 : Int) (b0_1 : (List Int)) : runBody kl9_0.orc Go.Proofs.Try.prog 400 9 2 sh9_2 shb9_2 shr9_2 ((x1, x2, x3, x4, x5, x6, ()), (b0_0, b0_1, ()), ()) [true, true, true, false, false, false, true, false, false, false, false, true, false, false, false, false, false, false, false, false, true, false, false, false, false, true, false, false, false, false, false, false, true, false, false, false, false] =
    (let r0 : Bool × PUnit := g47 ((List.getD x2 (Int.toNat x6) (0 : Int) : Int), ((-1099511627776 : Int), ((1099511627776 : Int), ()))); some (.again ((x1, (x2, (x3, (x4, (x5, ((wrap64 (x6 + (1 : Int)) : Int), ())))))), ((b0_0, (b0_1, ())), ())), [((!eqF (List.getD x5 (Int.toNat x6) (0 : Int)) (0 : Int) : Bool), false), ((!eqF (List.getD x4 (Int.toNat (wrap64 (x6 + (1 : Int)))) (0 : Int)) (List.getD x2 (Int.toNat x6) (0 : Int)) : Bool), false), ((!eqF (List.getD x4 (Int.toNat (wrap64 (x6 + (1 : Int)))) (0 : Int)) (List.getD x2 (Int.toNat x6) (0 : Int)) : Bool), false), ((!eqF (List.getD x4 (Int.toNat (wrap64 (x6 + (1 : Int)))) (0 : Int)) (List.getD x2 (Int.toNat x6) (0 : Int)) : Bool), false), ((decide ((0 : Int) ≤ x6) && decide (x6 < (↑(List.length x5) : Int)) : Bool), true), ((!eqF (List.getD x4 (Int.toNat (wrap64 (x6 + (1 : Int)))) (0 : Int)) (List.getD x2 (Int.toNat x6) (0 : Int)) : Bool), false), ((!eqF (List.getD x4 (Int.toNat (wrap64 (x6 + (1 : Int)))) (0 : Int)) (List.getD x2 (Int.toNat x6) (0 : Int)) : Bool), false), ((!eqF (List.getD x4 (Int.toNat (wrap64 (x6 + (1 : Int)))) (0 : Int)) (List.getD x2 (Int.toNat x6) (0 : Int)) : Bool), false), ((!eqF (List.getD x3 (Int.toNat x6) (0 : Int)) (Go.IntKind.wrap Go.IntKind.i64 ((0 : Int) - List.getD x2 (Int.toNat x6) (0 : Int))) : Bool), false), ((!eqF (List.getD x3 (Int.toNat x6) (0 : Int)) (Go.IntKind.wrap Go.IntKind.i64 ((0 : Int) - List.getD x2 (Int.toNat x6) (0 : Int))) : Bool), false), ((!eqF (List.getD x3 (Int.toNat x6) (0 : Int)) (Go.IntKind.wrap Go.IntKind.i64 ((0 : Int) - List.getD x2 (Int.toNat x6) (0 : Int))) : Bool), false), ((decide ((0 : Int) ≤ x6) && decide (x6 < (↑(List.length x2) : Int)) : Bool), true), ((!eqF (List.getD x3 (Int.toNat x6) (0 : Int)) (Go.IntKind.wrap Go.IntKind.i64 ((0 : Int) - List.getD x2 (Int.toNat x6) (0 : Int))) : Bool), false), ((!eqF (List.getD x3 (Int.toNat x6) (0 : Int)) (Go.IntKind.wrap Go.IntKind.i64 ((0 : Int) - List.getD x2 (Int.toNat x6) (0 : Int))) : Bool), false), ((!eqF (List.getD x3 (Int.toNat x6) (0 : Int)) (Go.IntKind.wrap Go.IntKind.i64 ((0 : Int) - List.getD x2 (Int.toNat x6) (0 : Int))) : Bool), false), ((!eqF (List.getD x3 (Int.toNat x6) (0 : Int)) (Go.IntKind.wrap Go.IntKind.i64 ((0 : Int) - List.getD x2 (Int.toNat x6) (0 : Int))) : Bool), false), ((decide ((0 : Int) ≤ wrap64 (x6 + (1 : Int))) && decide (wrap64 (x6 + (1 : Int)) < (↑(List.length x4) : Int)) : Bool), true), ((!eqF (List.getD x3 (Int.toNat x6) (0 : Int)) (Go.IntKind.wrap Go.IntKind.i64 ((0 : Int) - List.getD x2 (Int.toNat x6) (0 : Int))) : Bool), false), ((!eqF (List.getD x3 (Int.toNat x6) (0 : Int)) (Go.IntKind.wrap Go.IntKind.i64 ((0 : Int) - List.getD x2 (Int.toNat x6) (0 : Int))) : Bool), false), ((!eqF (List.getD x3 (Int.toNat x6) (0 : Int)) (Go.IntKind.wrap Go.IntKind.i64 ((0 : Int) - List.getD x2 (Int.toNat x6) (0 : Int))) : Bool), false), ((!eqF (List.getD x3 (Int.toNat x6) (0 : Int)) (Go.IntKind.wrap Go.IntKind.i64 ((0 : Int) - List.getD x2 (Int.toNat x6) (0 : Int))) : Bool), false), ((!r0.fst : Bool), false), ((!r0.fst : Bool), false), ((!r0.fst : Bool), false), ((!r0.fst : Bool), false), ((decide ((0 : Int) ≤ x6) && decide (x6 < (↑(List.length x2) : Int)) : Bool), true), ((!r0.fst : Bool), false), ((!r0.fst : Bool), false), ((!r0.fst : Bool), false), ((!r0.fst : Bool), false), ((decide ((0 : Int) ≤ x6) && decide (x6 < (↑(List.length x3) : Int)) : Bool), true), ((!r0.fst : Bool), false), ((!r0.fst : Bool), false), ((!r0.fst : Bool), false), (Option.isSome (f47 ((List.getD x2 (Int.toNat x6) (0 : Int) : Int), ((-1099511627776 : Int), ((1099511627776 : Int), ())))), true), ((decide ((0 : Int) ≤ x6) && decide (x6 < (↑(List.length x2) : Int)) : Bool), true), ((!leF (↑(List.length x2) : Int) x6 : Bool), true)])) := by kernel_rfl
theorem e9_2_9 (x1 : (List Int)) (x2 : (List Int)) (x3 : (List Int)) (x4 : (List Int)) (x5 : (List Int)) (x6 : Int) (b0_0 : Int) (b0_1 : (List Int)) : runBody kl9_0.orc Go.Proofs.Try.prog 400 9 2 sh9_2 shb9_2 shr9_2 ((x1, x2, x3, x4, x5, x6, ()), (b0_0, b0_1, ()), ()) [false] =
    (some (.brk ((x1, (x2, ())), ((b0_0, (b0_1, ())), ())), [((!leF (↑(List.length x2) : Int) x6 : Bool), false)])) := by kernel_rfl

theorem ok9_2_t (x1 : (List Int)) (x2 : (List Int)) (x3 : (List Int)) (x4 : (List Int)) (x5 : (List Int)) (x6 : Int) (b0_0 : Int) (b0_1 : (List Int)) : TrOk (BodyRuns Go.Proofs.Try.prog kl9_0.orc 9 2 sh9_2 shb9_2 shr9_2 ((x1, x2, x3, x4, x5, x6, ()), (b0_0, b0_1, ()), ())) (t9_2 x1 x2 x3 x4 x5 x6 b0_0 b0_1) :=
  TrOk.ofTest (fun h0 => TrOk.ofTest (fun h1 => TrOk.ofTest (fun h2 => TrOk.ofTest (fun h3 => TrOk.ofFin (BodyRuns.of (e9_2_0 x1 x2 x3 x4 x5 x6 b0_0 b0_1) (All.cons rfl (All.cons rfl (All.cons rfl (All.cons rfl (All.cons rfl (All.cons rfl (All.cons rfl (All.cons rfl (All.cons rfl (All.cons rfl (All.cons rfl (All.cons rfl (All.cons rfl (All.cons rfl (All.cons rfl (All.cons rfl (All.cons rfl (All.cons rfl (All.cons (not_of (of_not (h3))) (All.cons (not_of (of_not (h3))) (All.cons (not_of (of_not (h3))) (All.cons (not_of (of_not (h3))) (All.cons (not_of (of_not (h3))) (All.cons (not_of (of_not (h3))) (All.cons (not_of (of_not (h3))) (All.cons (not_of (of_not (h3))) (All.cons (not_of (of_not (h3))) (All.cons (not_of (of_not (h3))) (All.cons h3 (All.cons h2 (All.cons h1 (All.cons h0 (All.nil))))))))))))))))))))))))))))))))))) (fun h3 => TrOk.ofTest (fun h6 => TrOk.ofTest (fun h16 => TrOk.ofFin (BodyRuns.of (e9_2_1 x1 x2 x3 x4 x5 x6 b0_0 b0_1) (All.cons rfl (All.cons rfl (All.cons rfl (All.cons rfl (All.cons rfl (All.cons rfl (All.cons rfl (All.cons (not_of (of_not (h16))) (All.cons (not_of (of_not (h16))) (All.cons (not_of (of_not (h16))) (All.cons (not_of (of_not (h16))) (All.cons (not_of (of_not (h16))) (All.cons (not_of (of_not (h16))) (All.cons (not_of (of_not (h16))) (All.cons (not_of (of_not (h16))) (All.cons (not_of (of_not (h16))) (All.cons (not_of (of_not (h16))) (All.cons h16 (All.cons (not_of (of_not (h3))) (All.cons (not_of (of_not (h3))) (All.cons (not_of (of_not (h3))) (All.cons (not_of (of_not (h3))) (All.cons (h1) (All.cons (not_of (of_not (h3))) (All.cons (not_of (of_not (h3))) (All.cons (not_of (of_not (h3))) (All.cons (not_of (of_not (h3))) (All.cons h6 (All.cons (not_of (of_not (h3))) (All.cons (not_of (of_not (h3))) (All.cons h3 (All.cons h2 (All.cons h1 (All.cons h0 (All.nil))))))))))))))))))))))))))))))))))))) (fun h16 => TrOk.ofTest (fun h20 => TrOk.ofTest (fun h29 => TrOk.ofFin (BodyRuns.of (e9_2_2 x1 x2 x3 x4 x5 x6 b0_0 b0_1) (All.cons rfl (All.cons (not_of (of_not (h29))) (All.cons (not_of (of_not (h29))) (All.cons (not_of (of_not (h29))) (All.cons (not_of (of_not (h29))) (All.cons (not_of (of_not (h29))) (All.cons h29 (All.cons (not_of (of_not (h16))) (All.cons (not_of (of_not (h16))) (All.cons (not_of (of_not (h16))) (All.cons (h1) (All.cons (not_of (of_not (h16))) (All.cons (not_of (of_not (h16))) (All.cons (not_of (of_not (h16))) (All.cons (not_of (of_not (h16))) (All.cons h20 (All.cons (not_of (of_not (h16))) (All.cons (not_of (of_not (h16))) (All.cons (not_of (of_not (h16))) (All.cons h16 (All.cons (not_of (of_not (h3))) (All.cons (not_of (of_not (h3))) (All.cons (not_of (of_not (h3))) (All.cons (not_of (of_not (h3))) (All.cons (h1) (All.cons (not_of (of_not (h3))) (All.cons (not_of (of_not (h3))) (All.cons (not_of (of_not (h3))) (All.cons (not_of (of_not (h3))) (All.cons h6 (All.cons (not_of (of_not (h3))) (All.cons (not_of (of_not (h3))) (All.cons h3 (All.cons h2 (All.cons h1 (All.cons h0 (All.nil))))))))))))))))))))))))))))))))))))))) (fun h29 => TrOk.ofTest (fun h32 => TrOk.ofTest (fun h36 => TrOk.ofFin (BodyRuns.of (e9_2_3 x1 x2 x3 x4 x5 x6 b0_0 b0_1) (All.cons h36 (All.cons (not_of (of_not (h29))) (All.cons (not_of (of_not (h29))) (All.cons (not_of (of_not (h29))) (All.cons h32 (All.cons (not_of (of_not (h29))) (All.cons (not_of (of_not (h29))) (All.cons h29 (All.cons (not_of (of_not (h16))) (All.cons (not_of (of_not (h16))) (All.cons (not_of (of_not (h16))) (All.cons (h1) (All.cons (not_of (of_not (h16))) (All.cons (not_of (of_not (h16))) (All.cons (not_of (of_not (h16))) (All.cons (not_of (of_not (h16))) (All.cons h20 (All.cons (not_of (of_not (h16))) (All.cons (not_of (of_not (h16))) (All.cons (not_of (of_not (h16))) (All.cons h16 (All.cons (not_of (of_not (h3))) (All.cons (not_of (of_not (h3))) (All.cons (not_of (of_not (h3))) (All.cons (not_of (of_not (h3))) (All.cons (h1) (All.cons (not_of (of_not (h3))) (All.cons (not_of (of_not (h3))) (All.cons (not_of (of_not (h3))) (All.cons (not_of (of_not (h3))) (All.cons h6 (All.cons (not_of (of_not (h3))) (All.cons (not_of (of_not (h3))) (All.cons h3 (All.cons h2 (All.cons h1 (All.cons h0 (All.nil)))))))))))))))))))))))))))))))))))))))) (fun h36 => TrOk.ofFin (BodyRuns.of (e9_2_4 x1 x2 x3 x4 x5 x6 b0_0 b0_1) (All.cons h36 (All.cons (not_of (of_not (h29))) (All.cons (not_of (of_not (h29))) (All.cons (not_of (of_not (h29))) (All.cons h32 (All.cons (not_of (of_not (h29))) (All.cons (not_of (of_not (h29))) (All.cons h29 (All.cons (not_of (of_not (h16))) (All.cons (not_of (of_not (h16))) (All.cons (not_of (of_not (h16))) (All.cons (h1) (All.cons (not_of (of_not (h16))) (All.cons (not_of (of_not (h16))) (All.cons (not_of (of_not (h16))) (All.cons (not_of (of_not (h16))) (All.cons h20 (All.cons (not_of (of_not (h16))) (All.cons (not_of (of_not (h16))) (All.cons (not_of (of_not (h16))) (All.cons h16 (All.cons (not_of (of_not (h3))) (All.cons (not_of (of_not (h3))) (All.cons (not_of (of_not (h3))) (All.cons (not_of (of_not (h3))) (All.cons (h1) (All.cons (not_of (of_not (h3))) (All.cons (not_of (of_not (h3))) (All.cons (not_of (of_not (h3))) (All.cons (not_of (of_not (h3))) (All.cons h6 (All.cons (not_of (of_not (h3))) (All.cons (not_of (of_not (h3))) (All.cons h3 (All.cons h2 (All.cons h1 (All.cons h0 (All.nil))))))))))))))))))))))))))))))))))))))))) (fun h32 => TrOk.ofStop))) (fun h20 => TrOk.ofStop))) (fun h6 => TrOk.ofStop))) (fun h2 => TrOk.ofStop)) (fun h1 => TrOk.ofStop)) (fun h0 => TrOk.ofFin (BodyRuns.of (e9_2_9 x1 x2 x3 x4 x5 x6 b0_0 b0_1) (All.cons h0 (All.nil))))

theorem ok9_2 : LoopOk Go.Proofs.Try.prog 9 2 lc9_2 := loopOk_of kl9_0_ok.base (T := fun (d : sh9_2.data) => t9_2 d.1.1 d.1.2.1 d.1.2.2.1 d.1.2.2.2.1 d.1.2.2.2.2.1 d.1.2.2.2.2.2.1 d.2.1.1 d.2.1.2.1) (by kernel_rfl) rfl (fun (d : sh9_2.data) => ok9_2_t d.1.1 d.1.2.1 d.1.2.2.1 d.1.2.2.2.1 d.1.2.2.2.2.1 d.1.2.2.2.2.2.1 d.2.1.1 d.2.1.2.1) (fun _ => rfl)
def kl9_2 : Known := kl9_0.loop 9 2 lc9_2
theorem kl9_2_ok : KnownOk Go.Proofs.Try.prog kl9_2 := kl9_0_ok.loop ok9_2

/-! loop 4 of ductility/ductilitylaw02.MotionOpposite -/

abbrev sh9_4 : Sh := { n := 272, slots := [21, 23, 25], pats := [.ty (.slice (.int .i64)), .ty (.slice (.int .i64)), .ty (.int .i64)], boxes := [] }
abbrev shb9_4 : Sh := { n := 272, slots := [], pats := [], boxes := [] }
abbrev shr9_4 : Sh := { n := 272, slots := [4], pats := [.ty .bool], boxes := [] }

def t9_4 (x0 : (List Int)) (x1 : (List Int)) (x2 : Int) : Tr (Out sh9_4.data shb9_4.data shr9_4.data) :=
  Tr.test ((!leF (↑(List.length x0) : Int) x2 : Bool))
    (Tr.test ((decide ((0 : Int) ≤ x2) && decide (x2 < (↑(List.length x0) : Int)) : Bool))
      (Tr.test (Option.isSome (f47 ((List.getD x0 (Int.toNat x2) (0 : Int) : Int), ((-1099511627776 : Int), ((1099511627776 : Int), ())))))
        (let r0 : Bool × PUnit := g47 ((List.getD x0 (Int.toNat x2) (0 : Int) : Int), ((-1099511627776 : Int), ((1099511627776 : Int), ())));
        Tr.test ((!r0.fst : Bool))
          (Tr.fin (.ret (((false : Bool), ()), ())))
          (Tr.test ((decide ((0 : Int) ≤ x2) && decide (x2 < (↑(List.length x1) : Int)) : Bool))
            (Tr.test ((!eqF (List.getD x1 (Int.toNat x2) (0 : Int)) (Go.IntKind.wrap Go.IntKind.i64 ((0 : Int) - List.getD x0 (Int.toNat x2) (0 : Int))) : Bool))
              (Tr.fin (.ret (((false : Bool), ()), ())))
              (Tr.fin (.again ((x0, (x1, ((wrap64 (x2 + (1 : Int)) : Int), ()))), ()))))
            (Tr.stop /- none [op 9 of region 31 of F9] -/)))
        (Tr.stop))
      (Tr.stop /- none [op 2 of region 31 of F9] -/))
    (Tr.fin (.brk ((), ())))

def s9_4 (d : sh9_4.data) : Option (Out sh9_4.data shb9_4.data shr9_4.data) := (t9_4 d.1.1 d.1.2.1 d.1.2.2.1).val
def l9_4 (d : sh9_4.data) : Option (shb9_4.data ⊕ shr9_4.data) := itr s9_4 rounds d
def b9_4 (d : sh9_4.data) : shb9_4.data := outB shb9_4.dflt (l9_4 d)
def r9_4 (d : sh9_4.data) : shr9_4.data := outR shr9_4.dflt (l9_4 d)
def lc9_4 : LoopC := lcOf sh9_4 shb9_4 shr9_4 l9_4 b9_4 r9_4

theorem e9_4_0 (x0 : (List Int)) (x1 : (List Int)) (x2 : Int) : runBody kl9_2.orc Go.Proofs.Try.prog 400 9 4 sh9_4 shb9_4 shr9_4 ((x0, x1, x2, ()), ()) [true, true, true, true, true, true, true, true, true, true, true, true, true, true, true] =
    (let r0 : Bool × PUnit := g47 ((List.getD x0 (Int.toNat x2) (0 : Int) : Int), ((-1099511627776 : Int), ((1099511627776 : Int), ()))); some (.ret (((false : Bool), ()), ()), [((true : Bool), true), ((!r0.fst : Bool), true), ((!r0.fst : Bool), true), ((!r0.fst : Bool), true), ((!r0.fst : Bool), true), ((!r0.fst : Bool), true), ((!r0.fst : Bool), true), ((!r0.fst : Bool), true), ((!r0.fst : Bool), true), ((!r0.fst : Bool), true), ((!r0.fst : Bool), true), ((!r0.fst : Bool), true), (Option.isSome (f47 ((List.getD x0 (Int.toNat x2) (0 : Int) : Int), ((-1099511627776 : Int), ((1099511627776 : Int), ())))), true), ((decide ((0 : Int) ≤ x2) && decide (x2 < (↑(List.length x0) : Int)) : Bool), true), ((!leF (↑(List.length x0) : Int) x2 : Bool), true)])) := by kernel_rfl
theorem e9_4_1 (x0 : (List Int)) (x1 : (List Int)) (x2 : Int) : runBody kl9_2.orc Go.Proofs.Try.prog 400 9 4 sh9_4 shb9_4 shr9_4 ((x0, x1, x2, ()), ()) [true, true, true, false, false, false, true, false, false, false, false, true, false, false, false, false, true] =
    (let r0 : Bool × PUnit := g47 ((List.getD x0 (Int.toNat x2) (0 : Int) : Int), ((-1099511627776 : Int), ((1099511627776 : Int), ()))); some (.ret (((false : Bool), ()), ()), [((!eqF (List.getD x1 (Int.toNat x2) (0 : Int)) (Go.IntKind.wrap Go.IntKind.i64 ((0 : Int) - List.getD x0 (Int.toNat x2) (0 : Int))) : Bool), true), ((!r0.fst : Bool), false), ((!r0.fst : Bool), false), ((!r0.fst : Bool), false), ((!r0.fst : Bool), false), ((decide ((0 : Int) ≤ x2) && decide (x2 < (↑(List.length x0) : Int)) : Bool), true), ((!r0.fst : Bool), false), ((!r0.fst : Bool), false), ((!r0.fst : Bool), false), ((!r0.fst : Bool), false), ((decide ((0 : Int) ≤ x2) && decide (x2 < (↑(List.length x1) : Int)) : Bool), true), ((!r0.fst : Bool), false), ((!r0.fst : Bool), false), ((!r0.fst : Bool), false), (Option.isSome (f47 ((List.getD x0 (Int.toNat x2) (0 : Int) : Int), ((-1099511627776 : Int), ((1099511627776 : Int), ())))), true), ((decide ((0 : Int) ≤ x2) && decide (x2 < (↑(List.length x0) : Int)) : Bool), true), ((!leF (↑(List.length x0) : Int) x2 : Bool), true)])) := by kernel_rfl
theorem e9_4_2 (x0 : (List Int)) (x1 : (List Int)) (x2 : Int) : runBody kl9_2.orc Go.Proofs.Try.prog 400 9 4 sh9_4 shb9_4 shr9_4 ((x0, x1, x2, ()), ()) [true, true, true, false, false, false, true, false, false, false, false, true, false, false, false, false, false] =
    (let r0 : Bool × PUnit := g47 ((List.getD x0 (Int.toNat x2) (0 : Int) : Int), ((-1099511627776 : Int), ((1099511627776 : Int), ()))); some (.again ((x0, (x1, ((wrap64 (x2 + (1 : Int)) : Int), ()))), ()), [((!eqF (List.getD x1 (Int.toNat x2) (0 : Int)) (Go.IntKind.wrap Go.IntKind.i64 ((0 : Int) - List.getD x0 (Int.toNat x2) (0 : Int))) : Bool), false), ((!r0.fst : Bool), false), ((!r0.fst : Bool), false), ((!r0.fst : Bool), false), ((!r0.fst : Bool), false), ((decide ((0 : Int) ≤ x2) && decide (x2 < (↑(List.length x0) : Int)) : Bool), true), ((!r0.fst : Bool), false), ((!r0.fst : Bool), false), ((!r0.fst : Bool), false), ((!r0.fst : Bool), false), ((decide ((0 : Int) ≤ x2) && decide (x2 < (↑(List.length x1) : Int)) : Bool), true), ((!r0.fst : Bool), false), ((!r0.fst : Bool), false), ((!r0.fst : Bool), false), (Option.isSome (f47 ((List.getD x0 (Int.toNat x2) (0 : Int) : Int), ((-1099511627776 : Int), ((1099511627776 : Int), ())))), true), ((decide ((0 : Int) ≤ x2) && decide (x2 < (↑(List.length x0) : Int)) : Bool), true), ((!leF (↑(List.length x0) : Int) x2 : Bool), true)])) := by kernel_rfl
theorem e9_4_5 (x0 : (List Int)) (x1 : (List Int)) (x2 : Int) : runBody kl9_2.orc Go.Proofs.Try.prog 400 9 4 sh9_4 shb9_4 shr9_4 ((x0, x1, x2, ()), ()) [false] =
    (some (.brk ((), ()), [((!leF (↑(List.length x0) : Int) x2 : Bool), false)])) := by kernel_rfl

theorem ok9_4_t (x0 : (List Int)) (x1 : (List Int)) (x2 : Int) : TrOk (BodyRuns Go.Proofs.Try.prog kl9_2.orc 9 4 sh9_4 shb9_4 shr9_4 ((x0, x1, x2, ()), ())) (t9_4 x0 x1 x2) :=
  TrOk.ofTest (fun h0 => TrOk.ofTest (fun h1 => TrOk.ofTest (fun h2 => TrOk.ofTest (fun h3 => TrOk.ofFin (BodyRuns.of (e9_4_0 x0 x1 x2) (All.cons rfl (All.cons (not_of (of_not (h3))) (All.cons (not_of (of_not (h3))) (All.cons (not_of (of_not (h3))) (All.cons (not_of (of_not (h3))) (All.cons (not_of (of_not (h3))) (All.cons (not_of (of_not (h3))) (All.cons (not_of (of_not (h3))) (All.cons (not_of (of_not (h3))) (All.cons (not_of (of_not (h3))) (All.cons (not_of (of_not (h3))) (All.cons h3 (All.cons h2 (All.cons h1 (All.cons h0 (All.nil)))))))))))))))))) (fun h3 => TrOk.ofTest (fun h6 => TrOk.ofTest (fun h16 => TrOk.ofFin (BodyRuns.of (e9_4_1 x0 x1 x2) (All.cons h16 (All.cons (not_of (of_not (h3))) (All.cons (not_of (of_not (h3))) (All.cons (not_of (of_not (h3))) (All.cons (not_of (of_not (h3))) (All.cons (h1) (All.cons (not_of (of_not (h3))) (All.cons (not_of (of_not (h3))) (All.cons (not_of (of_not (h3))) (All.cons (not_of (of_not (h3))) (All.cons h6 (All.cons (not_of (of_not (h3))) (All.cons (not_of (of_not (h3))) (All.cons h3 (All.cons h2 (All.cons h1 (All.cons h0 (All.nil)))))))))))))))))))) (fun h16 => TrOk.ofFin (BodyRuns.of (e9_4_2 x0 x1 x2) (All.cons h16 (All.cons (not_of (of_not (h3))) (All.cons (not_of (of_not (h3))) (All.cons (not_of (of_not (h3))) (All.cons (not_of (of_not (h3))) (All.cons (h1) (All.cons (not_of (of_not (h3))) (All.cons (not_of (of_not (h3))) (All.cons (not_of (of_not (h3))) (All.cons (not_of (of_not (h3))) (All.cons h6 (All.cons (not_of (of_not (h3))) (All.cons (not_of (of_not (h3))) (All.cons h3 (All.cons h2 (All.cons h1 (All.cons h0 (All.nil))))))))))))))))))))) (fun h6 => TrOk.ofStop))) (fun h2 => TrOk.ofStop)) (fun h1 => TrOk.ofStop)) (fun h0 => TrOk.ofFin (BodyRuns.of (e9_4_5 x0 x1 x2) (All.cons h0 (All.nil))))

theorem ok9_4 : LoopOk Go.Proofs.Try.prog 9 4 lc9_4 := loopOk_of kl9_2_ok.base (T := fun (d : sh9_4.data) => t9_4 d.1.1 d.1.2.1 d.1.2.2.1) (by kernel_rfl) rfl (fun (d : sh9_4.data) => ok9_4_t d.1.1 d.1.2.1 d.1.2.2.1) (fun _ => rfl)
def kl9_4 : Known := kl9_2.loop 9 4 lc9_4
theorem kl9_4_ok : KnownOk Go.Proofs.Try.prog kl9_4 := kl9_2_ok.loop ok9_4

/-! ductility/ductilitylaw02.MotionOpposite -/

abbrev as9 : List Ty := [(.pair (.int .i64) (.pair (.slice (.int .i64)) .unit)), (.pair (.int .i64) (.pair (.int .i64) .unit))]
abbrev rs9 : List Ty := [.bool]

def t9 (x0 : Int) (x0' : (List Int)) (x1 : Int) (x1' : Int) : Tr (Tys.data rs9) :=
  Tr.test (Option.isSome (f29 ((x0, (x0', ())), ())))
    (let r0 : Int × PUnit := g29 ((x0, (x0', ())), ());
    Tr.test ((!eqF r0.fst (0 : Int) : Bool))
      (Tr.fin (((true : Bool), ())))
      (Tr.test (Option.isSome (f58 ((x1, (x1', ())), ())))
        (let r1 : Int × PUnit := g58 ((x1, (x1', ())), ());
        Tr.test ((!eqF r1.fst (0 : Int) : Bool))
          (Tr.fin (((true : Bool), ())))
          (Tr.test ((leF (24 : Int) (↑(List.length x0') : Int) : Bool))
            (Tr.fin (((true : Bool), ())))
            (Tr.test (isBrk (l9_0 ((([] : List Int), ((0 : Int), ())), ((x0, (x0', ())), ((x1, (x1', ())), ())))))
              (let r2 : (List Int × PUnit) × (Int × List Int × PUnit) × (Int × Int × PUnit) × PUnit := b9_0 ((([] : List Int), ((0 : Int), ())), ((x0, (x0', ())), ((x1, (x1', ())), ())));
              Tr.test ((Nat.beq (List.length r2.snd.fst.snd.fst) (0 : Nat) : Bool))
                (Tr.stop)
                (Tr.test ((Nat.ble ((1 : Nat) + List.length r2.snd.fst.snd.fst) (1 : Nat) : Bool))
                  (Tr.stop /- none [op 3 of region 10 of F9] -/)
                  (Tr.test ((Nat.ble (((2 : Nat) * ((1 : Nat) + List.length r2.snd.fst.snd.fst) + (192 : Nat)) * (8 : Nat)) (281474976710656 : Nat) && Nat.ble ((1 : Nat) + List.length r2.snd.fst.snd.fst) (281474976710656 : Nat) : Bool))
                    (Tr.test (Option.isSome (f18 (((r2.snd.fst.fst : Int), ((r2.snd.fst.snd.fst : List Int), ())), ())))
                      (let r3 : (Int × List Int × PUnit) × PUnit := g18 (((r2.snd.fst.fst : Int), ((r2.snd.fst.snd.fst : List Int), ())), ());
                      Tr.test (Option.isSome (f56 (((r3.fst.fst : Int), ((r3.fst.snd.fst : List Int), ())), (((r2.snd.snd.fst.fst : Int), ((r2.snd.snd.fst.snd.fst : Int), ())), ()))))
                        (Tr.test (Option.isSome (f38 (((r2.snd.fst.fst : Int), ((r2.snd.fst.snd.fst : List Int), ())), ((r2.fst.fst : List Int), ()))))
                          (let r5 : (Int × List Int × PUnit) × PUnit := g38 (((r2.snd.fst.fst : Int), ((r2.snd.fst.snd.fst : List Int), ())), ((r2.fst.fst : List Int), ()));
                          Tr.test (Option.isSome (f56 (((r5.fst.fst : Int), ((r5.fst.snd.fst : List Int), ())), (((r2.snd.snd.fst.fst : Int), ((r2.snd.snd.fst.snd.fst : Int), ())), ()))))
                            (Tr.test ((Nat.beq ((1 : Nat) + List.length r2.snd.fst.snd.fst) (0 : Nat) : Bool))
                              (Tr.stop)
                              (Tr.test ((Nat.ble ((0 : Nat) + ((1 : Nat) + List.length r2.snd.fst.snd.fst)) (0 : Nat) : Bool))
                                (Tr.stop /- none [op 2 of region 13 of F9] -/)
                                (Tr.test ((Nat.ble (((2 : Nat) * ((0 : Nat) + ((1 : Nat) + List.length r2.snd.fst.snd.fst)) + (192 : Nat)) * (8 : Nat)) (281474976710656 : Nat) && Nat.ble ((0 : Nat) + ((1 : Nat) + List.length r2.snd.fst.snd.fst)) (281474976710656 : Nat) : Bool))
                                  (Tr.test ((Nat.beq ((1 : Nat) + List.length r2.snd.fst.snd.fst) (List.length ([(0 : Int)] ++ r2.snd.fst.snd.fst)) : Bool))
                                    (Tr.test ((Nat.beq ((0 : Nat) + ((1 : Nat) + List.length r2.snd.fst.snd.fst)) (List.length ([] ++ ([(0 : Int)] ++ r2.snd.fst.snd.fst))) : Bool))
                                      (Tr.test (Option.isSome (f56 (((r2.snd.fst.fst : Int), (([] ++ ([(0 : Int)] ++ r2.snd.fst.snd.fst) : List Int), ())), (((r2.snd.snd.fst.fst : Int), ((r2.snd.snd.fst.snd.fst : Int), ())), ()))))
                                        (Tr.test ((decide ((0 : Int) ≤ (↑(List.length r2.snd.fst.snd.fst) : Int)) && decide ((↑(List.length r2.snd.fst.snd.fst) : Int) ≤ (↑(List.length r2.snd.fst.snd.fst) : Int)) && decide ((8 : Int) * (↑(List.length r2.snd.fst.snd.fst) : Int) ≤ (281474976710656 : Int)) && decide ((↑(List.length r2.snd.fst.snd.fst) : Int) ≤ (281474976710656 : Int)) : Bool))
                                          (Tr.test ((Nat.beq (Int.toNat (↑(List.length r2.snd.fst.snd.fst) : Int)) (0 : Nat) : Bool))
                                            (Tr.stop)
                                            (Tr.test ((Nat.ble ((0 : Nat) + Int.toNat (↑(List.length r2.snd.fst.snd.fst) : Int)) (0 : Nat) : Bool))
                                              (Tr.stop /- none [op 5 of region 14 of F9] -/)
                                              (Tr.test ((Nat.ble (((2 : Nat) * ((0 : Nat) + Int.toNat (↑(List.length r2.snd.fst.snd.fst) : Int)) + (192 : Nat)) * (8 : Nat)) (281474976710656 : Nat) && Nat.ble ((0 : Nat) + Int.toNat (↑(List.length r2.snd.fst.snd.fst) : Int)) (281474976710656 : Nat) : Bool))
                                                (Tr.test ((Nat.beq (Int.toNat (↑(List.length r2.snd.fst.snd.fst) : Int)) (List.length (List.replicate (Int.toNat (↑(List.length r2.snd.fst.snd.fst) : Int)) (0 : Int))) : Bool))
                                                  (Tr.test ((Nat.beq ((0 : Nat) + Int.toNat (↑(List.length r2.snd.fst.snd.fst) : Int)) (List.length ([] ++ List.replicate (Int.toNat (↑(List.length r2.snd.fst.snd.fst) : Int)) (0 : Int))) : Bool))
                                                    (Tr.test (Option.isSome (f56 (((r2.snd.fst.fst : Int), (([] ++ List.replicate (Int.toNat (↑(List.length r2.snd.fst.snd.fst) : Int)) (0 : Int) : List Int), ())), (((r2.snd.snd.fst.fst : Int), ((r2.snd.snd.fst.snd.fst : Int), ())), ()))))
                                                      (let r4 : List Int × Int × PUnit := g56 (((r3.fst.fst : Int), ((r3.fst.snd.fst : List Int), ())), (((r2.snd.snd.fst.fst : Int), ((r2.snd.snd.fst.snd.fst : Int), ())), ()));
                                                      Tr.test ((!eqF r4.snd.fst (0 : Int) : Bool))
                                                        (Tr.fin (((false : Bool), ())))
                                                        (let r6 : List Int × Int × PUnit := g56 (((r5.fst.fst : Int), ((r5.fst.snd.fst : List Int), ())), (((r2.snd.snd.fst.fst : Int), ((r2.snd.snd.fst.snd.fst : Int), ())), ()));
                                                        Tr.test ((!eqF r6.snd.fst (0 : Int) : Bool))
                                                          (Tr.fin (((false : Bool), ())))
                                                          (let r7 : List Int × Int × PUnit := g56 (((r2.snd.fst.fst : Int), (([] ++ ([(0 : Int)] ++ r2.snd.fst.snd.fst) : List Int), ())), (((r2.snd.snd.fst.fst : Int), ((r2.snd.snd.fst.snd.fst : Int), ())), ()));
                                                          Tr.test ((!eqF r7.snd.fst (0 : Int) : Bool))
                                                            (Tr.fin (((false : Bool), ())))
                                                            (let r8 : List Int × Int × PUnit := g56 (((r2.snd.fst.fst : Int), (([] ++ List.replicate (Int.toNat (↑(List.length r2.snd.fst.snd.fst) : Int)) (0 : Int) : List Int), ())), (((r2.snd.snd.fst.fst : Int), ((r2.snd.snd.fst.snd.fst : Int), ())), ()));
                                                            Tr.test ((!eqF r8.snd.fst (0 : Int) : Bool))
                                                              (Tr.fin (((false : Bool), ())))
                                                              (Tr.test ((!eqF (↑(List.length r4.fst) : Int) (↑(List.length r2.snd.fst.snd.fst) : Int) : Bool))
                                                                (Tr.fin (((false : Bool), ())))
                                                                (Tr.test ((!eqF (↑(List.length r6.fst) : Int) (↑(List.length r4.fst) : Int) : Bool))
                                                                  (Tr.fin (((false : Bool), ())))
                                                                  (Tr.test ((!eqF (↑(List.length r7.fst) : Int) (wrap64 ((↑(List.length r4.fst) : Int) + (1 : Int))) : Bool))
                                                                    (Tr.fin (((false : Bool), ())))
                                                                    (Tr.test ((!eqF (↑(List.length r8.fst) : Int) (↑(List.length r4.fst) : Int) : Bool))
                                                                      (Tr.fin (((false : Bool), ())))
                                                                      (Tr.test ((true && decide ((0 : Int) < (↑(List.length r7.fst) : Int)) : Bool))
                                                                        (Tr.test ((!eqF (List.getD r7.fst (0 : Nat) (0 : Int)) (0 : Int) : Bool))
                                                                          (Tr.fin (((false : Bool), ())))
                                                                          (Tr.test (Option.isSome (l9_2 (((r2.fst.fst : List Int), ((r4.fst : List Int), ((r6.fst : List Int), ((r7.fst : List Int), ((r8.fst : List Int), ((0 : Int), ())))))), (((r2.snd.fst.fst : Int), ((r2.snd.fst.snd.fst : List Int), ())), ()))))
                                                                            (Tr.test (isRet (l9_2 (((r2.fst.fst : List Int), ((r4.fst : List Int), ((r6.fst : List Int), ((r7.fst : List Int), ((r8.fst : List Int), ((0 : Int), ())))))), (((r2.snd.fst.fst : Int), ((r2.snd.fst.snd.fst : List Int), ())), ()))))
                                                                              (let r9 : (Bool × PUnit) × (Int × List Int × PUnit) × PUnit := r9_2 (((r2.fst.fst : List Int), ((r4.fst : List Int), ((r6.fst : List Int), ((r7.fst : List Int), ((r8.fst : List Int), ((0 : Int), ())))))), (((r2.snd.fst.fst : Int), ((r2.snd.fst.snd.fst : List Int), ())), ()));
                                                                              Tr.fin (((r9.fst.fst : Bool), ())))
                                                                              (let r10 : (List Int × List Int × PUnit) × (Int × List Int × PUnit) × PUnit := b9_2 (((r2.fst.fst : List Int), ((r4.fst : List Int), ((r6.fst : List Int), ((r7.fst : List Int), ((r8.fst : List Int), ((0 : Int), ())))))), (((r2.snd.fst.fst : Int), ((r2.snd.fst.snd.fst : List Int), ())), ()));
                                                                              Tr.test (Option.isSome (f18 (((r10.snd.fst.fst : Int), ((r10.snd.fst.snd.fst : List Int), ())), ())))
                                                                                (let r11 : (Int × List Int × PUnit) × PUnit := g18 (((r10.snd.fst.fst : Int), ((r10.snd.fst.snd.fst : List Int), ())), ());
                                                                                Tr.test (Option.isSome (f27 (((r11.fst.fst : Int), ((r11.fst.snd.fst : List Int), ())), ())))
                                                                                  (Tr.test (Option.isSome (f38 (((r10.snd.fst.fst : Int), ((r10.snd.fst.snd.fst : List Int), ())), ((r10.fst.fst : List Int), ()))))
                                                                                    (let r13 : (Int × List Int × PUnit) × PUnit := g38 (((r10.snd.fst.fst : Int), ((r10.snd.fst.snd.fst : List Int), ())), ((r10.fst.fst : List Int), ()));
                                                                                    Tr.test (Option.isSome (f27 (((r13.fst.fst : Int), ((r13.fst.snd.fst : List Int), ())), ())))
                                                                                      (Tr.test (Option.isSome (f20 (((r11.fst.fst : Int), ((r11.fst.snd.fst : List Int), ())), ())))
                                                                                        (Tr.test (Option.isSome (f56 (((r11.fst.fst : Int), ((r11.fst.snd.fst : List Int), ())), (((0 : Int), ((0 : Int), ())), ()))))
                                                                                          (let r12 : (Int × Int × Int × PUnit) × Int × PUnit := g27 (((r11.fst.fst : Int), ((r11.fst.snd.fst : List Int), ())), ());
                                                                                          Tr.test ((!eqF r12.snd.fst (0 : Int) : Bool))
                                                                                            (Tr.fin (((false : Bool), ())))
                                                                                            (let r14 : (Int × Int × Int × PUnit) × Int × PUnit := g27 (((r13.fst.fst : Int), ((r13.fst.snd.fst : List Int), ())), ());
                                                                                            Tr.test ((!eqF r14.snd.fst (0 : Int) : Bool))
                                                                                              (Tr.fin (((false : Bool), ())))
                                                                                              (Tr.test ((!(r12.fst.fst == r14.fst.fst && (r12.fst.snd.fst == r14.fst.snd.fst && (r12.fst.snd.snd.fst == r14.fst.snd.snd.fst && true))) : Bool))
                                                                                                (Tr.fin (((false : Bool), ())))
                                                                                                (let r15 : List Int × Int × PUnit := g20 (((r11.fst.fst : Int), ((r11.fst.snd.fst : List Int), ())), ());
                                                                                                Tr.test ((!eqF r15.snd.fst (0 : Int) : Bool))
                                                                                                  (Tr.fin (((false : Bool), ())))
                                                                                                  (let r16 : List Int × Int × PUnit := g56 (((r11.fst.fst : Int), ((r11.fst.snd.fst : List Int), ())), (((0 : Int), ((0 : Int), ())), ()));
                                                                                                  Tr.test ((!eqF r16.snd.fst (0 : Int) : Bool))
                                                                                                    (Tr.fin (((false : Bool), ())))
                                                                                                    (Tr.test ((!eqF (↑(List.length r15.fst) : Int) (↑(List.length r10.fst.snd.fst) : Int) : Bool))
                                                                                                      (Tr.fin (((false : Bool), ())))
                                                                                                      (Tr.test ((!eqF (↑(List.length r16.fst) : Int) (↑(List.length r10.fst.snd.fst) : Int) : Bool))
                                                                                                        (Tr.fin (((false : Bool), ())))
                                                                                                        (Tr.test (Option.isSome (l9_4 (((r15.fst : List Int), ((r16.fst : List Int), ((0 : Int), ()))), ())))
                                                                                                          (Tr.test (isRet (l9_4 (((r15.fst : List Int), ((r16.fst : List Int), ((0 : Int), ()))), ())))
                                                                                                            (let r17 : (Bool × PUnit) × PUnit := r9_4 (((r15.fst : List Int), ((r16.fst : List Int), ((0 : Int), ()))), ());
                                                                                                            Tr.fin (((r17.fst.fst : Bool), ())))
                                                                                                            (Tr.fin (((true : Bool), ()))))
                                                                                                          (Tr.stop)))))))))
                                                                                          (Tr.stop))
                                                                                        (Tr.stop))
                                                                                      (Tr.stop))
                                                                                    (Tr.stop))
                                                                                  (Tr.stop))
                                                                                (Tr.stop)))
                                                                            (Tr.stop)))
                                                                        (Tr.stop /- none [op 46 of region 15 of F9] -/))))))))))
                                                      (Tr.stop))
                                                    (Tr.stop))
                                                  (Tr.stop))
                                                (Tr.stop /- none [op 5 of region 14 of F9] -/))))
                                          (Tr.stop /- none [op 4 of region 14 of F9] -/))
                                        (Tr.stop))
                                      (Tr.stop))
                                    (Tr.stop))
                                  (Tr.stop /- none [op 2 of region 13 of F9] -/))))
                            (Tr.stop))
                          (Tr.stop))
                        (Tr.stop))
                      (Tr.stop))
                    (Tr.stop /- none [op 3 of region 10 of F9] -/))))
              (Tr.stop))))
        (Tr.stop)))
    (Tr.stop)

def f9 (d : Tys.data as9) : Option (Tys.data rs9) := (t9 d.1.1 d.1.2.1 d.2.1.1 d.2.1.2.1).val
def g9 (d : Tys.data as9) : Tys.data rs9 := (f9 d).getD (Tys.dflt rs9)
def p9 : PureC := pcOf as9 rs9 f9 g9

theorem e9_0 (x0 : Int) (x0' : (List Int)) (x1 : Int) (x1' : Int) : runPure kl9_4.orc Go.Proofs.Try.prog 400 9 as9 rs9 ((x0, x0', ()), (x1, x1', ()), ()) [true, false, true, true, true, true, true, true, true, true, true, true, true] =
    (let r0 : Int × PUnit := g29 ((x0, (x0', ())), ()); some (((true : Bool), ()), [((true : Bool), true), ((true : Bool), true), ((true : Bool), true), ((true : Bool), true), ((true : Bool), true), ((true : Bool), true), ((!eqF r0.fst (0 : Int) : Bool), true), ((!eqF r0.fst (0 : Int) : Bool), true), ((!eqF r0.fst (0 : Int) : Bool), true), ((!eqF r0.fst (0 : Int) : Bool), true), (Option.isSome (f29 ((x0, (x0', ())), ())), true), ((false : Bool), false), ((true : Bool), true)])) := by kernel_rfl
theorem e9_1 (x0 : Int) (x0' : (List Int)) (x1 : Int) (x1' : Int) : runPure kl9_4.orc Go.Proofs.Try.prog 400 9 as9 rs9 ((x0, x0', ()), (x1, x1', ()), ()) [true, false, true, false, false, true, false, false, true, true, true, true, true, true] =
    (let r0 : Int × PUnit := g29 ((x0, (x0', ())), ()); let r1 : Int × PUnit := g58 ((x1, (x1', ())), ()); some (((true : Bool), ()), [((true : Bool), true), ((!eqF r1.fst (0 : Int) : Bool), true), ((!eqF r1.fst (0 : Int) : Bool), true), ((!eqF r1.fst (0 : Int) : Bool), true), ((!eqF r1.fst (0 : Int) : Bool), true), ((!eqF r1.fst (0 : Int) : Bool), true), ((!eqF r0.fst (0 : Int) : Bool), false), ((!eqF r0.fst (0 : Int) : Bool), false), (Option.isSome (f58 ((x1, (x1', ())), ())), true), ((!eqF r0.fst (0 : Int) : Bool), false), ((!eqF r0.fst (0 : Int) : Bool), false), (Option.isSome (f29 ((x0, (x0', ())), ())), true), ((false : Bool), false), ((true : Bool), true)])) := by kernel_rfl
theorem e9_2 (x0 : Int) (x0' : (List Int)) (x1 : Int) (x1' : Int) : runPure kl9_4.orc Go.Proofs.Try.prog 400 9 as9 rs9 ((x0, x0', ()), (x1, x1', ()), ()) [true, false, true, false, false, true, false, false, false, false, false, false, false, true] =
    (let r0 : Int × PUnit := g29 ((x0, (x0', ())), ()); let r1 : Int × PUnit := g58 ((x1, (x1', ())), ()); some (((true : Bool), ()), [((leF (24 : Int) (↑(List.length x0') : Int) : Bool), true), ((!eqF r1.fst (0 : Int) : Bool), false), ((!eqF r1.fst (0 : Int) : Bool), false), ((!eqF r1.fst (0 : Int) : Bool), false), ((!eqF r1.fst (0 : Int) : Bool), false), ((!eqF r1.fst (0 : Int) : Bool), false), ((!eqF r0.fst (0 : Int) : Bool), false), ((!eqF r0.fst (0 : Int) : Bool), false), (Option.isSome (f58 ((x1, (x1', ())), ())), true), ((!eqF r0.fst (0 : Int) : Bool), false), ((!eqF r0.fst (0 : Int) : Bool), false), (Option.isSome (f29 ((x0, (x0', ())), ())), true), ((false : Bool), false), ((true : Bool), true)])) := by kernel_rfl
theorem e9_6 (x0 : Int) (x0' : (List Int)) (x1 : Int) (x1' : Int) : runPure kl9_4.orc Go.Proofs.Try.prog 400 9 as9 rs9 ((x0, x0', ()), (x1, x1', ()), ()) [true, false, true, false, false, true, false, false, false, false, false, false, false, false, true, true, false, false, true, true, true, true, true, true, false, false, true, true, true, true, true, true, false, false, true, true, true, true, true, true, true, true, true, true, true, true, true, true, true, true, true, true, true, true, true, true, true, true, true, true, true, true, true, true, true, true, true, true, true, true, true, true, true, true, true, true, true, true, true, true] =
    (let r0 : Int × PUnit := g29 ((x0, (x0', ())), ()); let r1 : Int × PUnit := g58 ((x1, (x1', ())), ()); let r2 : (List Int × PUnit) × (Int × List Int × PUnit) × (Int × Int × PUnit) × PUnit := b9_0 ((([] : List Int), ((0 : Int), ())), ((x0, (x0', ())), ((x1, (x1', ())), ()))); let r3 : (Int × List Int × PUnit) × PUnit := g18 (((r2.snd.fst.fst : Int), ((r2.snd.fst.snd.fst : List Int), ())), ()); let r5 : (Int × List Int × PUnit) × PUnit := g38 (((r2.snd.fst.fst : Int), ((r2.snd.fst.snd.fst : List Int), ())), ((r2.fst.fst : List Int), ())); let r4 : List Int × Int × PUnit := g56 (((r3.fst.fst : Int), ((r3.fst.snd.fst : List Int), ())), (((r2.snd.snd.fst.fst : Int), ((r2.snd.snd.fst.snd.fst : Int), ())), ())); some (((false : Bool), ()), [((true : Bool), true), ((true : Bool), true), ((true : Bool), true), ((true : Bool), true), ((true : Bool), true), ((true : Bool), true), ((true : Bool), true), ((true : Bool), true), ((true : Bool), true), ((true : Bool), true), ((true : Bool), true), ((true : Bool), true), ((true : Bool), true), ((true : Bool), true), ((true : Bool), true), ((true : Bool), true), ((true : Bool), true), ((true : Bool), true), ((true : Bool), true), ((true : Bool), true), ((true : Bool), true), ((true : Bool), true), ((true : Bool), true), ((true : Bool), true), ((true : Bool), true), ((true : Bool), true), ((true : Bool), true), ((true : Bool), true), ((true : Bool), true), ((true : Bool), true), ((true : Bool), true), ((true : Bool), true), ((true : Bool), true), ((true : Bool), true), ((true : Bool), true), ((true : Bool), true), ((true : Bool), true), ((true : Bool), true), ((!eqF r4.snd.fst (0 : Int) : Bool), true), ((!eqF r4.snd.fst (0 : Int) : Bool), true), ((!eqF r4.snd.fst (0 : Int) : Bool), true), (Option.isSome (f56 (((r2.snd.fst.fst : Int), (([] ++ List.replicate (Int.toNat (↑(List.length r2.snd.fst.snd.fst) : Int)) (0 : Int) : List Int), ())), (((r2.snd.snd.fst.fst : Int), ((r2.snd.snd.fst.snd.fst : Int), ())), ()))), true), ((Nat.beq ((0 : Nat) + Int.toNat (↑(List.length r2.snd.fst.snd.fst) : Int)) (List.length ([] ++ List.replicate (Int.toNat (↑(List.length r2.snd.fst.snd.fst) : Int)) (0 : Int))) : Bool), true), ((Nat.beq (Int.toNat (↑(List.length r2.snd.fst.snd.fst) : Int)) (List.length (List.replicate (Int.toNat (↑(List.length r2.snd.fst.snd.fst) : Int)) (0 : Int))) : Bool), true), ((true : Bool), true), ((Nat.ble (((2 : Nat) * ((0 : Nat) + Int.toNat (↑(List.length r2.snd.fst.snd.fst) : Int)) + (192 : Nat)) * (8 : Nat)) (281474976710656 : Nat) && Nat.ble ((0 : Nat) + Int.toNat (↑(List.length r2.snd.fst.snd.fst) : Int)) (281474976710656 : Nat) : Bool), true), ((Nat.ble ((0 : Nat) + Int.toNat (↑(List.length r2.snd.fst.snd.fst) : Int)) (0 : Nat) : Bool), false), ((Nat.beq (Int.toNat (↑(List.length r2.snd.fst.snd.fst) : Int)) (0 : Nat) : Bool), false), ((decide ((0 : Int) ≤ (↑(List.length r2.snd.fst.snd.fst) : Int)) && decide ((↑(List.length r2.snd.fst.snd.fst) : Int) ≤ (↑(List.length r2.snd.fst.snd.fst) : Int)) && decide ((8 : Int) * (↑(List.length r2.snd.fst.snd.fst) : Int) ≤ (281474976710656 : Int)) && decide ((↑(List.length r2.snd.fst.snd.fst) : Int) ≤ (281474976710656 : Int)) : Bool), true), (Option.isSome (f56 (((r2.snd.fst.fst : Int), (([] ++ ([(0 : Int)] ++ r2.snd.fst.snd.fst) : List Int), ())), (((r2.snd.snd.fst.fst : Int), ((r2.snd.snd.fst.snd.fst : Int), ())), ()))), true), ((Nat.beq ((0 : Nat) + ((1 : Nat) + List.length r2.snd.fst.snd.fst)) (List.length ([] ++ ([(0 : Int)] ++ r2.snd.fst.snd.fst))) : Bool), true), ((Nat.beq ((1 : Nat) + List.length r2.snd.fst.snd.fst) (List.length ([(0 : Int)] ++ r2.snd.fst.snd.fst)) : Bool), true), ((true : Bool), true), ((Nat.ble (((2 : Nat) * ((0 : Nat) + ((1 : Nat) + List.length r2.snd.fst.snd.fst)) + (192 : Nat)) * (8 : Nat)) (281474976710656 : Nat) && Nat.ble ((0 : Nat) + ((1 : Nat) + List.length r2.snd.fst.snd.fst)) (281474976710656 : Nat) : Bool), true), ((Nat.ble ((0 : Nat) + ((1 : Nat) + List.length r2.snd.fst.snd.fst)) (0 : Nat) : Bool), false), ((Nat.beq ((1 : Nat) + List.length r2.snd.fst.snd.fst) (0 : Nat) : Bool), false), (Option.isSome (f56 (((r5.fst.fst : Int), ((r5.fst.snd.fst : List Int), ())), (((r2.snd.snd.fst.fst : Int), ((r2.snd.snd.fst.snd.fst : Int), ())), ()))), true), (Option.isSome (f38 (((r2.snd.fst.fst : Int), ((r2.snd.fst.snd.fst : List Int), ())), ((r2.fst.fst : List Int), ()))), true), (Option.isSome (f56 (((r3.fst.fst : Int), ((r3.fst.snd.fst : List Int), ())), (((r2.snd.snd.fst.fst : Int), ((r2.snd.snd.fst.snd.fst : Int), ())), ()))), true), (Option.isSome (f18 (((r2.snd.fst.fst : Int), ((r2.snd.fst.snd.fst : List Int), ())), ())), true), ((true : Bool), true), ((Nat.ble (((2 : Nat) * ((1 : Nat) + List.length r2.snd.fst.snd.fst) + (192 : Nat)) * (8 : Nat)) (281474976710656 : Nat) && Nat.ble ((1 : Nat) + List.length r2.snd.fst.snd.fst) (281474976710656 : Nat) : Bool), true), ((Nat.ble ((1 : Nat) + List.length r2.snd.fst.snd.fst) (1 : Nat) : Bool), false), ((Nat.beq (List.length r2.snd.fst.snd.fst) (0 : Nat) : Bool), false), ((true : Bool), true), (isBrk (l9_0 ((([] : List Int), ((0 : Int), ())), ((x0, (x0', ())), ((x1, (x1', ())), ())))), true), ((leF (24 : Int) (↑(List.length x0') : Int) : Bool), false), ((!eqF r1.fst (0 : Int) : Bool), false), ((!eqF r1.fst (0 : Int) : Bool), false), ((!eqF r1.fst (0 : Int) : Bool), false), ((!eqF r1.fst (0 : Int) : Bool), false), ((!eqF r1.fst (0 : Int) : Bool), false), ((!eqF r0.fst (0 : Int) : Bool), false), ((!eqF r0.fst (0 : Int) : Bool), false), (Option.isSome (f58 ((x1, (x1', ())), ())), true), ((!eqF r0.fst (0 : Int) : Bool), false), ((!eqF r0.fst (0 : Int) : Bool), false), (Option.isSome (f29 ((x0, (x0', ())), ())), true), ((false : Bool), false), ((true : Bool), true)])) := by kernel_rfl
theorem e9_7 (x0 : Int) (x0' : (List Int)) (x1 : Int) (x1' : Int) : runPure kl9_4.orc Go.Proofs.Try.prog 400 9 as9 rs9 ((x0, x0', ()), (x1, x1', ()), ()) [true, false, true, false, false, true, false, false, false, false, false, false, false, false, true, true, false, false, true, true, true, true, true, true, false, false, true, true, true, true, true, true, false, false, true, true, true, true, true, false, false, false, true, true, true, true, true, true, true, true, true, true, true, true, true, true, true, true, true, true, true, true, true, true, true, true, true, true, true, true, true, true, true, true, true, true, true, true, true, true] =
    (let r0 : Int × PUnit := g29 ((x0, (x0', ())), ()); let r1 : Int × PUnit := g58 ((x1, (x1', ())), ()); let r2 : (List Int × PUnit) × (Int × List Int × PUnit) × (Int × Int × PUnit) × PUnit := b9_0 ((([] : List Int), ((0 : Int), ())), ((x0, (x0', ())), ((x1, (x1', ())), ()))); let r3 : (Int × List Int × PUnit) × PUnit := g18 (((r2.snd.fst.fst : Int), ((r2.snd.fst.snd.fst : List Int), ())), ()); let r5 : (Int × List Int × PUnit) × PUnit := g38 (((r2.snd.fst.fst : Int), ((r2.snd.fst.snd.fst : List Int), ())), ((r2.fst.fst : List Int), ())); let r4 : List Int × Int × PUnit := g56 (((r3.fst.fst : Int), ((r3.fst.snd.fst : List Int), ())), (((r2.snd.snd.fst.fst : Int), ((r2.snd.snd.fst.snd.fst : Int), ())), ())); let r6 : List Int × Int × PUnit := g56 (((r5.fst.fst : Int), ((r5.fst.snd.fst : List Int), ())), (((r2.snd.snd.fst.fst : Int), ((r2.snd.snd.fst.snd.fst : Int), ())), ())); some (((false : Bool), ()), [((true : Bool), true), ((true : Bool), true), ((true : Bool), true), ((true : Bool), true), ((true : Bool), true), ((true : Bool), true), ((true : Bool), true), ((true : Bool), true), ((true : Bool), true), ((true : Bool), true), ((true : Bool), true), ((true : Bool), true), ((true : Bool), true), ((true : Bool), true), ((true : Bool), true), ((true : Bool), true), ((true : Bool), true), ((true : Bool), true), ((true : Bool), true), ((true : Bool), true), ((true : Bool), true), ((true : Bool), true), ((true : Bool), true), ((true : Bool), true), ((true : Bool), true), ((true : Bool), true), ((true : Bool), true), ((true : Bool), true), ((true : Bool), true), ((true : Bool), true), ((true : Bool), true), ((true : Bool), true), ((true : Bool), true), ((true : Bool), true), ((true : Bool), true), ((!eqF r6.snd.fst (0 : Int) : Bool), true), ((!eqF r6.snd.fst (0 : Int) : Bool), true), ((!eqF r6.snd.fst (0 : Int) : Bool), true), ((!eqF r4.snd.fst (0 : Int) : Bool), false), ((!eqF r4.snd.fst (0 : Int) : Bool), false), ((!eqF r4.snd.fst (0 : Int) : Bool), false), (Option.isSome (f56 (((r2.snd.fst.fst : Int), (([] ++ List.replicate (Int.toNat (↑(List.length r2.snd.fst.snd.fst) : Int)) (0 : Int) : List Int), ())), (((r2.snd.snd.fst.fst : Int), ((r2.snd.snd.fst.snd.fst : Int), ())), ()))), true), ((Nat.beq ((0 : Nat) + Int.toNat (↑(List.length r2.snd.fst.snd.fst) : Int)) (List.length ([] ++ List.replicate (Int.toNat (↑(List.length r2.snd.fst.snd.fst) : Int)) (0 : Int))) : Bool), true), ((Nat.beq (Int.toNat (↑(List.length r2.snd.fst.snd.fst) : Int)) (List.length (List.replicate (Int.toNat (↑(List.length r2.snd.fst.snd.fst) : Int)) (0 : Int))) : Bool), true), ((true : Bool), true), ((Nat.ble (((2 : Nat) * ((0 : Nat) + Int.toNat (↑(List.length r2.snd.fst.snd.fst) : Int)) + (192 : Nat)) * (8 : Nat)) (281474976710656 : Nat) && Nat.ble ((0 : Nat) + Int.toNat (↑(List.length r2.snd.fst.snd.fst) : Int)) (281474976710656 : Nat) : Bool), true), ((Nat.ble ((0 : Nat) + Int.toNat (↑(List.length r2.snd.fst.snd.fst) : Int)) (0 : Nat) : Bool), false), ((Nat.beq (Int.toNat (↑(List.length r2.snd.fst.snd.fst) : Int)) (0 : Nat) : Bool), false), ((decide ((0 : Int) ≤ (↑(List.length r2.snd.fst.snd.fst) : Int)) && decide ((↑(List.length r2.snd.fst.snd.fst) : Int) ≤ (↑(List.length r2.snd.fst.snd.fst) : Int)) && decide ((8 : Int) * (↑(List.length r2.snd.fst.snd.fst) : Int) ≤ (281474976710656 : Int)) && decide ((↑(List.length r2.snd.fst.snd.fst) : Int) ≤ (281474976710656 : Int)) : Bool), true), (Option.isSome (f56 (((r2.snd.fst.fst : Int), (([] ++ ([(0 : Int)] ++ r2.snd.fst.snd.fst) : List Int), ())), (((r2.snd.snd.fst.fst : Int), ((r2.snd.snd.fst.snd.fst : Int), ())), ()))), true), ((Nat.beq ((0 : Nat) + ((1 : Nat) + List.length r2.snd.fst.snd.fst)) (List.length ([] ++ ([(0 : Int)] ++ r2.snd.fst.snd.fst))) : Bool), true), ((Nat.beq ((1 : Nat) + List.length r2.snd.fst.snd.fst) (List.length ([(0 : Int)] ++ r2.snd.fst.snd.fst)) : Bool), true), ((true : Bool), true), ((Nat.ble (((2 : Nat) * ((0 : Nat) + ((1 : Nat) + List.length r2.snd.fst.snd.fst)) + (192 : Nat)) * (8 : Nat)) (281474976710656 : Nat) && Nat.ble ((0 : Nat) + ((1 : Nat) + List.length r2.snd.fst.snd.fst)) (281474976710656 : Nat) : Bool), true), ((Nat.ble ((0 : Nat) + ((1 : Nat) + List.length r2.snd.fst.snd.fst)) (0 : Nat) : Bool), false), ((Nat.beq ((1 : Nat) + List.length r2.snd.fst.snd.fst) (0 : Nat) : Bool), false), (Option.isSome (f56 (((r5.fst.fst : Int), ((r5.fst.snd.fst : List Int), ())), (((r2.snd.snd.fst.fst : Int), ((r2.snd.snd.fst.snd.fst : Int), ())), ()))), true), (Option.isSome (f38 (((r2.snd.fst.fst : Int), ((r2.snd.fst.snd.fst : List Int), ())), ((r2.fst.fst : List Int), ()))), true), (Option.isSome (f56 (((r3.fst.fst : Int), ((r3.fst.snd.fst : List Int), ())), (((r2.snd.snd.fst.fst : Int), ((r2.snd.snd.fst.snd.fst : Int), ())), ()))), true), (Option.isSome (f18 (((r2.snd.fst.fst : Int), ((r2.snd.fst.snd.fst : List Int), ())), ())), true), ((true : Bool), true), ((Nat.ble (((2 : Nat) * ((1 : Nat) + List.length r2.snd.fst.snd.fst) + (192 : Nat)) * (8 : Nat)) (281474976710656 : Nat) && Nat.ble ((1 : Nat) + List.length r2.snd.fst.snd.fst) (281474976710656 : Nat) : Bool), true), ((Nat.ble ((1 : Nat) + List.length r2.snd.fst.snd.fst) (1 : Nat) : Bool), false), ((Nat.beq (List.length r2.snd.fst.snd.fst) (0 : Nat) : Bool), false), ((true : Bool), true), (isBrk (l9_0 ((([] : List Int), ((0 : Int), ())), ((x0, (x0', ())), ((x1, (x1', ())), ())))), true), ((leF (24 : Int) (↑(List.length x0') : Int) : Bool), false), ((!eqF r1.fst (0 : Int) : Bool), false), ((!eqF r1.fst (0 : Int) : Bool), false), ((!eqF r1.fst (0 : Int) : Bool), false), ((!eqF r1.fst (0 : Int) : Bool), false), ((!eqF r1.fst (0 : Int) : Bool), false), ((!eqF r0.fst (0 : Int) : Bool), false), ((!eqF r0.fst (0 : Int) : Bool), false), (Option.isSome (f58 ((x1, (x1', ())), ())), true), ((!eqF r0.fst (0 : Int) : Bool), false), ((!eqF r0.fst (0 : Int) : Bool), false), (Option.isSome (f29 ((x0, (x0', ())), ())), true), ((false : Bool), false), ((true : Bool), true)])) := by kernel_rfl
theorem e9_8 (x0 : Int) (x0' : (List Int)) (x1 : Int) (x1' : Int) : runPure kl9_4.orc Go.Proofs.Try.prog 400 9 as9 rs9 ((x0, x0', ()), (x1, x1', ()), ()) [true, false, true, false, false, true, false, false, false, false, false, false, false, false, true, true, false, false, true, true, true, true, true, true, false, false, true, true, true, true, true, true, false, false, true, true, true, true, true, false, false, false, false, false, false, true, true, true, true, true, true, true, true, true, true, true, true, true, true, true, true, true, true, true, true, true, true, true, true, true, true, true, true, true, true, true, true, true, true, true] =
    (let r0 : Int × PUnit := g29 ((x0, (x0', ())), ()); let r1 : Int × PUnit := g58 ((x1, (x1', ())), ()); let r2 : (List Int × PUnit) × (Int × List Int × PUnit) × (Int × Int × PUnit) × PUnit := b9_0 ((([] : List Int), ((0 : Int), ())), ((x0, (x0', ())), ((x1, (x1', ())), ()))); let r3 : (Int × List Int × PUnit) × PUnit := g18 (((r2.snd.fst.fst : Int), ((r2.snd.fst.snd.fst : List Int), ())), ()); let r5 : (Int × List Int × PUnit) × PUnit := g38 (((r2.snd.fst.fst : Int), ((r2.snd.fst.snd.fst : List Int), ())), ((r2.fst.fst : List Int), ())); let r4 : List Int × Int × PUnit := g56 (((r3.fst.fst : Int), ((r3.fst.snd.fst : List Int), ())), (((r2.snd.snd.fst.fst : Int), ((r2.snd.snd.fst.snd.fst : Int), ())), ())); let r6 : List Int × Int × PUnit := g56 (((r5.fst.fst : Int), ((r5.fst.snd.fst : List Int), ())), (((r2.snd.snd.fst.fst : Int), ((r2.snd.snd.fst.snd.fst : Int), ())), ())); let r7 : List Int × Int × PUnit := g56 (((r2.snd.fst.fst : Int), (([] ++ ([(0 : Int)] ++ r2.snd.fst.snd.fst) : List Int), ())), (((r2.snd.snd.fst.fst : Int), ((r2.snd.snd.fst.snd.fst : Int), ())), ())); some (((false : Bool), ()), [((true : Bool), true), ((true : Bool), true), ((true : Bool), true), ((true : Bool), true), ((true : Bool), true), ((true : Bool), true), ((true : Bool), true), ((true : Bool), true), ((true : Bool), true), ((true : Bool), true), ((true : Bool), true), ((true : Bool), true), ((true : Bool), true), ((true : Bool), true), ((true : Bool), true), ((true : Bool), true), ((true : Bool), true), ((true : Bool), true), ((true : Bool), true), ((true : Bool), true), ((true : Bool), true), ((true : Bool), true), ((true : Bool), true), ((true : Bool), true), ((true : Bool), true), ((true : Bool), true), ((true : Bool), true), ((true : Bool), true), ((true : Bool), true), ((true : Bool), true), ((true : Bool), true), ((true : Bool), true), ((!eqF r7.snd.fst (0 : Int) : Bool), true), ((!eqF r7.snd.fst (0 : Int) : Bool), true), ((!eqF r7.snd.fst (0 : Int) : Bool), true), ((!eqF r6.snd.fst (0 : Int) : Bool), false), ((!eqF r6.snd.fst (0 : Int) : Bool), false), ((!eqF r6.snd.fst (0 : Int) : Bool), false), ((!eqF r4.snd.fst (0 : Int) : Bool), false), ((!eqF r4.snd.fst (0 : Int) : Bool), false), ((!eqF r4.snd.fst (0 : Int) : Bool), false), (Option.isSome (f56 (((r2.snd.fst.fst : Int), (([] ++ List.replicate (Int.toNat (↑(List.length r2.snd.fst.snd.fst) : Int)) (0 : Int) : List Int), ())), (((r2.snd.snd.fst.fst : Int), ((r2.snd.snd.fst.snd.fst : Int), ())), ()))), true), ((Nat.beq ((0 : Nat) + Int.toNat (↑(List.length r2.snd.fst.snd.fst) : Int)) (List.length ([] ++ List.replicate (Int.toNat (↑(List.length r2.snd.fst.snd.fst) : Int)) (0 : Int))) : Bool), true), ((Nat.beq (Int.toNat (↑(List.length r2.snd.fst.snd.fst) : Int)) (List.length (List.replicate (Int.toNat (↑(List.length r2.snd.fst.snd.fst) : Int)) (0 : Int))) : Bool), true), ((true : Bool), true), ((Nat.ble (((2 : Nat) * ((0 : Nat) + Int.toNat (↑(List.length r2.snd.fst.snd.fst) : Int)) + (192 : Nat)) * (8 : Nat)) (281474976710656 : Nat) && Nat.ble ((0 : Nat) + Int.toNat (↑(List.length r2.snd.fst.snd.fst) : Int)) (281474976710656 : Nat) : Bool), true), ((Nat.ble ((0 : Nat) + Int.toNat (↑(List.length r2.snd.fst.snd.fst) : Int)) (0 : Nat) : Bool), false), ((Nat.beq (Int.toNat (↑(List.length r2.snd.fst.snd.fst) : Int)) (0 : Nat) : Bool), false), ((decide ((0 : Int) ≤ (↑(List.length r2.snd.fst.snd.fst) : Int)) && decide ((↑(List.length r2.snd.fst.snd.fst) : Int) ≤ (↑(List.length r2.snd.fst.snd.fst) : Int)) && decide ((8 : Int) * (↑(List.length r2.snd.fst.snd.fst) : Int) ≤ (281474976710656 : Int)) && decide ((↑(List.length r2.snd.fst.snd.fst) : Int) ≤ (281474976710656 : Int)) : Bool), true), (Option.isSome (f56 (((r2.snd.fst.fst : Int), (([] ++ ([(0 : Int)] ++ r2.snd.fst.snd.fst) : List Int), ())), (((r2.snd.snd.fst.fst : Int), ((r2.snd.snd.fst.snd.fst : Int), ())), ()))), true), ((Nat.beq ((0 : Nat) + ((1 : Nat) + List.length r2.snd.fst.snd.fst)) (List.length ([] ++ ([(0 : Int)] ++ r2.snd.fst.snd.fst))) : Bool), true), ((Nat.beq ((1 : Nat) + List.length r2.snd.fst.snd.fst) (List.length ([(0 : Int)] ++ r2.snd.fst.snd.fst)) : Bool), true), ((true : Bool), true), ((Nat.ble (((2 : Nat) * ((0 : Nat) + ((1 : Nat) + List.length r2.snd.fst.snd.fst)) + (192 : Nat)) * (8 : Nat)) (281474976710656 : Nat) && Nat.ble ((0 : Nat) + ((1 : Nat) + List.length r2.snd.fst.snd.fst)) (281474976710656 : Nat) : Bool), true), ((Nat.ble ((0 : Nat) + ((1 : Nat) + List.length r2.snd.fst.snd.fst)) (0 : Nat) : Bool), false), ((Nat.beq ((1 : Nat) + List.length r2.snd.fst.snd.fst) (0 : Nat) : Bool), false), (Option.isSome (f56 (((r5.fst.fst : Int), ((r5.fst.snd.fst : List Int), ())), (((r2.snd.snd.fst.fst : Int), ((r2.snd.snd.fst.snd.fst : Int), ())), ()))), true), (Option.isSome (f38 (((r2.snd.fst.fst : Int), ((r2.snd.fst.snd.fst : List Int), ())), ((r2.fst.fst : List Int), ()))), true), (Option.isSome (f56 (((r3.fst.fst : Int), ((r3.fst.snd.fst : List Int), ())), (((r2.snd.snd.fst.fst : Int), ((r2.snd.snd.fst.snd.fst : Int), ())), ()))), true), (Option.isSome (f18 (((r2.snd.fst.fst : Int), ((r2.snd.fst.snd.fst : List Int), ())), ())), true), ((true : Bool), true), ((Nat.ble (((2 : Nat) * ((1 : Nat) + List.length r2.snd.fst.snd.fst) + (192 : Nat)) * (8 : Nat)) (281474976710656 : Nat) && Nat.ble ((1 : Nat) + List.length r2.snd.fst.snd.fst) (281474976710656 : Nat) : Bool), true), ((Nat.ble ((1 : Nat) + List.length r2.snd.fst.snd.fst) (1 : Nat) : Bool), false), ((Nat.beq (List.length r2.snd.fst.snd.fst) (0 : Nat) : Bool), false), ((true : Bool), true), (isBrk (l9_0 ((([] : List Int), ((0 : Int), ())), ((x0, (x0', ())), ((x1, (x1', ())), ())))), true), ((leF (24 : Int) (↑(List.length x0') : Int) : Bool), false), ((!eqF r1.fst (0 : Int) : Bool), false), ((!eqF r1.fst (0 : Int) : Bool), false), ((!eqF r1.fst (0 : Int) : Bool), false), ((!eqF r1.fst (0 : Int) : Bool), false), ((!eqF r1.fst (0 : Int) : Bool), false), ((!eqF r0.fst (0 : Int) : Bool), false), ((!eqF r0.fst (0 : Int) : Bool), false), (Option.isSome (f58 ((x1, (x1', ())), ())), true), ((!eqF r0.fst (0 : Int) : Bool), false), ((!eqF r0.fst (0 : Int) : Bool), false), (Option.isSome (f29 ((x0, (x0', ())), ())), true), ((false : Bool), false), ((true : Bool), true)])) := by kernel_rfl
theorem e9_9 (x0 : Int) (x0' : (List Int)) (x1 : Int) (x1' : Int) : runPure kl9_4.orc Go.Proofs.Try.prog 400 9 as9 rs9 ((x0, x0', ()), (x1, x1', ()), ()) [true, false, true, false, false, true, false, false, false, false, false, false, false, false, true, true, false, false, true, true, true, true, true, true, false, false, true, true, true, true, true, true, false, false, true, true, true, true, true, false, false, false, false, false, false, false, false, false, true, true, true, true, true, true, true, true, true, true, true, true, true, true, true, true, true, true, true, true, true, true, true, true, true, true, true, true, true, true, true, true] =
    (let r0 : Int × PUnit := g29 ((x0, (x0', ())), ()); let r1 : Int × PUnit := g58 ((x1, (x1', ())), ()); let r2 : (List Int × PUnit) × (Int × List Int × PUnit) × (Int × Int × PUnit) × PUnit := b9_0 ((([] : List Int), ((0 : Int), ())), ((x0, (x0', ())), ((x1, (x1', ())), ()))); let r3 : (Int × List Int × PUnit) × PUnit := g18 (((r2.snd.fst.fst : Int), ((r2.snd.fst.snd.fst : List Int), ())), ()); let r5 : (Int × List Int × PUnit) × PUnit := g38 (((r2.snd.fst.fst : Int), ((r2.snd.fst.snd.fst : List Int), ())), ((r2.fst.fst : List Int), ())); let r4 : List Int × Int × PUnit := g56 (((r3.fst.fst : Int), ((r3.fst.snd.fst : List Int), ())), (((r2.snd.snd.fst.fst : Int), ((r2.snd.snd.fst.snd.fst : Int), ())), ())); let r6 : List Int × Int × PUnit := g56 (((r5.fst.fst : Int), ((r5.fst.snd.fst : List Int), ())), (((r2.snd.snd.fst.fst : Int), ((r2.snd.snd.fst.snd.fst : Int), ())), ())); let r7 : List Int × Int × PUnit := g56 (((r2.snd.fst.fst : Int), (([] ++ ([(0 : Int)] ++ r2.snd.fst.snd.fst) : List Int), ())), (((r2.snd.snd.fst.fst : Int), ((r2.snd.snd.fst.snd.fst : Int), ())), ())); let r8 : List Int × Int × PUnit := g56 (((r2.snd.fst.fst : Int), (([] ++ List.replicate (Int.toNat (↑(List.length r2.snd.fst.snd.fst) : Int)) (0 : Int) : List Int), ())), (((r2.snd.snd.fst.fst : Int), ((r2.snd.snd.fst.snd.fst : Int), ())), ())); some (((false : Bool), ()), [((true : Bool), true), ((true : Bool), true), ((true : Bool), true), ((true : Bool), true), ((true : Bool), true), ((true : Bool), true), ((true : Bool), true), ((true : Bool), true), ((true : Bool), true), ((true : Bool), true), ((true : Bool), true), ((true : Bool), true), ((true : Bool), true), ((true : Bool), true), ((true : Bool), true), ((true : Bool), true), ((true : Bool), true), ((true : Bool), true), ((true : Bool), true), ((true : Bool), true), ((true : Bool), true), ((true : Bool), true), ((true : Bool), true), ((true : Bool), true), ((true : Bool), true), ((!eqF r8.snd.fst (0 : Int) : Bool), true), ((!eqF r8.snd.fst (0 : Int) : Bool), true), ((!eqF r8.snd.fst (0 : Int) : Bool), true), ((!eqF r8.snd.fst (0 : Int) : Bool), true), ((!eqF r8.snd.fst (0 : Int) : Bool), true), ((!eqF r8.snd.fst (0 : Int) : Bool), true), ((!eqF r8.snd.fst (0 : Int) : Bool), true), ((!eqF r7.snd.fst (0 : Int) : Bool), false), ((!eqF r7.snd.fst (0 : Int) : Bool), false), ((!eqF r7.snd.fst (0 : Int) : Bool), false), ((!eqF r6.snd.fst (0 : Int) : Bool), false), ((!eqF r6.snd.fst (0 : Int) : Bool), false), ((!eqF r6.snd.fst (0 : Int) : Bool), false), ((!eqF r4.snd.fst (0 : Int) : Bool), false), ((!eqF r4.snd.fst (0 : Int) : Bool), false), ((!eqF r4.snd.fst (0 : Int) : Bool), false), (Option.isSome (f56 (((r2.snd.fst.fst : Int), (([] ++ List.replicate (Int.toNat (↑(List.length r2.snd.fst.snd.fst) : Int)) (0 : Int) : List Int), ())), (((r2.snd.snd.fst.fst : Int), ((r2.snd.snd.fst.snd.fst : Int), ())), ()))), true), ((Nat.beq ((0 : Nat) + Int.toNat (↑(List.length r2.snd.fst.snd.fst) : Int)) (List.length ([] ++ List.replicate (Int.toNat (↑(List.length r2.snd.fst.snd.fst) : Int)) (0 : Int))) : Bool), true), ((Nat.beq (Int.toNat (↑(List.length r2.snd.fst.snd.fst) : Int)) (List.length (List.replicate (Int.toNat (↑(List.length r2.snd.fst.snd.fst) : Int)) (0 : Int))) : Bool), true), ((true : Bool), true), ((Nat.ble (((2 : Nat) * ((0 : Nat) + Int.toNat (↑(List.length r2.snd.fst.snd.fst) : Int)) + (192 : Nat)) * (8 : Nat)) (281474976710656 : Nat) && Nat.ble ((0 : Nat) + Int.toNat (↑(List.length r2.snd.fst.snd.fst) : Int)) (281474976710656 : Nat) : Bool), true), ((Nat.ble ((0 : Nat) + Int.toNat (↑(List.length r2.snd.fst.snd.fst) : Int)) (0 : Nat) : Bool), false), ((Nat.beq (Int.toNat (↑(List.length r2.snd.fst.snd.fst) : Int)) (0 : Nat) : Bool), false), ((decide ((0 : Int) ≤ (↑(List.length r2.snd.fst.snd.fst) : Int)) && decide ((↑(List.length r2.snd.fst.snd.fst) : Int) ≤ (↑(List.length r2.snd.fst.snd.fst) : Int)) && decide ((8 : Int) * (↑(List.length r2.snd.fst.snd.fst) : Int) ≤ (281474976710656 : Int)) && decide ((↑(List.length r2.snd.fst.snd.fst) : Int) ≤ (281474976710656 : Int)) : Bool), true), (Option.isSome (f56 (((r2.snd.fst.fst : Int), (([] ++ ([(0 : Int)] ++ r2.snd.fst.snd.fst) : List Int), ())), (((r2.snd.snd.fst.fst : Int), ((r2.snd.snd.fst.snd.fst : Int), ())), ()))), true), ((Nat.beq ((0 : Nat) + ((1 : Nat) + List.length r2.snd.fst.snd.fst)) (List.length ([] ++ ([(0 : Int)] ++ r2.snd.fst.snd.fst))) : Bool), true), ((Nat.beq ((1 : Nat) + List.length r2.snd.fst.snd.fst) (List.length ([(0 : Int)] ++ r2.snd.fst.snd.fst)) : Bool), true), ((true : Bool), true), ((Nat.ble (((2 : Nat) * ((0 : Nat) + ((1 : Nat) + List.length r2.snd.fst.snd.fst)) + (192 : Nat)) * (8 : Nat)) (281474976710656 : Nat) && Nat.ble ((0 : Nat) + ((1 : Nat) + List.length r2.snd.fst.snd.fst)) (281474976710656 : Nat) : Bool), true), ((Nat.ble ((0 : Nat) + ((1 : Nat) + List.length r2.snd.fst.snd.fst)) (0 : Nat) : Bool), false), ((Nat.beq ((1 : Nat) + List.length r2.snd.fst.snd.fst) (0 : Nat) : Bool), false), (Option.isSome (f56 (((r5.fst.fst : Int), ((r5.fst.snd.fst : List Int), ())), (((r2.snd.snd.fst.fst : Int), ((r2.snd.snd.fst.snd.fst : Int), ())), ()))), true), (Option.isSome (f38 (((r2.snd.fst.fst : Int), ((r2.snd.fst.snd.fst : List Int), ())), ((r2.fst.fst : List Int), ()))), true), (Option.isSome (f56 (((r3.fst.fst : Int), ((r3.fst.snd.fst : List Int), ())), (((r2.snd.snd.fst.fst : Int), ((r2.snd.snd.fst.snd.fst : Int), ())), ()))), true), (Option.isSome (f18 (((r2.snd.fst.fst : Int), ((r2.snd.fst.snd.fst : List Int), ())), ())), true), ((true : Bool), true), ((Nat.ble (((2 : Nat) * ((1 : Nat) + List.length r2.snd.fst.snd.fst) + (192 : Nat)) * (8 : Nat)) (281474976710656 : Nat) && Nat.ble ((1 : Nat) + List.length r2.snd.fst.snd.fst) (281474976710656 : Nat) : Bool), true), ((Nat.ble ((1 : Nat) + List.length r2.snd.fst.snd.fst) (1 : Nat) : Bool), false), ((Nat.beq (List.length r2.snd.fst.snd.fst) (0 : Nat) : Bool), false), ((true : Bool), true), (isBrk (l9_0 ((([] : List Int), ((0 : Int), ())), ((x0, (x0', ())), ((x1, (x1', ())), ())))), true), ((leF (24 : Int) (↑(List.length x0') : Int) : Bool), false), ((!eqF r1.fst (0 : Int) : Bool), false), ((!eqF r1.fst (0 : Int) : Bool), false), ((!eqF r1.fst (0 : Int) : Bool), false), ((!eqF r1.fst (0 : Int) : Bool), false), ((!eqF r1.fst (0 : Int) : Bool), false), ((!eqF r0.fst (0 : Int) : Bool), false), ((!eqF r0.fst (0 : Int) : Bool), false), (Option.isSome (f58 ((x1, (x1', ())), ())), true), ((!eqF r0.fst (0 : Int) : Bool), false), ((!eqF r0.fst (0 : Int) : Bool), false), (Option.isSome (f29 ((x0, (x0', ())), ())), true), ((false : Bool), false), ((true : Bool), true)])) := by kernel_rfl
theorem e9_10 (x0 : Int) (x0' : (List Int)) (x1 : Int) (x1' : Int) : runPure kl9_4.orc Go.Proofs.Try.prog 400 9 as9 rs9 ((x0, x0', ()), (x1, x1', ()), ()) [true, false, true, false, false, true, false, false, false, false, false, false, false, false, true, true, false, false, true, true, true, true, true, true, false, false, true, true, true, true, true, true, false, false, true, true, true, true, true, false, false, false, false, false, false, false, false, false, false, false, false, false, false, false, false, true, true, true, true, true, true, true, true, true, true, true, true, true, true, true, true, true, true, true, true, true, true, true, true, true] =
    (let r0 : Int × PUnit := g29 ((x0, (x0', ())), ()); let r1 : Int × PUnit := g58 ((x1, (x1', ())), ()); let r2 : (List Int × PUnit) × (Int × List Int × PUnit) × (Int × Int × PUnit) × PUnit := b9_0 ((([] : List Int), ((0 : Int), ())), ((x0, (x0', ())), ((x1, (x1', ())), ()))); let r3 : (Int × List Int × PUnit) × PUnit := g18 (((r2.snd.fst.fst : Int), ((r2.snd.fst.snd.fst : List Int), ())), ()); let r5 : (Int × List Int × PUnit) × PUnit := g38 (((r2.snd.fst.fst : Int), ((r2.snd.fst.snd.fst : List Int), ())), ((r2.fst.fst : List Int), ())); let r4 : List Int × Int × PUnit := g56 (((r3.fst.fst : Int), ((r3.fst.snd.fst : List Int), ())), (((r2.snd.snd.fst.fst : Int), ((r2.snd.snd.fst.snd.fst : Int), ())), ())); let r6 : List Int × Int × PUnit := g56 (((r5.fst.fst : Int), ((r5.fst.snd.fst : List Int), ())), (((r2.snd.snd.fst.fst : Int), ((r2.snd.snd.fst.snd.fst : Int), ())), ())); let r7 : List Int × Int × PUnit := g56 (((r2.snd.fst.fst : Int), (([] ++ ([(0 : Int)] ++ r2.snd.fst.snd.fst) : List Int), ())), (((r2.snd.snd.fst.fst : Int), ((r2.snd.snd.fst.snd.fst : Int), ())), ())); let r8 : List Int × Int × PUnit := g56 (((r2.snd.fst.fst : Int), (([] ++ List.replicate (Int.toNat (↑(List.length r2.snd.fst.snd.fst) : Int)) (0 : Int) : List Int), ())), (((r2.snd.snd.fst.fst : Int), ((r2.snd.snd.fst.snd.fst : Int), ())), ())); some (((false : Bool), ()), [((true : Bool), true), ((true : Bool), true), ((true : Bool), true), ((true : Bool), true), ((true : Bool), true), ((true : Bool), true), ((true : Bool), true), ((true : Bool), true), ((true : Bool), true), ((true : Bool), true), ((true : Bool), true), ((true : Bool), true), ((true : Bool), true), ((true : Bool), true), ((true : Bool), true), ((true : Bool), true), ((true : Bool), true), ((true : Bool), true), ((true : Bool), true), ((!eqF (↑(List.length r4.fst) : Int) (↑(List.length r2.snd.fst.snd.fst) : Int) : Bool), true), ((!eqF (↑(List.length r4.fst) : Int) (↑(List.length r2.snd.fst.snd.fst) : Int) : Bool), true), ((!eqF (↑(List.length r4.fst) : Int) (↑(List.length r2.snd.fst.snd.fst) : Int) : Bool), true), ((!eqF (↑(List.length r4.fst) : Int) (↑(List.length r2.snd.fst.snd.fst) : Int) : Bool), true), ((!eqF (↑(List.length r4.fst) : Int) (↑(List.length r2.snd.fst.snd.fst) : Int) : Bool), true), ((!eqF (↑(List.length r4.fst) : Int) (↑(List.length r2.snd.fst.snd.fst) : Int) : Bool), true), ((!eqF r8.snd.fst (0 : Int) : Bool), false), ((!eqF r8.snd.fst (0 : Int) : Bool), false), ((!eqF r8.snd.fst (0 : Int) : Bool), false), ((!eqF r8.snd.fst (0 : Int) : Bool), false), ((!eqF r8.snd.fst (0 : Int) : Bool), false), ((!eqF r8.snd.fst (0 : Int) : Bool), false), ((!eqF r8.snd.fst (0 : Int) : Bool), false), ((!eqF r7.snd.fst (0 : Int) : Bool), false), ((!eqF r7.snd.fst (0 : Int) : Bool), false), ((!eqF r7.snd.fst (0 : Int) : Bool), false), ((!eqF r6.snd.fst (0 : Int) : Bool), false), ((!eqF r6.snd.fst (0 : Int) : Bool), false), ((!eqF r6.snd.fst (0 : Int) : Bool), false), ((!eqF r4.snd.fst (0 : Int) : Bool), false), ((!eqF r4.snd.fst (0 : Int) : Bool), false), ((!eqF r4.snd.fst (0 : Int) : Bool), false), (Option.isSome (f56 (((r2.snd.fst.fst : Int), (([] ++ List.replicate (Int.toNat (↑(List.length r2.snd.fst.snd.fst) : Int)) (0 : Int) : List Int), ())), (((r2.snd.snd.fst.fst : Int), ((r2.snd.snd.fst.snd.fst : Int), ())), ()))), true), ((Nat.beq ((0 : Nat) + Int.toNat (↑(List.length r2.snd.fst.snd.fst) : Int)) (List.length ([] ++ List.replicate (Int.toNat (↑(List.length r2.snd.fst.snd.fst) : Int)) (0 : Int))) : Bool), true), ((Nat.beq (Int.toNat (↑(List.length r2.snd.fst.snd.fst) : Int)) (List.length (List.replicate (Int.toNat (↑(List.length r2.snd.fst.snd.fst) : Int)) (0 : Int))) : Bool), true), ((true : Bool), true), ((Nat.ble (((2 : Nat) * ((0 : Nat) + Int.toNat (↑(List.length r2.snd.fst.snd.fst) : Int)) + (192 : Nat)) * (8 : Nat)) (281474976710656 : Nat) && Nat.ble ((0 : Nat) + Int.toNat (↑(List.length r2.snd.fst.snd.fst) : Int)) (281474976710656 : Nat) : Bool), true), ((Nat.ble ((0 : Nat) + Int.toNat (↑(List.length r2.snd.fst.snd.fst) : Int)) (0 : Nat) : Bool), false), ((Nat.beq (Int.toNat (↑(List.length r2.snd.fst.snd.fst) : Int)) (0 : Nat) : Bool), false), ((decide ((0 : Int) ≤ (↑(List.length r2.snd.fst.snd.fst) : Int)) && decide ((↑(List.length r2.snd.fst.snd.fst) : Int) ≤ (↑(List.length r2.snd.fst.snd.fst) : Int)) && decide ((8 : Int) * (↑(List.length r2.snd.fst.snd.fst) : Int) ≤ (281474976710656 : Int)) && decide ((↑(List.length r2.snd.fst.snd.fst) : Int) ≤ (281474976710656 : Int)) : Bool), true), (Option.isSome (f56 (((r2.snd.fst.fst : Int), (([] ++ ([(0 : Int)] ++ r2.snd.fst.snd.fst) : List Int), ())), (((r2.snd.snd.fst.fst : Int), ((r2.snd.snd.fst.snd.fst : Int), ())), ()))), true), ((Nat.beq ((0 : Nat) + ((1 : Nat) + List.length r2.snd.fst.snd.fst)) (List.length ([] ++ ([(0 : Int)] ++ r2.snd.fst.snd.fst))) : Bool), true), ((Nat.beq ((1 : Nat) + List.length r2.snd.fst.snd.fst) (List.length ([(0 : Int)] ++ r2.snd.fst.snd.fst)) : Bool), true), ((true : Bool), true), ((Nat.ble (((2 : Nat) * ((0 : Nat) + ((1 : Nat) + List.length r2.snd.fst.snd.fst)) + (192 : Nat)) * (8 : Nat)) (281474976710656 : Nat) && Nat.ble ((0 : Nat) + ((1 : Nat) + List.length r2.snd.fst.snd.fst)) (281474976710656 : Nat) : Bool), true), ((Nat.ble ((0 : Nat) + ((1 : Nat) + List.length r2.snd.fst.snd.fst)) (0 : Nat) : Bool), false), ((Nat.beq ((1 : Nat) + List.length r2.snd.fst.snd.fst) (0 : Nat) : Bool), false), (Option.isSome (f56 (((r5.fst.fst : Int), ((r5.fst.snd.fst : List Int), ())), (((r2.snd.snd.fst.fst : Int), ((r2.snd.snd.fst.snd.fst : Int), ())), ()))), true), (Option.isSome (f38 (((r2.snd.fst.fst : Int), ((r2.snd.fst.snd.fst : List Int), ())), ((r2.fst.fst : List Int), ()))), true), (Option.isSome (f56 (((r3.fst.fst : Int), ((r3.fst.snd.fst : List Int), ())), (((r2.snd.snd.fst.fst : Int), ((r2.snd.snd.fst.snd.fst : Int), ())), ()))), true), (Option.isSome (f18 (((r2.snd.fst.fst : Int), ((r2.snd.fst.snd.fst : List Int), ())), ())), true), ((true : Bool), true), ((Nat.ble (((2 : Nat) * ((1 : Nat) + List.length r2.snd.fst.snd.fst) + (192 : Nat)) * (8 : Nat)) (281474976710656 : Nat) && Nat.ble ((1 : Nat) + List.length r2.snd.fst.snd.fst) (281474976710656 : Nat) : Bool), true), ((Nat.ble ((1 : Nat) + List.length r2.snd.fst.snd.fst) (1 : Nat) : Bool), false), ((Nat.beq (List.length r2.snd.fst.snd.fst) (0 : Nat) : Bool), false), ((true : Bool), true), (isBrk (l9_0 ((([] : List Int), ((0 : Int), ())), ((x0, (x0', ())), ((x1, (x1', ())), ())))), true), ((leF (24 : Int) (↑(List.length x0') : Int) : Bool), false), ((!eqF r1.fst (0 : Int) : Bool), false), ((!eqF r1.fst (0 : Int) : Bool), false), ((!eqF r1.fst (0 : Int) : Bool), false), ((!eqF r1.fst (0 : Int) : Bool), false), ((!eqF r1.fst (0 : Int) : Bool), false), ((!eqF r0.fst (0 : Int) : Bool), false), ((!eqF r0.fst (0 : Int) : Bool), false), (Option.isSome (f58 ((x1, (x1', ())), ())), true), ((!eqF r0.fst (0 : Int) : Bool), false), ((!eqF r0.fst (0 : Int) : Bool), false), (Option.isSome (f29 ((x0, (x0', ())), ())), true), ((false : Bool), false), ((true : Bool), true)])) := by kernel_rfl
theorem e9_11 (x0 : Int) (x0' : (List Int)) (x1 : Int) (x1' : Int) : runPure kl9_4.orc Go.Proofs.Try.prog 400 9 as9 rs9 ((x0, x0', ()), (x1, x1', ()), ()) [true, false, true, false, false, true, false, false, false, false, false, false, false, false, true, true, false, false, true, true, true, true, true, true, false, false, true, true, true, true, true, true, false, false, true, true, true, true, true, false, false, false, false, false, false, false, false, false, false, false, false, false, false, false, false, false, false, false, false, false, false, true, true, true, true, true, true, true, true, true, true, true, true, true, true, true, true, true, true, true] =
    (let r0 : Int × PUnit := g29 ((x0, (x0', ())), ()); let r1 : Int × PUnit := g58 ((x1, (x1', ())), ()); let r2 : (List Int × PUnit) × (Int × List Int × PUnit) × (Int × Int × PUnit) × PUnit := b9_0 ((([] : List Int), ((0 : Int), ())), ((x0, (x0', ())), ((x1, (x1', ())), ()))); let r3 : (Int × List Int × PUnit) × PUnit := g18 (((r2.snd.fst.fst : Int), ((r2.snd.fst.snd.fst : List Int), ())), ()); let r5 : (Int × List Int × PUnit) × PUnit := g38 (((r2.snd.fst.fst : Int), ((r2.snd.fst.snd.fst : List Int), ())), ((r2.fst.fst : List Int), ())); let r4 : List Int × Int × PUnit := g56 (((r3.fst.fst : Int), ((r3.fst.snd.fst : List Int), ())), (((r2.snd.snd.fst.fst : Int), ((r2.snd.snd.fst.snd.fst : Int), ())), ())); let r6 : List Int × Int × PUnit := g56 (((r5.fst.fst : Int), ((r5.fst.snd.fst : List Int), ())), (((r2.snd.snd.fst.fst : Int), ((r2.snd.snd.fst.snd.fst : Int), ())), ())); let r7 : List Int × Int × PUnit := g56 (((r2.snd.fst.fst : Int), (([] ++ ([(0 : Int)] ++ r2.snd.fst.snd.fst) : List Int), ())), (((r2.snd.snd.fst.fst : Int), ((r2.snd.snd.fst.snd.fst : Int), ())), ())); let r8 : List Int × Int × PUnit := g56 (((r2.snd.fst.fst : Int), (([] ++ List.replicate (Int.toNat (↑(List.length r2.snd.fst.snd.fst) : Int)) (0 : Int) : List Int), ())), (((r2.snd.snd.fst.fst : Int), ((r2.snd.snd.fst.snd.fst : Int), ())), ())); some (((false : Bool), ()), [((true : Bool), true), ((true : Bool), true), ((true : Bool), true), ((true : Bool), true), ((true : Bool), true), ((true : Bool), true), ((true : Bool), true), ((true : Bool), true), ((true : Bool), true), ((true : Bool), true), ((true : Bool), true), ((true : Bool), true), ((!eqF (↑(List.length r6.fst) : Int) (↑(List.length r4.fst) : Int) : Bool), true), ((!eqF (↑(List.length r6.fst) : Int) (↑(List.length r4.fst) : Int) : Bool), true), ((!eqF (↑(List.length r6.fst) : Int) (↑(List.length r4.fst) : Int) : Bool), true), ((!eqF (↑(List.length r6.fst) : Int) (↑(List.length r4.fst) : Int) : Bool), true), ((!eqF (↑(List.length r6.fst) : Int) (↑(List.length r4.fst) : Int) : Bool), true), ((!eqF (↑(List.length r6.fst) : Int) (↑(List.length r4.fst) : Int) : Bool), true), ((!eqF (↑(List.length r6.fst) : Int) (↑(List.length r4.fst) : Int) : Bool), true), ((!eqF (↑(List.length r4.fst) : Int) (↑(List.length r2.snd.fst.snd.fst) : Int) : Bool), false), ((!eqF (↑(List.length r4.fst) : Int) (↑(List.length r2.snd.fst.snd.fst) : Int) : Bool), false), ((!eqF (↑(List.length r4.fst) : Int) (↑(List.length r2.snd.fst.snd.fst) : Int) : Bool), false), ((!eqF (↑(List.length r4.fst) : Int) (↑(List.length r2.snd.fst.snd.fst) : Int) : Bool), false), ((!eqF (↑(List.length r4.fst) : Int) (↑(List.length r2.snd.fst.snd.fst) : Int) : Bool), false), ((!eqF (↑(List.length r4.fst) : Int) (↑(List.length r2.snd.fst.snd.fst) : Int) : Bool), false), ((!eqF r8.snd.fst (0 : Int) : Bool), false), ((!eqF r8.snd.fst (0 : Int) : Bool), false), ((!eqF r8.snd.fst (0 : Int) : Bool), false), ((!eqF r8.snd.fst (0 : Int) : Bool), false), ((!eqF r8.snd.fst (0 : Int) : Bool), false), ((!eqF r8.snd.fst (0 : Int) : Bool), false), ((!eqF r8.snd.fst (0 : Int) : Bool), false), ((!eqF r7.snd.fst (0 : Int) : Bool), false), ((!eqF r7.snd.fst (0 : Int) : Bool), false), ((!eqF r7.snd.fst (0 : Int) : Bool), false), ((!eqF r6.snd.fst (0 : Int) : Bool), false), ((!eqF r6.snd.fst (0 : Int) : Bool), false), ((!eqF r6.snd.fst (0 : Int) : Bool), false), ((!eqF r4.snd.fst (0 : Int) : Bool), false), ((!eqF r4.snd.fst (0 : Int) : Bool), false), ((!eqF r4.snd.fst (0 : Int) : Bool), false), (Option.isSome (f56 (((r2.snd.fst.fst : Int), (([] ++ List.replicate (Int.toNat (↑(List.length r2.snd.fst.snd.fst) : Int)) (0 : Int) : List Int), ())), (((r2.snd.snd.fst.fst : Int), ((r2.snd.snd.fst.snd.fst : Int), ())), ()))), true), ((Nat.beq ((0 : Nat) + Int.toNat (↑(List.length r2.snd.fst.snd.fst) : Int)) (List.length ([] ++ List.replicate (Int.toNat (↑(List.length r2.snd.fst.snd.fst) : Int)) (0 : Int))) : Bool), true), ((Nat.beq (Int.toNat (↑(List.length r2.snd.fst.snd.fst) : Int)) (List.length (List.replicate (Int.toNat (↑(List.length r2.snd.fst.snd.fst) : Int)) (0 : Int))) : Bool), true), ((true : Bool), true), ((Nat.ble (((2 : Nat) * ((0 : Nat) + Int.toNat (↑(List.length r2.snd.fst.snd.fst) : Int)) + (192 : Nat)) * (8 : Nat)) (281474976710656 : Nat) && Nat.ble ((0 : Nat) + Int.toNat (↑(List.length r2.snd.fst.snd.fst) : Int)) (281474976710656 : Nat) : Bool), true), ((Nat.ble ((0 : Nat) + Int.toNat (↑(List.length r2.snd.fst.snd.fst) : Int)) (0 : Nat) : Bool), false), ((Nat.beq (Int.toNat (↑(List.length r2.snd.fst.snd.fst) : Int)) (0 : Nat) : Bool), false), ((decide ((0 : Int) ≤ (↑(List.length r2.snd.fst.snd.fst) : Int)) && decide ((↑(List.length r2.snd.fst.snd.fst) : Int) ≤ (↑(List.length r2.snd.fst.snd.fst) : Int)) && decide ((8 : Int) * (↑(List.length r2.snd.fst.snd.fst) : Int) ≤ (281474976710656 : Int)) && decide ((↑(List.length r2.snd.fst.snd.fst) : Int) ≤ (281474976710656 : Int)) : Bool), true), (Option.isSome (f56 (((r2.snd.fst.fst : Int), (([] ++ ([(0 : Int)] ++ r2.snd.fst.snd.fst) : List Int), ())), (((r2.snd.snd.fst.fst : Int), ((r2.snd.snd.fst.snd.fst : Int), ())), ()))), true), ((Nat.beq ((0 : Nat) + ((1 : Nat) + List.length r2.snd.fst.snd.fst)) (List.length ([] ++ ([(0 : Int)] ++ r2.snd.fst.snd.fst))) : Bool), true), ((Nat.beq ((1 : Nat) + List.length r2.snd.fst.snd.fst) (List.length ([(0 : Int)] ++ r2.snd.fst.snd.fst)) : Bool), true), ((true : Bool), true), ((Nat.ble (((2 : Nat) * ((0 : Nat) + ((1 : Nat) + List.length r2.snd.fst.snd.fst)) + (192 : Nat)) * (8 : Nat)) (281474976710656 : Nat) && Nat.ble ((0 : Nat) + ((1 : Nat) + List.length r2.snd.fst.snd.fst)) (281474976710656 : Nat) : Bool), true), ((Nat.ble ((0 : Nat) + ((1 : Nat) + List.length r2.snd.fst.snd.fst)) (0 : Nat) : Bool), false), ((Nat.beq ((1 : Nat) + List.length r2.snd.fst.snd.fst) (0 : Nat) : Bool), false), (Option.isSome (f56 (((r5.fst.fst : Int), ((r5.fst.snd.fst : List Int), ())), (((r2.snd.snd.fst.fst : Int), ((r2.snd.snd.fst.snd.fst : Int), ())), ()))), true), (Option.isSome (f38 (((r2.snd.fst.fst : Int), ((r2.snd.fst.snd.fst : List Int), ())), ((r2.fst.fst : List Int), ()))), true), (Option.isSome (f56 (((r3.fst.fst : Int), ((r3.fst.snd.fst : List Int), ())), (((r2.snd.snd.fst.fst : Int), ((r2.snd.snd.fst.snd.fst : Int), ())), ()))), true), (Option.isSome (f18 (((r2.snd.fst.fst : Int), ((r2.snd.fst.snd.fst : List Int), ())), ())), true), ((true : Bool), true), ((Nat.ble (((2 : Nat) * ((1 : Nat) + List.length r2.snd.fst.snd.fst) + (192 : Nat)) * (8 : Nat)) (281474976710656 : Nat) && Nat.ble ((1 : Nat) + List.length r2.snd.fst.snd.fst) (281474976710656 : Nat) : Bool), true), ((Nat.ble ((1 : Nat) + List.length r2.snd.fst.snd.fst) (1 : Nat) : Bool), false), ((Nat.beq (List.length r2.snd.fst.snd.fst) (0 : Nat) : Bool), false), ((true : Bool), true), (isBrk (l9_0 ((([] : List Int), ((0 : Int), ())), ((x0, (x0', ())), ((x1, (x1', ())), ())))), true), ((leF (24 : Int) (↑(List.length x0') : Int) : Bool), false), ((!eqF r1.fst (0 : Int) : Bool), false), ((!eqF r1.fst (0 : Int) : Bool), false), ((!eqF r1.fst (0 : Int) : Bool), false), ((!eqF r1.fst (0 : Int) : Bool), false), ((!eqF r1.fst (0 : Int) : Bool), false), ((!eqF r0.fst (0 : Int) : Bool), false), ((!eqF r0.fst (0 : Int) : Bool), false), (Option.isSome (f58 ((x1, (x1', ())), ())), true), ((!eqF r0.fst (0 : Int) : Bool), false), ((!eqF r0.fst (0 : Int) : Bool), false), (Option.isSome (f29 ((x0, (x0', ())), ())), true), ((false : Bool), false), ((true : Bool), true)])) := by kernel_rfl

end Go.Vm.Mo
