import Derived.Test.YtappjfcejjmdeaaA3
import Derived.KernelRfl
import Derived.Test.YtappjfcejjmdeaaProg
set_option linter.unusedVariables false
set_option linter.unusedSimpArgs false

namespace Go.Vm.Mo
open Go
set_option linter.unusedVariables false

def kn0 : Known := ⟨[], []⟩

theorem plainP : Plain Go.Proofs.Try.prog := by
  have h : (Go.Proofs.Try.prog.funcs.toList.all fun fn => !(fn.body.isSome && fn.name == "runtime.NumGoroutine")) = true := by kernel_rfl
  intro f fn hf hb
  have hm : fn ∈ Go.Proofs.Try.prog.funcs.toList := by
    have := Array.getElem?_eq_some_iff.1 hf
    obtain ⟨hlt, rfl⟩ := this
    simp
  have := List.all_eq_true.1 h fn hm
  rw [hb] at this
  simpa using this

theorem kn0_ok : KnownOk Go.Proofs.Try.prog kn0 := ⟨plainP, by kernel_rfl, (fun _ h => by cases h), (fun _ h => by cases h)⟩

/-! ductility/ductilitylaw02.awake -/

abbrev as15 : List Ty := []
abbrev rs15 : List Ty := [.bool]
def f15 (_ : Tys.data as15) : Option (Tys.data rs15) := some (true, ())
def g15 (_ : Tys.data as15) : Tys.data rs15 := (true, ())
def p15 : PureC := pcOf as15 rs15 f15 g15

theorem e15 : runAsk kn0.orc Go.Proofs.Try.prog 400 15 as15 rs15 () none = some ((true, ()), []) := by kernel_rfl
theorem ok15 : PureOk Go.Proofs.Try.prog 15 p15 := pureOk_closed kn0_ok.base (by kernel_rfl) e15 All.nil
def kf15 : Known := kn0.func 15 p15
theorem kf15_ok : KnownOk Go.Proofs.Try.prog kf15 := kn0_ok.func ok15

/-! ductility/ductilitybase.Within -/

abbrev as47 : List Ty := [(.int .i64), (.int .i64), (.int .i64)]
abbrev rs47 : List Ty := [.bool]

def t47 (x0 : Int) (x1 : Int) (x2 : Int) : Tr (Tys.data rs47) :=
  Tr.test ((leF x1 x0 : Bool))
    (Tr.fin (((leF x0 x2 : Bool), ())))
    (Tr.fin (((false : Bool), ())))

def f47 (d : Tys.data as47) : Option (Tys.data rs47) := (t47 d.1 d.2.1 d.2.2.1).val
def g47 (d : Tys.data as47) : Tys.data rs47 := (f47 d).getD (Tys.dflt rs47)
def p47 : PureC := pcOf as47 rs47 f47 g47

theorem e47_0 (x0 : Int) (x1 : Int) (x2 : Int) : runPure kf15.orc Go.Proofs.Try.prog 400 47 as47 rs47 (x0, x1, x2, ()) [true, true, true, true] =
    (some (((leF x0 x2 : Bool), ()), [((leF x1 x0 : Bool), true), ((leF x1 x0 : Bool), true), ((leF x1 x0 : Bool), true), ((leF x1 x0 : Bool), true)])) := by kernel_rfl
theorem e47_1 (x0 : Int) (x1 : Int) (x2 : Int) : runPure kf15.orc Go.Proofs.Try.prog 400 47 as47 rs47 (x0, x1, x2, ()) [false, false, false, false] =
    (some (((false : Bool), ()), [((leF x1 x0 : Bool), false), ((leF x1 x0 : Bool), false), ((leF x1 x0 : Bool), false), ((leF x1 x0 : Bool), false)])) := by kernel_rfl

theorem ok47_t (x0 : Int) (x1 : Int) (x2 : Int) : TrOk (PureRuns Go.Proofs.Try.prog kf15.orc 47 as47 rs47 (x0, x1, x2, ())) (t47 x0 x1 x2) :=
  TrOk.ofTest (fun h0 => TrOk.ofFin (PureRuns.of (e47_0 x0 x1 x2) (All.cons (h0) (All.cons (h0) (All.cons (h0) (All.cons h0 (All.nil))))))) (fun h0 => TrOk.ofFin (PureRuns.of (e47_1 x0 x1 x2) (All.cons (h0) (All.cons (h0) (All.cons (h0) (All.cons h0 (All.nil)))))))

theorem ok47 : PureOk Go.Proofs.Try.prog 47 p47 := pureOk_of kf15_ok.base (T := fun (d : Tys.data as47) => t47 d.1 d.2.1 d.2.2.1) (by kernel_rfl) (fun (d : Tys.data as47) => ok47_t d.1 d.2.1 d.2.2.1)
def kf47 : Known := kf15.func 47 p47
theorem kf47_ok : KnownOk Go.Proofs.Try.prog kf47 := kf15_ok.func ok47

/-! ductility/ductilityref02.IsSample -/

abbrev as54 : List Ty := [(.int .i64)]
abbrev rs54 : List Ty := [.bool]

def t54 (x0 : Int) : Tr (Tys.data rs54) :=
  Tr.test (Option.isSome (f47 (x0, ((-1000 : Int), ((1000 : Int), ())))))
    (let r0 : Bool × PUnit := g47 (x0, ((-1000 : Int), ((1000 : Int), ())));
    Tr.fin (((r0.fst : Bool), ())))
    (Tr.stop)

def f54 (d : Tys.data as54) : Option (Tys.data rs54) := (t54 d.1).val
def g54 (d : Tys.data as54) : Tys.data rs54 := (f54 d).getD (Tys.dflt rs54)
def p54 : PureC := pcOf as54 rs54 f54 g54

theorem e54_0 (x0 : Int) : runPure kf47.orc Go.Proofs.Try.prog 400 54 as54 rs54 (x0, ()) [true] =
    (let r0 : Bool × PUnit := g47 (x0, ((-1000 : Int), ((1000 : Int), ()))); some (((r0.fst : Bool), ()), [(Option.isSome (f47 (x0, ((-1000 : Int), ((1000 : Int), ())))), true)])) := by kernel_rfl

theorem ok54_t (x0 : Int) : TrOk (PureRuns Go.Proofs.Try.prog kf47.orc 54 as54 rs54 (x0, ())) (t54 x0) :=
  TrOk.ofTest (fun h0 => TrOk.ofFin (PureRuns.of (e54_0 x0) (All.cons h0 (All.nil)))) (fun h0 => TrOk.ofStop)

theorem ok54 : PureOk Go.Proofs.Try.prog 54 p54 := pureOk_of kf47_ok.base (T := fun (d : Tys.data as54) => t54 d.1) (by kernel_rfl) (fun (d : Tys.data as54) => ok54_t d.1)
def kf54 : Known := kf47.func 54 p54
theorem kf54_ok : KnownOk Go.Proofs.Try.prog kf54 := kf47_ok.func ok54

/-! loop 2 of ductility/ductilityref02.Added -/

abbrev sh75_2 : Sh := { n := 59, slots := [1, 2, 8, 9, 10], pats := [.ty (.slice (.slice (.int .i64))), .ty (.slice (.int .i64)), .slu 0 1, .ty (.int .i64), .ty (.int .i64)], boxes := [.arr (.int .i64)] }
abbrev shb75_2 : Sh := { n := 59, slots := [1, 2, 8, 9], pats := [.ty (.slice (.slice (.int .i64))), .ty (.slice (.int .i64)), .slu 0 1, .ty (.int .i64)], boxes := [.arr (.int .i64)] }
abbrev shr75_2 : Sh := { n := 59, slots := [], pats := [], boxes := [.arr (.int .i64)] }

def t75_2 (x0 : (List (List Int))) (x1 : (List Int)) (x2n : Nat) (x3 : Int) (x4 : Int) (b0 : (List Int)) : Tr (Out sh75_2.data shb75_2.data shr75_2.data) :=
  Tr.test ((!leF (↑x2n : Int) x4 : Bool))
    (Tr.test ((decide ((0 : Int) ≤ x4) && decide (x4 < (↑x2n : Int)) : Bool))
      (Tr.test ((Nat.ble ((0 : Nat) + Int.toNat x4 + (1 : Nat)) (List.length b0) : Bool))
        (Tr.test ((decide ((0 : Int) ≤ x3) && decide (x3 < (↑(List.length x1) : Int)) : Bool))
          (Tr.test ((decide ((0 : Int) ≤ x3) && decide (x3 < (↑(List.length x0) : Int)) : Bool))
            (Tr.test ((decide ((0 : Int) ≤ x4) && decide (x4 < (↑(List.length (List.getD x0 (Int.toNat x3) [])) : Int)) : Bool))
              (Tr.fin (.again ((x0, (x1, (x2n, (x3, ((wrap64 (x4 + (1 : Int)) : Int), ()))))), ((List.set b0 ((0 : Nat) + Int.toNat x4) (wrap64 (List.getD b0 ((0 : Nat) + Int.toNat x4) (0 : Int) + wrap64 (List.getD x1 (Int.toNat x3) (0 : Int) * List.getD (List.getD x0 (Int.toNat x3) []) (Int.toNat x4) (0 : Int)))) : List Int), ()))))
              (Tr.stop /- none [op 15 of region 8 of F75] -/))
            (Tr.stop /- none [op 12 of region 8 of F75] -/))
          (Tr.stop /- none [op 8 of region 8 of F75] -/))
        (Tr.stop /- none [op 5 of region 8 of F75] -/))
      (Tr.stop /- none [op 4 of region 8 of F75] -/))
    (Tr.fin (.brk ((x0, (x1, (x2n, (x3, ())))), (b0, ()))))

def s75_2 (d : sh75_2.data) : Option (Out sh75_2.data shb75_2.data shr75_2.data) := (t75_2 d.1.1 d.1.2.1 d.1.2.2.1 d.1.2.2.2.1 d.1.2.2.2.2.1 d.2.1).val
def l75_2 (d : sh75_2.data) : Option (shb75_2.data ⊕ shr75_2.data) := itr s75_2 rounds d
def b75_2 (d : sh75_2.data) : shb75_2.data := outB shb75_2.dflt (l75_2 d)
def r75_2 (d : sh75_2.data) : shr75_2.data := outR shr75_2.dflt (l75_2 d)
def lc75_2 : LoopC := lcB sh75_2 shb75_2 shr75_2 l75_2 b75_2

theorem e75_2_0 (x0 : (List (List Int))) (x1 : (List Int)) (x2n : Nat) (x3 : Int) (x4 : Int) (b0 : (List Int)) : runBody kf54.orc Go.Proofs.Try.prog 400 75 2 sh75_2 shb75_2 shr75_2 ((x0, x1, x2n, x3, x4, ()), b0, ()) [true, true, true, true, true, true, true, true] =
    (some (.again ((x0, (x1, (x2n, (x3, ((wrap64 (x4 + (1 : Int)) : Int), ()))))), ((List.set b0 ((0 : Nat) + Int.toNat x4) (wrap64 (List.getD b0 ((0 : Nat) + Int.toNat x4) (0 : Int) + wrap64 (List.getD x1 (Int.toNat x3) (0 : Int) * List.getD (List.getD x0 (Int.toNat x3) []) (Int.toNat x4) (0 : Int)))) : List Int), ())), [((Nat.ble ((0 : Nat) + Int.toNat x4 + (1 : Nat)) (List.length b0) : Bool), true), ((decide ((0 : Int) ≤ x4) && decide (x4 < (↑x2n : Int)) : Bool), true), ((decide ((0 : Int) ≤ x4) && decide (x4 < (↑(List.length (List.getD x0 (Int.toNat x3) [])) : Int)) : Bool), true), ((decide ((0 : Int) ≤ x3) && decide (x3 < (↑(List.length x0) : Int)) : Bool), true), ((decide ((0 : Int) ≤ x3) && decide (x3 < (↑(List.length x1) : Int)) : Bool), true), ((Nat.ble ((0 : Nat) + Int.toNat x4 + (1 : Nat)) (List.length b0) : Bool), true), ((decide ((0 : Int) ≤ x4) && decide (x4 < (↑x2n : Int)) : Bool), true), ((!leF (↑x2n : Int) x4 : Bool), true)])) := by kernel_rfl
theorem e75_2_6 (x0 : (List (List Int))) (x1 : (List Int)) (x2n : Nat) (x3 : Int) (x4 : Int) (b0 : (List Int)) : runBody kf54.orc Go.Proofs.Try.prog 400 75 2 sh75_2 shb75_2 shr75_2 ((x0, x1, x2n, x3, x4, ()), b0, ()) [false] =
    (some (.brk ((x0, (x1, (x2n, (x3, ())))), (b0, ())), [((!leF (↑x2n : Int) x4 : Bool), false)])) := by kernel_rfl

theorem ok75_2_t (x0 : (List (List Int))) (x1 : (List Int)) (x2n : Nat) (x3 : Int) (x4 : Int) (b0 : (List Int)) : TrOk (BodyRuns Go.Proofs.Try.prog kf54.orc 75 2 sh75_2 shb75_2 shr75_2 ((x0, x1, x2n, x3, x4, ()), b0, ())) (t75_2 x0 x1 x2n x3 x4 b0) :=
  TrOk.ofTest (fun h0 => TrOk.ofTest (fun h1 => TrOk.ofTest (fun h2 => TrOk.ofTest (fun h3 => TrOk.ofTest (fun h4 => TrOk.ofTest (fun h5 => TrOk.ofFin (BodyRuns.of (e75_2_0 x0 x1 x2n x3 x4 b0) (All.cons (h2) (All.cons (h1) (All.cons h5 (All.cons h4 (All.cons h3 (All.cons h2 (All.cons h1 (All.cons h0 (All.nil))))))))))) (fun h5 => TrOk.ofStop)) (fun h4 => TrOk.ofStop)) (fun h3 => TrOk.ofStop)) (fun h2 => TrOk.ofStop)) (fun h1 => TrOk.ofStop)) (fun h0 => TrOk.ofFin (BodyRuns.of (e75_2_6 x0 x1 x2n x3 x4 b0) (All.cons h0 (All.nil))))

theorem ok75_2 : LoopOk Go.Proofs.Try.prog 75 2 lc75_2 := loopOk_ofB kf54_ok.base (T := fun (d : sh75_2.data) => t75_2 d.1.1 d.1.2.1 d.1.2.2.1 d.1.2.2.2.1 d.1.2.2.2.2.1 d.2.1) (by kernel_rfl) rfl (fun (d : sh75_2.data) => ok75_2_t d.1.1 d.1.2.1 d.1.2.2.1 d.1.2.2.2.1 d.1.2.2.2.2.1 d.2.1) (fun _ => rfl)
def kl75_2 : Known := kf54.loop 75 2 lc75_2
theorem kl75_2_ok : KnownOk Go.Proofs.Try.prog kl75_2 := kf54_ok.loop ok75_2

/-! loop 0 of ductility/ductilityref02.Added -/

abbrev sh75_0 : Sh := { n := 59, slots := [1, 2, 8, 9], pats := [.ty (.slice (.slice (.int .i64))), .ty (.slice (.int .i64)), .slu 0 1, .ty (.int .i64)], boxes := [.arr (.int .i64)] }
abbrev shb75_0 : Sh := { n := 59, slots := [8], pats := [.slu 0 1], boxes := [.arr (.int .i64)] }
abbrev shr75_0 : Sh := { n := 59, slots := [], pats := [], boxes := [.arr (.int .i64)] }

def t75_0 (x0 : (List (List Int))) (x1 : (List Int)) (x2n : Nat) (x3 : Int) (b0 : (List Int)) : Tr (Out sh75_0.data shb75_0.data shr75_0.data) :=
  Tr.test ((!leF (↑(List.length x0) : Int) x3 : Bool))
    (Tr.test (isBrk (l75_2 ((x0, (x1, (x2n, (x3, ((0 : Int), ()))))), (b0, ()))))
      (let r0 : (List (List Int) × List Int × Nat × Int × PUnit) × List Int × PUnit := b75_2 ((x0, (x1, (x2n, (x3, ((0 : Int), ()))))), (b0, ()));
      Tr.fin (.again (((r0.fst.fst : List (List Int)), ((r0.fst.snd.fst : List Int), ((r0.fst.snd.snd.fst : Nat), ((wrap64 (r0.fst.snd.snd.snd.fst + (1 : Int)) : Int), ())))), ((r0.snd.fst : List Int), ()))))
      (Tr.stop))
    (Tr.fin (.brk ((x2n, ()), (b0, ()))))

def s75_0 (d : sh75_0.data) : Option (Out sh75_0.data shb75_0.data shr75_0.data) := (t75_0 d.1.1 d.1.2.1 d.1.2.2.1 d.1.2.2.2.1 d.2.1).val
def l75_0 (d : sh75_0.data) : Option (shb75_0.data ⊕ shr75_0.data) := itr s75_0 rounds d
def b75_0 (d : sh75_0.data) : shb75_0.data := outB shb75_0.dflt (l75_0 d)
def r75_0 (d : sh75_0.data) : shr75_0.data := outR shr75_0.dflt (l75_0 d)
def lc75_0 : LoopC := lcB sh75_0 shb75_0 shr75_0 l75_0 b75_0

theorem e75_0_0 (x0 : (List (List Int))) (x1 : (List Int)) (x2n : Nat) (x3 : Int) (b0 : (List Int)) : runBody kl75_2.orc Go.Proofs.Try.prog 400 75 0 sh75_0 shb75_0 shr75_0 ((x0, x1, x2n, x3, ()), b0, ()) [true, true, true] =
    (let r0 : (List (List Int) × List Int × Nat × Int × PUnit) × List Int × PUnit := b75_2 ((x0, (x1, (x2n, (x3, ((0 : Int), ()))))), (b0, ())); some (.again (((r0.fst.fst : List (List Int)), ((r0.fst.snd.fst : List Int), ((r0.fst.snd.snd.fst : Nat), ((wrap64 (r0.fst.snd.snd.snd.fst + (1 : Int)) : Int), ())))), ((r0.snd.fst : List Int), ())), [((true : Bool), true), (isBrk (l75_2 ((x0, (x1, (x2n, (x3, ((0 : Int), ()))))), (b0, ()))), true), ((!leF (↑(List.length x0) : Int) x3 : Bool), true)])) := by kernel_rfl
theorem e75_0_1 (x0 : (List (List Int))) (x1 : (List Int)) (x2n : Nat) (x3 : Int) (b0 : (List Int)) : runBody kl75_2.orc Go.Proofs.Try.prog 400 75 0 sh75_0 shb75_0 shr75_0 ((x0, x1, x2n, x3, ()), b0, ()) [false] =
    (some (.brk ((x2n, ()), (b0, ())), [((!leF (↑(List.length x0) : Int) x3 : Bool), false)])) := by kernel_rfl

theorem ok75_0_t (x0 : (List (List Int))) (x1 : (List Int)) (x2n : Nat) (x3 : Int) (b0 : (List Int)) : TrOk (BodyRuns Go.Proofs.Try.prog kl75_2.orc 75 0 sh75_0 shb75_0 shr75_0 ((x0, x1, x2n, x3, ()), b0, ())) (t75_0 x0 x1 x2n x3 b0) :=
  TrOk.ofTest (fun h0 => TrOk.ofTest (fun h1 => TrOk.ofFin (BodyRuns.of (e75_0_0 x0 x1 x2n x3 b0) (All.cons rfl (All.cons h1 (All.cons h0 (All.nil)))))) (fun h1 => TrOk.ofStop)) (fun h0 => TrOk.ofFin (BodyRuns.of (e75_0_1 x0 x1 x2n x3 b0) (All.cons h0 (All.nil))))

theorem ok75_0 : LoopOk Go.Proofs.Try.prog 75 0 lc75_0 := loopOk_ofB kl75_2_ok.base (T := fun (d : sh75_0.data) => t75_0 d.1.1 d.1.2.1 d.1.2.2.1 d.1.2.2.2.1 d.2.1) (by kernel_rfl) rfl (fun (d : sh75_0.data) => ok75_0_t d.1.1 d.1.2.1 d.1.2.2.1 d.1.2.2.2.1 d.2.1) (fun _ => rfl)
def kl75_0 : Known := kl75_2.loop 75 0 lc75_0
theorem kl75_0_ok : KnownOk Go.Proofs.Try.prog kl75_0 := kl75_2_ok.loop ok75_0

/-! loop 4 of ductility/ductilityref02.Added -/

abbrev sh75_4 : Sh := { n := 59, slots := [8, 11], pats := [.slu 0 1, .ty (.int .i64)], boxes := [.arr (.int .i64)] }
abbrev shb75_4 : Sh := { n := 59, slots := [8], pats := [.slu 0 1], boxes := [.arr (.int .i64)] }
abbrev shr75_4 : Sh := { n := 59, slots := [6, 7], pats := [.nil, .ty .bool], boxes := [.arr (.int .i64)] }

def t75_4 (x0n : Nat) (x1 : Int) (b0 : (List Int)) : Tr (Out sh75_4.data shb75_4.data shr75_4.data) :=
  Tr.test ((!leF (↑x0n : Int) x1 : Bool))
    (Tr.test ((decide ((0 : Int) ≤ x1) && decide (x1 < (↑x0n : Int)) : Bool))
      (Tr.test ((Nat.ble ((0 : Nat) + Int.toNat x1 + (1 : Nat)) (List.length b0) : Bool))
        (Tr.test (Option.isSome (f54 ((List.getD b0 ((0 : Nat) + Int.toNat x1) (0 : Int) : Int), ())))
          (let r0 : Bool × PUnit := g54 ((List.getD b0 ((0 : Nat) + Int.toNat x1) (0 : Int) : Int), ());
          Tr.test ((!r0.fst : Bool))
            (Tr.fin (.ret (((false : Bool), ()), (b0, ()))))
            (Tr.fin (.again ((x0n, ((wrap64 (x1 + (1 : Int)) : Int), ())), (b0, ())))))
          (Tr.stop))
        (Tr.stop /- none [op 3 of region 12 of F75] -/))
      (Tr.stop /- none [op 2 of region 12 of F75] -/))
    (Tr.fin (.brk ((x0n, ()), (b0, ()))))

def s75_4 (d : sh75_4.data) : Option (Out sh75_4.data shb75_4.data shr75_4.data) := (t75_4 d.1.1 d.1.2.1 d.2.1).val
def l75_4 (d : sh75_4.data) : Option (shb75_4.data ⊕ shr75_4.data) := itr s75_4 rounds d
def b75_4 (d : sh75_4.data) : shb75_4.data := outB shb75_4.dflt (l75_4 d)
def r75_4 (d : sh75_4.data) : shr75_4.data := outR shr75_4.dflt (l75_4 d)
def lc75_4 : LoopC := lcOf sh75_4 shb75_4 shr75_4 l75_4 b75_4 r75_4

theorem e75_4_0 (x0n : Nat) (x1 : Int) (b0 : (List Int)) : runBody kl75_0.orc Go.Proofs.Try.prog 400 75 4 sh75_4 shb75_4 shr75_4 ((x0n, x1, ()), b0, ()) [true, true, true, true, true] =
    (let r0 : Bool × PUnit := g54 ((List.getD b0 ((0 : Nat) + Int.toNat x1) (0 : Int) : Int), ()); some (.ret (((false : Bool), ()), (b0, ())), [((!r0.fst : Bool), true), (Option.isSome (f54 ((List.getD b0 ((0 : Nat) + Int.toNat x1) (0 : Int) : Int), ())), true), ((Nat.ble ((0 : Nat) + Int.toNat x1 + (1 : Nat)) (List.length b0) : Bool), true), ((decide ((0 : Int) ≤ x1) && decide (x1 < (↑x0n : Int)) : Bool), true), ((!leF (↑x0n : Int) x1 : Bool), true)])) := by kernel_rfl
theorem e75_4_1 (x0n : Nat) (x1 : Int) (b0 : (List Int)) : runBody kl75_0.orc Go.Proofs.Try.prog 400 75 4 sh75_4 shb75_4 shr75_4 ((x0n, x1, ()), b0, ()) [true, true, true, true, false] =
    (let r0 : Bool × PUnit := g54 ((List.getD b0 ((0 : Nat) + Int.toNat x1) (0 : Int) : Int), ()); some (.again ((x0n, ((wrap64 (x1 + (1 : Int)) : Int), ())), (b0, ())), [((!r0.fst : Bool), false), (Option.isSome (f54 ((List.getD b0 ((0 : Nat) + Int.toNat x1) (0 : Int) : Int), ())), true), ((Nat.ble ((0 : Nat) + Int.toNat x1 + (1 : Nat)) (List.length b0) : Bool), true), ((decide ((0 : Int) ≤ x1) && decide (x1 < (↑x0n : Int)) : Bool), true), ((!leF (↑x0n : Int) x1 : Bool), true)])) := by kernel_rfl
theorem e75_4_4 (x0n : Nat) (x1 : Int) (b0 : (List Int)) : runBody kl75_0.orc Go.Proofs.Try.prog 400 75 4 sh75_4 shb75_4 shr75_4 ((x0n, x1, ()), b0, ()) [false] =
    (some (.brk ((x0n, ()), (b0, ())), [((!leF (↑x0n : Int) x1 : Bool), false)])) := by kernel_rfl

theorem ok75_4_t (x0n : Nat) (x1 : Int) (b0 : (List Int)) : TrOk (BodyRuns Go.Proofs.Try.prog kl75_0.orc 75 4 sh75_4 shb75_4 shr75_4 ((x0n, x1, ()), b0, ())) (t75_4 x0n x1 b0) :=
  TrOk.ofTest (fun h0 => TrOk.ofTest (fun h1 => TrOk.ofTest (fun h2 => TrOk.ofTest (fun h3 => TrOk.ofTest (fun h4 => TrOk.ofFin (BodyRuns.of (e75_4_0 x0n x1 b0) (All.cons h4 (All.cons h3 (All.cons h2 (All.cons h1 (All.cons h0 (All.nil)))))))) (fun h4 => TrOk.ofFin (BodyRuns.of (e75_4_1 x0n x1 b0) (All.cons h4 (All.cons h3 (All.cons h2 (All.cons h1 (All.cons h0 (All.nil))))))))) (fun h3 => TrOk.ofStop)) (fun h2 => TrOk.ofStop)) (fun h1 => TrOk.ofStop)) (fun h0 => TrOk.ofFin (BodyRuns.of (e75_4_4 x0n x1 b0) (All.cons h0 (All.nil))))

theorem ok75_4 : LoopOk Go.Proofs.Try.prog 75 4 lc75_4 := loopOk_of kl75_0_ok.base (T := fun (d : sh75_4.data) => t75_4 d.1.1 d.1.2.1 d.2.1) (by kernel_rfl) rfl (fun (d : sh75_4.data) => ok75_4_t d.1.1 d.1.2.1 d.2.1) (fun _ => rfl)
def kl75_4 : Known := kl75_0.loop 75 4 lc75_4
theorem kl75_4_ok : KnownOk Go.Proofs.Try.prog kl75_4 := kl75_0_ok.loop ok75_4

/-! ductility/ductilityref02.Added -/

abbrev as75 : List Ty := [(.slice (.int .i64)), (.slice (.slice (.int .i64))), (.slice (.int .i64))]
abbrev rs75 : List Ty := [(.slice (.int .i64)), .bool]

def t75 (x0 : (List Int)) (x1 : (List (List Int))) (x2 : (List Int)) : Tr (Tys.data rs75) :=
  Tr.test ((Nat.beq (List.length x0) (0 : Nat) : Bool))
    (Tr.stop /- loop: loop 75_0: no rows [{ n := 59, slots := [1, 2, 8, 9], pats : -/)
    (Tr.test ((Nat.ble ((0 : Nat) + List.length x0) (0 : Nat) : Bool))
      (Tr.stop /- none [op 1 of region 1 of F75] -/)
      (Tr.test ((Nat.ble (((2 : Nat) * ((0 : Nat) + List.length x0) + (192 : Nat)) * (8 : Nat)) (281474976710656 : Nat) && Nat.ble ((0 : Nat) + List.length x0) (281474976710656 : Nat) : Bool))
        (Tr.test (isBrk (l75_0 ((x1, (x2, (((0 : Nat) + List.length x0 : Nat), ((0 : Int), ())))), (([] ++ x0 : List Int), ()))))
          (let r0 : (Nat × PUnit) × List Int × PUnit := b75_0 ((x1, (x2, (((0 : Nat) + List.length x0 : Nat), ((0 : Int), ())))), (([] ++ x0 : List Int), ()));
          Tr.test (Option.isSome (l75_4 (((r0.fst.fst : Nat), ((0 : Int), ())), ((r0.snd.fst : List Int), ()))))
            (Tr.test (isRet (l75_4 (((r0.fst.fst : Nat), ((0 : Int), ())), ((r0.snd.fst : List Int), ()))))
              (let r1 : (Bool × PUnit) × List Int × PUnit := r75_4 (((r0.fst.fst : Nat), ((0 : Int), ())), ((r0.snd.fst : List Int), ()));
              Tr.fin ((([] : List Int), ((r1.fst.fst : Bool), ()))))
              (let r2 : (Nat × PUnit) × List Int × PUnit := b75_4 (((r0.fst.fst : Nat), ((0 : Int), ())), ((r0.snd.fst : List Int), ()));
              Tr.test ((Nat.beq r2.fst.fst (List.length r2.snd.fst) : Bool))
                (Tr.fin (((r2.snd.fst : List Int), ((true : Bool), ()))))
                (Tr.test ((Nat.ble r2.fst.fst (List.length r2.snd.fst) : Bool))
                  (Tr.fin (((List.take r2.fst.fst r2.snd.fst : List Int), ((true : Bool), ()))))
                  (Tr.stop /- none [result] -/))))
            (Tr.stop))
          (Tr.stop))
        (Tr.stop /- none [op 1 of region 1 of F75] -/)))

def f75 (d : Tys.data as75) : Option (Tys.data rs75) := (t75 d.1 d.2.1 d.2.2.1).val
def g75 (d : Tys.data as75) : Tys.data rs75 := (f75 d).getD (Tys.dflt rs75)
def p75 : PureC := pcOf as75 rs75 f75 g75

theorem e75_2 (x0 : (List Int)) (x1 : (List (List Int))) (x2 : (List Int)) : runPure kl75_4.orc Go.Proofs.Try.prog 400 75 as75 rs75 (x0, x1, x2, ()) [false, false, true, true, true, true, true, true] =
    (let r0 : (Nat × PUnit) × List Int × PUnit := b75_0 ((x1, (x2, (((0 : Nat) + List.length x0 : Nat), ((0 : Int), ())))), (([] ++ x0 : List Int), ())); let r1 : (Bool × PUnit) × List Int × PUnit := r75_4 (((r0.fst.fst : Nat), ((0 : Int), ())), ((r0.snd.fst : List Int), ())); some ((([] : List Int), ((r1.fst.fst : Bool), ())), [(isRet (l75_4 (((r0.fst.fst : Nat), ((0 : Int), ())), ((r0.snd.fst : List Int), ()))), true), (Option.isSome (l75_4 (((r0.fst.fst : Nat), ((0 : Int), ())), ((r0.snd.fst : List Int), ()))), true), ((true : Bool), true), (isBrk (l75_0 ((x1, (x2, (((0 : Nat) + List.length x0 : Nat), ((0 : Int), ())))), (([] ++ x0 : List Int), ()))), true), ((true : Bool), true), ((Nat.ble (((2 : Nat) * ((0 : Nat) + List.length x0) + (192 : Nat)) * (8 : Nat)) (281474976710656 : Nat) && Nat.ble ((0 : Nat) + List.length x0) (281474976710656 : Nat) : Bool), true), ((Nat.ble ((0 : Nat) + List.length x0) (0 : Nat) : Bool), false), ((Nat.beq (List.length x0) (0 : Nat) : Bool), false)])) := by kernel_rfl
theorem e75_3 (x0 : (List Int)) (x1 : (List (List Int))) (x2 : (List Int)) : runPure kl75_4.orc Go.Proofs.Try.prog 400 75 as75 rs75 (x0, x1, x2, ()) [false, false, true, true, true, true, true, false, true] =
    (let r0 : (Nat × PUnit) × List Int × PUnit := b75_0 ((x1, (x2, (((0 : Nat) + List.length x0 : Nat), ((0 : Int), ())))), (([] ++ x0 : List Int), ())); let r2 : (Nat × PUnit) × List Int × PUnit := b75_4 (((r0.fst.fst : Nat), ((0 : Int), ())), ((r0.snd.fst : List Int), ())); some (((r2.snd.fst : List Int), ((true : Bool), ())), [((Nat.beq r2.fst.fst (List.length r2.snd.fst) : Bool), true), (isRet (l75_4 (((r0.fst.fst : Nat), ((0 : Int), ())), ((r0.snd.fst : List Int), ()))), false), (Option.isSome (l75_4 (((r0.fst.fst : Nat), ((0 : Int), ())), ((r0.snd.fst : List Int), ()))), true), ((true : Bool), true), (isBrk (l75_0 ((x1, (x2, (((0 : Nat) + List.length x0 : Nat), ((0 : Int), ())))), (([] ++ x0 : List Int), ()))), true), ((true : Bool), true), ((Nat.ble (((2 : Nat) * ((0 : Nat) + List.length x0) + (192 : Nat)) * (8 : Nat)) (281474976710656 : Nat) && Nat.ble ((0 : Nat) + List.length x0) (281474976710656 : Nat) : Bool), true), ((Nat.ble ((0 : Nat) + List.length x0) (0 : Nat) : Bool), false), ((Nat.beq (List.length x0) (0 : Nat) : Bool), false)])) := by kernel_rfl
theorem e75_4 (x0 : (List Int)) (x1 : (List (List Int))) (x2 : (List Int)) : runPure kl75_4.orc Go.Proofs.Try.prog 400 75 as75 rs75 (x0, x1, x2, ()) [false, false, true, true, true, true, true, false, false, true] =
    (let r0 : (Nat × PUnit) × List Int × PUnit := b75_0 ((x1, (x2, (((0 : Nat) + List.length x0 : Nat), ((0 : Int), ())))), (([] ++ x0 : List Int), ())); let r2 : (Nat × PUnit) × List Int × PUnit := b75_4 (((r0.fst.fst : Nat), ((0 : Int), ())), ((r0.snd.fst : List Int), ())); some (((List.take r2.fst.fst r2.snd.fst : List Int), ((true : Bool), ())), [((Nat.ble r2.fst.fst (List.length r2.snd.fst) : Bool), true), ((Nat.beq r2.fst.fst (List.length r2.snd.fst) : Bool), false), (isRet (l75_4 (((r0.fst.fst : Nat), ((0 : Int), ())), ((r0.snd.fst : List Int), ()))), false), (Option.isSome (l75_4 (((r0.fst.fst : Nat), ((0 : Int), ())), ((r0.snd.fst : List Int), ()))), true), ((true : Bool), true), (isBrk (l75_0 ((x1, (x2, (((0 : Nat) + List.length x0 : Nat), ((0 : Int), ())))), (([] ++ x0 : List Int), ()))), true), ((true : Bool), true), ((Nat.ble (((2 : Nat) * ((0 : Nat) + List.length x0) + (192 : Nat)) * (8 : Nat)) (281474976710656 : Nat) && Nat.ble ((0 : Nat) + List.length x0) (281474976710656 : Nat) : Bool), true), ((Nat.ble ((0 : Nat) + List.length x0) (0 : Nat) : Bool), false), ((Nat.beq (List.length x0) (0 : Nat) : Bool), false)])) := by kernel_rfl

theorem ok75_t (x0 : (List Int)) (x1 : (List (List Int))) (x2 : (List Int)) : TrOk (PureRuns Go.Proofs.Try.prog kl75_4.orc 75 as75 rs75 (x0, x1, x2, ())) (t75 x0 x1 x2) :=
  TrOk.ofTest (fun h0 => TrOk.ofStop) (fun h0 => TrOk.ofTest (fun h1 => TrOk.ofStop) (fun h1 => TrOk.ofTest (fun h2 => TrOk.ofTest (fun h4 => TrOk.ofTest (fun h6 => TrOk.ofTest (fun h7 => TrOk.ofFin (PureRuns.of (e75_2 x0 x1 x2) (All.cons h7 (All.cons h6 (All.cons rfl (All.cons h4 (All.cons rfl (All.cons h2 (All.cons h1 (All.cons h0 (All.nil))))))))))) (fun h7 => TrOk.ofTest (fun h8 => TrOk.ofFin (PureRuns.of (e75_3 x0 x1 x2) (All.cons h8 (All.cons h7 (All.cons h6 (All.cons rfl (All.cons h4 (All.cons rfl (All.cons h2 (All.cons h1 (All.cons h0 (All.nil)))))))))))) (fun h8 => TrOk.ofTest (fun h9 => TrOk.ofFin (PureRuns.of (e75_4 x0 x1 x2) (All.cons h9 (All.cons h8 (All.cons h7 (All.cons h6 (All.cons rfl (All.cons h4 (All.cons rfl (All.cons h2 (All.cons h1 (All.cons h0 (All.nil))))))))))))) (fun h9 => TrOk.ofStop)))) (fun h6 => TrOk.ofStop)) (fun h4 => TrOk.ofStop)) (fun h2 => TrOk.ofStop)))

theorem ok75 : PureOk Go.Proofs.Try.prog 75 p75 := pureOk_of kl75_4_ok.base (T := fun (d : Tys.data as75) => t75 d.1 d.2.1 d.2.2.1) (by kernel_rfl) (fun (d : Tys.data as75) => ok75_t d.1 d.2.1 d.2.2.1)
def kf75 : Known := kl75_4.func 75 p75
theorem kf75_ok : KnownOk Go.Proofs.Try.prog kf75 := kl75_4_ok.func ok75

/-! ductility/ductilitylaw02.few -/

abbrev as16 : List Ty := [(.pair (.int .i64) (.pair (.slice (.int .i64)) .unit))]
abbrev rs16 : List Ty := [.bool]

def t16 (x0 : Int) (x0' : (List Int)) : Tr (Tys.data rs16) :=
  Tr.fin (((leF (↑(List.length x0') : Int) (26 : Int) : Bool), ()))

def f16 (d : Tys.data as16) : Option (Tys.data rs16) := (t16 d.1.1 d.1.2.1).val
def g16 (d : Tys.data as16) : Tys.data rs16 := (f16 d).getD (Tys.dflt rs16)
def p16 : PureC := pcOf as16 rs16 f16 g16

theorem e16_0 (x0 : Int) (x0' : (List Int)) : runPure kf75.orc Go.Proofs.Try.prog 400 16 as16 rs16 ((x0, x0', ()), ()) [] =
    (some (((leF (↑(List.length x0') : Int) (26 : Int) : Bool), ()), [])) := by kernel_rfl

theorem ok16_t (x0 : Int) (x0' : (List Int)) : TrOk (PureRuns Go.Proofs.Try.prog kf75.orc 16 as16 rs16 ((x0, x0', ()), ())) (t16 x0 x0') :=
  TrOk.ofFin (PureRuns.of (e16_0 x0 x0') (All.nil))

theorem ok16 : PureOk Go.Proofs.Try.prog 16 p16 := pureOk_of kf75_ok.base (T := fun (d : Tys.data as16) => t16 d.1.1 d.1.2.1) (by kernel_rfl) (fun (d : Tys.data as16) => ok16_t d.1.1 d.1.2.1)
def kf16 : Known := kf75.func 16 p16
theorem kf16_ok : KnownOk Go.Proofs.Try.prog kf16 := kf75_ok.func ok16

/-! loop 0 of ductility/ductilitylaw02.fewWaves -/

abbrev sh67_0 : Sh := { n := 19, slots := [0, 3], pats := [.ty (.slice (.slice (.int .i64))), .ty (.int .i64)], boxes := [] }
abbrev shb67_0 : Sh := { n := 19, slots := [], pats := [], boxes := [] }
abbrev shr67_0 : Sh := { n := 19, slots := [2], pats := [.ty .bool], boxes := [] }

def t67_0 (x0 : (List (List Int))) (x1 : Int) : Tr (Out sh67_0.data shb67_0.data shr67_0.data) :=
  Tr.test ((!leF (↑(List.length x0) : Int) x1 : Bool))
    (Tr.test ((decide ((0 : Int) ≤ x1) && decide (x1 < (↑(List.length x0) : Int)) : Bool))
      (Tr.test ((!leF (↑(List.length (List.getD x0 (Int.toNat x1) [])) : Int) (26 : Int) : Bool))
        (Tr.fin (.ret (((false : Bool), ()), ())))
        (Tr.fin (.again ((x0, ((wrap64 (x1 + (1 : Int)) : Int), ())), ()))))
      (Tr.stop /- none [op 2 of region 6 of F67] -/))
    (Tr.fin (.brk ((), ())))

def s67_0 (d : sh67_0.data) : Option (Out sh67_0.data shb67_0.data shr67_0.data) := (t67_0 d.1.1 d.1.2.1).val
def l67_0 (d : sh67_0.data) : Option (shb67_0.data ⊕ shr67_0.data) := itr s67_0 rounds d
def b67_0 (d : sh67_0.data) : shb67_0.data := outB shb67_0.dflt (l67_0 d)
def r67_0 (d : sh67_0.data) : shr67_0.data := outR shr67_0.dflt (l67_0 d)
def lc67_0 : LoopC := lcOf sh67_0 shb67_0 shr67_0 l67_0 b67_0 r67_0

theorem e67_0_0 (x0 : (List (List Int))) (x1 : Int) : runBody kf16.orc Go.Proofs.Try.prog 400 67 0 sh67_0 shb67_0 shr67_0 ((x0, x1, ()), ()) [true, true, true] =
    (some (.ret (((false : Bool), ()), ()), [((!leF (↑(List.length (List.getD x0 (Int.toNat x1) [])) : Int) (26 : Int) : Bool), true), ((decide ((0 : Int) ≤ x1) && decide (x1 < (↑(List.length x0) : Int)) : Bool), true), ((!leF (↑(List.length x0) : Int) x1 : Bool), true)])) := by kernel_rfl
theorem e67_0_1 (x0 : (List (List Int))) (x1 : Int) : runBody kf16.orc Go.Proofs.Try.prog 400 67 0 sh67_0 shb67_0 shr67_0 ((x0, x1, ()), ()) [true, true, false] =
    (some (.again ((x0, ((wrap64 (x1 + (1 : Int)) : Int), ())), ()), [((!leF (↑(List.length (List.getD x0 (Int.toNat x1) [])) : Int) (26 : Int) : Bool), false), ((decide ((0 : Int) ≤ x1) && decide (x1 < (↑(List.length x0) : Int)) : Bool), true), ((!leF (↑(List.length x0) : Int) x1 : Bool), true)])) := by kernel_rfl
theorem e67_0_3 (x0 : (List (List Int))) (x1 : Int) : runBody kf16.orc Go.Proofs.Try.prog 400 67 0 sh67_0 shb67_0 shr67_0 ((x0, x1, ()), ()) [false] =
    (some (.brk ((), ()), [((!leF (↑(List.length x0) : Int) x1 : Bool), false)])) := by kernel_rfl

theorem ok67_0_t (x0 : (List (List Int))) (x1 : Int) : TrOk (BodyRuns Go.Proofs.Try.prog kf16.orc 67 0 sh67_0 shb67_0 shr67_0 ((x0, x1, ()), ())) (t67_0 x0 x1) :=
  TrOk.ofTest (fun h0 => TrOk.ofTest (fun h1 => TrOk.ofTest (fun h2 => TrOk.ofFin (BodyRuns.of (e67_0_0 x0 x1) (All.cons h2 (All.cons h1 (All.cons h0 (All.nil)))))) (fun h2 => TrOk.ofFin (BodyRuns.of (e67_0_1 x0 x1) (All.cons h2 (All.cons h1 (All.cons h0 (All.nil))))))) (fun h1 => TrOk.ofStop)) (fun h0 => TrOk.ofFin (BodyRuns.of (e67_0_3 x0 x1) (All.cons h0 (All.nil))))

theorem ok67_0 : LoopOk Go.Proofs.Try.prog 67 0 lc67_0 := loopOk_of kf16_ok.base (T := fun (d : sh67_0.data) => t67_0 d.1.1 d.1.2.1) (by kernel_rfl) rfl (fun (d : sh67_0.data) => ok67_0_t d.1.1 d.1.2.1) (fun _ => rfl)
def kl67_0 : Known := kf16.loop 67 0 lc67_0
theorem kl67_0_ok : KnownOk Go.Proofs.Try.prog kl67_0 := kf16_ok.loop ok67_0

/-! ductility/ductilitylaw02.fewWaves -/

abbrev as67 : List Ty := [(.slice (.slice (.int .i64)))]
abbrev rs67 : List Ty := [.bool]

def t67 (x0 : (List (List Int))) : Tr (Tys.data rs67) :=
  Tr.test ((!leF (↑(List.length x0) : Int) (5 : Int) : Bool))
    (Tr.fin (((false : Bool), ())))
    (Tr.test (Option.isSome (l67_0 ((x0, ((0 : Int), ())), ())))
      (Tr.test (isRet (l67_0 ((x0, ((0 : Int), ())), ())))
        (let r0 : (Bool × PUnit) × PUnit := r67_0 ((x0, ((0 : Int), ())), ());
        Tr.fin (((r0.fst.fst : Bool), ())))
        (Tr.fin (((true : Bool), ()))))
      (Tr.stop))

def f67 (d : Tys.data as67) : Option (Tys.data rs67) := (t67 d.1).val
def g67 (d : Tys.data as67) : Tys.data rs67 := (f67 d).getD (Tys.dflt rs67)
def p67 : PureC := pcOf as67 rs67 f67 g67

theorem e67_0 (x0 : (List (List Int))) : runPure kl67_0.orc Go.Proofs.Try.prog 400 67 as67 rs67 (x0, ()) [true] =
    (some (((false : Bool), ()), [((!leF (↑(List.length x0) : Int) (5 : Int) : Bool), true)])) := by kernel_rfl
theorem e67_1 (x0 : (List (List Int))) : runPure kl67_0.orc Go.Proofs.Try.prog 400 67 as67 rs67 (x0, ()) [false, true, true] =
    (let r0 : (Bool × PUnit) × PUnit := r67_0 ((x0, ((0 : Int), ())), ()); some (((r0.fst.fst : Bool), ()), [(isRet (l67_0 ((x0, ((0 : Int), ())), ())), true), (Option.isSome (l67_0 ((x0, ((0 : Int), ())), ())), true), ((!leF (↑(List.length x0) : Int) (5 : Int) : Bool), false)])) := by kernel_rfl
theorem e67_2 (x0 : (List (List Int))) : runPure kl67_0.orc Go.Proofs.Try.prog 400 67 as67 rs67 (x0, ()) [false, true, false] =
    (some (((true : Bool), ()), [(isRet (l67_0 ((x0, ((0 : Int), ())), ())), false), (Option.isSome (l67_0 ((x0, ((0 : Int), ())), ())), true), ((!leF (↑(List.length x0) : Int) (5 : Int) : Bool), false)])) := by kernel_rfl

theorem ok67_t (x0 : (List (List Int))) : TrOk (PureRuns Go.Proofs.Try.prog kl67_0.orc 67 as67 rs67 (x0, ())) (t67 x0) :=
  TrOk.ofTest (fun h0 => TrOk.ofFin (PureRuns.of (e67_0 x0) (All.cons h0 (All.nil)))) (fun h0 => TrOk.ofTest (fun h1 => TrOk.ofTest (fun h2 => TrOk.ofFin (PureRuns.of (e67_1 x0) (All.cons h2 (All.cons h1 (All.cons h0 (All.nil)))))) (fun h2 => TrOk.ofFin (PureRuns.of (e67_2 x0) (All.cons h2 (All.cons h1 (All.cons h0 (All.nil))))))) (fun h1 => TrOk.ofStop))

theorem ok67 : PureOk Go.Proofs.Try.prog 67 p67 := pureOk_of kl67_0_ok.base (T := fun (d : Tys.data as67) => t67 d.1) (by kernel_rfl) (fun (d : Tys.data as67) => ok67_t d.1)
def kf67 : Known := kl67_0.func 67 p67
theorem kf67_ok : KnownOk Go.Proofs.Try.prog kf67 := kl67_0_ok.func ok67

/-! ductility/ductilitybase.CopyInts -/

abbrev as70 : List Ty := [(.slice (.int .i64))]
abbrev rs70 : List Ty := [(.slice (.int .i64))]

def t70 (x0 : (List Int)) : Tr (Tys.data rs70) :=
  Tr.test ((Nat.beq (List.length x0) (0 : Nat) : Bool))
    (Tr.fin ((([] : List Int), ())))
    (Tr.test ((Nat.ble ((0 : Nat) + List.length x0) (0 : Nat) : Bool))
      (Tr.stop /- none [op 2 of region 1 of F70] -/)
      (Tr.test ((Nat.ble (((2 : Nat) * ((0 : Nat) + List.length x0) + (192 : Nat)) * (8 : Nat)) (281474976710656 : Nat) && Nat.ble ((0 : Nat) + List.length x0) (281474976710656 : Nat) : Bool))
        (Tr.test ((Nat.beq ((0 : Nat) + List.length x0) (List.length ([] ++ x0)) : Bool))
          (Tr.fin ((([] ++ x0 : List Int), ())))
          (Tr.stop))
        (Tr.stop /- none [op 2 of region 1 of F70] -/)))

def f70 (d : Tys.data as70) : Option (Tys.data rs70) := (t70 d.1).val
def g70 (d : Tys.data as70) : Tys.data rs70 := (f70 d).getD (Tys.dflt rs70)
def p70 : PureC := pcOf as70 rs70 f70 g70

theorem e70_0 (x0 : (List Int)) : runPure kf67.orc Go.Proofs.Try.prog 400 70 as70 rs70 (x0, ()) [true, true] =
    (some ((([] : List Int), ()), [((true : Bool), true), ((Nat.beq (List.length x0) (0 : Nat) : Bool), true)])) := by kernel_rfl
theorem e70_2 (x0 : (List Int)) : runPure kf67.orc Go.Proofs.Try.prog 400 70 as70 rs70 (x0, ()) [false, false, true, true, true] =
    (some ((([] ++ x0 : List Int), ()), [((Nat.beq ((0 : Nat) + List.length x0) (List.length ([] ++ x0)) : Bool), true), ((true : Bool), true), ((Nat.ble (((2 : Nat) * ((0 : Nat) + List.length x0) + (192 : Nat)) * (8 : Nat)) (281474976710656 : Nat) && Nat.ble ((0 : Nat) + List.length x0) (281474976710656 : Nat) : Bool), true), ((Nat.ble ((0 : Nat) + List.length x0) (0 : Nat) : Bool), false), ((Nat.beq (List.length x0) (0 : Nat) : Bool), false)])) := by kernel_rfl

theorem ok70_t (x0 : (List Int)) : TrOk (PureRuns Go.Proofs.Try.prog kf67.orc 70 as70 rs70 (x0, ())) (t70 x0) :=
  TrOk.ofTest (fun h0 => TrOk.ofFin (PureRuns.of (e70_0 x0) (All.cons rfl (All.cons h0 (All.nil))))) (fun h0 => TrOk.ofTest (fun h1 => TrOk.ofStop) (fun h1 => TrOk.ofTest (fun h2 => TrOk.ofTest (fun h4 => TrOk.ofFin (PureRuns.of (e70_2 x0) (All.cons h4 (All.cons rfl (All.cons h2 (All.cons h1 (All.cons h0 (All.nil)))))))) (fun h4 => TrOk.ofStop)) (fun h2 => TrOk.ofStop)))

theorem ok70 : PureOk Go.Proofs.Try.prog 70 p70 := pureOk_of kf67_ok.base (T := fun (d : Tys.data as70) => t70 d.1) (by kernel_rfl) (fun (d : Tys.data as70) => ok70_t d.1)
def kf70 : Known := kf67.func 70 p70
theorem kf70_ok : KnownOk Go.Proofs.Try.prog kf70 := kf67_ok.func ok70

/-! ductility/ductilityref02.Copy -/

abbrev as18 : List Ty := [(.pair (.int .i64) (.pair (.slice (.int .i64)) .unit))]
abbrev rs18 : List Ty := [(.pair (.int .i64) (.pair (.slice (.int .i64)) .unit))]

def t18 (x0 : Int) (x0' : (List Int)) : Tr (Tys.data rs18) :=
  Tr.test (Option.isSome (f70 (x0', ())))
    (let r0 : List Int × PUnit := g70 (x0', ());
    Tr.fin (((x0, ((r0.fst : List Int), ())), ())))
    (Tr.stop)

def f18 (d : Tys.data as18) : Option (Tys.data rs18) := (t18 d.1.1 d.1.2.1).val
def g18 (d : Tys.data as18) : Tys.data rs18 := (f18 d).getD (Tys.dflt rs18)
def p18 : PureC := pcOf as18 rs18 f18 g18

theorem e18_0 (x0 : Int) (x0' : (List Int)) : runPure kf70.orc Go.Proofs.Try.prog 400 18 as18 rs18 ((x0, x0', ()), ()) [true] =
    (let r0 : List Int × PUnit := g70 (x0', ()); some (((x0, ((r0.fst : List Int), ())), ()), [(Option.isSome (f70 (x0', ())), true)])) := by kernel_rfl

theorem ok18_t (x0 : Int) (x0' : (List Int)) : TrOk (PureRuns Go.Proofs.Try.prog kf70.orc 18 as18 rs18 ((x0, x0', ()), ())) (t18 x0 x0') :=
  TrOk.ofTest (fun h0 => TrOk.ofFin (PureRuns.of (e18_0 x0 x0') (All.cons h0 (All.nil)))) (fun h0 => TrOk.ofStop)

theorem ok18 : PureOk Go.Proofs.Try.prog 18 p18 := pureOk_of kf70_ok.base (T := fun (d : Tys.data as18) => t18 d.1.1 d.1.2.1) (by kernel_rfl) (fun (d : Tys.data as18) => ok18_t d.1.1 d.1.2.1)
def kf18 : Known := kf70.func 18 p18
theorem kf18_ok : KnownOk Go.Proofs.Try.prog kf18 := kf70_ok.func ok18

/-! loop 0 of ductility/ductilitybase.CopyLists -/

abbrev sh69_0 : Sh := { n := 20, slots := [0, 3, 4], pats := [.ty (.slice (.slice (.int .i64))), .acc (.slice (.int .i64)), .ty (.int .i64)], boxes := [] }
abbrev shb69_0 : Sh := { n := 20, slots := [3], pats := [.acc (.slice (.int .i64))], boxes := [] }
abbrev shr69_0 : Sh := { n := 20, slots := [], pats := [], boxes := [] }

def t69_0 (x0 : (List (List Int))) (x1 : (List (List Int))) (x2 : Int) : Tr (Out sh69_0.data shb69_0.data shr69_0.data) :=
  Tr.test ((!leF (↑(List.length x0) : Int) x2 : Bool))
    (Tr.test ((decide ((0 : Int) ≤ x2) && decide (x2 < (↑(List.length x0) : Int)) : Bool))
      (Tr.test (Option.isSome (f70 ((List.getD x0 (Int.toNat x2) [] : List Int), ())))
        (Tr.test ((Nat.ble (((2 : Nat) * (List.length x1 + (1 : Nat)) + (192 : Nat)) * (24 : Nat)) (281474976710656 : Nat) && Nat.ble (List.length x1 + (1 : Nat)) (281474976710656 : Nat) : Bool))
          (let r0 : List Int × PUnit := g70 ((List.getD x0 (Int.toNat x2) [] : List Int), ());
          Tr.fin (.again ((x0, ((x1 ++ [r0.fst] : List (List Int)), ((wrap64 (x2 + (1 : Int)) : Int), ()))), ())))
          (Tr.stop /- none [op 7 of region 5 of F69] -/))
        (Tr.stop))
      (Tr.stop /- none [op 3 of region 5 of F69] -/))
    (Tr.fin (.brk ((x1, ()), ())))

def s69_0 (d : sh69_0.data) : Option (Out sh69_0.data shb69_0.data shr69_0.data) := (t69_0 d.1.1 d.1.2.1 d.1.2.2.1).val
def l69_0 (d : sh69_0.data) : Option (shb69_0.data ⊕ shr69_0.data) := itr s69_0 rounds d
def b69_0 (d : sh69_0.data) : shb69_0.data := outB shb69_0.dflt (l69_0 d)
def r69_0 (d : sh69_0.data) : shr69_0.data := outR shr69_0.dflt (l69_0 d)
def lc69_0 : LoopC := lcB sh69_0 shb69_0 shr69_0 l69_0 b69_0

theorem e69_0_0 (x0 : (List (List Int))) (x1 : (List (List Int))) (x2 : Int) : runBody kf18.orc Go.Proofs.Try.prog 400 69 0 sh69_0 shb69_0 shr69_0 ((x0, x1, x2, ()), ()) [true, true, true, false, true, true] =
    (let r0 : List Int × PUnit := g70 ((List.getD x0 (Int.toNat x2) [] : List Int), ()); some (.again ((x0, ((x1 ++ [r0.fst] : List (List Int)), ((wrap64 (x2 + (1 : Int)) : Int), ()))), ()), [((true : Bool), true), ((Nat.ble (((2 : Nat) * (List.length x1 + (1 : Nat)) + (192 : Nat)) * (24 : Nat)) (281474976710656 : Nat) && Nat.ble (List.length x1 + (1 : Nat)) (281474976710656 : Nat) : Bool), true), ((false : Bool), false), (Option.isSome (f70 ((List.getD x0 (Int.toNat x2) [] : List Int), ())), true), ((decide ((0 : Int) ≤ x2) && decide (x2 < (↑(List.length x0) : Int)) : Bool), true), ((!leF (↑(List.length x0) : Int) x2 : Bool), true)])) := by kernel_rfl
theorem e69_0_3 (x0 : (List (List Int))) (x1 : (List (List Int))) (x2 : Int) : runBody kf18.orc Go.Proofs.Try.prog 400 69 0 sh69_0 shb69_0 shr69_0 ((x0, x1, x2, ()), ()) [false] =
    (some (.brk ((x1, ()), ()), [((!leF (↑(List.length x0) : Int) x2 : Bool), false)])) := by kernel_rfl

theorem ok69_0_t (x0 : (List (List Int))) (x1 : (List (List Int))) (x2 : Int) : TrOk (BodyRuns Go.Proofs.Try.prog kf18.orc 69 0 sh69_0 shb69_0 shr69_0 ((x0, x1, x2, ()), ())) (t69_0 x0 x1 x2) :=
  TrOk.ofTest (fun h0 => TrOk.ofTest (fun h1 => TrOk.ofTest (fun h2 => TrOk.ofTest (fun h4 => TrOk.ofFin (BodyRuns.of (e69_0_0 x0 x1 x2) (All.cons rfl (All.cons h4 (All.cons rfl (All.cons h2 (All.cons h1 (All.cons h0 (All.nil))))))))) (fun h4 => TrOk.ofStop)) (fun h2 => TrOk.ofStop)) (fun h1 => TrOk.ofStop)) (fun h0 => TrOk.ofFin (BodyRuns.of (e69_0_3 x0 x1 x2) (All.cons h0 (All.nil))))

theorem ok69_0 : LoopOk Go.Proofs.Try.prog 69 0 lc69_0 := loopOk_ofB kf18_ok.base (T := fun (d : sh69_0.data) => t69_0 d.1.1 d.1.2.1 d.1.2.2.1) (by kernel_rfl) rfl (fun (d : sh69_0.data) => ok69_0_t d.1.1 d.1.2.1 d.1.2.2.1) (fun _ => rfl)
def kl69_0 : Known := kf18.loop 69 0 lc69_0
theorem kl69_0_ok : KnownOk Go.Proofs.Try.prog kl69_0 := kf18_ok.loop ok69_0

/-! ductility/ductilitybase.CopyLists -/

abbrev as69 : List Ty := [(.slice (.slice (.int .i64)))]
abbrev rs69 : List Ty := [(.slice (.slice (.int .i64)))]

def t69 (x0 : (List (List Int))) : Tr (Tys.data rs69) :=
  Tr.test (isBrk (l69_0 ((x0, (([] : List (List Int)), ((0 : Int), ()))), ())))
    (let r0 : (List (List Int) × PUnit) × PUnit := b69_0 ((x0, (([] : List (List Int)), ((0 : Int), ()))), ());
    Tr.fin (((r0.fst.fst : List (List Int)), ())))
    (Tr.stop)

def f69 (d : Tys.data as69) : Option (Tys.data rs69) := (t69 d.1).val
def g69 (d : Tys.data as69) : Tys.data rs69 := (f69 d).getD (Tys.dflt rs69)
def p69 : PureC := pcOf as69 rs69 f69 g69

theorem e69_0 (x0 : (List (List Int))) : runPure kl69_0.orc Go.Proofs.Try.prog 400 69 as69 rs69 (x0, ()) [true, true] =
    (let r0 : (List (List Int) × PUnit) × PUnit := b69_0 ((x0, (([] : List (List Int)), ((0 : Int), ()))), ()); some (((r0.fst.fst : List (List Int)), ()), [((true : Bool), true), (isBrk (l69_0 ((x0, (([] : List (List Int)), ((0 : Int), ()))), ())), true)])) := by kernel_rfl

theorem ok69_t (x0 : (List (List Int))) : TrOk (PureRuns Go.Proofs.Try.prog kl69_0.orc 69 as69 rs69 (x0, ())) (t69 x0) :=
  TrOk.ofTest (fun h0 => TrOk.ofFin (PureRuns.of (e69_0 x0) (All.cons rfl (All.cons h0 (All.nil))))) (fun h0 => TrOk.ofStop)

theorem ok69 : PureOk Go.Proofs.Try.prog 69 p69 := pureOk_of kl69_0_ok.base (T := fun (d : Tys.data as69) => t69 d.1) (by kernel_rfl) (fun (d : Tys.data as69) => ok69_t d.1)
def kf69 : Known := kl69_0.func 69 p69
theorem kf69_ok : KnownOk Go.Proofs.Try.prog kf69 := kl69_0_ok.func ok69

/-! ductility/motion.when -/

abbrev as86 : List Ty := [.bool, (.int .i64)]
abbrev rs86 : List Ty := [(.int .i64)]

def t86 (x0 : Bool) (x1 : Int) : Tr (Tys.data rs86) :=
  Tr.test (x0)
    (Tr.fin ((x1, ())))
    (Tr.fin (((0 : Int), ())))

def f86 (d : Tys.data as86) : Option (Tys.data rs86) := (t86 d.1 d.2.1).val
def g86 (d : Tys.data as86) : Tys.data rs86 := (f86 d).getD (Tys.dflt rs86)
def p86 : PureC := pcOf as86 rs86 f86 g86

theorem e86_0 (x0 : Bool) (x1 : Int) : runPure kf69.orc Go.Proofs.Try.prog 400 86 as86 rs86 (x0, x1, ()) [true] =
    (some ((x1, ()), [(x0, true)])) := by kernel_rfl
theorem e86_1 (x0 : Bool) (x1 : Int) : runPure kf69.orc Go.Proofs.Try.prog 400 86 as86 rs86 (x0, x1, ()) [false] =
    (some (((0 : Int), ()), [(x0, false)])) := by kernel_rfl

theorem ok86_t (x0 : Bool) (x1 : Int) : TrOk (PureRuns Go.Proofs.Try.prog kf69.orc 86 as86 rs86 (x0, x1, ())) (t86 x0 x1) :=
  TrOk.ofTest (fun h0 => TrOk.ofFin (PureRuns.of (e86_0 x0 x1) (All.cons h0 (All.nil)))) (fun h0 => TrOk.ofFin (PureRuns.of (e86_1 x0 x1) (All.cons h0 (All.nil))))

theorem ok86 : PureOk Go.Proofs.Try.prog 86 p86 := pureOk_of kf69_ok.base (T := fun (d : Tys.data as86) => t86 d.1 d.2.1) (by kernel_rfl) (fun (d : Tys.data as86) => ok86_t d.1 d.2.1)
def kf86 : Known := kf69.func 86 p86
theorem kf86_ok : KnownOk Go.Proofs.Try.prog kf86 := kf69_ok.func ok86

/-! loop 0 of ductility/motion.firstOf -/

abbrev sh85_0 : Sh := { n := 15, slots := [5, 6, 7], pats := [.ty (.slice (.int .i64)), .ty (.int .i64), .ty (.int .i64)], boxes := [] }
abbrev shb85_0 : Sh := { n := 15, slots := [], pats := [], boxes := [] }
abbrev shr85_0 : Sh := { n := 15, slots := [2], pats := [.ty (.int .i64)], boxes := [] }

def t85_0 (x0 : (List Int)) (x1 : Int) (x2 : Int) : Tr (Out sh85_0.data shb85_0.data shr85_0.data) :=
  Tr.test ((!leF x1 x2 : Bool))
    (Tr.test ((decide ((0 : Int) ≤ x2) && decide (x2 < (↑(List.length x0) : Int)) : Bool))
      (Tr.test ((!eqF (List.getD x0 (Int.toNat x2) (0 : Int)) (0 : Int) : Bool))
        (Tr.fin (.ret (((List.getD x0 (Int.toNat x2) (0 : Int) : Int), ()), ())))
        (Tr.fin (.again ((x0, (x1, ((wrap64 (x2 + (1 : Int)) : Int), ()))), ()))))
      (Tr.stop /- none [op 0 of region 3 of F85] -/))
    (Tr.fin (.brk ((), ())))

def s85_0 (d : sh85_0.data) : Option (Out sh85_0.data shb85_0.data shr85_0.data) := (t85_0 d.1.1 d.1.2.1 d.1.2.2.1).val
def l85_0 (d : sh85_0.data) : Option (shb85_0.data ⊕ shr85_0.data) := itr s85_0 rounds d
def b85_0 (d : sh85_0.data) : shb85_0.data := outB shb85_0.dflt (l85_0 d)
def r85_0 (d : sh85_0.data) : shr85_0.data := outR shr85_0.dflt (l85_0 d)
def lc85_0 : LoopC := lcOf sh85_0 shb85_0 shr85_0 l85_0 b85_0 r85_0

theorem e85_0_0 (x0 : (List Int)) (x1 : Int) (x2 : Int) : runBody kf86.orc Go.Proofs.Try.prog 400 85 0 sh85_0 shb85_0 shr85_0 ((x0, x1, x2, ()), ()) [true, true, true] =
    (some (.ret (((List.getD x0 (Int.toNat x2) (0 : Int) : Int), ()), ()), [((!eqF (List.getD x0 (Int.toNat x2) (0 : Int)) (0 : Int) : Bool), true), ((decide ((0 : Int) ≤ x2) && decide (x2 < (↑(List.length x0) : Int)) : Bool), true), ((!leF x1 x2 : Bool), true)])) := by kernel_rfl
theorem e85_0_1 (x0 : (List Int)) (x1 : Int) (x2 : Int) : runBody kf86.orc Go.Proofs.Try.prog 400 85 0 sh85_0 shb85_0 shr85_0 ((x0, x1, x2, ()), ()) [true, true, false] =
    (some (.again ((x0, (x1, ((wrap64 (x2 + (1 : Int)) : Int), ()))), ()), [((!eqF (List.getD x0 (Int.toNat x2) (0 : Int)) (0 : Int) : Bool), false), ((decide ((0 : Int) ≤ x2) && decide (x2 < (↑(List.length x0) : Int)) : Bool), true), ((!leF x1 x2 : Bool), true)])) := by kernel_rfl
theorem e85_0_3 (x0 : (List Int)) (x1 : Int) (x2 : Int) : runBody kf86.orc Go.Proofs.Try.prog 400 85 0 sh85_0 shb85_0 shr85_0 ((x0, x1, x2, ()), ()) [false] =
    (some (.brk ((), ()), [((!leF x1 x2 : Bool), false)])) := by kernel_rfl

theorem ok85_0_t (x0 : (List Int)) (x1 : Int) (x2 : Int) : TrOk (BodyRuns Go.Proofs.Try.prog kf86.orc 85 0 sh85_0 shb85_0 shr85_0 ((x0, x1, x2, ()), ())) (t85_0 x0 x1 x2) :=
  TrOk.ofTest (fun h0 => TrOk.ofTest (fun h1 => TrOk.ofTest (fun h2 => TrOk.ofFin (BodyRuns.of (e85_0_0 x0 x1 x2) (All.cons h2 (All.cons h1 (All.cons h0 (All.nil)))))) (fun h2 => TrOk.ofFin (BodyRuns.of (e85_0_1 x0 x1 x2) (All.cons h2 (All.cons h1 (All.cons h0 (All.nil))))))) (fun h1 => TrOk.ofStop)) (fun h0 => TrOk.ofFin (BodyRuns.of (e85_0_3 x0 x1 x2) (All.cons h0 (All.nil))))

theorem ok85_0 : LoopOk Go.Proofs.Try.prog 85 0 lc85_0 := loopOk_of kf86_ok.base (T := fun (d : sh85_0.data) => t85_0 d.1.1 d.1.2.1 d.1.2.2.1) (by kernel_rfl) rfl (fun (d : sh85_0.data) => ok85_0_t d.1.1 d.1.2.1 d.1.2.2.1) (fun _ => rfl)
def kl85_0 : Known := kf86.loop 85 0 lc85_0
theorem kl85_0_ok : KnownOk Go.Proofs.Try.prog kl85_0 := kf86_ok.loop ok85_0

/-! ductility/motion.firstOf -/

abbrev as85 : List Ty := [(.slice (.int .i64))]
abbrev rs85 : List Ty := [(.int .i64)]

def t85 (x0 : (List Int)) : Tr (Tys.data rs85) :=
  Tr.test (Option.isSome (l85_0 ((x0, ((↑(List.length x0) : Int), ((0 : Int), ()))), ())))
    (Tr.test (isRet (l85_0 ((x0, ((↑(List.length x0) : Int), ((0 : Int), ()))), ())))
      (let r0 : (Int × PUnit) × PUnit := r85_0 ((x0, ((↑(List.length x0) : Int), ((0 : Int), ()))), ());
      Tr.fin (((r0.fst.fst : Int), ())))
      (Tr.fin (((0 : Int), ()))))
    (Tr.stop)

def f85 (d : Tys.data as85) : Option (Tys.data rs85) := (t85 d.1).val
def g85 (d : Tys.data as85) : Tys.data rs85 := (f85 d).getD (Tys.dflt rs85)
def p85 : PureC := pcOf as85 rs85 f85 g85

theorem e85_0 (x0 : (List Int)) : runPure kl85_0.orc Go.Proofs.Try.prog 400 85 as85 rs85 (x0, ()) [true, true] =
    (let r0 : (Int × PUnit) × PUnit := r85_0 ((x0, ((↑(List.length x0) : Int), ((0 : Int), ()))), ()); some (((r0.fst.fst : Int), ()), [(isRet (l85_0 ((x0, ((↑(List.length x0) : Int), ((0 : Int), ()))), ())), true), (Option.isSome (l85_0 ((x0, ((↑(List.length x0) : Int), ((0 : Int), ()))), ())), true)])) := by kernel_rfl
theorem e85_1 (x0 : (List Int)) : runPure kl85_0.orc Go.Proofs.Try.prog 400 85 as85 rs85 (x0, ()) [true, false] =
    (some (((0 : Int), ()), [(isRet (l85_0 ((x0, ((↑(List.length x0) : Int), ((0 : Int), ()))), ())), false), (Option.isSome (l85_0 ((x0, ((↑(List.length x0) : Int), ((0 : Int), ()))), ())), true)])) := by kernel_rfl

theorem ok85_t (x0 : (List Int)) : TrOk (PureRuns Go.Proofs.Try.prog kl85_0.orc 85 as85 rs85 (x0, ())) (t85 x0) :=
  TrOk.ofTest (fun h0 => TrOk.ofTest (fun h1 => TrOk.ofFin (PureRuns.of (e85_0 x0) (All.cons h1 (All.cons h0 (All.nil))))) (fun h1 => TrOk.ofFin (PureRuns.of (e85_1 x0) (All.cons h1 (All.cons h0 (All.nil)))))) (fun h0 => TrOk.ofStop)

theorem ok85 : PureOk Go.Proofs.Try.prog 85 p85 := pureOk_of kl85_0_ok.base (T := fun (d : Tys.data as85) => t85 d.1) (by kernel_rfl) (fun (d : Tys.data as85) => ok85_t d.1)
def kf85 : Known := kl85_0.func 85 p85
theorem kf85_ok : KnownOk Go.Proofs.Try.prog kf85 := kl85_0_ok.func ok85

/-! loop 0 of ductility/motion.areWithin -/

abbrev sh94_0 : Sh := { n := 24, slots := [0, 1, 9, 10, 11], pats := [.ty (.int .i64), .ty (.int .i64), .ty (.slice (.int .i64)), .ty (.int .i64), .ty (.int .i64)], boxes := [] }
abbrev shb94_0 : Sh := { n := 24, slots := [], pats := [], boxes := [] }
abbrev shr94_0 : Sh := { n := 24, slots := [6], pats := [.ty .bool], boxes := [] }

def t94_0 (x0 : Int) (x1 : Int) (x2 : (List Int)) (x3 : Int) (x4 : Int) : Tr (Out sh94_0.data shb94_0.data shr94_0.data) :=
  Tr.test ((!leF x3 x4 : Bool))
    (Tr.test ((decide ((0 : Int) ≤ x4) && decide (x4 < (↑(List.length x2) : Int)) : Bool))
      (Tr.test ((!leF x0 (List.getD x2 (Int.toNat x4) (0 : Int)) : Bool))
        (Tr.fin (.ret (((false : Bool), ()), ())))
        (Tr.test ((!leF (List.getD x2 (Int.toNat x4) (0 : Int)) x1 : Bool))
          (Tr.fin (.ret (((false : Bool), ()), ())))
          (Tr.fin (.again ((x0, (x1, (x2, (x3, ((wrap64 (x4 + (1 : Int)) : Int), ()))))), ())))))
      (Tr.stop /- none [op 0 of region 3 of F94] -/))
    (Tr.fin (.brk ((), ())))

def s94_0 (d : sh94_0.data) : Option (Out sh94_0.data shb94_0.data shr94_0.data) := (t94_0 d.1.1 d.1.2.1 d.1.2.2.1 d.1.2.2.2.1 d.1.2.2.2.2.1).val
def l94_0 (d : sh94_0.data) : Option (shb94_0.data ⊕ shr94_0.data) := itr s94_0 rounds d
def b94_0 (d : sh94_0.data) : shb94_0.data := outB shb94_0.dflt (l94_0 d)
def r94_0 (d : sh94_0.data) : shr94_0.data := outR shr94_0.dflt (l94_0 d)
def lc94_0 : LoopC := lcOf sh94_0 shb94_0 shr94_0 l94_0 b94_0 r94_0

theorem e94_0_0 (x0 : Int) (x1 : Int) (x2 : (List Int)) (x3 : Int) (x4 : Int) : runBody kf85.orc Go.Proofs.Try.prog 400 94 0 sh94_0 shb94_0 shr94_0 ((x0, x1, x2, x3, x4, ()), ()) [true, true, true, true, true, true, true] =
    (some (.ret (((false : Bool), ()), ()), [((true : Bool), true), ((!leF x0 (List.getD x2 (Int.toNat x4) (0 : Int)) : Bool), true), ((!leF x0 (List.getD x2 (Int.toNat x4) (0 : Int)) : Bool), true), ((!leF x0 (List.getD x2 (Int.toNat x4) (0 : Int)) : Bool), true), ((!leF x0 (List.getD x2 (Int.toNat x4) (0 : Int)) : Bool), true), ((decide ((0 : Int) ≤ x4) && decide (x4 < (↑(List.length x2) : Int)) : Bool), true), ((!leF x3 x4 : Bool), true)])) := by kernel_rfl
theorem e94_0_1 (x0 : Int) (x1 : Int) (x2 : (List Int)) (x3 : Int) (x4 : Int) : runBody kf85.orc Go.Proofs.Try.prog 400 94 0 sh94_0 shb94_0 shr94_0 ((x0, x1, x2, x3, x4, ()), ()) [true, true, false, false, false, false, true] =
    (some (.ret (((false : Bool), ()), ()), [((!leF (List.getD x2 (Int.toNat x4) (0 : Int)) x1 : Bool), true), ((!leF x0 (List.getD x2 (Int.toNat x4) (0 : Int)) : Bool), false), ((!leF x0 (List.getD x2 (Int.toNat x4) (0 : Int)) : Bool), false), ((!leF x0 (List.getD x2 (Int.toNat x4) (0 : Int)) : Bool), false), ((!leF x0 (List.getD x2 (Int.toNat x4) (0 : Int)) : Bool), false), ((decide ((0 : Int) ≤ x4) && decide (x4 < (↑(List.length x2) : Int)) : Bool), true), ((!leF x3 x4 : Bool), true)])) := by kernel_rfl
theorem e94_0_2 (x0 : Int) (x1 : Int) (x2 : (List Int)) (x3 : Int) (x4 : Int) : runBody kf85.orc Go.Proofs.Try.prog 400 94 0 sh94_0 shb94_0 shr94_0 ((x0, x1, x2, x3, x4, ()), ()) [true, true, false, false, false, false, false] =
    (some (.again ((x0, (x1, (x2, (x3, ((wrap64 (x4 + (1 : Int)) : Int), ()))))), ()), [((!leF (List.getD x2 (Int.toNat x4) (0 : Int)) x1 : Bool), false), ((!leF x0 (List.getD x2 (Int.toNat x4) (0 : Int)) : Bool), false), ((!leF x0 (List.getD x2 (Int.toNat x4) (0 : Int)) : Bool), false), ((!leF x0 (List.getD x2 (Int.toNat x4) (0 : Int)) : Bool), false), ((!leF x0 (List.getD x2 (Int.toNat x4) (0 : Int)) : Bool), false), ((decide ((0 : Int) ≤ x4) && decide (x4 < (↑(List.length x2) : Int)) : Bool), true), ((!leF x3 x4 : Bool), true)])) := by kernel_rfl
theorem e94_0_4 (x0 : Int) (x1 : Int) (x2 : (List Int)) (x3 : Int) (x4 : Int) : runBody kf85.orc Go.Proofs.Try.prog 400 94 0 sh94_0 shb94_0 shr94_0 ((x0, x1, x2, x3, x4, ()), ()) [false] =
    (some (.brk ((), ()), [((!leF x3 x4 : Bool), false)])) := by kernel_rfl

theorem ok94_0_t (x0 : Int) (x1 : Int) (x2 : (List Int)) (x3 : Int) (x4 : Int) : TrOk (BodyRuns Go.Proofs.Try.prog kf85.orc 94 0 sh94_0 shb94_0 shr94_0 ((x0, x1, x2, x3, x4, ()), ())) (t94_0 x0 x1 x2 x3 x4) :=
  TrOk.ofTest (fun h0 => TrOk.ofTest (fun h1 => TrOk.ofTest (fun h2 => TrOk.ofFin (BodyRuns.of (e94_0_0 x0 x1 x2 x3 x4) (All.cons rfl (All.cons (not_of (of_not (h2))) (All.cons (not_of (of_not (h2))) (All.cons (not_of (of_not (h2))) (All.cons h2 (All.cons h1 (All.cons h0 (All.nil)))))))))) (fun h2 => TrOk.ofTest (fun h6 => TrOk.ofFin (BodyRuns.of (e94_0_1 x0 x1 x2 x3 x4) (All.cons h6 (All.cons (not_of (of_not (h2))) (All.cons (not_of (of_not (h2))) (All.cons (not_of (of_not (h2))) (All.cons h2 (All.cons h1 (All.cons h0 (All.nil)))))))))) (fun h6 => TrOk.ofFin (BodyRuns.of (e94_0_2 x0 x1 x2 x3 x4) (All.cons h6 (All.cons (not_of (of_not (h2))) (All.cons (not_of (of_not (h2))) (All.cons (not_of (of_not (h2))) (All.cons h2 (All.cons h1 (All.cons h0 (All.nil)))))))))))) (fun h1 => TrOk.ofStop)) (fun h0 => TrOk.ofFin (BodyRuns.of (e94_0_4 x0 x1 x2 x3 x4) (All.cons h0 (All.nil))))

theorem ok94_0 : LoopOk Go.Proofs.Try.prog 94 0 lc94_0 := loopOk_of kf85_ok.base (T := fun (d : sh94_0.data) => t94_0 d.1.1 d.1.2.1 d.1.2.2.1 d.1.2.2.2.1 d.1.2.2.2.2.1) (by kernel_rfl) rfl (fun (d : sh94_0.data) => ok94_0_t d.1.1 d.1.2.1 d.1.2.2.1 d.1.2.2.2.1 d.1.2.2.2.2.1) (fun _ => rfl)
def kl94_0 : Known := kf85.loop 94 0 lc94_0
theorem kl94_0_ok : KnownOk Go.Proofs.Try.prog kl94_0 := kf85_ok.loop ok94_0

/-! ductility/motion.areWithin -/

abbrev as94 : List Ty := [(.int .i64), (.int .i64), (.slice (.int .i64))]
abbrev rs94 : List Ty := [.bool]

def t94 (x0 : Int) (x1 : Int) (x2 : (List Int)) : Tr (Tys.data rs94) :=
  Tr.test (Option.isSome (l94_0 ((x0, (x1, (x2, ((↑(List.length x2) : Int), ((0 : Int), ()))))), ())))
    (Tr.test (isRet (l94_0 ((x0, (x1, (x2, ((↑(List.length x2) : Int), ((0 : Int), ()))))), ())))
      (let r0 : (Bool × PUnit) × PUnit := r94_0 ((x0, (x1, (x2, ((↑(List.length x2) : Int), ((0 : Int), ()))))), ());
      Tr.fin (((r0.fst.fst : Bool), ())))
      (Tr.fin (((true : Bool), ()))))
    (Tr.stop)

def f94 (d : Tys.data as94) : Option (Tys.data rs94) := (t94 d.1 d.2.1 d.2.2.1).val
def g94 (d : Tys.data as94) : Tys.data rs94 := (f94 d).getD (Tys.dflt rs94)
def p94 : PureC := pcOf as94 rs94 f94 g94

theorem e94_0 (x0 : Int) (x1 : Int) (x2 : (List Int)) : runPure kl94_0.orc Go.Proofs.Try.prog 400 94 as94 rs94 (x0, x1, x2, ()) [true, true] =
    (let r0 : (Bool × PUnit) × PUnit := r94_0 ((x0, (x1, (x2, ((↑(List.length x2) : Int), ((0 : Int), ()))))), ()); some (((r0.fst.fst : Bool), ()), [(isRet (l94_0 ((x0, (x1, (x2, ((↑(List.length x2) : Int), ((0 : Int), ()))))), ())), true), (Option.isSome (l94_0 ((x0, (x1, (x2, ((↑(List.length x2) : Int), ((0 : Int), ()))))), ())), true)])) := by kernel_rfl
theorem e94_1 (x0 : Int) (x1 : Int) (x2 : (List Int)) : runPure kl94_0.orc Go.Proofs.Try.prog 400 94 as94 rs94 (x0, x1, x2, ()) [true, false] =
    (some (((true : Bool), ()), [(isRet (l94_0 ((x0, (x1, (x2, ((↑(List.length x2) : Int), ((0 : Int), ()))))), ())), false), (Option.isSome (l94_0 ((x0, (x1, (x2, ((↑(List.length x2) : Int), ((0 : Int), ()))))), ())), true)])) := by kernel_rfl

theorem ok94_t (x0 : Int) (x1 : Int) (x2 : (List Int)) : TrOk (PureRuns Go.Proofs.Try.prog kl94_0.orc 94 as94 rs94 (x0, x1, x2, ())) (t94 x0 x1 x2) :=
  TrOk.ofTest (fun h0 => TrOk.ofTest (fun h1 => TrOk.ofFin (PureRuns.of (e94_0 x0 x1 x2) (All.cons h1 (All.cons h0 (All.nil))))) (fun h1 => TrOk.ofFin (PureRuns.of (e94_1 x0 x1 x2) (All.cons h1 (All.cons h0 (All.nil)))))) (fun h0 => TrOk.ofStop)

theorem ok94 : PureOk Go.Proofs.Try.prog 94 p94 := pureOk_of kl94_0_ok.base (T := fun (d : Tys.data as94) => t94 d.1 d.2.1 d.2.2.1) (by kernel_rfl) (fun (d : Tys.data as94) => ok94_t d.1 d.2.1 d.2.2.1)
def kf94 : Known := kl94_0.func 94 p94
theorem kf94_ok : KnownOk Go.Proofs.Try.prog kf94 := kl94_0_ok.func ok94

/-! ductility/motion.isBeyond -/

abbrev as141 : List Ty := [(.int .i64), (.slice (.int .i64))]
abbrev rs141 : List Ty := [.bool]

def t141 (x0 : Int) (x1 : (List Int)) : Tr (Tys.data rs141) :=
  Tr.test (Option.isSome (f94 ((Go.IntKind.wrap Go.IntKind.i64 ((0 : Int) - x0) : Int), (x0, (x1, ())))))
    (let r0 : Bool × PUnit := g94 ((Go.IntKind.wrap Go.IntKind.i64 ((0 : Int) - x0) : Int), (x0, (x1, ())));
    Tr.fin (((!r0.fst : Bool), ())))
    (Tr.stop)

def f141 (d : Tys.data as141) : Option (Tys.data rs141) := (t141 d.1 d.2.1).val
def g141 (d : Tys.data as141) : Tys.data rs141 := (f141 d).getD (Tys.dflt rs141)
def p141 : PureC := pcOf as141 rs141 f141 g141

theorem e141_0 (x0 : Int) (x1 : (List Int)) : runPure kf94.orc Go.Proofs.Try.prog 400 141 as141 rs141 (x0, x1, ()) [true] =
    (let r0 : Bool × PUnit := g94 ((Go.IntKind.wrap Go.IntKind.i64 ((0 : Int) - x0) : Int), (x0, (x1, ()))); some (((!r0.fst : Bool), ()), [(Option.isSome (f94 ((Go.IntKind.wrap Go.IntKind.i64 ((0 : Int) - x0) : Int), (x0, (x1, ())))), true)])) := by kernel_rfl

theorem ok141_t (x0 : Int) (x1 : (List Int)) : TrOk (PureRuns Go.Proofs.Try.prog kf94.orc 141 as141 rs141 (x0, x1, ())) (t141 x0 x1) :=
  TrOk.ofTest (fun h0 => TrOk.ofFin (PureRuns.of (e141_0 x0 x1) (All.cons h0 (All.nil)))) (fun h0 => TrOk.ofStop)

theorem ok141 : PureOk Go.Proofs.Try.prog 141 p141 := pureOk_of kf94_ok.base (T := fun (d : Tys.data as141) => t141 d.1 d.2.1) (by kernel_rfl) (fun (d : Tys.data as141) => ok141_t d.1 d.2.1)
def kf141 : Known := kf94.func 141 p141
theorem kf141_ok : KnownOk Go.Proofs.Try.prog kf141 := kf94_ok.func ok141

/-! ductility/motion.checkSamples$1 -/

abbrev as140 : List Ty := [(.int .i64), (.int .i64)]
abbrev rs140 : List Ty := [(.int .i64)]

def t140 (x0 : Int) (x1 : Int) : Tr (Tys.data rs140) :=
  Tr.test (Option.isSome (f141 ((1000 : Int), (([x1] : List Int), ()))))
    (let r0 : Bool × PUnit := g141 ((1000 : Int), (([x1] : List Int), ()));
    Tr.test (Option.isSome (f86 ((r0.fst : Bool), ((2 : Int), ()))))
      (let r1 : Int × PUnit := g86 ((r0.fst : Bool), ((2 : Int), ()));
      Tr.fin (((r1.fst : Int), ())))
      (Tr.stop))
    (Tr.stop)

def f140 (d : Tys.data as140) : Option (Tys.data rs140) := (t140 d.1 d.2.1).val
def g140 (d : Tys.data as140) : Tys.data rs140 := (f140 d).getD (Tys.dflt rs140)
def p140 : PureC := pcOf as140 rs140 f140 g140

theorem e140_0 (x0 : Int) (x1 : Int) : runPure kf141.orc Go.Proofs.Try.prog 400 140 as140 rs140 (x0, x1, ()) [true, true, true] =
    (let r0 : Bool × PUnit := g141 ((1000 : Int), (([x1] : List Int), ())); let r1 : Int × PUnit := g86 ((r0.fst : Bool), ((2 : Int), ())); some (((r1.fst : Int), ()), [(Option.isSome (f86 ((r0.fst : Bool), ((2 : Int), ()))), true), (Option.isSome (f141 ((1000 : Int), (([x1] : List Int), ()))), true), ((true : Bool), true)])) := by kernel_rfl

theorem ok140_t (x0 : Int) (x1 : Int) : TrOk (PureRuns Go.Proofs.Try.prog kf141.orc 140 as140 rs140 (x0, x1, ())) (t140 x0 x1) :=
  TrOk.ofTest (fun h1 => TrOk.ofTest (fun h2 => TrOk.ofFin (PureRuns.of (e140_0 x0 x1) (All.cons h2 (All.cons h1 (All.cons rfl (All.nil)))))) (fun h2 => TrOk.ofStop)) (fun h1 => TrOk.ofStop)

theorem ok140 : PureOk Go.Proofs.Try.prog 140 p140 := pureOk_of kf141_ok.base (T := fun (d : Tys.data as140) => t140 d.1 d.2.1) (by kernel_rfl) (fun (d : Tys.data as140) => ok140_t d.1 d.2.1)
def kf140 : Known := kf141.func 140 p140
theorem kf140_ok : KnownOk Go.Proofs.Try.prog kf140 := kf141_ok.func ok140

/-! loop 0 of ductility/motion.checkItems[int] -/

abbrev sh106_0 : Sh := { n := 25, slots := [1, 9, 10, 11], pats := [.fn 140 [], .ty (.slice (.int .i64)), .ty (.int .i64), .ty (.int .i64)], boxes := [] }
abbrev shb106_0 : Sh := { n := 25, slots := [], pats := [], boxes := [] }
abbrev shr106_0 : Sh := { n := 25, slots := [4, 5], pats := [.ty (.int .i64), .ty (.int .i64)], boxes := [] }

def t106_0 (x1 : (List Int)) (x2 : Int) (x3 : Int) : Tr (Out sh106_0.data shb106_0.data shr106_0.data) :=
  Tr.test ((!leF x2 x3 : Bool))
    (Tr.test ((decide ((0 : Int) ≤ x3) && decide (x3 < (↑(List.length x1) : Int)) : Bool))
      (Tr.test (Option.isSome (f140 (x3, ((List.getD x1 (Int.toNat x3) (0 : Int) : Int), ()))))
        (let r0 : Int × PUnit := g140 (x3, ((List.getD x1 (Int.toNat x3) (0 : Int) : Int), ()));
        Tr.test ((!eqF r0.fst (0 : Int) : Bool))
          (Tr.fin (.ret ((x3, ((r0.fst : Int), ())), ())))
          (Tr.fin (.again ((x1, (x2, ((wrap64 (x3 + (1 : Int)) : Int), ()))), ()))))
        (Tr.stop))
      (Tr.stop /- none [op 1 of region 3 of F106] -/))
    (Tr.fin (.brk ((), ())))

def s106_0 (d : sh106_0.data) : Option (Out sh106_0.data shb106_0.data shr106_0.data) := (t106_0 d.1.1 d.1.2.1 d.1.2.2.1).val
def l106_0 (d : sh106_0.data) : Option (shb106_0.data ⊕ shr106_0.data) := itr s106_0 rounds d
def b106_0 (d : sh106_0.data) : shb106_0.data := outB shb106_0.dflt (l106_0 d)
def r106_0 (d : sh106_0.data) : shr106_0.data := outR shr106_0.dflt (l106_0 d)
def lc106_0 : LoopC := lcOf sh106_0 shb106_0 shr106_0 l106_0 b106_0 r106_0

theorem e106_0_0 (x1 : (List Int)) (x2 : Int) (x3 : Int) : runBody kf140.orc Go.Proofs.Try.prog 400 106 0 sh106_0 shb106_0 shr106_0 ((x1, x2, x3, ()), ()) [true, true, true, true] =
    (let r0 : Int × PUnit := g140 (x3, ((List.getD x1 (Int.toNat x3) (0 : Int) : Int), ())); some (.ret ((x3, ((r0.fst : Int), ())), ()), [((!eqF r0.fst (0 : Int) : Bool), true), (Option.isSome (f140 (x3, ((List.getD x1 (Int.toNat x3) (0 : Int) : Int), ()))), true), ((decide ((0 : Int) ≤ x3) && decide (x3 < (↑(List.length x1) : Int)) : Bool), true), ((!leF x2 x3 : Bool), true)])) := by kernel_rfl
theorem e106_0_1 (x1 : (List Int)) (x2 : Int) (x3 : Int) : runBody kf140.orc Go.Proofs.Try.prog 400 106 0 sh106_0 shb106_0 shr106_0 ((x1, x2, x3, ()), ()) [true, true, true, false] =
    (let r0 : Int × PUnit := g140 (x3, ((List.getD x1 (Int.toNat x3) (0 : Int) : Int), ())); some (.again ((x1, (x2, ((wrap64 (x3 + (1 : Int)) : Int), ()))), ()), [((!eqF r0.fst (0 : Int) : Bool), false), (Option.isSome (f140 (x3, ((List.getD x1 (Int.toNat x3) (0 : Int) : Int), ()))), true), ((decide ((0 : Int) ≤ x3) && decide (x3 < (↑(List.length x1) : Int)) : Bool), true), ((!leF x2 x3 : Bool), true)])) := by kernel_rfl
theorem e106_0_3 (x1 : (List Int)) (x2 : Int) (x3 : Int) : runBody kf140.orc Go.Proofs.Try.prog 400 106 0 sh106_0 shb106_0 shr106_0 ((x1, x2, x3, ()), ()) [false] =
    (some (.brk ((), ()), [((!leF x2 x3 : Bool), false)])) := by kernel_rfl

theorem ok106_0_t (x1 : (List Int)) (x2 : Int) (x3 : Int) : TrOk (BodyRuns Go.Proofs.Try.prog kf140.orc 106 0 sh106_0 shb106_0 shr106_0 ((x1, x2, x3, ()), ())) (t106_0 x1 x2 x3) :=
  TrOk.ofTest (fun h0 => TrOk.ofTest (fun h1 => TrOk.ofTest (fun h2 => TrOk.ofTest (fun h3 => TrOk.ofFin (BodyRuns.of (e106_0_0 x1 x2 x3) (All.cons h3 (All.cons h2 (All.cons h1 (All.cons h0 (All.nil))))))) (fun h3 => TrOk.ofFin (BodyRuns.of (e106_0_1 x1 x2 x3) (All.cons h3 (All.cons h2 (All.cons h1 (All.cons h0 (All.nil)))))))) (fun h2 => TrOk.ofStop)) (fun h1 => TrOk.ofStop)) (fun h0 => TrOk.ofFin (BodyRuns.of (e106_0_3 x1 x2 x3) (All.cons h0 (All.nil))))

theorem ok106_0 : LoopOk Go.Proofs.Try.prog 106 0 lc106_0 := loopOk_of kf140_ok.base (T := fun (d : sh106_0.data) => t106_0 d.1.1 d.1.2.1 d.1.2.2.1) (by kernel_rfl) rfl (fun (d : sh106_0.data) => ok106_0_t d.1.1 d.1.2.1 d.1.2.2.1) (fun _ => rfl)
def kl106_0 : Known := kf140.loop 106 0 lc106_0
theorem kl106_0_ok : KnownOk Go.Proofs.Try.prog kl106_0 := kf140_ok.loop ok106_0

/-! ductility/motion.checkSamples -/

abbrev as87 : List Ty := [(.slice (.int .i64))]
abbrev rs87 : List Ty := [(.int .i64), (.int .i64)]

def t87 (x0 : (List Int)) : Tr (Tys.data rs87) :=
  Tr.test (Option.isSome (l106_0 ((x0, ((↑(List.length x0) : Int), ((0 : Int), ()))), ())))
    (Tr.test (isRet (l106_0 ((x0, ((↑(List.length x0) : Int), ((0 : Int), ()))), ())))
      (let r0 : (Int × Int × PUnit) × PUnit := r106_0 ((x0, ((↑(List.length x0) : Int), ((0 : Int), ()))), ());
      Tr.fin (((r0.fst.fst : Int), ((r0.fst.snd.fst : Int), ()))))
      (Tr.fin (((0 : Int), ((0 : Int), ())))))
    (Tr.stop)

def f87 (d : Tys.data as87) : Option (Tys.data rs87) := (t87 d.1).val
def g87 (d : Tys.data as87) : Tys.data rs87 := (f87 d).getD (Tys.dflt rs87)
def p87 : PureC := pcOf as87 rs87 f87 g87

theorem e87_0 (x0 : (List Int)) : runPure kl106_0.orc Go.Proofs.Try.prog 400 87 as87 rs87 (x0, ()) [true, true] =
    (let r0 : (Int × Int × PUnit) × PUnit := r106_0 ((x0, ((↑(List.length x0) : Int), ((0 : Int), ()))), ()); some (((r0.fst.fst : Int), ((r0.fst.snd.fst : Int), ())), [(isRet (l106_0 ((x0, ((↑(List.length x0) : Int), ((0 : Int), ()))), ())), true), (Option.isSome (l106_0 ((x0, ((↑(List.length x0) : Int), ((0 : Int), ()))), ())), true)])) := by kernel_rfl
theorem e87_1 (x0 : (List Int)) : runPure kl106_0.orc Go.Proofs.Try.prog 400 87 as87 rs87 (x0, ()) [true, false] =
    (some (((0 : Int), ((0 : Int), ())), [(isRet (l106_0 ((x0, ((↑(List.length x0) : Int), ((0 : Int), ()))), ())), false), (Option.isSome (l106_0 ((x0, ((↑(List.length x0) : Int), ((0 : Int), ()))), ())), true)])) := by kernel_rfl

theorem ok87_t (x0 : (List Int)) : TrOk (PureRuns Go.Proofs.Try.prog kl106_0.orc 87 as87 rs87 (x0, ())) (t87 x0) :=
  TrOk.ofTest (fun h0 => TrOk.ofTest (fun h1 => TrOk.ofFin (PureRuns.of (e87_0 x0) (All.cons h1 (All.cons h0 (All.nil))))) (fun h1 => TrOk.ofFin (PureRuns.of (e87_1 x0) (All.cons h1 (All.cons h0 (All.nil)))))) (fun h0 => TrOk.ofStop)

theorem ok87 : PureOk Go.Proofs.Try.prog 87 p87 := pureOk_of kl106_0_ok.base (T := fun (d : Tys.data as87) => t87 d.1) (by kernel_rfl) (fun (d : Tys.data as87) => ok87_t d.1)
def kf87 : Known := kl106_0.func 87 p87
theorem kf87_ok : KnownOk Go.Proofs.Try.prog kf87 := kl106_0_ok.func ok87

/-! ductility/motion.CheckRecord -/

abbrev as17 : List Ty := [(.pair (.int .i64) (.pair (.slice (.int .i64)) .unit))]
abbrev rs17 : List Ty := [(.int .i64), (.int .i64)]

def t17 (x0 : Int) (x0' : (List Int)) : Tr (Tys.data rs17) :=
  Tr.test ((!leF (1 : Int) x0 : Bool))
    (Tr.test (Option.isSome (f86 ((true : Bool), ((2 : Int), ()))))
      (Tr.test (Option.isSome (f86 ((!leF (2 : Int) (↑(List.length x0') : Int) : Bool), ((10 : Int), ()))))
        (Tr.test (Option.isSome (f86 ((!leF (↑(List.length x0') : Int) (24 : Int) : Bool), ((8 : Int), ()))))
          (let r0 : Int × PUnit := g86 ((true : Bool), ((2 : Int), ()));
          let r2 : Int × PUnit := g86 ((!leF (2 : Int) (↑(List.length x0') : Int) : Bool), ((10 : Int), ()));
          let r3 : Int × PUnit := g86 ((!leF (↑(List.length x0') : Int) (24 : Int) : Bool), ((8 : Int), ()));
          Tr.test (Option.isSome (f85 (([r0.fst, r2.fst, r3.fst] : List Int), ())))
            (let r4 : Int × PUnit := g85 (([r0.fst, r2.fst, r3.fst] : List Int), ());
            Tr.test ((!eqF r4.fst (0 : Int) : Bool))
              (Tr.fin (((0 : Int), ((r4.fst : Int), ()))))
              (Tr.test (Option.isSome (f87 (x0', ())))
                (let r6 : Int × Int × PUnit := g87 (x0', ());
                Tr.fin (((r6.fst : Int), ((r6.snd.fst : Int), ()))))
                (Tr.stop)))
            (Tr.stop))
          (Tr.stop))
        (Tr.stop))
      (Tr.stop))
    (Tr.test (Option.isSome (f86 ((!leF x0 (1000000 : Int) : Bool), ((2 : Int), ()))))
      (Tr.test (Option.isSome (f86 ((!leF (2 : Int) (↑(List.length x0') : Int) : Bool), ((10 : Int), ()))))
        (Tr.test (Option.isSome (f86 ((!leF (↑(List.length x0') : Int) (24 : Int) : Bool), ((8 : Int), ()))))
          (let r1 : Int × PUnit := g86 ((!leF x0 (1000000 : Int) : Bool), ((2 : Int), ()));
          let r2 : Int × PUnit := g86 ((!leF (2 : Int) (↑(List.length x0') : Int) : Bool), ((10 : Int), ()));
          let r3 : Int × PUnit := g86 ((!leF (↑(List.length x0') : Int) (24 : Int) : Bool), ((8 : Int), ()));
          Tr.test (Option.isSome (f85 (([r1.fst, r2.fst, r3.fst] : List Int), ())))
            (let r5 : Int × PUnit := g85 (([r1.fst, r2.fst, r3.fst] : List Int), ());
            Tr.test ((!eqF r5.fst (0 : Int) : Bool))
              (Tr.fin (((0 : Int), ((r5.fst : Int), ()))))
              (Tr.test (Option.isSome (f87 (x0', ())))
                (let r6 : Int × Int × PUnit := g87 (x0', ());
                Tr.fin (((r6.fst : Int), ((r6.snd.fst : Int), ()))))
                (Tr.stop)))
            (Tr.stop))
          (Tr.stop))
        (Tr.stop))
      (Tr.stop))

def f17 (d : Tys.data as17) : Option (Tys.data rs17) := (t17 d.1.1 d.1.2.1).val
def g17 (d : Tys.data as17) : Tys.data rs17 := (f17 d).getD (Tys.dflt rs17)
def p17 : PureC := pcOf as17 rs17 f17 g17

theorem e17_0 (x0 : Int) (x0' : (List Int)) : runPure kf87.orc Go.Proofs.Try.prog 400 17 as17 rs17 ((x0, x0', ()), ()) [true, true, true, true, true, true, true, true, true, true] =
    (let r0 : Int × PUnit := g86 ((true : Bool), ((2 : Int), ())); let r2 : Int × PUnit := g86 ((!leF (2 : Int) (↑(List.length x0') : Int) : Bool), ((10 : Int), ())); let r3 : Int × PUnit := g86 ((!leF (↑(List.length x0') : Int) (24 : Int) : Bool), ((8 : Int), ())); let r4 : Int × PUnit := g85 (([r0.fst, r2.fst, r3.fst] : List Int), ()); some (((0 : Int), ((r4.fst : Int), ())), [((!eqF r4.fst (0 : Int) : Bool), true), (Option.isSome (f85 (([r0.fst, r2.fst, r3.fst] : List Int), ())), true), ((true : Bool), true), (Option.isSome (f86 ((!leF (↑(List.length x0') : Int) (24 : Int) : Bool), ((8 : Int), ()))), true), (Option.isSome (f86 ((!leF (2 : Int) (↑(List.length x0') : Int) : Bool), ((10 : Int), ()))), true), (Option.isSome (f86 ((true : Bool), ((2 : Int), ()))), true), ((!leF (1 : Int) x0 : Bool), true), ((!leF (1 : Int) x0 : Bool), true), ((!leF (1 : Int) x0 : Bool), true), ((!leF (1 : Int) x0 : Bool), true)])) := by kernel_rfl
theorem e17_1 (x0 : Int) (x0' : (List Int)) : runPure kf87.orc Go.Proofs.Try.prog 400 17 as17 rs17 ((x0, x0', ()), ()) [true, true, true, true, true, true, true, true, true, false, true] =
    (let r0 : Int × PUnit := g86 ((true : Bool), ((2 : Int), ())); let r2 : Int × PUnit := g86 ((!leF (2 : Int) (↑(List.length x0') : Int) : Bool), ((10 : Int), ())); let r3 : Int × PUnit := g86 ((!leF (↑(List.length x0') : Int) (24 : Int) : Bool), ((8 : Int), ())); let r4 : Int × PUnit := g85 (([r0.fst, r2.fst, r3.fst] : List Int), ()); let r6 : Int × Int × PUnit := g87 (x0', ()); some (((r6.fst : Int), ((r6.snd.fst : Int), ())), [(Option.isSome (f87 (x0', ())), true), ((!eqF r4.fst (0 : Int) : Bool), false), (Option.isSome (f85 (([r0.fst, r2.fst, r3.fst] : List Int), ())), true), ((true : Bool), true), (Option.isSome (f86 ((!leF (↑(List.length x0') : Int) (24 : Int) : Bool), ((8 : Int), ()))), true), (Option.isSome (f86 ((!leF (2 : Int) (↑(List.length x0') : Int) : Bool), ((10 : Int), ()))), true), (Option.isSome (f86 ((true : Bool), ((2 : Int), ()))), true), ((!leF (1 : Int) x0 : Bool), true), ((!leF (1 : Int) x0 : Bool), true), ((!leF (1 : Int) x0 : Bool), true), ((!leF (1 : Int) x0 : Bool), true)])) := by kernel_rfl
theorem e17_2 (x0 : Int) (x0' : (List Int)) : runPure kf87.orc Go.Proofs.Try.prog 400 17 as17 rs17 ((x0, x0', ()), ()) [false, false, false, false, true, true, true, true, true, true] =
    (let r1 : Int × PUnit := g86 ((!leF x0 (1000000 : Int) : Bool), ((2 : Int), ())); let r2 : Int × PUnit := g86 ((!leF (2 : Int) (↑(List.length x0') : Int) : Bool), ((10 : Int), ())); let r3 : Int × PUnit := g86 ((!leF (↑(List.length x0') : Int) (24 : Int) : Bool), ((8 : Int), ())); let r5 : Int × PUnit := g85 (([r1.fst, r2.fst, r3.fst] : List Int), ()); some (((0 : Int), ((r5.fst : Int), ())), [((!eqF r5.fst (0 : Int) : Bool), true), (Option.isSome (f85 (([r1.fst, r2.fst, r3.fst] : List Int), ())), true), ((true : Bool), true), (Option.isSome (f86 ((!leF (↑(List.length x0') : Int) (24 : Int) : Bool), ((8 : Int), ()))), true), (Option.isSome (f86 ((!leF (2 : Int) (↑(List.length x0') : Int) : Bool), ((10 : Int), ()))), true), (Option.isSome (f86 ((!leF x0 (1000000 : Int) : Bool), ((2 : Int), ()))), true), ((!leF (1 : Int) x0 : Bool), false), ((!leF (1 : Int) x0 : Bool), false), ((!leF (1 : Int) x0 : Bool), false), ((!leF (1 : Int) x0 : Bool), false)])) := by kernel_rfl
theorem e17_3 (x0 : Int) (x0' : (List Int)) : runPure kf87.orc Go.Proofs.Try.prog 400 17 as17 rs17 ((x0, x0', ()), ()) [false, false, false, false, true, true, true, true, true, false, true] =
    (let r1 : Int × PUnit := g86 ((!leF x0 (1000000 : Int) : Bool), ((2 : Int), ())); let r2 : Int × PUnit := g86 ((!leF (2 : Int) (↑(List.length x0') : Int) : Bool), ((10 : Int), ())); let r3 : Int × PUnit := g86 ((!leF (↑(List.length x0') : Int) (24 : Int) : Bool), ((8 : Int), ())); let r5 : Int × PUnit := g85 (([r1.fst, r2.fst, r3.fst] : List Int), ()); let r6 : Int × Int × PUnit := g87 (x0', ()); some (((r6.fst : Int), ((r6.snd.fst : Int), ())), [(Option.isSome (f87 (x0', ())), true), ((!eqF r5.fst (0 : Int) : Bool), false), (Option.isSome (f85 (([r1.fst, r2.fst, r3.fst] : List Int), ())), true), ((true : Bool), true), (Option.isSome (f86 ((!leF (↑(List.length x0') : Int) (24 : Int) : Bool), ((8 : Int), ()))), true), (Option.isSome (f86 ((!leF (2 : Int) (↑(List.length x0') : Int) : Bool), ((10 : Int), ()))), true), (Option.isSome (f86 ((!leF x0 (1000000 : Int) : Bool), ((2 : Int), ()))), true), ((!leF (1 : Int) x0 : Bool), false), ((!leF (1 : Int) x0 : Bool), false), ((!leF (1 : Int) x0 : Bool), false), ((!leF (1 : Int) x0 : Bool), false)])) := by kernel_rfl

theorem ok17_t (x0 : Int) (x0' : (List Int)) : TrOk (PureRuns Go.Proofs.Try.prog kf87.orc 17 as17 rs17 ((x0, x0', ()), ())) (t17 x0 x0') :=
  TrOk.ofTest (fun h0 => TrOk.ofTest (fun h4 => TrOk.ofTest (fun h5 => TrOk.ofTest (fun h6 => TrOk.ofTest (fun h8 => TrOk.ofTest (fun h9 => TrOk.ofFin (PureRuns.of (e17_0 x0 x0') (All.cons h9 (All.cons h8 (All.cons rfl (All.cons h6 (All.cons h5 (All.cons h4 (All.cons (not_of (of_not (h0))) (All.cons (not_of (of_not (h0))) (All.cons (not_of (of_not (h0))) (All.cons h0 (All.nil))))))))))))) (fun h9 => TrOk.ofTest (fun h10 => TrOk.ofFin (PureRuns.of (e17_1 x0 x0') (All.cons h10 (All.cons h9 (All.cons h8 (All.cons rfl (All.cons h6 (All.cons h5 (All.cons h4 (All.cons (not_of (of_not (h0))) (All.cons (not_of (of_not (h0))) (All.cons (not_of (of_not (h0))) (All.cons h0 (All.nil)))))))))))))) (fun h10 => TrOk.ofStop))) (fun h8 => TrOk.ofStop)) (fun h6 => TrOk.ofStop)) (fun h5 => TrOk.ofStop)) (fun h4 => TrOk.ofStop)) (fun h0 => TrOk.ofTest (fun h4 => TrOk.ofTest (fun h5 => TrOk.ofTest (fun h6 => TrOk.ofTest (fun h8 => TrOk.ofTest (fun h9 => TrOk.ofFin (PureRuns.of (e17_2 x0 x0') (All.cons h9 (All.cons h8 (All.cons rfl (All.cons h6 (All.cons h5 (All.cons h4 (All.cons (not_of (of_not (h0))) (All.cons (not_of (of_not (h0))) (All.cons (not_of (of_not (h0))) (All.cons h0 (All.nil))))))))))))) (fun h9 => TrOk.ofTest (fun h10 => TrOk.ofFin (PureRuns.of (e17_3 x0 x0') (All.cons h10 (All.cons h9 (All.cons h8 (All.cons rfl (All.cons h6 (All.cons h5 (All.cons h4 (All.cons (not_of (of_not (h0))) (All.cons (not_of (of_not (h0))) (All.cons (not_of (of_not (h0))) (All.cons h0 (All.nil)))))))))))))) (fun h10 => TrOk.ofStop))) (fun h8 => TrOk.ofStop)) (fun h6 => TrOk.ofStop)) (fun h5 => TrOk.ofStop)) (fun h4 => TrOk.ofStop))

theorem ok17 : PureOk Go.Proofs.Try.prog 17 p17 := pureOk_of kf87_ok.base (T := fun (d : Tys.data as17) => t17 d.1.1 d.1.2.1) (by kernel_rfl) (fun (d : Tys.data as17) => ok17_t d.1.1 d.1.2.1)
def kf17 : Known := kf87.func 17 p17
theorem kf17_ok : KnownOk Go.Proofs.Try.prog kf17 := kf87_ok.func ok17

/-! ductility/motion.recordError -/

abbrev as88 : List Ty := [(.pair (.int .i64) (.pair (.slice (.int .i64)) .unit))]
abbrev rs88 : List Ty := [(.int .i64)]

def t88 (x0 : Int) (x0' : (List Int)) : Tr (Tys.data rs88) :=
  Tr.test (Option.isSome (f17 ((x0, (x0', ())), ())))
    (let r0 : Int × Int × PUnit := g17 ((x0, (x0', ())), ());
    Tr.fin (((r0.snd.fst : Int), ())))
    (Tr.stop)

def f88 (d : Tys.data as88) : Option (Tys.data rs88) := (t88 d.1.1 d.1.2.1).val
def g88 (d : Tys.data as88) : Tys.data rs88 := (f88 d).getD (Tys.dflt rs88)
def p88 : PureC := pcOf as88 rs88 f88 g88

theorem e88_0 (x0 : Int) (x0' : (List Int)) : runPure kf17.orc Go.Proofs.Try.prog 400 88 as88 rs88 ((x0, x0', ()), ()) [true] =
    (let r0 : Int × Int × PUnit := g17 ((x0, (x0', ())), ()); some (((r0.snd.fst : Int), ()), [(Option.isSome (f17 ((x0, (x0', ())), ())), true)])) := by kernel_rfl

theorem ok88_t (x0 : Int) (x0' : (List Int)) : TrOk (PureRuns Go.Proofs.Try.prog kf17.orc 88 as88 rs88 ((x0, x0', ()), ())) (t88 x0 x0') :=
  TrOk.ofTest (fun h0 => TrOk.ofFin (PureRuns.of (e88_0 x0 x0') (All.cons h0 (All.nil)))) (fun h0 => TrOk.ofStop)

theorem ok88 : PureOk Go.Proofs.Try.prog 88 p88 := pureOk_of kf17_ok.base (T := fun (d : Tys.data as88) => t88 d.1.1 d.1.2.1) (by kernel_rfl) (fun (d : Tys.data as88) => ok88_t d.1.1 d.1.2.1)
def kf88 : Known := kf17.func 88 p88
theorem kf88_ok : KnownOk Go.Proofs.Try.prog kf88 := kf17_ok.func ok88

/-! loop 0 of ductility/motion.endOf -/

abbrev sh90_0 : Sh := { n := 25, slots := [2, 3, 6, 7, 8], pats := [.ptr 0 2 0, .ptr 1 2 0, .ty (.slice (.int .i64)), .ty (.int .i64), .ty (.int .i64)], boxes := [.row [.ty (.int .i64), .ty (.int .i64)], .row [.ty (.int .i64), .ty (.int .i64)]] }
abbrev shb90_0 : Sh := { n := 25, slots := [2, 3], pats := [.ptr 0 2 0, .ptr 1 2 0], boxes := [.row [.ty (.int .i64), .ty (.int .i64)], .row [.ty (.int .i64), .ty (.int .i64)]] }
abbrev shr90_0 : Sh := { n := 25, slots := [], pats := [], boxes := [.row [.ty (.int .i64), .ty (.int .i64)], .row [.ty (.int .i64), .ty (.int .i64)]] }

def t90_0 (x2 : (List Int)) (x3 : Int) (x4 : Int) (b0_0 : Int) (b0_1 : Int) (b1_0 : Int) (b1_1 : Int) : Tr (Out sh90_0.data shb90_0.data shr90_0.data) :=
  Tr.test ((!leF x3 x4 : Bool))
    (Tr.test ((decide ((0 : Int) ≤ x4) && decide (x4 < (↑(List.length x2) : Int)) : Bool))
      (Tr.fin (.again ((x2, (x3, ((wrap64 (x4 + (1 : Int)) : Int), ()))), ((b0_0, (b0_1, ())), (((wrap64 (b1_0 + List.getD x2 (Int.toNat x4) (0 : Int)) : Int), ((wrap64 (b1_1 + wrap64 (b1_0 + List.getD x2 (Int.toNat x4) (0 : Int))) : Int), ())), ())))))
      (Tr.stop /- none [op 0 of region 4 of F90] -/))
    (Tr.fin (.brk ((), ((b0_0, (b0_1, ())), ((b1_0, (b1_1, ())), ())))))

def s90_0 (d : sh90_0.data) : Option (Out sh90_0.data shb90_0.data shr90_0.data) := (t90_0 d.1.1 d.1.2.1 d.1.2.2.1 d.2.1.1 d.2.1.2.1 d.2.2.1.1 d.2.2.1.2.1).val
def l90_0 (d : sh90_0.data) : Option (shb90_0.data ⊕ shr90_0.data) := itr s90_0 rounds d
def b90_0 (d : sh90_0.data) : shb90_0.data := outB shb90_0.dflt (l90_0 d)
def r90_0 (d : sh90_0.data) : shr90_0.data := outR shr90_0.dflt (l90_0 d)
def lc90_0 : LoopC := lcB sh90_0 shb90_0 shr90_0 l90_0 b90_0

theorem e90_0_0 (x2 : (List Int)) (x3 : Int) (x4 : Int) (b0_0 : Int) (b0_1 : Int) (b1_0 : Int) (b1_1 : Int) : runBody kf88.orc Go.Proofs.Try.prog 400 90 0 sh90_0 shb90_0 shr90_0 ((x2, x3, x4, ()), (b0_0, b0_1, ()), (b1_0, b1_1, ()), ()) [true, true] =
    (some (.again ((x2, (x3, ((wrap64 (x4 + (1 : Int)) : Int), ()))), ((b0_0, (b0_1, ())), (((wrap64 (b1_0 + List.getD x2 (Int.toNat x4) (0 : Int)) : Int), ((wrap64 (b1_1 + wrap64 (b1_0 + List.getD x2 (Int.toNat x4) (0 : Int))) : Int), ())), ()))), [((decide ((0 : Int) ≤ x4) && decide (x4 < (↑(List.length x2) : Int)) : Bool), true), ((!leF x3 x4 : Bool), true)])) := by kernel_rfl
theorem e90_0_2 (x2 : (List Int)) (x3 : Int) (x4 : Int) (b0_0 : Int) (b0_1 : Int) (b1_0 : Int) (b1_1 : Int) : runBody kf88.orc Go.Proofs.Try.prog 400 90 0 sh90_0 shb90_0 shr90_0 ((x2, x3, x4, ()), (b0_0, b0_1, ()), (b1_0, b1_1, ()), ()) [false] =
    (some (.brk ((), ((b0_0, (b0_1, ())), ((b1_0, (b1_1, ())), ()))), [((!leF x3 x4 : Bool), false)])) := by kernel_rfl

theorem ok90_0_t (x2 : (List Int)) (x3 : Int) (x4 : Int) (b0_0 : Int) (b0_1 : Int) (b1_0 : Int) (b1_1 : Int) : TrOk (BodyRuns Go.Proofs.Try.prog kf88.orc 90 0 sh90_0 shb90_0 shr90_0 ((x2, x3, x4, ()), (b0_0, b0_1, ()), (b1_0, b1_1, ()), ())) (t90_0 x2 x3 x4 b0_0 b0_1 b1_0 b1_1) :=
  TrOk.ofTest (fun h0 => TrOk.ofTest (fun h1 => TrOk.ofFin (BodyRuns.of (e90_0_0 x2 x3 x4 b0_0 b0_1 b1_0 b1_1) (All.cons h1 (All.cons h0 (All.nil))))) (fun h1 => TrOk.ofStop)) (fun h0 => TrOk.ofFin (BodyRuns.of (e90_0_2 x2 x3 x4 b0_0 b0_1 b1_0 b1_1) (All.cons h0 (All.nil))))

theorem ok90_0 : LoopOk Go.Proofs.Try.prog 90 0 lc90_0 := loopOk_ofB kf88_ok.base (T := fun (d : sh90_0.data) => t90_0 d.1.1 d.1.2.1 d.1.2.2.1 d.2.1.1 d.2.1.2.1 d.2.2.1.1 d.2.2.1.2.1) (by kernel_rfl) rfl (fun (d : sh90_0.data) => ok90_0_t d.1.1 d.1.2.1 d.1.2.2.1 d.2.1.1 d.2.1.2.1 d.2.2.1.1 d.2.2.1.2.1) (fun _ => rfl)
def kl90_0 : Known := kf88.loop 90 0 lc90_0
theorem kl90_0_ok : KnownOk Go.Proofs.Try.prog kl90_0 := kf88_ok.loop ok90_0

/-! ductility/motion.endOf -/

abbrev as90 : List Ty := [(.slice (.int .i64))]
abbrev rs90 : List Ty := [(.pair (.int .i64) (.pair (.int .i64) .unit))]

def t90 (x0 : (List Int)) : Tr (Tys.data rs90) :=
  Tr.test (isBrk (l90_0 ((x0, ((↑(List.length x0) : Int), ((0 : Int), ()))), (((0 : Int), ((0 : Int), ())), (((0 : Int), ((0 : Int), ())), ())))))
    (let r0 : PUnit × (Int × Int × PUnit) × (Int × Int × PUnit) × PUnit := b90_0 ((x0, ((↑(List.length x0) : Int), ((0 : Int), ()))), (((0 : Int), ((0 : Int), ())), (((0 : Int), ((0 : Int), ())), ())));
    Tr.fin ((((r0.snd.snd.fst.fst : Int), ((r0.snd.snd.fst.snd.fst : Int), ())), ())))
    (Tr.stop)

def f90 (d : Tys.data as90) : Option (Tys.data rs90) := (t90 d.1).val
def g90 (d : Tys.data as90) : Tys.data rs90 := (f90 d).getD (Tys.dflt rs90)
def p90 : PureC := pcOf as90 rs90 f90 g90

theorem e90_0 (x0 : (List Int)) : runPure kl90_0.orc Go.Proofs.Try.prog 400 90 as90 rs90 (x0, ()) [true, true] =
    (let r0 : PUnit × (Int × Int × PUnit) × (Int × Int × PUnit) × PUnit := b90_0 ((x0, ((↑(List.length x0) : Int), ((0 : Int), ()))), (((0 : Int), ((0 : Int), ())), (((0 : Int), ((0 : Int), ())), ()))); some ((((r0.snd.snd.fst.fst : Int), ((r0.snd.snd.fst.snd.fst : Int), ())), ()), [((true : Bool), true), (isBrk (l90_0 ((x0, ((↑(List.length x0) : Int), ((0 : Int), ()))), (((0 : Int), ((0 : Int), ())), (((0 : Int), ((0 : Int), ())), ())))), true)])) := by kernel_rfl

theorem ok90_t (x0 : (List Int)) : TrOk (PureRuns Go.Proofs.Try.prog kl90_0.orc 90 as90 rs90 (x0, ())) (t90 x0) :=
  TrOk.ofTest (fun h0 => TrOk.ofFin (PureRuns.of (e90_0 x0) (All.cons rfl (All.cons h0 (All.nil))))) (fun h0 => TrOk.ofStop)

theorem ok90 : PureOk Go.Proofs.Try.prog 90 p90 := pureOk_of kl90_0_ok.base (T := fun (d : Tys.data as90) => t90 d.1) (by kernel_rfl) (fun (d : Tys.data as90) => ok90_t d.1)
def kf90 : Known := kl90_0.func 90 p90
theorem kf90_ok : KnownOk Go.Proofs.Try.prog kf90 := kl90_0_ok.func ok90

/-! loop 0 of ductility/motion.checkItems[[]int] -/

abbrev sh163_0 : Sh := { n := 25, slots := [1, 9, 10, 11], pats := [.fn 164 [(0, 1)], .ty (.slice (.slice (.int .i64))), .ty (.int .i64), .ty (.int .i64)], boxes := [.row [.ty (.int .i64)]] }
abbrev shb163_0 : Sh := { n := 25, slots := [], pats := [], boxes := [.row [.ty (.int .i64)]] }
abbrev shr163_0 : Sh := { n := 25, slots := [4, 5], pats := [.ty (.int .i64), .ty (.int .i64)], boxes := [.row [.ty (.int .i64)]] }

def t163_0 (x1 : (List (List Int))) (x2 : Int) (x3 : Int) (b0_0 : Int) : Tr (Out sh163_0.data shb163_0.data shr163_0.data) :=
  Tr.test ((!leF x2 x3 : Bool))
    (Tr.test ((decide ((0 : Int) ≤ x3) && decide (x3 < (↑(List.length x1) : Int)) : Bool))
      (Tr.test (Option.isSome (f87 ((List.getD x1 (Int.toNat x3) [] : List Int), ())))
        (Tr.test (Option.isSome (f86 ((!eqF (↑(List.length (List.getD x1 (Int.toNat x3) [])) : Int) b0_0 : Bool), ((10 : Int), ()))))
          (Tr.test (Option.isSome (f90 ((List.getD x1 (Int.toNat x3) [] : List Int), ())))
            (let r0 : (Int × Int × PUnit) × PUnit := g90 ((List.getD x1 (Int.toNat x3) [] : List Int), ());
            Tr.test (Option.isSome (f86 ((!(r0.fst.fst == (0 : Int) && (r0.fst.snd.fst == (0 : Int) && true)) : Bool), ((21 : Int), ()))))
              (let r1 : Int × PUnit := g86 ((!eqF (↑(List.length (List.getD x1 (Int.toNat x3) [])) : Int) b0_0 : Bool), ((10 : Int), ()));
              let r2 : Int × Int × PUnit := g87 ((List.getD x1 (Int.toNat x3) [] : List Int), ());
              let r3 : Int × PUnit := g86 ((!(r0.fst.fst == (0 : Int) && (r0.fst.snd.fst == (0 : Int) && true)) : Bool), ((21 : Int), ()));
              Tr.test (Option.isSome (f85 (([r1.fst, r2.snd.fst, r3.fst] : List Int), ())))
                (let r4 : Int × PUnit := g85 (([r1.fst, r2.snd.fst, r3.fst] : List Int), ());
                Tr.test ((!eqF r4.fst (0 : Int) : Bool))
                  (Tr.fin (.ret ((x3, ((r4.fst : Int), ())), ((b0_0, ()), ()))))
                  (Tr.fin (.again ((x1, (x2, ((wrap64 (x3 + (1 : Int)) : Int), ()))), ((b0_0, ()), ())))))
                (Tr.stop))
              (Tr.stop))
            (Tr.stop))
          (Tr.stop))
        (Tr.stop))
      (Tr.stop /- none [op 1 of region 3 of F163] -/))
    (Tr.fin (.brk ((), ((b0_0, ()), ()))))

def s163_0 (d : sh163_0.data) : Option (Out sh163_0.data shb163_0.data shr163_0.data) := (t163_0 d.1.1 d.1.2.1 d.1.2.2.1 d.2.1.1).val
def l163_0 (d : sh163_0.data) : Option (shb163_0.data ⊕ shr163_0.data) := itr s163_0 rounds d
def b163_0 (d : sh163_0.data) : shb163_0.data := outB shb163_0.dflt (l163_0 d)
def r163_0 (d : sh163_0.data) : shr163_0.data := outR shr163_0.dflt (l163_0 d)
def lc163_0 : LoopC := lcOf sh163_0 shb163_0 shr163_0 l163_0 b163_0 r163_0

theorem e163_0_0 (x1 : (List (List Int))) (x2 : Int) (x3 : Int) (b0_0 : Int) : runBody kf90.orc Go.Proofs.Try.prog 400 163 0 sh163_0 shb163_0 shr163_0 ((x1, x2, x3, ()), (b0_0, ()), ()) [true, true, true, true, true, true, true, true, true] =
    (let r0 : (Int × Int × PUnit) × PUnit := g90 ((List.getD x1 (Int.toNat x3) [] : List Int), ()); let r1 : Int × PUnit := g86 ((!eqF (↑(List.length (List.getD x1 (Int.toNat x3) [])) : Int) b0_0 : Bool), ((10 : Int), ())); let r2 : Int × Int × PUnit := g87 ((List.getD x1 (Int.toNat x3) [] : List Int), ()); let r3 : Int × PUnit := g86 ((!(r0.fst.fst == (0 : Int) && (r0.fst.snd.fst == (0 : Int) && true)) : Bool), ((21 : Int), ())); let r4 : Int × PUnit := g85 (([r1.fst, r2.snd.fst, r3.fst] : List Int), ()); some (.ret ((x3, ((r4.fst : Int), ())), ((b0_0, ()), ())), [((!eqF r4.fst (0 : Int) : Bool), true), (Option.isSome (f85 (([r1.fst, r2.snd.fst, r3.fst] : List Int), ())), true), ((true : Bool), true), (Option.isSome (f86 ((!(r0.fst.fst == (0 : Int) && (r0.fst.snd.fst == (0 : Int) && true)) : Bool), ((21 : Int), ()))), true), (Option.isSome (f90 ((List.getD x1 (Int.toNat x3) [] : List Int), ())), true), (Option.isSome (f86 ((!eqF (↑(List.length (List.getD x1 (Int.toNat x3) [])) : Int) b0_0 : Bool), ((10 : Int), ()))), true), (Option.isSome (f87 ((List.getD x1 (Int.toNat x3) [] : List Int), ())), true), ((decide ((0 : Int) ≤ x3) && decide (x3 < (↑(List.length x1) : Int)) : Bool), true), ((!leF x2 x3 : Bool), true)])) := by kernel_rfl
theorem e163_0_1 (x1 : (List (List Int))) (x2 : Int) (x3 : Int) (b0_0 : Int) : runBody kf90.orc Go.Proofs.Try.prog 400 163 0 sh163_0 shb163_0 shr163_0 ((x1, x2, x3, ()), (b0_0, ()), ()) [true, true, true, true, true, true, true, true, false] =
    (let r0 : (Int × Int × PUnit) × PUnit := g90 ((List.getD x1 (Int.toNat x3) [] : List Int), ()); let r1 : Int × PUnit := g86 ((!eqF (↑(List.length (List.getD x1 (Int.toNat x3) [])) : Int) b0_0 : Bool), ((10 : Int), ())); let r2 : Int × Int × PUnit := g87 ((List.getD x1 (Int.toNat x3) [] : List Int), ()); let r3 : Int × PUnit := g86 ((!(r0.fst.fst == (0 : Int) && (r0.fst.snd.fst == (0 : Int) && true)) : Bool), ((21 : Int), ())); let r4 : Int × PUnit := g85 (([r1.fst, r2.snd.fst, r3.fst] : List Int), ()); some (.again ((x1, (x2, ((wrap64 (x3 + (1 : Int)) : Int), ()))), ((b0_0, ()), ())), [((!eqF r4.fst (0 : Int) : Bool), false), (Option.isSome (f85 (([r1.fst, r2.snd.fst, r3.fst] : List Int), ())), true), ((true : Bool), true), (Option.isSome (f86 ((!(r0.fst.fst == (0 : Int) && (r0.fst.snd.fst == (0 : Int) && true)) : Bool), ((21 : Int), ()))), true), (Option.isSome (f90 ((List.getD x1 (Int.toNat x3) [] : List Int), ())), true), (Option.isSome (f86 ((!eqF (↑(List.length (List.getD x1 (Int.toNat x3) [])) : Int) b0_0 : Bool), ((10 : Int), ()))), true), (Option.isSome (f87 ((List.getD x1 (Int.toNat x3) [] : List Int), ())), true), ((decide ((0 : Int) ≤ x3) && decide (x3 < (↑(List.length x1) : Int)) : Bool), true), ((!leF x2 x3 : Bool), true)])) := by kernel_rfl
theorem e163_0_3 (x1 : (List (List Int))) (x2 : Int) (x3 : Int) (b0_0 : Int) : runBody kf90.orc Go.Proofs.Try.prog 400 163 0 sh163_0 shb163_0 shr163_0 ((x1, x2, x3, ()), (b0_0, ()), ()) [false] =
    (some (.brk ((), ((b0_0, ()), ())), [((!leF x2 x3 : Bool), false)])) := by kernel_rfl

theorem ok163_0_t (x1 : (List (List Int))) (x2 : Int) (x3 : Int) (b0_0 : Int) : TrOk (BodyRuns Go.Proofs.Try.prog kf90.orc 163 0 sh163_0 shb163_0 shr163_0 ((x1, x2, x3, ()), (b0_0, ()), ())) (t163_0 x1 x2 x3 b0_0) :=
  TrOk.ofTest (fun h0 => TrOk.ofTest (fun h1 => TrOk.ofTest (fun h2 => TrOk.ofTest (fun h3 => TrOk.ofTest (fun h4 => TrOk.ofTest (fun h5 => TrOk.ofTest (fun h7 => TrOk.ofTest (fun h8 => TrOk.ofFin (BodyRuns.of (e163_0_0 x1 x2 x3 b0_0) (All.cons h8 (All.cons h7 (All.cons rfl (All.cons h5 (All.cons h4 (All.cons h3 (All.cons h2 (All.cons h1 (All.cons h0 (All.nil)))))))))))) (fun h8 => TrOk.ofFin (BodyRuns.of (e163_0_1 x1 x2 x3 b0_0) (All.cons h8 (All.cons h7 (All.cons rfl (All.cons h5 (All.cons h4 (All.cons h3 (All.cons h2 (All.cons h1 (All.cons h0 (All.nil))))))))))))) (fun h7 => TrOk.ofStop)) (fun h5 => TrOk.ofStop)) (fun h4 => TrOk.ofStop)) (fun h3 => TrOk.ofStop)) (fun h2 => TrOk.ofStop)) (fun h1 => TrOk.ofStop)) (fun h0 => TrOk.ofFin (BodyRuns.of (e163_0_3 x1 x2 x3 b0_0) (All.cons h0 (All.nil))))

theorem ok163_0 : LoopOk Go.Proofs.Try.prog 163 0 lc163_0 := loopOk_of kf90_ok.base (T := fun (d : sh163_0.data) => t163_0 d.1.1 d.1.2.1 d.1.2.2.1 d.2.1.1) (by kernel_rfl) rfl (fun (d : sh163_0.data) => ok163_0_t d.1.1 d.1.2.1 d.1.2.2.1 d.2.1.1) (fun _ => rfl)
def kl163_0 : Known := kf90.loop 163 0 lc163_0
theorem kl163_0_ok : KnownOk Go.Proofs.Try.prog kl163_0 := kf90_ok.loop ok163_0

/-! ductility/motion.wavesError -/

abbrev as126 : List Ty := [(.slice (.slice (.int .i64))), (.int .i64)]
abbrev rs126 : List Ty := [(.int .i64)]

def t126 (x0 : (List (List Int))) (x1 : Int) : Tr (Tys.data rs126) :=
  Tr.test ((!leF (↑(List.length x0) : Int) (3 : Int) : Bool))
    (Tr.fin (((8 : Int), ())))
    (Tr.test (Option.isSome (l163_0 ((x0, ((↑(List.length x0) : Int), ((0 : Int), ()))), ((x1, ()), ()))))
      (Tr.test (isRet (l163_0 ((x0, ((↑(List.length x0) : Int), ((0 : Int), ()))), ((x1, ()), ()))))
        (let r0 : (Int × Int × PUnit) × (Int × PUnit) × PUnit := r163_0 ((x0, ((↑(List.length x0) : Int), ((0 : Int), ()))), ((x1, ()), ()));
        Tr.fin (((r0.fst.snd.fst : Int), ())))
        (Tr.fin (((0 : Int), ()))))
      (Tr.stop))

def f126 (d : Tys.data as126) : Option (Tys.data rs126) := (t126 d.1 d.2.1).val
def g126 (d : Tys.data as126) : Tys.data rs126 := (f126 d).getD (Tys.dflt rs126)
def p126 : PureC := pcOf as126 rs126 f126 g126

theorem e126_0 (x0 : (List (List Int))) (x1 : Int) : runPure kl163_0.orc Go.Proofs.Try.prog 400 126 as126 rs126 (x0, x1, ()) [true] =
    (some (((8 : Int), ()), [((!leF (↑(List.length x0) : Int) (3 : Int) : Bool), true)])) := by kernel_rfl
theorem e126_1 (x0 : (List (List Int))) (x1 : Int) : runPure kl163_0.orc Go.Proofs.Try.prog 400 126 as126 rs126 (x0, x1, ()) [false, true, true] =
    (let r0 : (Int × Int × PUnit) × (Int × PUnit) × PUnit := r163_0 ((x0, ((↑(List.length x0) : Int), ((0 : Int), ()))), ((x1, ()), ())); some (((r0.fst.snd.fst : Int), ()), [(isRet (l163_0 ((x0, ((↑(List.length x0) : Int), ((0 : Int), ()))), ((x1, ()), ()))), true), (Option.isSome (l163_0 ((x0, ((↑(List.length x0) : Int), ((0 : Int), ()))), ((x1, ()), ()))), true), ((!leF (↑(List.length x0) : Int) (3 : Int) : Bool), false)])) := by kernel_rfl
theorem e126_2 (x0 : (List (List Int))) (x1 : Int) : runPure kl163_0.orc Go.Proofs.Try.prog 400 126 as126 rs126 (x0, x1, ()) [false, true, false] =
    (some (((0 : Int), ()), [(isRet (l163_0 ((x0, ((↑(List.length x0) : Int), ((0 : Int), ()))), ((x1, ()), ()))), false), (Option.isSome (l163_0 ((x0, ((↑(List.length x0) : Int), ((0 : Int), ()))), ((x1, ()), ()))), true), ((!leF (↑(List.length x0) : Int) (3 : Int) : Bool), false)])) := by kernel_rfl

theorem ok126_t (x0 : (List (List Int))) (x1 : Int) : TrOk (PureRuns Go.Proofs.Try.prog kl163_0.orc 126 as126 rs126 (x0, x1, ())) (t126 x0 x1) :=
  TrOk.ofTest (fun h0 => TrOk.ofFin (PureRuns.of (e126_0 x0 x1) (All.cons h0 (All.nil)))) (fun h0 => TrOk.ofTest (fun h1 => TrOk.ofTest (fun h2 => TrOk.ofFin (PureRuns.of (e126_1 x0 x1) (All.cons h2 (All.cons h1 (All.cons h0 (All.nil)))))) (fun h2 => TrOk.ofFin (PureRuns.of (e126_2 x0 x1) (All.cons h2 (All.cons h1 (All.cons h0 (All.nil))))))) (fun h1 => TrOk.ofStop))

theorem ok126 : PureOk Go.Proofs.Try.prog 126 p126 := pureOk_of kl163_0_ok.base (T := fun (d : Tys.data as126) => t126 d.1 d.2.1) (by kernel_rfl) (fun (d : Tys.data as126) => ok126_t d.1 d.2.1)
def kf126 : Known := kl163_0.func 126 p126
theorem kf126_ok : KnownOk Go.Proofs.Try.prog kf126 := kl163_0_ok.func ok126

/-! ductility/motion.timesError -/

abbrev as127 : List Ty := [(.slice (.int .i64)), (.int .i64)]
abbrev rs127 : List Ty := [(.int .i64)]

def t127 (x0 : (List Int)) (x1 : Int) : Tr (Tys.data rs127) :=
  Tr.test (Option.isSome (f86 ((!eqF (↑(List.length x0) : Int) x1 : Bool), ((10 : Int), ()))))
    (Tr.test (Option.isSome (f141 ((2 : Int), (x0, ()))))
      (let r1 : Bool × PUnit := g141 ((2 : Int), (x0, ()));
      Tr.test (Option.isSome (f86 ((r1.fst : Bool), ((2 : Int), ()))))
        (let r0 : Int × PUnit := g86 ((!eqF (↑(List.length x0) : Int) x1 : Bool), ((10 : Int), ()));
        let r2 : Int × PUnit := g86 ((r1.fst : Bool), ((2 : Int), ()));
        Tr.test (Option.isSome (f85 (([r0.fst, r2.fst] : List Int), ())))
          (let r3 : Int × PUnit := g85 (([r0.fst, r2.fst] : List Int), ());
          Tr.fin (((r3.fst : Int), ())))
          (Tr.stop))
        (Tr.stop))
      (Tr.stop))
    (Tr.stop)

def f127 (d : Tys.data as127) : Option (Tys.data rs127) := (t127 d.1 d.2.1).val
def g127 (d : Tys.data as127) : Tys.data rs127 := (f127 d).getD (Tys.dflt rs127)
def p127 : PureC := pcOf as127 rs127 f127 g127

theorem e127_0 (x0 : (List Int)) (x1 : Int) : runPure kf126.orc Go.Proofs.Try.prog 400 127 as127 rs127 (x0, x1, ()) [true, true, true, true, true] =
    (let r1 : Bool × PUnit := g141 ((2 : Int), (x0, ())); let r0 : Int × PUnit := g86 ((!eqF (↑(List.length x0) : Int) x1 : Bool), ((10 : Int), ())); let r2 : Int × PUnit := g86 ((r1.fst : Bool), ((2 : Int), ())); let r3 : Int × PUnit := g85 (([r0.fst, r2.fst] : List Int), ()); some (((r3.fst : Int), ()), [(Option.isSome (f85 (([r0.fst, r2.fst] : List Int), ())), true), ((true : Bool), true), (Option.isSome (f86 ((r1.fst : Bool), ((2 : Int), ()))), true), (Option.isSome (f141 ((2 : Int), (x0, ()))), true), (Option.isSome (f86 ((!eqF (↑(List.length x0) : Int) x1 : Bool), ((10 : Int), ()))), true)])) := by kernel_rfl

theorem ok127_t (x0 : (List Int)) (x1 : Int) : TrOk (PureRuns Go.Proofs.Try.prog kf126.orc 127 as127 rs127 (x0, x1, ())) (t127 x0 x1) :=
  TrOk.ofTest (fun h0 => TrOk.ofTest (fun h1 => TrOk.ofTest (fun h2 => TrOk.ofTest (fun h4 => TrOk.ofFin (PureRuns.of (e127_0 x0 x1) (All.cons h4 (All.cons rfl (All.cons h2 (All.cons h1 (All.cons h0 (All.nil)))))))) (fun h4 => TrOk.ofStop)) (fun h2 => TrOk.ofStop)) (fun h1 => TrOk.ofStop)) (fun h0 => TrOk.ofStop)

theorem ok127 : PureOk Go.Proofs.Try.prog 127 p127 := pureOk_of kf126_ok.base (T := fun (d : Tys.data as127) => t127 d.1 d.2.1) (by kernel_rfl) (fun (d : Tys.data as127) => ok127_t d.1 d.2.1)
def kf127 : Known := kf126.func 127 p127
theorem kf127_ok : KnownOk Go.Proofs.Try.prog kf127 := kf126_ok.func ok127

/-! ductility/motion.recordOf -/

abbrev as143 : List Ty := [(.int .i64), (.slice (.int .i64))]
abbrev rs143 : List Ty := [(.pair (.int .i64) (.pair (.slice (.int .i64)) .unit)), (.int .i64)]

def t143 (x0 : Int) (x1 : (List Int)) : Tr (Tys.data rs143) :=
  Tr.test (Option.isSome (f141 ((1000 : Int), (x1, ()))))
    (let r0 : Bool × PUnit := g141 ((1000 : Int), (x1, ()));
    Tr.test ((r0.fst : Bool))
      (Tr.fin ((((0 : Int), (([] : List Int), ())), ((8 : Int), ()))))
      (Tr.fin (((x0, (x1, ())), ((0 : Int), ())))))
    (Tr.stop)

def f143 (d : Tys.data as143) : Option (Tys.data rs143) := (t143 d.1 d.2.1).val
def g143 (d : Tys.data as143) : Tys.data rs143 := (f143 d).getD (Tys.dflt rs143)
def p143 : PureC := pcOf as143 rs143 f143 g143

theorem e143_0 (x0 : Int) (x1 : (List Int)) : runPure kf127.orc Go.Proofs.Try.prog 400 143 as143 rs143 (x0, x1, ()) [true, true] =
    (let r0 : Bool × PUnit := g141 ((1000 : Int), (x1, ())); some ((((0 : Int), (([] : List Int), ())), ((8 : Int), ())), [((r0.fst : Bool), true), (Option.isSome (f141 ((1000 : Int), (x1, ()))), true)])) := by kernel_rfl
theorem e143_1 (x0 : Int) (x1 : (List Int)) : runPure kf127.orc Go.Proofs.Try.prog 400 143 as143 rs143 (x0, x1, ()) [true, false] =
    (let r0 : Bool × PUnit := g141 ((1000 : Int), (x1, ())); some (((x0, (x1, ())), ((0 : Int), ())), [((r0.fst : Bool), false), (Option.isSome (f141 ((1000 : Int), (x1, ()))), true)])) := by kernel_rfl

theorem ok143_t (x0 : Int) (x1 : (List Int)) : TrOk (PureRuns Go.Proofs.Try.prog kf127.orc 143 as143 rs143 (x0, x1, ())) (t143 x0 x1) :=
  TrOk.ofTest (fun h0 => TrOk.ofTest (fun h1 => TrOk.ofFin (PureRuns.of (e143_0 x0 x1) (All.cons h1 (All.cons h0 (All.nil))))) (fun h1 => TrOk.ofFin (PureRuns.of (e143_1 x0 x1) (All.cons h1 (All.cons h0 (All.nil)))))) (fun h0 => TrOk.ofStop)

theorem ok143 : PureOk Go.Proofs.Try.prog 143 p143 := pureOk_of kf127_ok.base (T := fun (d : Tys.data as143) => t143 d.1 d.2.1) (by kernel_rfl) (fun (d : Tys.data as143) => ok143_t d.1 d.2.1)
def kf143 : Known := kf127.func 143 p143
theorem kf143_ok : KnownOk Go.Proofs.Try.prog kf143 := kf127_ok.func ok143

/-! loop 2 of ductility/motion.addedTo -/

abbrev sh128_2 : Sh := { n := 50, slots := [2, 3, 6, 8, 9, 16, 17, 18, 23, 24, 25], pats := [.ty (.slice (.int .i64)), .ptr 0 2 0, .ptr 1 2 0, .nil, .ty (.int .i64), .ty (.slice (.slice (.int .i64))), .ty (.int .i64), .ty (.int .i64), .ty (.slice (.int .i64)), .ty (.int .i64), .ty (.int .i64)], boxes := [.row [.ty (.int .i64), .ty (.slice (.int .i64))], .row [.ty (.int .i64), .nil]] }
abbrev shb128_2 : Sh := { n := 50, slots := [2, 3, 6, 8, 16, 17, 18], pats := [.ty (.slice (.int .i64)), .ptr 0 2 0, .ptr 1 2 0, .nil, .ty (.slice (.slice (.int .i64))), .ty (.int .i64), .ty (.int .i64)], boxes := [.row [.ty (.int .i64), .ty (.slice (.int .i64))], .row [.ty (.int .i64), .nil]] }
abbrev shr128_2 : Sh := { n := 50, slots := [], pats := [], boxes := [.row [.ty (.int .i64), .ty (.slice (.int .i64))], .row [.ty (.int .i64), .nil]] }

def t128_2 (x0 : (List Int)) (x4 : Int) (x5 : (List (List Int))) (x6 : Int) (x7 : Int) (x8 : (List Int)) (x9 : Int) (x10 : Int) (b0_0 : Int) (b0_1 : (List Int)) (b1_0 : Int) : Tr (Out sh128_2.data shb128_2.data shr128_2.data) :=
  Tr.test ((!leF x9 x10 : Bool))
    (Tr.test ((decide ((0 : Int) ≤ x10) && decide (x10 < (↑(List.length x8) : Int)) : Bool))
      (Tr.stop /- none [op 2 of region 8 of F128] -/)
      (Tr.stop /- none [op 1 of region 7 of F128] -/))
    (Tr.fin (.brk ((x0, (x5, (x6, (x7, ())))), ((b0_0, (b0_1, ())), ((b1_0, ()), ())))))

def s128_2 (d : sh128_2.data) : Option (Out sh128_2.data shb128_2.data shr128_2.data) := (t128_2 d.1.1 d.1.2.1 d.1.2.2.1 d.1.2.2.2.1 d.1.2.2.2.2.1 d.1.2.2.2.2.2.1 d.1.2.2.2.2.2.2.1 d.1.2.2.2.2.2.2.2.1 d.2.1.1 d.2.1.2.1 d.2.2.1.1).val
def l128_2 (d : sh128_2.data) : Option (shb128_2.data ⊕ shr128_2.data) := itr s128_2 rounds d
def b128_2 (d : sh128_2.data) : shb128_2.data := outB shb128_2.dflt (l128_2 d)
def r128_2 (d : sh128_2.data) : shr128_2.data := outR shr128_2.dflt (l128_2 d)
def lc128_2 : LoopC := lcB sh128_2 shb128_2 shr128_2 l128_2 b128_2

theorem e128_2_2 (x0 : (List Int)) (x4 : Int) (x5 : (List (List Int))) (x6 : Int) (x7 : Int) (x8 : (List Int)) (x9 : Int) (x10 : Int) (b0_0 : Int) (b0_1 : (List Int)) (b1_0 : Int) : runBody kf143.orc Go.Proofs.Try.prog 400 128 2 sh128_2 shb128_2 shr128_2 ((x0, x4, x5, x6, x7, x8, x9, x10, ()), (b0_0, b0_1, ()), (b1_0, ()), ()) [false] =
    (some (.brk ((x0, (x5, (x6, (x7, ())))), ((b0_0, (b0_1, ())), ((b1_0, ()), ()))), [((!leF x9 x10 : Bool), false)])) := by kernel_rfl

theorem ok128_2_t (x0 : (List Int)) (x4 : Int) (x5 : (List (List Int))) (x6 : Int) (x7 : Int) (x8 : (List Int)) (x9 : Int) (x10 : Int) (b0_0 : Int) (b0_1 : (List Int)) (b1_0 : Int) : TrOk (BodyRuns Go.Proofs.Try.prog kf143.orc 128 2 sh128_2 shb128_2 shr128_2 ((x0, x4, x5, x6, x7, x8, x9, x10, ()), (b0_0, b0_1, ()), (b1_0, ()), ())) (t128_2 x0 x4 x5 x6 x7 x8 x9 x10 b0_0 b0_1 b1_0) :=
  TrOk.ofTest (fun h0 => TrOk.ofTest (fun h1 => TrOk.ofStop) (fun h1 => TrOk.ofStop)) (fun h0 => TrOk.ofFin (BodyRuns.of (e128_2_2 x0 x4 x5 x6 x7 x8 x9 x10 b0_0 b0_1 b1_0) (All.cons h0 (All.nil))))

theorem ok128_2 : LoopOk Go.Proofs.Try.prog 128 2 lc128_2 := loopOk_ofB kf143_ok.base (T := fun (d : sh128_2.data) => t128_2 d.1.1 d.1.2.1 d.1.2.2.1 d.1.2.2.2.1 d.1.2.2.2.2.1 d.1.2.2.2.2.2.1 d.1.2.2.2.2.2.2.1 d.1.2.2.2.2.2.2.2.1 d.2.1.1 d.2.1.2.1 d.2.2.1.1) (by kernel_rfl) rfl (fun (d : sh128_2.data) => ok128_2_t d.1.1 d.1.2.1 d.1.2.2.1 d.1.2.2.2.1 d.1.2.2.2.2.1 d.1.2.2.2.2.2.1 d.1.2.2.2.2.2.2.1 d.1.2.2.2.2.2.2.2.1 d.2.1.1 d.2.1.2.1 d.2.2.1.1) (fun _ => rfl)
def kl128_2 : Known := kf143.loop 128 2 lc128_2
theorem kl128_2_ok : KnownOk Go.Proofs.Try.prog kl128_2 := kf143_ok.loop ok128_2

/-! loop 0 of ductility/motion.addedTo -/

abbrev sh128_0 : Sh := { n := 50, slots := [2, 3, 6, 8, 16, 17, 18], pats := [.ty (.slice (.int .i64)), .ptr 0 2 0, .ptr 1 2 0, .nil, .ty (.slice (.slice (.int .i64))), .ty (.int .i64), .ty (.int .i64)], boxes := [.row [.ty (.int .i64), .ty (.slice (.int .i64))], .row [.ty (.int .i64), .nil]] }
abbrev shb128_0 : Sh := { n := 50, slots := [3, 6, 8], pats := [.ptr 0 2 0, .ptr 1 2 0, .nil], boxes := [.row [.ty (.int .i64), .ty (.slice (.int .i64))], .row [.ty (.int .i64), .nil]] }
abbrev shr128_0 : Sh := { n := 50, slots := [], pats := [], boxes := [.row [.ty (.int .i64), .ty (.slice (.int .i64))], .row [.ty (.int .i64), .nil]] }

def t128_0 (x0 : (List Int)) (x4 : (List (List Int))) (x5 : Int) (x6 : Int) (b0_0 : Int) (b0_1 : (List Int)) (b1_0 : Int) : Tr (Out sh128_0.data shb128_0.data shr128_0.data) :=
  Tr.test ((!leF x5 x6 : Bool))
    (Tr.test ((decide ((0 : Int) ≤ x6) && decide (x6 < (↑(List.length x4) : Int)) : Bool))
      (Tr.test (isBrk (l128_2 ((x0, (x6, (x4, (x5, (x6, ((List.getD x4 (Int.toNat x6) [] : List Int), ((↑(List.length (List.getD x4 (Int.toNat x6) [])) : Int), ((0 : Int), ())))))))), ((b0_0, (b0_1, ())), ((b1_0, ()), ())))))
        (let r0 : (List Int × List (List Int) × Int × Int × PUnit) × (Int × List Int × PUnit) × (Int × PUnit) × PUnit := b128_2 ((x0, (x6, (x4, (x5, (x6, ((List.getD x4 (Int.toNat x6) [] : List Int), ((↑(List.length (List.getD x4 (Int.toNat x6) [])) : Int), ((0 : Int), ())))))))), ((b0_0, (b0_1, ())), ((b1_0, ()), ())));
        Tr.fin (.again (((r0.fst.fst : List Int), ((r0.fst.snd.fst : List (List Int)), ((r0.fst.snd.snd.fst : Int), ((wrap64 (r0.fst.snd.snd.snd.fst + (1 : Int)) : Int), ())))), (((r0.snd.fst.fst : Int), ((r0.snd.fst.snd.fst : List Int), ())), (((r0.snd.snd.fst.fst : Int), ()), ())))))
        (Tr.stop))
      (Tr.stop /- none [op 1 of region 4 of F128] -/))
    (Tr.fin (.brk ((), ((b0_0, (b0_1, ())), ((b1_0, ()), ())))))

def s128_0 (d : sh128_0.data) : Option (Out sh128_0.data shb128_0.data shr128_0.data) := (t128_0 d.1.1 d.1.2.1 d.1.2.2.1 d.1.2.2.2.1 d.2.1.1 d.2.1.2.1 d.2.2.1.1).val
def l128_0 (d : sh128_0.data) : Option (shb128_0.data ⊕ shr128_0.data) := itr s128_0 rounds d
def b128_0 (d : sh128_0.data) : shb128_0.data := outB shb128_0.dflt (l128_0 d)
def r128_0 (d : sh128_0.data) : shr128_0.data := outR shr128_0.dflt (l128_0 d)
def lc128_0 : LoopC := lcB sh128_0 shb128_0 shr128_0 l128_0 b128_0

theorem e128_0_0 (x0 : (List Int)) (x4 : (List (List Int))) (x5 : Int) (x6 : Int) (b0_0 : Int) (b0_1 : (List Int)) (b1_0 : Int) : runBody kl128_2.orc Go.Proofs.Try.prog 400 128 0 sh128_0 shb128_0 shr128_0 ((x0, x4, x5, x6, ()), (b0_0, b0_1, ()), (b1_0, ()), ()) [true, true, true, true] =
    (let r0 : (List Int × List (List Int) × Int × Int × PUnit) × (Int × List Int × PUnit) × (Int × PUnit) × PUnit := b128_2 ((x0, (x6, (x4, (x5, (x6, ((List.getD x4 (Int.toNat x6) [] : List Int), ((↑(List.length (List.getD x4 (Int.toNat x6) [])) : Int), ((0 : Int), ())))))))), ((b0_0, (b0_1, ())), ((b1_0, ()), ()))); some (.again (((r0.fst.fst : List Int), ((r0.fst.snd.fst : List (List Int)), ((r0.fst.snd.snd.fst : Int), ((wrap64 (r0.fst.snd.snd.snd.fst + (1 : Int)) : Int), ())))), (((r0.snd.fst.fst : Int), ((r0.snd.fst.snd.fst : List Int), ())), (((r0.snd.snd.fst.fst : Int), ()), ()))), [((true : Bool), true), (isBrk (l128_2 ((x0, (x6, (x4, (x5, (x6, ((List.getD x4 (Int.toNat x6) [] : List Int), ((↑(List.length (List.getD x4 (Int.toNat x6) [])) : Int), ((0 : Int), ())))))))), ((b0_0, (b0_1, ())), ((b1_0, ()), ())))), true), ((decide ((0 : Int) ≤ x6) && decide (x6 < (↑(List.length x4) : Int)) : Bool), true), ((!leF x5 x6 : Bool), true)])) := by kernel_rfl
theorem e128_0_2 (x0 : (List Int)) (x4 : (List (List Int))) (x5 : Int) (x6 : Int) (b0_0 : Int) (b0_1 : (List Int)) (b1_0 : Int) : runBody kl128_2.orc Go.Proofs.Try.prog 400 128 0 sh128_0 shb128_0 shr128_0 ((x0, x4, x5, x6, ()), (b0_0, b0_1, ()), (b1_0, ()), ()) [false] =
    (some (.brk ((), ((b0_0, (b0_1, ())), ((b1_0, ()), ()))), [((!leF x5 x6 : Bool), false)])) := by kernel_rfl

theorem ok128_0_t (x0 : (List Int)) (x4 : (List (List Int))) (x5 : Int) (x6 : Int) (b0_0 : Int) (b0_1 : (List Int)) (b1_0 : Int) : TrOk (BodyRuns Go.Proofs.Try.prog kl128_2.orc 128 0 sh128_0 shb128_0 shr128_0 ((x0, x4, x5, x6, ()), (b0_0, b0_1, ()), (b1_0, ()), ())) (t128_0 x0 x4 x5 x6 b0_0 b0_1 b1_0) :=
  TrOk.ofTest (fun h0 => TrOk.ofTest (fun h1 => TrOk.ofTest (fun h2 => TrOk.ofFin (BodyRuns.of (e128_0_0 x0 x4 x5 x6 b0_0 b0_1 b1_0) (All.cons rfl (All.cons h2 (All.cons h1 (All.cons h0 (All.nil))))))) (fun h2 => TrOk.ofStop)) (fun h1 => TrOk.ofStop)) (fun h0 => TrOk.ofFin (BodyRuns.of (e128_0_2 x0 x4 x5 x6 b0_0 b0_1 b1_0) (All.cons h0 (All.nil))))

theorem ok128_0 : LoopOk Go.Proofs.Try.prog 128 0 lc128_0 := loopOk_ofB kl128_2_ok.base (T := fun (d : sh128_0.data) => t128_0 d.1.1 d.1.2.1 d.1.2.2.1 d.1.2.2.2.1 d.2.1.1 d.2.1.2.1 d.2.2.1.1) (by kernel_rfl) rfl (fun (d : sh128_0.data) => ok128_0_t d.1.1 d.1.2.1 d.1.2.2.1 d.1.2.2.2.1 d.2.1.1 d.2.1.2.1 d.2.2.1.1) (fun _ => rfl)
def kl128_0 : Known := kl128_2.loop 128 0 lc128_0
theorem kl128_0_ok : KnownOk Go.Proofs.Try.prog kl128_0 := kl128_2_ok.loop ok128_0

/-! loop 2 of ductility/motion.addedTo -/

abbrev sh128_2_1 : Sh := { n := 50, slots := [2, 3, 6, 8, 9, 16, 17, 18, 23, 24, 25], pats := [.ty (.slice (.int .i64)), .ptr 0 2 0, .ptr 1 2 0, .slu 2 1, .ty (.int .i64), .ty (.slice (.slice (.int .i64))), .ty (.int .i64), .ty (.int .i64), .ty (.slice (.int .i64)), .ty (.int .i64), .ty (.int .i64)], boxes := [.row [.ty (.int .i64), .ty (.slice (.int .i64))], .row [.ty (.int .i64), .nil], .arr (.int .i64)] }
abbrev shb128_2_1 : Sh := { n := 50, slots := [2, 3, 6, 8, 16, 17, 18], pats := [.ty (.slice (.int .i64)), .ptr 0 2 0, .ptr 1 2 0, .slu 2 1, .ty (.slice (.slice (.int .i64))), .ty (.int .i64), .ty (.int .i64)], boxes := [.row [.ty (.int .i64), .ty (.slice (.int .i64))], .row [.ty (.int .i64), .nil], .arr (.int .i64)] }
abbrev shr128_2_1 : Sh := { n := 50, slots := [], pats := [], boxes := [.row [.ty (.int .i64), .ty (.slice (.int .i64))], .row [.ty (.int .i64), .nil], .arr (.int .i64)] }

def t128_2_1 (x0 : (List Int)) (x3n : Nat) (x4 : Int) (x5 : (List (List Int))) (x6 : Int) (x7 : Int) (x8 : (List Int)) (x9 : Int) (x10 : Int) (b0_0 : Int) (b0_1 : (List Int)) (b1_0 : Int) (b2 : (List Int)) : Tr (Out sh128_2_1.data shb128_2_1.data shr128_2_1.data) :=
  Tr.test ((!leF x9 x10 : Bool))
    (Tr.test ((decide ((0 : Int) ≤ x10) && decide (x10 < (↑(List.length x8) : Int)) : Bool))
      (Tr.test ((decide ((0 : Int) ≤ x10) && decide (x10 < (↑x3n : Int)) : Bool))
        (Tr.test ((Nat.ble ((0 : Nat) + Int.toNat x10 + (1 : Nat)) (List.length b2) : Bool))
          (Tr.test ((decide ((0 : Int) ≤ x4) && decide (x4 < (↑(List.length x0) : Int)) : Bool))
            (Tr.fin (.again ((x0, (x3n, (x4, (x5, (x6, (x7, (x8, (x9, ((wrap64 (x10 + (1 : Int)) : Int), ()))))))))), ((b0_0, (b0_1, ())), ((b1_0, ()), ((List.set b2 ((0 : Nat) + Int.toNat x10) (wrap64 (List.getD b2 ((0 : Nat) + Int.toNat x10) (0 : Int) + wrap64 (List.getD x0 (Int.toNat x4) (0 : Int) * List.getD x8 (Int.toNat x10) (0 : Int)))) : List Int), ()))))))
            (Tr.stop /- none [op 6 of region 8 of F128] -/))
          (Tr.stop /- none [op 3 of region 8 of F128] -/))
        (Tr.stop /- none [op 2 of region 8 of F128] -/))
      (Tr.stop /- none [op 1 of region 7 of F128] -/))
    (Tr.fin (.brk ((x0, (x3n, (x5, (x6, (x7, ()))))), ((b0_0, (b0_1, ())), ((b1_0, ()), (b2, ()))))))

def s128_2_1 (d : sh128_2_1.data) : Option (Out sh128_2_1.data shb128_2_1.data shr128_2_1.data) := (t128_2_1 d.1.1 d.1.2.1 d.1.2.2.1 d.1.2.2.2.1 d.1.2.2.2.2.1 d.1.2.2.2.2.2.1 d.1.2.2.2.2.2.2.1 d.1.2.2.2.2.2.2.2.1 d.1.2.2.2.2.2.2.2.2.1 d.2.1.1 d.2.1.2.1 d.2.2.1.1 d.2.2.2.1).val
def l128_2_1 (d : sh128_2_1.data) : Option (shb128_2_1.data ⊕ shr128_2_1.data) := itr s128_2_1 rounds d
def b128_2_1 (d : sh128_2_1.data) : shb128_2_1.data := outB shb128_2_1.dflt (l128_2_1 d)
def r128_2_1 (d : sh128_2_1.data) : shr128_2_1.data := outR shr128_2_1.dflt (l128_2_1 d)
def lc128_2_1 : LoopC := lcB sh128_2_1 shb128_2_1 shr128_2_1 l128_2_1 b128_2_1

theorem e128_2_1_0 (x0 : (List Int)) (x3n : Nat) (x4 : Int) (x5 : (List (List Int))) (x6 : Int) (x7 : Int) (x8 : (List Int)) (x9 : Int) (x10 : Int) (b0_0 : Int) (b0_1 : (List Int)) (b1_0 : Int) (b2 : (List Int)) : runBody kl128_0.orc Go.Proofs.Try.prog 400 128 2 sh128_2_1 shb128_2_1 shr128_2_1 ((x0, x3n, x4, x5, x6, x7, x8, x9, x10, ()), (b0_0, b0_1, ()), (b1_0, ()), b2, ()) [true, true, true, true, true, true, true] =
    (some (.again ((x0, (x3n, (x4, (x5, (x6, (x7, (x8, (x9, ((wrap64 (x10 + (1 : Int)) : Int), ()))))))))), ((b0_0, (b0_1, ())), ((b1_0, ()), ((List.set b2 ((0 : Nat) + Int.toNat x10) (wrap64 (List.getD b2 ((0 : Nat) + Int.toNat x10) (0 : Int) + wrap64 (List.getD x0 (Int.toNat x4) (0 : Int) * List.getD x8 (Int.toNat x10) (0 : Int)))) : List Int), ())))), [((Nat.ble ((0 : Nat) + Int.toNat x10 + (1 : Nat)) (List.length b2) : Bool), true), ((decide ((0 : Int) ≤ x10) && decide (x10 < (↑x3n : Int)) : Bool), true), ((decide ((0 : Int) ≤ x4) && decide (x4 < (↑(List.length x0) : Int)) : Bool), true), ((Nat.ble ((0 : Nat) + Int.toNat x10 + (1 : Nat)) (List.length b2) : Bool), true), ((decide ((0 : Int) ≤ x10) && decide (x10 < (↑x3n : Int)) : Bool), true), ((decide ((0 : Int) ≤ x10) && decide (x10 < (↑(List.length x8) : Int)) : Bool), true), ((!leF x9 x10 : Bool), true)])) := by kernel_rfl
theorem e128_2_1_5 (x0 : (List Int)) (x3n : Nat) (x4 : Int) (x5 : (List (List Int))) (x6 : Int) (x7 : Int) (x8 : (List Int)) (x9 : Int) (x10 : Int) (b0_0 : Int) (b0_1 : (List Int)) (b1_0 : Int) (b2 : (List Int)) : runBody kl128_0.orc Go.Proofs.Try.prog 400 128 2 sh128_2_1 shb128_2_1 shr128_2_1 ((x0, x3n, x4, x5, x6, x7, x8, x9, x10, ()), (b0_0, b0_1, ()), (b1_0, ()), b2, ()) [false] =
    (some (.brk ((x0, (x3n, (x5, (x6, (x7, ()))))), ((b0_0, (b0_1, ())), ((b1_0, ()), (b2, ())))), [((!leF x9 x10 : Bool), false)])) := by kernel_rfl

theorem ok128_2_1_t (x0 : (List Int)) (x3n : Nat) (x4 : Int) (x5 : (List (List Int))) (x6 : Int) (x7 : Int) (x8 : (List Int)) (x9 : Int) (x10 : Int) (b0_0 : Int) (b0_1 : (List Int)) (b1_0 : Int) (b2 : (List Int)) : TrOk (BodyRuns Go.Proofs.Try.prog kl128_0.orc 128 2 sh128_2_1 shb128_2_1 shr128_2_1 ((x0, x3n, x4, x5, x6, x7, x8, x9, x10, ()), (b0_0, b0_1, ()), (b1_0, ()), b2, ())) (t128_2_1 x0 x3n x4 x5 x6 x7 x8 x9 x10 b0_0 b0_1 b1_0 b2) :=
  TrOk.ofTest (fun h0 => TrOk.ofTest (fun h1 => TrOk.ofTest (fun h2 => TrOk.ofTest (fun h3 => TrOk.ofTest (fun h4 => TrOk.ofFin (BodyRuns.of (e128_2_1_0 x0 x3n x4 x5 x6 x7 x8 x9 x10 b0_0 b0_1 b1_0 b2) (All.cons (h3) (All.cons (h2) (All.cons h4 (All.cons h3 (All.cons h2 (All.cons h1 (All.cons h0 (All.nil)))))))))) (fun h4 => TrOk.ofStop)) (fun h3 => TrOk.ofStop)) (fun h2 => TrOk.ofStop)) (fun h1 => TrOk.ofStop)) (fun h0 => TrOk.ofFin (BodyRuns.of (e128_2_1_5 x0 x3n x4 x5 x6 x7 x8 x9 x10 b0_0 b0_1 b1_0 b2) (All.cons h0 (All.nil))))

theorem ok128_2_1 : LoopOk Go.Proofs.Try.prog 128 2 lc128_2_1 := loopOk_ofB kl128_0_ok.base (T := fun (d : sh128_2_1.data) => t128_2_1 d.1.1 d.1.2.1 d.1.2.2.1 d.1.2.2.2.1 d.1.2.2.2.2.1 d.1.2.2.2.2.2.1 d.1.2.2.2.2.2.2.1 d.1.2.2.2.2.2.2.2.1 d.1.2.2.2.2.2.2.2.2.1 d.2.1.1 d.2.1.2.1 d.2.2.1.1 d.2.2.2.1) (by kernel_rfl) rfl (fun (d : sh128_2_1.data) => ok128_2_1_t d.1.1 d.1.2.1 d.1.2.2.1 d.1.2.2.2.1 d.1.2.2.2.2.1 d.1.2.2.2.2.2.1 d.1.2.2.2.2.2.2.1 d.1.2.2.2.2.2.2.2.1 d.1.2.2.2.2.2.2.2.2.1 d.2.1.1 d.2.1.2.1 d.2.2.1.1 d.2.2.2.1) (fun _ => rfl)
def kl128_2_1 : Known := kl128_0.loop 128 2 lc128_2_1
theorem kl128_2_1_ok : KnownOk Go.Proofs.Try.prog kl128_2_1 := kl128_0_ok.loop ok128_2_1

/-! loop 0 of ductility/motion.addedTo -/

abbrev sh128_0_1 : Sh := { n := 50, slots := [2, 3, 6, 8, 16, 17, 18], pats := [.ty (.slice (.int .i64)), .ptr 0 2 0, .ptr 1 2 0, .slu 2 1, .ty (.slice (.slice (.int .i64))), .ty (.int .i64), .ty (.int .i64)], boxes := [.row [.ty (.int .i64), .ty (.slice (.int .i64))], .row [.ty (.int .i64), .nil], .arr (.int .i64)] }
abbrev shb128_0_1 : Sh := { n := 50, slots := [3, 6, 8], pats := [.ptr 0 2 0, .ptr 1 2 0, .slu 2 1], boxes := [.row [.ty (.int .i64), .ty (.slice (.int .i64))], .row [.ty (.int .i64), .nil], .arr (.int .i64)] }
abbrev shr128_0_1 : Sh := { n := 50, slots := [], pats := [], boxes := [.row [.ty (.int .i64), .ty (.slice (.int .i64))], .row [.ty (.int .i64), .nil], .arr (.int .i64)] }

def t128_0_1 (x0 : (List Int)) (x3n : Nat) (x4 : (List (List Int))) (x5 : Int) (x6 : Int) (b0_0 : Int) (b0_1 : (List Int)) (b1_0 : Int) (b2 : (List Int)) : Tr (Out sh128_0_1.data shb128_0_1.data shr128_0_1.data) :=
  Tr.test ((!leF x5 x6 : Bool))
    (Tr.test ((decide ((0 : Int) ≤ x6) && decide (x6 < (↑(List.length x4) : Int)) : Bool))
      (Tr.test (isBrk (l128_2_1 ((x0, (x3n, (x6, (x4, (x5, (x6, ((List.getD x4 (Int.toNat x6) [] : List Int), ((↑(List.length (List.getD x4 (Int.toNat x6) [])) : Int), ((0 : Int), ()))))))))), ((b0_0, (b0_1, ())), ((b1_0, ()), (b2, ()))))))
        (let r0 : (List Int × Nat × List (List Int) × Int × Int × PUnit) × (Int × List Int × PUnit) × (Int × PUnit) × List Int × PUnit := b128_2_1 ((x0, (x3n, (x6, (x4, (x5, (x6, ((List.getD x4 (Int.toNat x6) [] : List Int), ((↑(List.length (List.getD x4 (Int.toNat x6) [])) : Int), ((0 : Int), ()))))))))), ((b0_0, (b0_1, ())), ((b1_0, ()), (b2, ()))));
        Tr.fin (.again (((r0.fst.fst : List Int), ((r0.fst.snd.fst : Nat), ((r0.fst.snd.snd.fst : List (List Int)), ((r0.fst.snd.snd.snd.fst : Int), ((wrap64 (r0.fst.snd.snd.snd.snd.fst + (1 : Int)) : Int), ()))))), (((r0.snd.fst.fst : Int), ((r0.snd.fst.snd.fst : List Int), ())), (((r0.snd.snd.fst.fst : Int), ()), ((r0.snd.snd.snd.fst : List Int), ()))))))
        (Tr.stop))
      (Tr.stop /- none [op 1 of region 4 of F128] -/))
    (Tr.fin (.brk ((x3n, ()), ((b0_0, (b0_1, ())), ((b1_0, ()), (b2, ()))))))

def s128_0_1 (d : sh128_0_1.data) : Option (Out sh128_0_1.data shb128_0_1.data shr128_0_1.data) := (t128_0_1 d.1.1 d.1.2.1 d.1.2.2.1 d.1.2.2.2.1 d.1.2.2.2.2.1 d.2.1.1 d.2.1.2.1 d.2.2.1.1 d.2.2.2.1).val
def l128_0_1 (d : sh128_0_1.data) : Option (shb128_0_1.data ⊕ shr128_0_1.data) := itr s128_0_1 rounds d
def b128_0_1 (d : sh128_0_1.data) : shb128_0_1.data := outB shb128_0_1.dflt (l128_0_1 d)
def r128_0_1 (d : sh128_0_1.data) : shr128_0_1.data := outR shr128_0_1.dflt (l128_0_1 d)
def lc128_0_1 : LoopC := lcB sh128_0_1 shb128_0_1 shr128_0_1 l128_0_1 b128_0_1

theorem e128_0_1_0 (x0 : (List Int)) (x3n : Nat) (x4 : (List (List Int))) (x5 : Int) (x6 : Int) (b0_0 : Int) (b0_1 : (List Int)) (b1_0 : Int) (b2 : (List Int)) : runBody kl128_2_1.orc Go.Proofs.Try.prog 400 128 0 sh128_0_1 shb128_0_1 shr128_0_1 ((x0, x3n, x4, x5, x6, ()), (b0_0, b0_1, ()), (b1_0, ()), b2, ()) [true, true, true, true] =
    (let r0 : (List Int × Nat × List (List Int) × Int × Int × PUnit) × (Int × List Int × PUnit) × (Int × PUnit) × List Int × PUnit := b128_2_1 ((x0, (x3n, (x6, (x4, (x5, (x6, ((List.getD x4 (Int.toNat x6) [] : List Int), ((↑(List.length (List.getD x4 (Int.toNat x6) [])) : Int), ((0 : Int), ()))))))))), ((b0_0, (b0_1, ())), ((b1_0, ()), (b2, ())))); some (.again (((r0.fst.fst : List Int), ((r0.fst.snd.fst : Nat), ((r0.fst.snd.snd.fst : List (List Int)), ((r0.fst.snd.snd.snd.fst : Int), ((wrap64 (r0.fst.snd.snd.snd.snd.fst + (1 : Int)) : Int), ()))))), (((r0.snd.fst.fst : Int), ((r0.snd.fst.snd.fst : List Int), ())), (((r0.snd.snd.fst.fst : Int), ()), ((r0.snd.snd.snd.fst : List Int), ())))), [((true : Bool), true), (isBrk (l128_2_1 ((x0, (x3n, (x6, (x4, (x5, (x6, ((List.getD x4 (Int.toNat x6) [] : List Int), ((↑(List.length (List.getD x4 (Int.toNat x6) [])) : Int), ((0 : Int), ()))))))))), ((b0_0, (b0_1, ())), ((b1_0, ()), (b2, ()))))), true), ((decide ((0 : Int) ≤ x6) && decide (x6 < (↑(List.length x4) : Int)) : Bool), true), ((!leF x5 x6 : Bool), true)])) := by kernel_rfl
theorem e128_0_1_2 (x0 : (List Int)) (x3n : Nat) (x4 : (List (List Int))) (x5 : Int) (x6 : Int) (b0_0 : Int) (b0_1 : (List Int)) (b1_0 : Int) (b2 : (List Int)) : runBody kl128_2_1.orc Go.Proofs.Try.prog 400 128 0 sh128_0_1 shb128_0_1 shr128_0_1 ((x0, x3n, x4, x5, x6, ()), (b0_0, b0_1, ()), (b1_0, ()), b2, ()) [false] =
    (some (.brk ((x3n, ()), ((b0_0, (b0_1, ())), ((b1_0, ()), (b2, ())))), [((!leF x5 x6 : Bool), false)])) := by kernel_rfl

theorem ok128_0_1_t (x0 : (List Int)) (x3n : Nat) (x4 : (List (List Int))) (x5 : Int) (x6 : Int) (b0_0 : Int) (b0_1 : (List Int)) (b1_0 : Int) (b2 : (List Int)) : TrOk (BodyRuns Go.Proofs.Try.prog kl128_2_1.orc 128 0 sh128_0_1 shb128_0_1 shr128_0_1 ((x0, x3n, x4, x5, x6, ()), (b0_0, b0_1, ()), (b1_0, ()), b2, ())) (t128_0_1 x0 x3n x4 x5 x6 b0_0 b0_1 b1_0 b2) :=
  TrOk.ofTest (fun h0 => TrOk.ofTest (fun h1 => TrOk.ofTest (fun h2 => TrOk.ofFin (BodyRuns.of (e128_0_1_0 x0 x3n x4 x5 x6 b0_0 b0_1 b1_0 b2) (All.cons rfl (All.cons h2 (All.cons h1 (All.cons h0 (All.nil))))))) (fun h2 => TrOk.ofStop)) (fun h1 => TrOk.ofStop)) (fun h0 => TrOk.ofFin (BodyRuns.of (e128_0_1_2 x0 x3n x4 x5 x6 b0_0 b0_1 b1_0 b2) (All.cons h0 (All.nil))))

theorem ok128_0_1 : LoopOk Go.Proofs.Try.prog 128 0 lc128_0_1 := loopOk_ofB kl128_2_1_ok.base (T := fun (d : sh128_0_1.data) => t128_0_1 d.1.1 d.1.2.1 d.1.2.2.1 d.1.2.2.2.1 d.1.2.2.2.2.1 d.2.1.1 d.2.1.2.1 d.2.2.1.1 d.2.2.2.1) (by kernel_rfl) rfl (fun (d : sh128_0_1.data) => ok128_0_1_t d.1.1 d.1.2.1 d.1.2.2.1 d.1.2.2.2.1 d.1.2.2.2.2.1 d.2.1.1 d.2.1.2.1 d.2.2.1.1 d.2.2.2.1) (fun _ => rfl)
def kl128_0_1 : Known := kl128_2_1.loop 128 0 lc128_0_1
theorem kl128_0_1_ok : KnownOk Go.Proofs.Try.prog kl128_0_1 := kl128_2_1_ok.loop ok128_0_1

/-! loop 0 of ductility/motion.areWithin -/

abbrev sh94_0_1 : Sh := { n := 24, slots := [0, 1, 9, 10, 11], pats := [.ty (.int .i64), .ty (.int .i64), .slu 0 1, .ty (.int .i64), .ty (.int .i64)], boxes := [.arr (.int .i64)] }
abbrev shb94_0_1 : Sh := { n := 24, slots := [], pats := [], boxes := [.arr (.int .i64)] }
abbrev shr94_0_1 : Sh := { n := 24, slots := [6], pats := [.ty .bool], boxes := [.arr (.int .i64)] }

def t94_0_1 (x0 : Int) (x1 : Int) (x2n : Nat) (x3 : Int) (x4 : Int) (b0 : (List Int)) : Tr (Out sh94_0_1.data shb94_0_1.data shr94_0_1.data) :=
  Tr.test ((!leF x3 x4 : Bool))
    (Tr.test ((decide ((0 : Int) ≤ x4) && decide (x4 < (↑x2n : Int)) : Bool))
      (Tr.test ((Nat.ble ((0 : Nat) + Int.toNat x4 + (1 : Nat)) (List.length b0) : Bool))
        (Tr.test ((!leF x0 (List.getD b0 ((0 : Nat) + Int.toNat x4) (0 : Int)) : Bool))
          (Tr.fin (.ret (((false : Bool), ()), (b0, ()))))
          (Tr.test ((!leF (List.getD b0 ((0 : Nat) + Int.toNat x4) (0 : Int)) x1 : Bool))
            (Tr.fin (.ret (((false : Bool), ()), (b0, ()))))
            (Tr.fin (.again ((x0, (x1, (x2n, (x3, ((wrap64 (x4 + (1 : Int)) : Int), ()))))), (b0, ()))))))
        (Tr.stop /- none [op 1 of region 3 of F94] -/))
      (Tr.stop /- none [op 0 of region 3 of F94] -/))
    (Tr.fin (.brk ((), (b0, ()))))

def s94_0_1 (d : sh94_0_1.data) : Option (Out sh94_0_1.data shb94_0_1.data shr94_0_1.data) := (t94_0_1 d.1.1 d.1.2.1 d.1.2.2.1 d.1.2.2.2.1 d.1.2.2.2.2.1 d.2.1).val
def l94_0_1 (d : sh94_0_1.data) : Option (shb94_0_1.data ⊕ shr94_0_1.data) := itr s94_0_1 rounds d
def b94_0_1 (d : sh94_0_1.data) : shb94_0_1.data := outB shb94_0_1.dflt (l94_0_1 d)
def r94_0_1 (d : sh94_0_1.data) : shr94_0_1.data := outR shr94_0_1.dflt (l94_0_1 d)
def lc94_0_1 : LoopC := lcOf sh94_0_1 shb94_0_1 shr94_0_1 l94_0_1 b94_0_1 r94_0_1

theorem e94_0_1_0 (x0 : Int) (x1 : Int) (x2n : Nat) (x3 : Int) (x4 : Int) (b0 : (List Int)) : runBody kl128_0_1.orc Go.Proofs.Try.prog 400 94 0 sh94_0_1 shb94_0_1 shr94_0_1 ((x0, x1, x2n, x3, x4, ()), b0, ()) [true, true, true, true, true, true, true, true] =
    (some (.ret (((false : Bool), ()), (b0, ())), [((true : Bool), true), ((!leF x0 (List.getD b0 ((0 : Nat) + Int.toNat x4) (0 : Int)) : Bool), true), ((!leF x0 (List.getD b0 ((0 : Nat) + Int.toNat x4) (0 : Int)) : Bool), true), ((!leF x0 (List.getD b0 ((0 : Nat) + Int.toNat x4) (0 : Int)) : Bool), true), ((!leF x0 (List.getD b0 ((0 : Nat) + Int.toNat x4) (0 : Int)) : Bool), true), ((Nat.ble ((0 : Nat) + Int.toNat x4 + (1 : Nat)) (List.length b0) : Bool), true), ((decide ((0 : Int) ≤ x4) && decide (x4 < (↑x2n : Int)) : Bool), true), ((!leF x3 x4 : Bool), true)])) := by kernel_rfl
theorem e94_0_1_1 (x0 : Int) (x1 : Int) (x2n : Nat) (x3 : Int) (x4 : Int) (b0 : (List Int)) : runBody kl128_0_1.orc Go.Proofs.Try.prog 400 94 0 sh94_0_1 shb94_0_1 shr94_0_1 ((x0, x1, x2n, x3, x4, ()), b0, ()) [true, true, true, false, false, false, false, true] =
    (some (.ret (((false : Bool), ()), (b0, ())), [((!leF (List.getD b0 ((0 : Nat) + Int.toNat x4) (0 : Int)) x1 : Bool), true), ((!leF x0 (List.getD b0 ((0 : Nat) + Int.toNat x4) (0 : Int)) : Bool), false), ((!leF x0 (List.getD b0 ((0 : Nat) + Int.toNat x4) (0 : Int)) : Bool), false), ((!leF x0 (List.getD b0 ((0 : Nat) + Int.toNat x4) (0 : Int)) : Bool), false), ((!leF x0 (List.getD b0 ((0 : Nat) + Int.toNat x4) (0 : Int)) : Bool), false), ((Nat.ble ((0 : Nat) + Int.toNat x4 + (1 : Nat)) (List.length b0) : Bool), true), ((decide ((0 : Int) ≤ x4) && decide (x4 < (↑x2n : Int)) : Bool), true), ((!leF x3 x4 : Bool), true)])) := by kernel_rfl
theorem e94_0_1_2 (x0 : Int) (x1 : Int) (x2n : Nat) (x3 : Int) (x4 : Int) (b0 : (List Int)) : runBody kl128_0_1.orc Go.Proofs.Try.prog 400 94 0 sh94_0_1 shb94_0_1 shr94_0_1 ((x0, x1, x2n, x3, x4, ()), b0, ()) [true, true, true, false, false, false, false, false] =
    (some (.again ((x0, (x1, (x2n, (x3, ((wrap64 (x4 + (1 : Int)) : Int), ()))))), (b0, ())), [((!leF (List.getD b0 ((0 : Nat) + Int.toNat x4) (0 : Int)) x1 : Bool), false), ((!leF x0 (List.getD b0 ((0 : Nat) + Int.toNat x4) (0 : Int)) : Bool), false), ((!leF x0 (List.getD b0 ((0 : Nat) + Int.toNat x4) (0 : Int)) : Bool), false), ((!leF x0 (List.getD b0 ((0 : Nat) + Int.toNat x4) (0 : Int)) : Bool), false), ((!leF x0 (List.getD b0 ((0 : Nat) + Int.toNat x4) (0 : Int)) : Bool), false), ((Nat.ble ((0 : Nat) + Int.toNat x4 + (1 : Nat)) (List.length b0) : Bool), true), ((decide ((0 : Int) ≤ x4) && decide (x4 < (↑x2n : Int)) : Bool), true), ((!leF x3 x4 : Bool), true)])) := by kernel_rfl
theorem e94_0_1_5 (x0 : Int) (x1 : Int) (x2n : Nat) (x3 : Int) (x4 : Int) (b0 : (List Int)) : runBody kl128_0_1.orc Go.Proofs.Try.prog 400 94 0 sh94_0_1 shb94_0_1 shr94_0_1 ((x0, x1, x2n, x3, x4, ()), b0, ()) [false] =
    (some (.brk ((), (b0, ())), [((!leF x3 x4 : Bool), false)])) := by kernel_rfl

theorem ok94_0_1_t (x0 : Int) (x1 : Int) (x2n : Nat) (x3 : Int) (x4 : Int) (b0 : (List Int)) : TrOk (BodyRuns Go.Proofs.Try.prog kl128_0_1.orc 94 0 sh94_0_1 shb94_0_1 shr94_0_1 ((x0, x1, x2n, x3, x4, ()), b0, ())) (t94_0_1 x0 x1 x2n x3 x4 b0) :=
  TrOk.ofTest (fun h0 => TrOk.ofTest (fun h1 => TrOk.ofTest (fun h2 => TrOk.ofTest (fun h3 => TrOk.ofFin (BodyRuns.of (e94_0_1_0 x0 x1 x2n x3 x4 b0) (All.cons rfl (All.cons (not_of (of_not (h3))) (All.cons (not_of (of_not (h3))) (All.cons (not_of (of_not (h3))) (All.cons h3 (All.cons h2 (All.cons h1 (All.cons h0 (All.nil))))))))))) (fun h3 => TrOk.ofTest (fun h7 => TrOk.ofFin (BodyRuns.of (e94_0_1_1 x0 x1 x2n x3 x4 b0) (All.cons h7 (All.cons (not_of (of_not (h3))) (All.cons (not_of (of_not (h3))) (All.cons (not_of (of_not (h3))) (All.cons h3 (All.cons h2 (All.cons h1 (All.cons h0 (All.nil))))))))))) (fun h7 => TrOk.ofFin (BodyRuns.of (e94_0_1_2 x0 x1 x2n x3 x4 b0) (All.cons h7 (All.cons (not_of (of_not (h3))) (All.cons (not_of (of_not (h3))) (All.cons (not_of (of_not (h3))) (All.cons h3 (All.cons h2 (All.cons h1 (All.cons h0 (All.nil))))))))))))) (fun h2 => TrOk.ofStop)) (fun h1 => TrOk.ofStop)) (fun h0 => TrOk.ofFin (BodyRuns.of (e94_0_1_5 x0 x1 x2n x3 x4 b0) (All.cons h0 (All.nil))))

theorem ok94_0_1 : LoopOk Go.Proofs.Try.prog 94 0 lc94_0_1 := loopOk_of kl128_0_1_ok.base (T := fun (d : sh94_0_1.data) => t94_0_1 d.1.1 d.1.2.1 d.1.2.2.1 d.1.2.2.2.1 d.1.2.2.2.2.1 d.2.1) (by kernel_rfl) rfl (fun (d : sh94_0_1.data) => ok94_0_1_t d.1.1 d.1.2.1 d.1.2.2.1 d.1.2.2.2.1 d.1.2.2.2.2.1 d.2.1) (fun _ => rfl)
def kl94_0_1 : Known := kl128_0_1.loop 94 0 lc94_0_1
theorem kl94_0_1_ok : KnownOk Go.Proofs.Try.prog kl94_0_1 := kl128_0_1_ok.loop ok94_0_1

/-! ductility/motion.addedTo -/

abbrev as128 : List Ty := [(.pair (.int .i64) (.pair (.slice (.int .i64)) .unit)), (.slice (.slice (.int .i64))), (.slice (.int .i64))]
abbrev rs128 : List Ty := [(.pair (.int .i64) (.pair (.slice (.int .i64)) .unit)), (.int .i64)]

def t128 (x0 : Int) (x0' : (List Int)) (x1 : (List (List Int))) (x2 : (List Int)) : Tr (Tys.data rs128) :=
  Tr.test ((Nat.beq (List.length x0') (0 : Nat) : Bool))
    (Tr.test (isBrk (l128_0 ((x2, (x1, ((↑(List.length x1) : Int), ((0 : Int), ())))), ((x0, (x0', ())), (((0 : Int), ()), ())))))
      (let r0 : PUnit × (Int × List Int × PUnit) × (Int × PUnit) × PUnit := b128_0 ((x2, (x1, ((↑(List.length x1) : Int), ((0 : Int), ())))), ((x0, (x0', ())), (((0 : Int), ()), ())));
      Tr.test (Option.isSome (f143 ((r0.snd.fst.fst : Int), (([] : List Int), ()))))
        (let r1 : (Int × List Int × PUnit) × Int × PUnit := g143 ((r0.snd.fst.fst : Int), (([] : List Int), ()));
        Tr.fin ((((r1.fst.fst : Int), ((r1.fst.snd.fst : List Int), ())), ((r1.snd.fst : Int), ()))))
        (Tr.stop))
      (Tr.stop))
    (Tr.test ((Nat.ble ((0 : Nat) + List.length x0') (0 : Nat) : Bool))
      (Tr.stop /- none [op 2 of region 1 of F128] -/)
      (Tr.test ((Nat.ble (((2 : Nat) * ((0 : Nat) + List.length x0') + (192 : Nat)) * (8 : Nat)) (281474976710656 : Nat) && Nat.ble ((0 : Nat) + List.length x0') (281474976710656 : Nat) : Bool))
        (Tr.test (isBrk (l128_0_1 ((x2, (((0 : Nat) + List.length x0' : Nat), (x1, ((↑(List.length x1) : Int), ((0 : Int), ()))))), ((x0, (x0', ())), (((0 : Int), ()), (([] ++ x0' : List Int), ()))))))
          (let r2 : (Nat × PUnit) × (Int × List Int × PUnit) × (Int × PUnit) × List Int × PUnit := b128_0_1 ((x2, (((0 : Nat) + List.length x0' : Nat), (x1, ((↑(List.length x1) : Int), ((0 : Int), ()))))), ((x0, (x0', ())), (((0 : Int), ()), (([] ++ x0' : List Int), ()))));
          Tr.test ((Nat.beq r2.fst.fst (List.length r2.snd.snd.snd.fst) : Bool))
            (Tr.test (Option.isSome (f143 ((r2.snd.fst.fst : Int), ((r2.snd.snd.snd.fst : List Int), ()))))
              (let r3 : (Int × List Int × PUnit) × Int × PUnit := g143 ((r2.snd.fst.fst : Int), ((r2.snd.snd.snd.fst : List Int), ()));
              Tr.fin ((((r3.fst.fst : Int), ((r3.fst.snd.fst : List Int), ())), ((r3.snd.fst : Int), ()))))
              (Tr.stop))
            (Tr.test ((Nat.ble r2.fst.fst (List.length r2.snd.snd.snd.fst) : Bool))
              (Tr.test (Option.isSome (f143 ((r2.snd.fst.fst : Int), ((List.take r2.fst.fst r2.snd.snd.snd.fst : List Int), ()))))
                (let r4 : (Int × List Int × PUnit) × Int × PUnit := g143 ((r2.snd.fst.fst : Int), ((List.take r2.fst.fst r2.snd.snd.snd.fst : List Int), ()));
                Tr.fin ((((r4.fst.fst : Int), ((r4.fst.snd.fst : List Int), ())), ((r4.snd.fst : Int), ()))))
                (Tr.stop))
              (Tr.stop /- a loop that is known [op 3 of region 11 of F128] -/)))
          (Tr.stop))
        (Tr.stop /- none [op 2 of region 1 of F128] -/)))

def f128 (d : Tys.data as128) : Option (Tys.data rs128) := (t128 d.1.1 d.1.2.1 d.2.1 d.2.2.1).val
def g128 (d : Tys.data as128) : Tys.data rs128 := (f128 d).getD (Tys.dflt rs128)
def p128 : PureC := pcOf as128 rs128 f128 g128

theorem e128_0 (x0 : Int) (x0' : (List Int)) (x1 : (List (List Int))) (x2 : (List Int)) : runPure kl94_0_1.orc Go.Proofs.Try.prog 400 128 as128 rs128 ((x0, x0', ()), x1, x2, ()) [true, true, true, true] =
    (let r0 : PUnit × (Int × List Int × PUnit) × (Int × PUnit) × PUnit := b128_0 ((x2, (x1, ((↑(List.length x1) : Int), ((0 : Int), ())))), ((x0, (x0', ())), (((0 : Int), ()), ()))); let r1 : (Int × List Int × PUnit) × Int × PUnit := g143 ((r0.snd.fst.fst : Int), (([] : List Int), ())); some ((((r1.fst.fst : Int), ((r1.fst.snd.fst : List Int), ())), ((r1.snd.fst : Int), ())), [(Option.isSome (f143 ((r0.snd.fst.fst : Int), (([] : List Int), ()))), true), ((true : Bool), true), (isBrk (l128_0 ((x2, (x1, ((↑(List.length x1) : Int), ((0 : Int), ())))), ((x0, (x0', ())), (((0 : Int), ()), ())))), true), ((Nat.beq (List.length x0') (0 : Nat) : Bool), true)])) := by kernel_rfl
theorem e128_2 (x0 : Int) (x0' : (List Int)) (x1 : (List (List Int))) (x2 : (List Int)) : runPure kl94_0_1.orc Go.Proofs.Try.prog 400 128 as128 rs128 ((x0, x0', ()), x1, x2, ()) [false, false, true, true, true, true, true] =
    (let r2 : (Nat × PUnit) × (Int × List Int × PUnit) × (Int × PUnit) × List Int × PUnit := b128_0_1 ((x2, (((0 : Nat) + List.length x0' : Nat), (x1, ((↑(List.length x1) : Int), ((0 : Int), ()))))), ((x0, (x0', ())), (((0 : Int), ()), (([] ++ x0' : List Int), ())))); let r3 : (Int × List Int × PUnit) × Int × PUnit := g143 ((r2.snd.fst.fst : Int), ((r2.snd.snd.snd.fst : List Int), ())); some ((((r3.fst.fst : Int), ((r3.fst.snd.fst : List Int), ())), ((r3.snd.fst : Int), ())), [(Option.isSome (f143 ((r2.snd.fst.fst : Int), ((r2.snd.snd.snd.fst : List Int), ()))), true), ((Nat.beq r2.fst.fst (List.length r2.snd.snd.snd.fst) : Bool), true), ((true : Bool), true), (isBrk (l128_0_1 ((x2, (((0 : Nat) + List.length x0' : Nat), (x1, ((↑(List.length x1) : Int), ((0 : Int), ()))))), ((x0, (x0', ())), (((0 : Int), ()), (([] ++ x0' : List Int), ()))))), true), ((Nat.ble (((2 : Nat) * ((0 : Nat) + List.length x0') + (192 : Nat)) * (8 : Nat)) (281474976710656 : Nat) && Nat.ble ((0 : Nat) + List.length x0') (281474976710656 : Nat) : Bool), true), ((Nat.ble ((0 : Nat) + List.length x0') (0 : Nat) : Bool), false), ((Nat.beq (List.length x0') (0 : Nat) : Bool), false)])) := by kernel_rfl
theorem e128_3 (x0 : Int) (x0' : (List Int)) (x1 : (List (List Int))) (x2 : (List Int)) : runPure kl94_0_1.orc Go.Proofs.Try.prog 400 128 as128 rs128 ((x0, x0', ()), x1, x2, ()) [false, false, true, true, true, false, true, true] =
    (let r2 : (Nat × PUnit) × (Int × List Int × PUnit) × (Int × PUnit) × List Int × PUnit := b128_0_1 ((x2, (((0 : Nat) + List.length x0' : Nat), (x1, ((↑(List.length x1) : Int), ((0 : Int), ()))))), ((x0, (x0', ())), (((0 : Int), ()), (([] ++ x0' : List Int), ())))); let r4 : (Int × List Int × PUnit) × Int × PUnit := g143 ((r2.snd.fst.fst : Int), ((List.take r2.fst.fst r2.snd.snd.snd.fst : List Int), ())); some ((((r4.fst.fst : Int), ((r4.fst.snd.fst : List Int), ())), ((r4.snd.fst : Int), ())), [(Option.isSome (f143 ((r2.snd.fst.fst : Int), ((List.take r2.fst.fst r2.snd.snd.snd.fst : List Int), ()))), true), ((Nat.ble r2.fst.fst (List.length r2.snd.snd.snd.fst) : Bool), true), ((Nat.beq r2.fst.fst (List.length r2.snd.snd.snd.fst) : Bool), false), ((true : Bool), true), (isBrk (l128_0_1 ((x2, (((0 : Nat) + List.length x0' : Nat), (x1, ((↑(List.length x1) : Int), ((0 : Int), ()))))), ((x0, (x0', ())), (((0 : Int), ()), (([] ++ x0' : List Int), ()))))), true), ((Nat.ble (((2 : Nat) * ((0 : Nat) + List.length x0') + (192 : Nat)) * (8 : Nat)) (281474976710656 : Nat) && Nat.ble ((0 : Nat) + List.length x0') (281474976710656 : Nat) : Bool), true), ((Nat.ble ((0 : Nat) + List.length x0') (0 : Nat) : Bool), false), ((Nat.beq (List.length x0') (0 : Nat) : Bool), false)])) := by kernel_rfl

theorem ok128_t (x0 : Int) (x0' : (List Int)) (x1 : (List (List Int))) (x2 : (List Int)) : TrOk (PureRuns Go.Proofs.Try.prog kl94_0_1.orc 128 as128 rs128 ((x0, x0', ()), x1, x2, ())) (t128 x0 x0' x1 x2) :=
  TrOk.ofTest (fun h0 => TrOk.ofTest (fun h1 => TrOk.ofTest (fun h3 => TrOk.ofFin (PureRuns.of (e128_0 x0 x0' x1 x2) (All.cons h3 (All.cons rfl (All.cons h1 (All.cons h0 (All.nil))))))) (fun h3 => TrOk.ofStop)) (fun h1 => TrOk.ofStop)) (fun h0 => TrOk.ofTest (fun h1 => TrOk.ofStop) (fun h1 => TrOk.ofTest (fun h2 => TrOk.ofTest (fun h3 => TrOk.ofTest (fun h5 => TrOk.ofTest (fun h6 => TrOk.ofFin (PureRuns.of (e128_2 x0 x0' x1 x2) (All.cons h6 (All.cons h5 (All.cons rfl (All.cons h3 (All.cons h2 (All.cons h1 (All.cons h0 (All.nil)))))))))) (fun h6 => TrOk.ofStop)) (fun h5 => TrOk.ofTest (fun h6 => TrOk.ofTest (fun h7 => TrOk.ofFin (PureRuns.of (e128_3 x0 x0' x1 x2) (All.cons h7 (All.cons h6 (All.cons h5 (All.cons rfl (All.cons h3 (All.cons h2 (All.cons h1 (All.cons h0 (All.nil))))))))))) (fun h7 => TrOk.ofStop)) (fun h6 => TrOk.ofStop))) (fun h3 => TrOk.ofStop)) (fun h2 => TrOk.ofStop)))

theorem ok128 : PureOk Go.Proofs.Try.prog 128 p128 := pureOk_of kl94_0_1_ok.base (T := fun (d : Tys.data as128) => t128 d.1.1 d.1.2.1 d.2.1 d.2.2.1) (by kernel_rfl) (fun (d : Tys.data as128) => ok128_t d.1.1 d.1.2.1 d.2.1 d.2.2.1)
def kf128 : Known := kl94_0_1.func 128 p128
theorem kf128_ok : KnownOk Go.Proofs.Try.prog kf128 := kl94_0_1_ok.func ok128

/-! ductility/motion.Added -/

abbrev as68 : List Ty := [(.pair (.int .i64) (.pair (.slice (.int .i64)) .unit)), (.slice (.slice (.int .i64))), (.slice (.int .i64))]
abbrev rs68 : List Ty := [(.pair (.int .i64) (.pair (.slice (.int .i64)) .unit)), (.int .i64)]

def t68 (x0 : Int) (x0' : (List Int)) (x1 : (List (List Int))) (x2 : (List Int)) : Tr (Tys.data rs68) :=
  Tr.test (Option.isSome (f88 ((x0, (x0', ())), ())))
    (Tr.test (Option.isSome (f126 (x1, ((↑(List.length x0') : Int), ()))))
      (Tr.test (Option.isSome (f127 (x2, ((↑(List.length x1) : Int), ()))))
        (let r0 : Int × PUnit := g88 ((x0, (x0', ())), ());
        let r1 : Int × PUnit := g126 (x1, ((↑(List.length x0') : Int), ()));
        let r2 : Int × PUnit := g127 (x2, ((↑(List.length x1) : Int), ()));
        Tr.test (Option.isSome (f85 (([r0.fst, r1.fst, r2.fst] : List Int), ())))
          (let r3 : Int × PUnit := g85 (([r0.fst, r1.fst, r2.fst] : List Int), ());
          Tr.test ((!eqF r3.fst (0 : Int) : Bool))
            (Tr.fin ((((0 : Int), (([] : List Int), ())), ((r3.fst : Int), ()))))
            (Tr.test (Option.isSome (f128 ((x0, (x0', ())), (x1, (x2, ())))))
              (let r4 : (Int × List Int × PUnit) × Int × PUnit := g128 ((x0, (x0', ())), (x1, (x2, ())));
              Tr.fin ((((r4.fst.fst : Int), ((r4.fst.snd.fst : List Int), ())), ((r4.snd.fst : Int), ()))))
              (Tr.stop)))
          (Tr.stop))
        (Tr.stop))
      (Tr.stop))
    (Tr.stop)

def f68 (d : Tys.data as68) : Option (Tys.data rs68) := (t68 d.1.1 d.1.2.1 d.2.1 d.2.2.1).val
def g68 (d : Tys.data as68) : Tys.data rs68 := (f68 d).getD (Tys.dflt rs68)
def p68 : PureC := pcOf as68 rs68 f68 g68

theorem e68_0 (x0 : Int) (x0' : (List Int)) (x1 : (List (List Int))) (x2 : (List Int)) : runPure kf128.orc Go.Proofs.Try.prog 400 68 as68 rs68 ((x0, x0', ()), x1, x2, ()) [true, true, true, true, true, true] =
    (let r0 : Int × PUnit := g88 ((x0, (x0', ())), ()); let r1 : Int × PUnit := g126 (x1, ((↑(List.length x0') : Int), ())); let r2 : Int × PUnit := g127 (x2, ((↑(List.length x1) : Int), ())); let r3 : Int × PUnit := g85 (([r0.fst, r1.fst, r2.fst] : List Int), ()); some ((((0 : Int), (([] : List Int), ())), ((r3.fst : Int), ())), [((!eqF r3.fst (0 : Int) : Bool), true), (Option.isSome (f85 (([r0.fst, r1.fst, r2.fst] : List Int), ())), true), ((true : Bool), true), (Option.isSome (f127 (x2, ((↑(List.length x1) : Int), ()))), true), (Option.isSome (f126 (x1, ((↑(List.length x0') : Int), ()))), true), (Option.isSome (f88 ((x0, (x0', ())), ())), true)])) := by kernel_rfl
theorem e68_1 (x0 : Int) (x0' : (List Int)) (x1 : (List (List Int))) (x2 : (List Int)) : runPure kf128.orc Go.Proofs.Try.prog 400 68 as68 rs68 ((x0, x0', ()), x1, x2, ()) [true, true, true, true, true, false, true] =
    (let r0 : Int × PUnit := g88 ((x0, (x0', ())), ()); let r1 : Int × PUnit := g126 (x1, ((↑(List.length x0') : Int), ())); let r2 : Int × PUnit := g127 (x2, ((↑(List.length x1) : Int), ())); let r3 : Int × PUnit := g85 (([r0.fst, r1.fst, r2.fst] : List Int), ()); let r4 : (Int × List Int × PUnit) × Int × PUnit := g128 ((x0, (x0', ())), (x1, (x2, ()))); some ((((r4.fst.fst : Int), ((r4.fst.snd.fst : List Int), ())), ((r4.snd.fst : Int), ())), [(Option.isSome (f128 ((x0, (x0', ())), (x1, (x2, ())))), true), ((!eqF r3.fst (0 : Int) : Bool), false), (Option.isSome (f85 (([r0.fst, r1.fst, r2.fst] : List Int), ())), true), ((true : Bool), true), (Option.isSome (f127 (x2, ((↑(List.length x1) : Int), ()))), true), (Option.isSome (f126 (x1, ((↑(List.length x0') : Int), ()))), true), (Option.isSome (f88 ((x0, (x0', ())), ())), true)])) := by kernel_rfl

theorem ok68_t (x0 : Int) (x0' : (List Int)) (x1 : (List (List Int))) (x2 : (List Int)) : TrOk (PureRuns Go.Proofs.Try.prog kf128.orc 68 as68 rs68 ((x0, x0', ()), x1, x2, ())) (t68 x0 x0' x1 x2) :=
  TrOk.ofTest (fun h0 => TrOk.ofTest (fun h1 => TrOk.ofTest (fun h2 => TrOk.ofTest (fun h4 => TrOk.ofTest (fun h5 => TrOk.ofFin (PureRuns.of (e68_0 x0 x0' x1 x2) (All.cons h5 (All.cons h4 (All.cons rfl (All.cons h2 (All.cons h1 (All.cons h0 (All.nil))))))))) (fun h5 => TrOk.ofTest (fun h6 => TrOk.ofFin (PureRuns.of (e68_1 x0 x0' x1 x2) (All.cons h6 (All.cons h5 (All.cons h4 (All.cons rfl (All.cons h2 (All.cons h1 (All.cons h0 (All.nil)))))))))) (fun h6 => TrOk.ofStop))) (fun h4 => TrOk.ofStop)) (fun h2 => TrOk.ofStop)) (fun h1 => TrOk.ofStop)) (fun h0 => TrOk.ofStop)

theorem ok68 : PureOk Go.Proofs.Try.prog 68 p68 := pureOk_of kf128_ok.base (T := fun (d : Tys.data as68) => t68 d.1.1 d.1.2.1 d.2.1 d.2.2.1) (by kernel_rfl) (fun (d : Tys.data as68) => ok68_t d.1.1 d.1.2.1 d.2.1 d.2.2.1)
def kf68 : Known := kf128.func 68 p68
theorem kf68_ok : KnownOk Go.Proofs.Try.prog kf68 := kf128_ok.func ok68

/-! ductility/ductilityref02.CopyMatch -/

abbrev as72 : List Ty := [(.pair (.slice (.slice (.int .i64))) (.pair (.slice (.int .i64)) .unit))]
abbrev rs72 : List Ty := [(.pair (.slice (.slice (.int .i64))) (.pair (.slice (.int .i64)) .unit))]

def t72 (x0 : (List (List Int))) (x0' : (List Int)) : Tr (Tys.data rs72) :=
  Tr.test (Option.isSome (f69 (x0, ())))
    (Tr.test (Option.isSome (f70 (x0', ())))
      (let r0 : List (List Int) × PUnit := g69 (x0, ());
      let r1 : List Int × PUnit := g70 (x0', ());
      Tr.fin ((((r0.fst : List (List Int)), ((r1.fst : List Int), ())), ())))
      (Tr.stop))
    (Tr.stop)

def f72 (d : Tys.data as72) : Option (Tys.data rs72) := (t72 d.1.1 d.1.2.1).val
def g72 (d : Tys.data as72) : Tys.data rs72 := (f72 d).getD (Tys.dflt rs72)
def p72 : PureC := pcOf as72 rs72 f72 g72

theorem e72_0 (x0 : (List (List Int))) (x0' : (List Int)) : runPure kf68.orc Go.Proofs.Try.prog 400 72 as72 rs72 ((x0, x0', ()), ()) [true, true] =
    (let r0 : List (List Int) × PUnit := g69 (x0, ()); let r1 : List Int × PUnit := g70 (x0', ()); some ((((r0.fst : List (List Int)), ((r1.fst : List Int), ())), ()), [(Option.isSome (f70 (x0', ())), true), (Option.isSome (f69 (x0, ())), true)])) := by kernel_rfl

theorem ok72_t (x0 : (List (List Int))) (x0' : (List Int)) : TrOk (PureRuns Go.Proofs.Try.prog kf68.orc 72 as72 rs72 ((x0, x0', ()), ())) (t72 x0 x0') :=
  TrOk.ofTest (fun h0 => TrOk.ofTest (fun h1 => TrOk.ofFin (PureRuns.of (e72_0 x0 x0') (All.cons h1 (All.cons h0 (All.nil))))) (fun h1 => TrOk.ofStop)) (fun h0 => TrOk.ofStop)

theorem ok72 : PureOk Go.Proofs.Try.prog 72 p72 := pureOk_of kf68_ok.base (T := fun (d : Tys.data as72) => t72 d.1.1 d.1.2.1) (by kernel_rfl) (fun (d : Tys.data as72) => ok72_t d.1.1 d.1.2.1)
def kf72 : Known := kf68.func 72 p72
theorem kf72_ok : KnownOk Go.Proofs.Try.prog kf72 := kf68_ok.func ok72

/-! ductility/ductilityref02.CopyBand -/

abbrev as63 : List Ty := [(.slice (.pair (.pair (.int .i64) (.pair (.int .i64) .unit)) (.pair (.pair (.int .i64) (.pair (.int .i64) .unit)) .unit)))]
abbrev rs63 : List Ty := [(.slice (.pair (.pair (.int .i64) (.pair (.int .i64) .unit)) (.pair (.pair (.int .i64) (.pair (.int .i64) .unit)) .unit)))]

def t63 (x0 : (List ((Int × (Int × Unit)) × ((Int × (Int × Unit)) × Unit)))) : Tr (Tys.data rs63) :=
  Tr.test ((Nat.beq (List.length x0) (0 : Nat) : Bool))
    (Tr.fin ((([] : List ((Int × Int × PUnit) × (Int × Int × PUnit) × PUnit)), ())))
    (Tr.test ((Nat.ble ((0 : Nat) + List.length x0) (0 : Nat) : Bool))
      (Tr.stop /- none [op 2 of region 1 of F63] -/)
      (Tr.test ((Nat.ble (((2 : Nat) * ((0 : Nat) + List.length x0) + (192 : Nat)) * (32 : Nat)) (281474976710656 : Nat) && Nat.ble ((0 : Nat) + List.length x0) (281474976710656 : Nat) : Bool))
        (Tr.test ((Nat.beq ((0 : Nat) + List.length x0) (List.length ([] ++ x0)) : Bool))
          (Tr.fin ((([] ++ x0 : List ((Int × Int × PUnit) × (Int × Int × PUnit) × PUnit)), ())))
          (Tr.stop))
        (Tr.stop /- none [op 2 of region 1 of F63] -/)))

def f63 (d : Tys.data as63) : Option (Tys.data rs63) := (t63 d.1).val
def g63 (d : Tys.data as63) : Tys.data rs63 := (f63 d).getD (Tys.dflt rs63)
def p63 : PureC := pcOf as63 rs63 f63 g63

theorem e63_0 (x0 : (List ((Int × (Int × Unit)) × ((Int × (Int × Unit)) × Unit)))) : runPure kf72.orc Go.Proofs.Try.prog 400 63 as63 rs63 (x0, ()) [true, true] =
    (some ((([] : List ((Int × Int × PUnit) × (Int × Int × PUnit) × PUnit)), ()), [((true : Bool), true), ((Nat.beq (List.length x0) (0 : Nat) : Bool), true)])) := by kernel_rfl
theorem e63_2 (x0 : (List ((Int × (Int × Unit)) × ((Int × (Int × Unit)) × Unit)))) : runPure kf72.orc Go.Proofs.Try.prog 400 63 as63 rs63 (x0, ()) [false, false, true, true, true] =
    (some ((([] ++ x0 : List ((Int × Int × PUnit) × (Int × Int × PUnit) × PUnit)), ()), [((Nat.beq ((0 : Nat) + List.length x0) (List.length ([] ++ x0)) : Bool), true), ((true : Bool), true), ((Nat.ble (((2 : Nat) * ((0 : Nat) + List.length x0) + (192 : Nat)) * (32 : Nat)) (281474976710656 : Nat) && Nat.ble ((0 : Nat) + List.length x0) (281474976710656 : Nat) : Bool), true), ((Nat.ble ((0 : Nat) + List.length x0) (0 : Nat) : Bool), false), ((Nat.beq (List.length x0) (0 : Nat) : Bool), false)])) := by kernel_rfl

theorem ok63_t (x0 : (List ((Int × (Int × Unit)) × ((Int × (Int × Unit)) × Unit)))) : TrOk (PureRuns Go.Proofs.Try.prog kf72.orc 63 as63 rs63 (x0, ())) (t63 x0) :=
  TrOk.ofTest (fun h0 => TrOk.ofFin (PureRuns.of (e63_0 x0) (All.cons rfl (All.cons h0 (All.nil))))) (fun h0 => TrOk.ofTest (fun h1 => TrOk.ofStop) (fun h1 => TrOk.ofTest (fun h2 => TrOk.ofTest (fun h4 => TrOk.ofFin (PureRuns.of (e63_2 x0) (All.cons h4 (All.cons rfl (All.cons h2 (All.cons h1 (All.cons h0 (All.nil)))))))) (fun h4 => TrOk.ofStop)) (fun h2 => TrOk.ofStop)))

theorem ok63 : PureOk Go.Proofs.Try.prog 63 p63 := pureOk_of kf72_ok.base (T := fun (d : Tys.data as63) => t63 d.1) (by kernel_rfl) (fun (d : Tys.data as63) => ok63_t d.1)
def kf63 : Known := kf72.func 63 p63
theorem kf63_ok : KnownOk Go.Proofs.Try.prog kf63 := kf72_ok.func ok63

/-! ductility/motion.oscillatorError -/

abbrev as119 : List Ty := [(.pair (.int .i64) (.pair (.int .i64) .unit))]
abbrev rs119 : List Ty := [(.int .i64)]

def t119 (x0 : Int) (x0' : Int) : Tr (Tys.data rs119) :=
  Tr.test (Option.isSome (f94 ((0 : Int), ((3000 : Int), (([x0] : List Int), ())))))
    (let r0 : Bool × PUnit := g94 ((0 : Int), ((3000 : Int), (([x0] : List Int), ())));
    Tr.test (Option.isSome (f86 ((!r0.fst : Bool), ((2 : Int), ()))))
      (Tr.test (Option.isSome (f94 ((0 : Int), ((500 : Int), (([x0'] : List Int), ())))))
        (let r2 : Bool × PUnit := g94 ((0 : Int), ((500 : Int), (([x0'] : List Int), ())));
        Tr.test (Option.isSome (f86 ((!r2.fst : Bool), ((2 : Int), ()))))
          (let r1 : Int × PUnit := g86 ((!r0.fst : Bool), ((2 : Int), ()));
          let r3 : Int × PUnit := g86 ((!r2.fst : Bool), ((2 : Int), ()));
          Tr.test (Option.isSome (f85 (([r1.fst, r3.fst] : List Int), ())))
            (let r4 : Int × PUnit := g85 (([r1.fst, r3.fst] : List Int), ());
            Tr.fin (((r4.fst : Int), ())))
            (Tr.stop))
          (Tr.stop))
        (Tr.stop))
      (Tr.stop))
    (Tr.stop)

def f119 (d : Tys.data as119) : Option (Tys.data rs119) := (t119 d.1.1 d.1.2.1).val
def g119 (d : Tys.data as119) : Tys.data rs119 := (f119 d).getD (Tys.dflt rs119)
def p119 : PureC := pcOf as119 rs119 f119 g119

theorem e119_0 (x0 : Int) (x0' : Int) : runPure kf63.orc Go.Proofs.Try.prog 400 119 as119 rs119 ((x0, x0', ()), ()) [true, true, true, true, true, true, true, true] =
    (let r0 : Bool × PUnit := g94 ((0 : Int), ((3000 : Int), (([x0] : List Int), ()))); let r2 : Bool × PUnit := g94 ((0 : Int), ((500 : Int), (([x0'] : List Int), ()))); let r1 : Int × PUnit := g86 ((!r0.fst : Bool), ((2 : Int), ())); let r3 : Int × PUnit := g86 ((!r2.fst : Bool), ((2 : Int), ())); let r4 : Int × PUnit := g85 (([r1.fst, r3.fst] : List Int), ()); some (((r4.fst : Int), ()), [(Option.isSome (f85 (([r1.fst, r3.fst] : List Int), ())), true), ((true : Bool), true), (Option.isSome (f86 ((!r2.fst : Bool), ((2 : Int), ()))), true), (Option.isSome (f94 ((0 : Int), ((500 : Int), (([x0'] : List Int), ())))), true), ((true : Bool), true), (Option.isSome (f86 ((!r0.fst : Bool), ((2 : Int), ()))), true), (Option.isSome (f94 ((0 : Int), ((3000 : Int), (([x0] : List Int), ())))), true), ((true : Bool), true)])) := by kernel_rfl

theorem ok119_t (x0 : Int) (x0' : Int) : TrOk (PureRuns Go.Proofs.Try.prog kf63.orc 119 as119 rs119 ((x0, x0', ()), ())) (t119 x0 x0') :=
  TrOk.ofTest (fun h1 => TrOk.ofTest (fun h2 => TrOk.ofTest (fun h4 => TrOk.ofTest (fun h5 => TrOk.ofTest (fun h7 => TrOk.ofFin (PureRuns.of (e119_0 x0 x0') (All.cons h7 (All.cons rfl (All.cons h5 (All.cons h4 (All.cons rfl (All.cons h2 (All.cons h1 (All.cons rfl (All.nil))))))))))) (fun h7 => TrOk.ofStop)) (fun h5 => TrOk.ofStop)) (fun h4 => TrOk.ofStop)) (fun h2 => TrOk.ofStop)) (fun h1 => TrOk.ofStop)

theorem ok119 : PureOk Go.Proofs.Try.prog 119 p119 := pureOk_of kf63_ok.base (T := fun (d : Tys.data as119) => t119 d.1.1 d.1.2.1) (by kernel_rfl) (fun (d : Tys.data as119) => ok119_t d.1.1 d.1.2.1)
def kf119 : Known := kf63.func 119 p119
theorem kf119_ok : KnownOk Go.Proofs.Try.prog kf119 := kf63_ok.func ok119

/-! ductility/motion.bandError$1 -/

abbrev as162 : List Ty := [(.int .i64), (.pair (.pair (.int .i64) (.pair (.int .i64) .unit)) (.pair (.pair (.int .i64) (.pair (.int .i64) .unit)) .unit))]
abbrev rs162 : List Ty := [(.int .i64)]

def t162 (x0 : Int) (x1_ : Int) (x1_' : Int) (x1'_ : Int) (x1'_' : Int) : Tr (Tys.data rs162) :=
  Tr.test (Option.isSome (f119 ((x1_, (x1_', ())), ())))
    (Tr.test (Option.isSome (f94 ((0 : Int), ((1000000 : Int), (([x1'_, x1'_'] : List Int), ())))))
      (let r1 : Bool × PUnit := g94 ((0 : Int), ((1000000 : Int), (([x1'_, x1'_'] : List Int), ())));
      Tr.test (Option.isSome (f86 ((!r1.fst : Bool), ((2 : Int), ()))))
        (Tr.test (Option.isSome (f86 ((!leF x1'_ x1'_' : Bool), ((9 : Int), ()))))
          (let r0 : Int × PUnit := g119 ((x1_, (x1_', ())), ());
          let r2 : Int × PUnit := g86 ((!r1.fst : Bool), ((2 : Int), ()));
          let r3 : Int × PUnit := g86 ((!leF x1'_ x1'_' : Bool), ((9 : Int), ()));
          Tr.test (Option.isSome (f85 (([r0.fst, r2.fst, r3.fst] : List Int), ())))
            (let r4 : Int × PUnit := g85 (([r0.fst, r2.fst, r3.fst] : List Int), ());
            Tr.fin (((r4.fst : Int), ())))
            (Tr.stop))
          (Tr.stop))
        (Tr.stop))
      (Tr.stop))
    (Tr.stop)

def f162 (d : Tys.data as162) : Option (Tys.data rs162) := (t162 d.1 d.2.1.1.1 d.2.1.1.2.1 d.2.1.2.1.1 d.2.1.2.1.2.1).val
def g162 (d : Tys.data as162) : Tys.data rs162 := (f162 d).getD (Tys.dflt rs162)
def p162 : PureC := pcOf as162 rs162 f162 g162

theorem e162_0 (x0 : Int) (x1_ : Int) (x1_' : Int) (x1'_ : Int) (x1'_' : Int) : runPure kf119.orc Go.Proofs.Try.prog 400 162 as162 rs162 (x0, ((x1_, x1_', ()), (x1'_, x1'_', ()), ()), ()) [true, true, true, true, true, true, true] =
    (let r1 : Bool × PUnit := g94 ((0 : Int), ((1000000 : Int), (([x1'_, x1'_'] : List Int), ()))); let r0 : Int × PUnit := g119 ((x1_, (x1_', ())), ()); let r2 : Int × PUnit := g86 ((!r1.fst : Bool), ((2 : Int), ())); let r3 : Int × PUnit := g86 ((!leF x1'_ x1'_' : Bool), ((9 : Int), ())); let r4 : Int × PUnit := g85 (([r0.fst, r2.fst, r3.fst] : List Int), ()); some (((r4.fst : Int), ()), [(Option.isSome (f85 (([r0.fst, r2.fst, r3.fst] : List Int), ())), true), ((true : Bool), true), (Option.isSome (f86 ((!leF x1'_ x1'_' : Bool), ((9 : Int), ()))), true), (Option.isSome (f86 ((!r1.fst : Bool), ((2 : Int), ()))), true), (Option.isSome (f94 ((0 : Int), ((1000000 : Int), (([x1'_, x1'_'] : List Int), ())))), true), ((true : Bool), true), (Option.isSome (f119 ((x1_, (x1_', ())), ())), true)])) := by kernel_rfl

theorem ok162_t (x0 : Int) (x1_ : Int) (x1_' : Int) (x1'_ : Int) (x1'_' : Int) : TrOk (PureRuns Go.Proofs.Try.prog kf119.orc 162 as162 rs162 (x0, ((x1_, x1_', ()), (x1'_, x1'_', ()), ()), ())) (t162 x0 x1_ x1_' x1'_ x1'_') :=
  TrOk.ofTest (fun h0 => TrOk.ofTest (fun h2 => TrOk.ofTest (fun h3 => TrOk.ofTest (fun h4 => TrOk.ofTest (fun h6 => TrOk.ofFin (PureRuns.of (e162_0 x0 x1_ x1_' x1'_ x1'_') (All.cons h6 (All.cons rfl (All.cons h4 (All.cons h3 (All.cons h2 (All.cons rfl (All.cons h0 (All.nil)))))))))) (fun h6 => TrOk.ofStop)) (fun h4 => TrOk.ofStop)) (fun h3 => TrOk.ofStop)) (fun h2 => TrOk.ofStop)) (fun h0 => TrOk.ofStop)

theorem ok162 : PureOk Go.Proofs.Try.prog 162 p162 := pureOk_of kf119_ok.base (T := fun (d : Tys.data as162) => t162 d.1 d.2.1.1.1 d.2.1.1.2.1 d.2.1.2.1.1 d.2.1.2.1.2.1) (by kernel_rfl) (fun (d : Tys.data as162) => ok162_t d.1 d.2.1.1.1 d.2.1.1.2.1 d.2.1.2.1.1 d.2.1.2.1.2.1)
def kf162 : Known := kf119.func 162 p162
theorem kf162_ok : KnownOk Go.Proofs.Try.prog kf162 := kf119_ok.func ok162

/-! loop 0 of ductility/motion.checkItems[ductility/api.MotionBand] -/

abbrev sh161_0 : Sh := { n := 25, slots := [1, 9, 10, 11], pats := [.fn 162 [], .ty (.slice (.pair (.pair (.int .i64) (.pair (.int .i64) .unit)) (.pair (.pair (.int .i64) (.pair (.int .i64) .unit)) .unit))), .ty (.int .i64), .ty (.int .i64)], boxes := [] }
abbrev shb161_0 : Sh := { n := 25, slots := [], pats := [], boxes := [] }
abbrev shr161_0 : Sh := { n := 25, slots := [4, 5], pats := [.ty (.int .i64), .ty (.int .i64)], boxes := [] }

def t161_0 (x1 : (List ((Int × (Int × Unit)) × ((Int × (Int × Unit)) × Unit)))) (x2 : Int) (x3 : Int) : Tr (Out sh161_0.data shb161_0.data shr161_0.data) :=
  Tr.test ((!leF x2 x3 : Bool))
    (Tr.test ((decide ((0 : Int) ≤ x3) && decide (x3 < (↑(List.length x1) : Int)) : Bool))
      (Tr.test (Option.isSome (f162 (x3, (((((List.getD x1 (Int.toNat x3) (((0 : Int), (0 : Int), ()), ((0 : Int), (0 : Int), ()), ())).fst.fst : Int), (((List.getD x1 (Int.toNat x3) (((0 : Int), (0 : Int), ()), ((0 : Int), (0 : Int), ()), ())).fst.snd.fst : Int), ())), ((((List.getD x1 (Int.toNat x3) (((0 : Int), (0 : Int), ()), ((0 : Int), (0 : Int), ()), ())).snd.fst.fst : Int), (((List.getD x1 (Int.toNat x3) (((0 : Int), (0 : Int), ()), ((0 : Int), (0 : Int), ()), ())).snd.fst.snd.fst : Int), ())), ())), ()))))
        (let r0 : Int × PUnit := g162 (x3, (((((List.getD x1 (Int.toNat x3) (((0 : Int), (0 : Int), ()), ((0 : Int), (0 : Int), ()), ())).fst.fst : Int), (((List.getD x1 (Int.toNat x3) (((0 : Int), (0 : Int), ()), ((0 : Int), (0 : Int), ()), ())).fst.snd.fst : Int), ())), ((((List.getD x1 (Int.toNat x3) (((0 : Int), (0 : Int), ()), ((0 : Int), (0 : Int), ()), ())).snd.fst.fst : Int), (((List.getD x1 (Int.toNat x3) (((0 : Int), (0 : Int), ()), ((0 : Int), (0 : Int), ()), ())).snd.fst.snd.fst : Int), ())), ())), ()));
        Tr.test ((!eqF r0.fst (0 : Int) : Bool))
          (Tr.fin (.ret ((x3, ((r0.fst : Int), ())), ())))
          (Tr.fin (.again ((x1, (x2, ((wrap64 (x3 + (1 : Int)) : Int), ()))), ()))))
        (Tr.stop))
      (Tr.stop /- none [op 1 of region 3 of F161] -/))
    (Tr.fin (.brk ((), ())))

def s161_0 (d : sh161_0.data) : Option (Out sh161_0.data shb161_0.data shr161_0.data) := (t161_0 d.1.1 d.1.2.1 d.1.2.2.1).val
def l161_0 (d : sh161_0.data) : Option (shb161_0.data ⊕ shr161_0.data) := itr s161_0 rounds d
def b161_0 (d : sh161_0.data) : shb161_0.data := outB shb161_0.dflt (l161_0 d)
def r161_0 (d : sh161_0.data) : shr161_0.data := outR shr161_0.dflt (l161_0 d)
def lc161_0 : LoopC := lcOf sh161_0 shb161_0 shr161_0 l161_0 b161_0 r161_0

theorem e161_0_0 (x1 : (List ((Int × (Int × Unit)) × ((Int × (Int × Unit)) × Unit)))) (x2 : Int) (x3 : Int) : runBody kf162.orc Go.Proofs.Try.prog 400 161 0 sh161_0 shb161_0 shr161_0 ((x1, x2, x3, ()), ()) [true, true, true, true] =
    (let r0 : Int × PUnit := g162 (x3, (((((List.getD x1 (Int.toNat x3) (((0 : Int), (0 : Int), ()), ((0 : Int), (0 : Int), ()), ())).fst.fst : Int), (((List.getD x1 (Int.toNat x3) (((0 : Int), (0 : Int), ()), ((0 : Int), (0 : Int), ()), ())).fst.snd.fst : Int), ())), ((((List.getD x1 (Int.toNat x3) (((0 : Int), (0 : Int), ()), ((0 : Int), (0 : Int), ()), ())).snd.fst.fst : Int), (((List.getD x1 (Int.toNat x3) (((0 : Int), (0 : Int), ()), ((0 : Int), (0 : Int), ()), ())).snd.fst.snd.fst : Int), ())), ())), ())); some (.ret ((x3, ((r0.fst : Int), ())), ()), [((!eqF r0.fst (0 : Int) : Bool), true), (Option.isSome (f162 (x3, (((((List.getD x1 (Int.toNat x3) (((0 : Int), (0 : Int), ()), ((0 : Int), (0 : Int), ()), ())).fst.fst : Int), (((List.getD x1 (Int.toNat x3) (((0 : Int), (0 : Int), ()), ((0 : Int), (0 : Int), ()), ())).fst.snd.fst : Int), ())), ((((List.getD x1 (Int.toNat x3) (((0 : Int), (0 : Int), ()), ((0 : Int), (0 : Int), ()), ())).snd.fst.fst : Int), (((List.getD x1 (Int.toNat x3) (((0 : Int), (0 : Int), ()), ((0 : Int), (0 : Int), ()), ())).snd.fst.snd.fst : Int), ())), ())), ()))), true), ((decide ((0 : Int) ≤ x3) && decide (x3 < (↑(List.length x1) : Int)) : Bool), true), ((!leF x2 x3 : Bool), true)])) := by kernel_rfl
theorem e161_0_1 (x1 : (List ((Int × (Int × Unit)) × ((Int × (Int × Unit)) × Unit)))) (x2 : Int) (x3 : Int) : runBody kf162.orc Go.Proofs.Try.prog 400 161 0 sh161_0 shb161_0 shr161_0 ((x1, x2, x3, ()), ()) [true, true, true, false] =
    (let r0 : Int × PUnit := g162 (x3, (((((List.getD x1 (Int.toNat x3) (((0 : Int), (0 : Int), ()), ((0 : Int), (0 : Int), ()), ())).fst.fst : Int), (((List.getD x1 (Int.toNat x3) (((0 : Int), (0 : Int), ()), ((0 : Int), (0 : Int), ()), ())).fst.snd.fst : Int), ())), ((((List.getD x1 (Int.toNat x3) (((0 : Int), (0 : Int), ()), ((0 : Int), (0 : Int), ()), ())).snd.fst.fst : Int), (((List.getD x1 (Int.toNat x3) (((0 : Int), (0 : Int), ()), ((0 : Int), (0 : Int), ()), ())).snd.fst.snd.fst : Int), ())), ())), ())); some (.again ((x1, (x2, ((wrap64 (x3 + (1 : Int)) : Int), ()))), ()), [((!eqF r0.fst (0 : Int) : Bool), false), (Option.isSome (f162 (x3, (((((List.getD x1 (Int.toNat x3) (((0 : Int), (0 : Int), ()), ((0 : Int), (0 : Int), ()), ())).fst.fst : Int), (((List.getD x1 (Int.toNat x3) (((0 : Int), (0 : Int), ()), ((0 : Int), (0 : Int), ()), ())).fst.snd.fst : Int), ())), ((((List.getD x1 (Int.toNat x3) (((0 : Int), (0 : Int), ()), ((0 : Int), (0 : Int), ()), ())).snd.fst.fst : Int), (((List.getD x1 (Int.toNat x3) (((0 : Int), (0 : Int), ()), ((0 : Int), (0 : Int), ()), ())).snd.fst.snd.fst : Int), ())), ())), ()))), true), ((decide ((0 : Int) ≤ x3) && decide (x3 < (↑(List.length x1) : Int)) : Bool), true), ((!leF x2 x3 : Bool), true)])) := by kernel_rfl
theorem e161_0_3 (x1 : (List ((Int × (Int × Unit)) × ((Int × (Int × Unit)) × Unit)))) (x2 : Int) (x3 : Int) : runBody kf162.orc Go.Proofs.Try.prog 400 161 0 sh161_0 shb161_0 shr161_0 ((x1, x2, x3, ()), ()) [false] =
    (some (.brk ((), ()), [((!leF x2 x3 : Bool), false)])) := by kernel_rfl

theorem ok161_0_t (x1 : (List ((Int × (Int × Unit)) × ((Int × (Int × Unit)) × Unit)))) (x2 : Int) (x3 : Int) : TrOk (BodyRuns Go.Proofs.Try.prog kf162.orc 161 0 sh161_0 shb161_0 shr161_0 ((x1, x2, x3, ()), ())) (t161_0 x1 x2 x3) :=
  TrOk.ofTest (fun h0 => TrOk.ofTest (fun h1 => TrOk.ofTest (fun h2 => TrOk.ofTest (fun h3 => TrOk.ofFin (BodyRuns.of (e161_0_0 x1 x2 x3) (All.cons h3 (All.cons h2 (All.cons h1 (All.cons h0 (All.nil))))))) (fun h3 => TrOk.ofFin (BodyRuns.of (e161_0_1 x1 x2 x3) (All.cons h3 (All.cons h2 (All.cons h1 (All.cons h0 (All.nil)))))))) (fun h2 => TrOk.ofStop)) (fun h1 => TrOk.ofStop)) (fun h0 => TrOk.ofFin (BodyRuns.of (e161_0_3 x1 x2 x3) (All.cons h0 (All.nil))))

theorem ok161_0 : LoopOk Go.Proofs.Try.prog 161 0 lc161_0 := loopOk_of kf162_ok.base (T := fun (d : sh161_0.data) => t161_0 d.1.1 d.1.2.1 d.1.2.2.1) (by kernel_rfl) rfl (fun (d : sh161_0.data) => ok161_0_t d.1.1 d.1.2.1 d.1.2.2.1) (fun _ => rfl)
def kl161_0 : Known := kf162.loop 161 0 lc161_0
theorem kl161_0_ok : KnownOk Go.Proofs.Try.prog kl161_0 := kf162_ok.loop ok161_0

/-! ductility/motion.bandError -/

abbrev as124 : List Ty := [(.slice (.pair (.pair (.int .i64) (.pair (.int .i64) .unit)) (.pair (.pair (.int .i64) (.pair (.int .i64) .unit)) .unit)))]
abbrev rs124 : List Ty := [(.int .i64)]

def t124 (x0 : (List ((Int × (Int × Unit)) × ((Int × (Int × Unit)) × Unit)))) : Tr (Tys.data rs124) :=
  Tr.test (Option.isSome (f86 ((eqF (↑(List.length x0) : Int) (0 : Int) : Bool), ((10 : Int), ()))))
    (Tr.test (Option.isSome (f86 ((!leF (↑(List.length x0) : Int) (6 : Int) : Bool), ((8 : Int), ()))))
      (let r0 : Int × PUnit := g86 ((eqF (↑(List.length x0) : Int) (0 : Int) : Bool), ((10 : Int), ()));
      let r1 : Int × PUnit := g86 ((!leF (↑(List.length x0) : Int) (6 : Int) : Bool), ((8 : Int), ()));
      Tr.test (Option.isSome (f85 (([r0.fst, r1.fst] : List Int), ())))
        (let r2 : Int × PUnit := g85 (([r0.fst, r1.fst] : List Int), ());
        Tr.test ((!eqF r2.fst (0 : Int) : Bool))
          (Tr.fin (((r2.fst : Int), ())))
          (Tr.test (Option.isSome (l161_0 ((x0, ((↑(List.length x0) : Int), ((0 : Int), ()))), ())))
            (Tr.test (isRet (l161_0 ((x0, ((↑(List.length x0) : Int), ((0 : Int), ()))), ())))
              (let r3 : (Int × Int × PUnit) × PUnit := r161_0 ((x0, ((↑(List.length x0) : Int), ((0 : Int), ()))), ());
              Tr.fin (((r3.fst.snd.fst : Int), ())))
              (Tr.fin (((0 : Int), ()))))
            (Tr.stop)))
        (Tr.stop))
      (Tr.stop))
    (Tr.stop)

def f124 (d : Tys.data as124) : Option (Tys.data rs124) := (t124 d.1).val
def g124 (d : Tys.data as124) : Tys.data rs124 := (f124 d).getD (Tys.dflt rs124)
def p124 : PureC := pcOf as124 rs124 f124 g124

theorem e124_0 (x0 : (List ((Int × (Int × Unit)) × ((Int × (Int × Unit)) × Unit)))) : runPure kl161_0.orc Go.Proofs.Try.prog 400 124 as124 rs124 (x0, ()) [true, true, true, true, true] =
    (let r0 : Int × PUnit := g86 ((eqF (↑(List.length x0) : Int) (0 : Int) : Bool), ((10 : Int), ())); let r1 : Int × PUnit := g86 ((!leF (↑(List.length x0) : Int) (6 : Int) : Bool), ((8 : Int), ())); let r2 : Int × PUnit := g85 (([r0.fst, r1.fst] : List Int), ()); some (((r2.fst : Int), ()), [((!eqF r2.fst (0 : Int) : Bool), true), (Option.isSome (f85 (([r0.fst, r1.fst] : List Int), ())), true), ((true : Bool), true), (Option.isSome (f86 ((!leF (↑(List.length x0) : Int) (6 : Int) : Bool), ((8 : Int), ()))), true), (Option.isSome (f86 ((eqF (↑(List.length x0) : Int) (0 : Int) : Bool), ((10 : Int), ()))), true)])) := by kernel_rfl
theorem e124_1 (x0 : (List ((Int × (Int × Unit)) × ((Int × (Int × Unit)) × Unit)))) : runPure kl161_0.orc Go.Proofs.Try.prog 400 124 as124 rs124 (x0, ()) [true, true, true, true, false, true, true] =
    (let r0 : Int × PUnit := g86 ((eqF (↑(List.length x0) : Int) (0 : Int) : Bool), ((10 : Int), ())); let r1 : Int × PUnit := g86 ((!leF (↑(List.length x0) : Int) (6 : Int) : Bool), ((8 : Int), ())); let r2 : Int × PUnit := g85 (([r0.fst, r1.fst] : List Int), ()); let r3 : (Int × Int × PUnit) × PUnit := r161_0 ((x0, ((↑(List.length x0) : Int), ((0 : Int), ()))), ()); some (((r3.fst.snd.fst : Int), ()), [(isRet (l161_0 ((x0, ((↑(List.length x0) : Int), ((0 : Int), ()))), ())), true), (Option.isSome (l161_0 ((x0, ((↑(List.length x0) : Int), ((0 : Int), ()))), ())), true), ((!eqF r2.fst (0 : Int) : Bool), false), (Option.isSome (f85 (([r0.fst, r1.fst] : List Int), ())), true), ((true : Bool), true), (Option.isSome (f86 ((!leF (↑(List.length x0) : Int) (6 : Int) : Bool), ((8 : Int), ()))), true), (Option.isSome (f86 ((eqF (↑(List.length x0) : Int) (0 : Int) : Bool), ((10 : Int), ()))), true)])) := by kernel_rfl
theorem e124_2 (x0 : (List ((Int × (Int × Unit)) × ((Int × (Int × Unit)) × Unit)))) : runPure kl161_0.orc Go.Proofs.Try.prog 400 124 as124 rs124 (x0, ()) [true, true, true, true, false, true, false] =
    (let r0 : Int × PUnit := g86 ((eqF (↑(List.length x0) : Int) (0 : Int) : Bool), ((10 : Int), ())); let r1 : Int × PUnit := g86 ((!leF (↑(List.length x0) : Int) (6 : Int) : Bool), ((8 : Int), ())); let r2 : Int × PUnit := g85 (([r0.fst, r1.fst] : List Int), ()); some (((0 : Int), ()), [(isRet (l161_0 ((x0, ((↑(List.length x0) : Int), ((0 : Int), ()))), ())), false), (Option.isSome (l161_0 ((x0, ((↑(List.length x0) : Int), ((0 : Int), ()))), ())), true), ((!eqF r2.fst (0 : Int) : Bool), false), (Option.isSome (f85 (([r0.fst, r1.fst] : List Int), ())), true), ((true : Bool), true), (Option.isSome (f86 ((!leF (↑(List.length x0) : Int) (6 : Int) : Bool), ((8 : Int), ()))), true), (Option.isSome (f86 ((eqF (↑(List.length x0) : Int) (0 : Int) : Bool), ((10 : Int), ()))), true)])) := by kernel_rfl

theorem ok124_t (x0 : (List ((Int × (Int × Unit)) × ((Int × (Int × Unit)) × Unit)))) : TrOk (PureRuns Go.Proofs.Try.prog kl161_0.orc 124 as124 rs124 (x0, ())) (t124 x0) :=
  TrOk.ofTest (fun h0 => TrOk.ofTest (fun h1 => TrOk.ofTest (fun h3 => TrOk.ofTest (fun h4 => TrOk.ofFin (PureRuns.of (e124_0 x0) (All.cons h4 (All.cons h3 (All.cons rfl (All.cons h1 (All.cons h0 (All.nil)))))))) (fun h4 => TrOk.ofTest (fun h5 => TrOk.ofTest (fun h6 => TrOk.ofFin (PureRuns.of (e124_1 x0) (All.cons h6 (All.cons h5 (All.cons h4 (All.cons h3 (All.cons rfl (All.cons h1 (All.cons h0 (All.nil)))))))))) (fun h6 => TrOk.ofFin (PureRuns.of (e124_2 x0) (All.cons h6 (All.cons h5 (All.cons h4 (All.cons h3 (All.cons rfl (All.cons h1 (All.cons h0 (All.nil))))))))))) (fun h5 => TrOk.ofStop))) (fun h3 => TrOk.ofStop)) (fun h1 => TrOk.ofStop)) (fun h0 => TrOk.ofStop)

theorem ok124 : PureOk Go.Proofs.Try.prog 124 p124 := pureOk_of kl161_0_ok.base (T := fun (d : Tys.data as124) => t124 d.1) (by kernel_rfl) (fun (d : Tys.data as124) => ok124_t d.1)
def kf124 : Known := kl161_0.func 124 p124
theorem kf124_ok : KnownOk Go.Proofs.Try.prog kf124 := kl161_0_ok.func ok124

/-! loop 0 of ductility/motion.responseOf -/

abbrev sh120_0 : Sh := { n := 44, slots := [3, 5, 6, 7, 11, 12, 13], pats := [.ptr 0 2 0, .acc (.int .i64), .ty (.int .i64), .ty (.int .i64), .ty (.slice (.int .i64)), .ty (.int .i64), .ty (.int .i64)], boxes := [.row [.ty (.int .i64), .ty (.int .i64)]] }
abbrev shb120_0 : Sh := { n := 44, slots := [5], pats := [.acc (.int .i64)], boxes := [.row [.ty (.int .i64), .ty (.int .i64)]] }
abbrev shr120_0 : Sh := { n := 44, slots := [], pats := [], boxes := [.row [.ty (.int .i64), .ty (.int .i64)]] }

def t120_0 (x1 : (List Int)) (x2 : Int) (x3 : Int) (x4 : (List Int)) (x5 : Int) (x6 : Int) (b0_0 : Int) (b0_1 : Int) : Tr (Out sh120_0.data shb120_0.data shr120_0.data) :=
  Tr.test ((!leF x5 x6 : Bool))
    (Tr.test ((decide ((0 : Int) ≤ x6) && decide (x6 < (↑(List.length x4) : Int)) : Bool))
      (Tr.test ((Nat.ble (((2 : Nat) * (List.length x1 + (1 : Nat)) + (192 : Nat)) * (8 : Nat)) (281474976710656 : Nat) && Nat.ble (List.length x1 + (1 : Nat)) (281474976710656 : Nat) : Bool))
        (Tr.fin (.again (((x1 ++ [wrap64 (wrap64 (wrap64 (wrap64 ((2 : Int) * x2) - x3) - Go.IntKind.wrap Go.IntKind.i64 (Int.tdiv (wrap64 (wrap64 (b0_0 * x2) + wrap64 (b0_1 * wrap64 (x2 - x3)))) (1000 : Int))) - List.getD x4 (Int.toNat x6) (0 : Int))] : List Int), ((wrap64 (wrap64 (wrap64 (wrap64 ((2 : Int) * x2) - x3) - Go.IntKind.wrap Go.IntKind.i64 (Int.tdiv (wrap64 (wrap64 (b0_0 * x2) + wrap64 (b0_1 * wrap64 (x2 - x3)))) (1000 : Int))) - List.getD x4 (Int.toNat x6) (0 : Int)) : Int), (x2, (x4, (x5, ((wrap64 (x6 + (1 : Int)) : Int), ())))))), ((b0_0, (b0_1, ())), ()))))
        (Tr.stop /- none [op 3 of region 8 of F120] -/))
      (Tr.stop /- none [op 0 of region 5 of F120] -/))
    (Tr.fin (.brk ((x1, ()), ((b0_0, (b0_1, ())), ()))))

def s120_0 (d : sh120_0.data) : Option (Out sh120_0.data shb120_0.data shr120_0.data) := (t120_0 d.1.1 d.1.2.1 d.1.2.2.1 d.1.2.2.2.1 d.1.2.2.2.2.1 d.1.2.2.2.2.2.1 d.2.1.1 d.2.1.2.1).val
def l120_0 (d : sh120_0.data) : Option (shb120_0.data ⊕ shr120_0.data) := itr s120_0 rounds d
def b120_0 (d : sh120_0.data) : shb120_0.data := outB shb120_0.dflt (l120_0 d)
def r120_0 (d : sh120_0.data) : shr120_0.data := outR shr120_0.dflt (l120_0 d)
def lc120_0 : LoopC := lcB sh120_0 shb120_0 shr120_0 l120_0 b120_0

theorem e120_0_0 (x1 : (List Int)) (x2 : Int) (x3 : Int) (x4 : (List Int)) (x5 : Int) (x6 : Int) (b0_0 : Int) (b0_1 : Int) : runBody kf124.orc Go.Proofs.Try.prog 400 120 0 sh120_0 shb120_0 shr120_0 ((x1, x2, x3, x4, x5, x6, ()), (b0_0, b0_1, ()), ()) [true, true, false, false, true, true] =
    (some (.again (((x1 ++ [wrap64 (wrap64 (wrap64 (wrap64 ((2 : Int) * x2) - x3) - Go.IntKind.wrap Go.IntKind.i64 (Int.tdiv (wrap64 (wrap64 (b0_0 * x2) + wrap64 (b0_1 * wrap64 (x2 - x3)))) (1000 : Int))) - List.getD x4 (Int.toNat x6) (0 : Int))] : List Int), ((wrap64 (wrap64 (wrap64 (wrap64 ((2 : Int) * x2) - x3) - Go.IntKind.wrap Go.IntKind.i64 (Int.tdiv (wrap64 (wrap64 (b0_0 * x2) + wrap64 (b0_1 * wrap64 (x2 - x3)))) (1000 : Int))) - List.getD x4 (Int.toNat x6) (0 : Int)) : Int), (x2, (x4, (x5, ((wrap64 (x6 + (1 : Int)) : Int), ())))))), ((b0_0, (b0_1, ())), ())), [((true : Bool), true), ((Nat.ble (((2 : Nat) * (List.length x1 + (1 : Nat)) + (192 : Nat)) * (8 : Nat)) (281474976710656 : Nat) && Nat.ble (List.length x1 + (1 : Nat)) (281474976710656 : Nat) : Bool), true), ((false : Bool), false), ((false : Bool), false), ((decide ((0 : Int) ≤ x6) && decide (x6 < (↑(List.length x4) : Int)) : Bool), true), ((!leF x5 x6 : Bool), true)])) := by kernel_rfl
theorem e120_0_3 (x1 : (List Int)) (x2 : Int) (x3 : Int) (x4 : (List Int)) (x5 : Int) (x6 : Int) (b0_0 : Int) (b0_1 : Int) : runBody kf124.orc Go.Proofs.Try.prog 400 120 0 sh120_0 shb120_0 shr120_0 ((x1, x2, x3, x4, x5, x6, ()), (b0_0, b0_1, ()), ()) [false] =
    (some (.brk ((x1, ()), ((b0_0, (b0_1, ())), ())), [((!leF x5 x6 : Bool), false)])) := by kernel_rfl

theorem ok120_0_t (x1 : (List Int)) (x2 : Int) (x3 : Int) (x4 : (List Int)) (x5 : Int) (x6 : Int) (b0_0 : Int) (b0_1 : Int) : TrOk (BodyRuns Go.Proofs.Try.prog kf124.orc 120 0 sh120_0 shb120_0 shr120_0 ((x1, x2, x3, x4, x5, x6, ()), (b0_0, b0_1, ()), ())) (t120_0 x1 x2 x3 x4 x5 x6 b0_0 b0_1) :=
  TrOk.ofTest (fun h0 => TrOk.ofTest (fun h1 => TrOk.ofTest (fun h4 => TrOk.ofFin (BodyRuns.of (e120_0_0 x1 x2 x3 x4 x5 x6 b0_0 b0_1) (All.cons rfl (All.cons h4 (All.cons rfl (All.cons rfl (All.cons h1 (All.cons h0 (All.nil))))))))) (fun h4 => TrOk.ofStop)) (fun h1 => TrOk.ofStop)) (fun h0 => TrOk.ofFin (BodyRuns.of (e120_0_3 x1 x2 x3 x4 x5 x6 b0_0 b0_1) (All.cons h0 (All.nil))))

theorem ok120_0 : LoopOk Go.Proofs.Try.prog 120 0 lc120_0 := loopOk_ofB kf124_ok.base (T := fun (d : sh120_0.data) => t120_0 d.1.1 d.1.2.1 d.1.2.2.1 d.1.2.2.2.1 d.1.2.2.2.2.1 d.1.2.2.2.2.2.1 d.2.1.1 d.2.1.2.1) (by kernel_rfl) rfl (fun (d : sh120_0.data) => ok120_0_t d.1.1 d.1.2.1 d.1.2.2.1 d.1.2.2.2.1 d.1.2.2.2.2.1 d.1.2.2.2.2.2.1 d.2.1.1 d.2.1.2.1) (fun _ => rfl)
def kl120_0 : Known := kf124.loop 120 0 lc120_0
theorem kl120_0_ok : KnownOk Go.Proofs.Try.prog kl120_0 := kf124_ok.loop ok120_0

/-! ductility/motion.responseOf -/

abbrev as120 : List Ty := [(.slice (.int .i64)), (.pair (.int .i64) (.pair (.int .i64) .unit))]
abbrev rs120 : List Ty := [(.slice (.int .i64))]

def t120 (x0 : (List Int)) (x1 : Int) (x1' : Int) : Tr (Tys.data rs120) :=
  Tr.test (isBrk (l120_0 ((([] : List Int), ((0 : Int), ((0 : Int), (x0, ((↑(List.length x0) : Int), ((0 : Int), ())))))), ((x1, (x1', ())), ()))))
    (let r0 : (List Int × PUnit) × (Int × Int × PUnit) × PUnit := b120_0 ((([] : List Int), ((0 : Int), ((0 : Int), (x0, ((↑(List.length x0) : Int), ((0 : Int), ())))))), ((x1, (x1', ())), ()));
    Tr.fin (((r0.fst.fst : List Int), ())))
    (Tr.stop)

def f120 (d : Tys.data as120) : Option (Tys.data rs120) := (t120 d.1 d.2.1.1 d.2.1.2.1).val
def g120 (d : Tys.data as120) : Tys.data rs120 := (f120 d).getD (Tys.dflt rs120)
def p120 : PureC := pcOf as120 rs120 f120 g120

theorem e120_0 (x0 : (List Int)) (x1 : Int) (x1' : Int) : runPure kl120_0.orc Go.Proofs.Try.prog 400 120 as120 rs120 (x0, (x1, x1', ()), ()) [true, true] =
    (let r0 : (List Int × PUnit) × (Int × Int × PUnit) × PUnit := b120_0 ((([] : List Int), ((0 : Int), ((0 : Int), (x0, ((↑(List.length x0) : Int), ((0 : Int), ())))))), ((x1, (x1', ())), ())); some (((r0.fst.fst : List Int), ()), [((true : Bool), true), (isBrk (l120_0 ((([] : List Int), ((0 : Int), ((0 : Int), (x0, ((↑(List.length x0) : Int), ((0 : Int), ())))))), ((x1, (x1', ())), ()))), true)])) := by kernel_rfl

theorem ok120_t (x0 : (List Int)) (x1 : Int) (x1' : Int) : TrOk (PureRuns Go.Proofs.Try.prog kl120_0.orc 120 as120 rs120 (x0, (x1, x1', ()), ())) (t120 x0 x1 x1') :=
  TrOk.ofTest (fun h0 => TrOk.ofFin (PureRuns.of (e120_0 x0 x1 x1') (All.cons rfl (All.cons h0 (All.nil))))) (fun h0 => TrOk.ofStop)

theorem ok120 : PureOk Go.Proofs.Try.prog 120 p120 := pureOk_of kl120_0_ok.base (T := fun (d : Tys.data as120) => t120 d.1 d.2.1.1 d.2.1.2.1) (by kernel_rfl) (fun (d : Tys.data as120) => ok120_t d.1 d.2.1.1 d.2.1.2.1)
def kf120 : Known := kl120_0.func 120 p120
theorem kf120_ok : KnownOk Go.Proofs.Try.prog kf120 := kl120_0_ok.func ok120

/-! loop 0 of ductility/motion.peakOf -/

abbrev sh122_0 : Sh := { n := 19, slots := [3, 6, 7, 8], pats := [.ty (.int .i64), .ty (.slice (.int .i64)), .ty (.int .i64), .ty (.int .i64)], boxes := [] }
abbrev shb122_0 : Sh := { n := 19, slots := [3], pats := [.ty (.int .i64)], boxes := [] }
abbrev shr122_0 : Sh := { n := 19, slots := [], pats := [], boxes := [] }

def t122_0 (x0 : Int) (x1 : (List Int)) (x2 : Int) (x3 : Int) : Tr (Out sh122_0.data shb122_0.data shr122_0.data) :=
  Tr.test ((!leF x2 x3 : Bool))
    (Tr.test ((decide ((0 : Int) ≤ x3) && decide (x3 < (↑(List.length x1) : Int)) : Bool))
      (Tr.fin (.again (((if (if x0 < List.getD x1 (Int.toNat x3) (0 : Int) then List.getD x1 (Int.toNat x3) (0 : Int) else x0) < Go.IntKind.wrap Go.IntKind.i64 ((0 : Int) - List.getD x1 (Int.toNat x3) (0 : Int)) then Go.IntKind.wrap Go.IntKind.i64 ((0 : Int) - List.getD x1 (Int.toNat x3) (0 : Int)) else if x0 < List.getD x1 (Int.toNat x3) (0 : Int) then List.getD x1 (Int.toNat x3) (0 : Int) else x0 : Int), (x1, (x2, ((wrap64 (x3 + (1 : Int)) : Int), ())))), ())))
      (Tr.stop /- none [op 0 of region 4 of F122] -/))
    (Tr.fin (.brk ((x0, ()), ())))

def s122_0 (d : sh122_0.data) : Option (Out sh122_0.data shb122_0.data shr122_0.data) := (t122_0 d.1.1 d.1.2.1 d.1.2.2.1 d.1.2.2.2.1).val
def l122_0 (d : sh122_0.data) : Option (shb122_0.data ⊕ shr122_0.data) := itr s122_0 rounds d
def b122_0 (d : sh122_0.data) : shb122_0.data := outB shb122_0.dflt (l122_0 d)
def r122_0 (d : sh122_0.data) : shr122_0.data := outR shr122_0.dflt (l122_0 d)
def lc122_0 : LoopC := lcB sh122_0 shb122_0 shr122_0 l122_0 b122_0

theorem e122_0_0 (x0 : Int) (x1 : (List Int)) (x2 : Int) (x3 : Int) : runBody kf120.orc Go.Proofs.Try.prog 400 122 0 sh122_0 shb122_0 shr122_0 ((x0, x1, x2, x3, ()), ()) [true, true] =
    (some (.again (((if (if x0 < List.getD x1 (Int.toNat x3) (0 : Int) then List.getD x1 (Int.toNat x3) (0 : Int) else x0) < Go.IntKind.wrap Go.IntKind.i64 ((0 : Int) - List.getD x1 (Int.toNat x3) (0 : Int)) then Go.IntKind.wrap Go.IntKind.i64 ((0 : Int) - List.getD x1 (Int.toNat x3) (0 : Int)) else if x0 < List.getD x1 (Int.toNat x3) (0 : Int) then List.getD x1 (Int.toNat x3) (0 : Int) else x0 : Int), (x1, (x2, ((wrap64 (x3 + (1 : Int)) : Int), ())))), ()), [((decide ((0 : Int) ≤ x3) && decide (x3 < (↑(List.length x1) : Int)) : Bool), true), ((!leF x2 x3 : Bool), true)])) := by kernel_rfl
theorem e122_0_2 (x0 : Int) (x1 : (List Int)) (x2 : Int) (x3 : Int) : runBody kf120.orc Go.Proofs.Try.prog 400 122 0 sh122_0 shb122_0 shr122_0 ((x0, x1, x2, x3, ()), ()) [false] =
    (some (.brk ((x0, ()), ()), [((!leF x2 x3 : Bool), false)])) := by kernel_rfl

theorem ok122_0_t (x0 : Int) (x1 : (List Int)) (x2 : Int) (x3 : Int) : TrOk (BodyRuns Go.Proofs.Try.prog kf120.orc 122 0 sh122_0 shb122_0 shr122_0 ((x0, x1, x2, x3, ()), ())) (t122_0 x0 x1 x2 x3) :=
  TrOk.ofTest (fun h0 => TrOk.ofTest (fun h1 => TrOk.ofFin (BodyRuns.of (e122_0_0 x0 x1 x2 x3) (All.cons h1 (All.cons h0 (All.nil))))) (fun h1 => TrOk.ofStop)) (fun h0 => TrOk.ofFin (BodyRuns.of (e122_0_2 x0 x1 x2 x3) (All.cons h0 (All.nil))))

theorem ok122_0 : LoopOk Go.Proofs.Try.prog 122 0 lc122_0 := loopOk_ofB kf120_ok.base (T := fun (d : sh122_0.data) => t122_0 d.1.1 d.1.2.1 d.1.2.2.1 d.1.2.2.2.1) (by kernel_rfl) rfl (fun (d : sh122_0.data) => ok122_0_t d.1.1 d.1.2.1 d.1.2.2.1 d.1.2.2.2.1) (fun _ => rfl)
def kl122_0 : Known := kf120.loop 122 0 lc122_0
theorem kl122_0_ok : KnownOk Go.Proofs.Try.prog kl122_0 := kf120_ok.loop ok122_0

/-! ductility/motion.peakOf -/

abbrev as122 : List Ty := [(.slice (.int .i64))]
abbrev rs122 : List Ty := [(.int .i64)]

def t122 (x0 : (List Int)) : Tr (Tys.data rs122) :=
  Tr.test (isBrk (l122_0 (((0 : Int), (x0, ((↑(List.length x0) : Int), ((0 : Int), ())))), ())))
    (let r0 : (Int × PUnit) × PUnit := b122_0 (((0 : Int), (x0, ((↑(List.length x0) : Int), ((0 : Int), ())))), ());
    Tr.fin (((r0.fst.fst : Int), ())))
    (Tr.stop)

def f122 (d : Tys.data as122) : Option (Tys.data rs122) := (t122 d.1).val
def g122 (d : Tys.data as122) : Tys.data rs122 := (f122 d).getD (Tys.dflt rs122)
def p122 : PureC := pcOf as122 rs122 f122 g122

theorem e122_0 (x0 : (List Int)) : runPure kl122_0.orc Go.Proofs.Try.prog 400 122 as122 rs122 (x0, ()) [true, true] =
    (let r0 : (Int × PUnit) × PUnit := b122_0 (((0 : Int), (x0, ((↑(List.length x0) : Int), ((0 : Int), ())))), ()); some (((r0.fst.fst : Int), ()), [((true : Bool), true), (isBrk (l122_0 (((0 : Int), (x0, ((↑(List.length x0) : Int), ((0 : Int), ())))), ())), true)])) := by kernel_rfl

theorem ok122_t (x0 : (List Int)) : TrOk (PureRuns Go.Proofs.Try.prog kl122_0.orc 122 as122 rs122 (x0, ())) (t122 x0) :=
  TrOk.ofTest (fun h0 => TrOk.ofFin (PureRuns.of (e122_0 x0) (All.cons rfl (All.cons h0 (All.nil))))) (fun h0 => TrOk.ofStop)

theorem ok122 : PureOk Go.Proofs.Try.prog 122 p122 := pureOk_of kl122_0_ok.base (T := fun (d : Tys.data as122) => t122 d.1) (by kernel_rfl) (fun (d : Tys.data as122) => ok122_t d.1)
def kf122 : Known := kl122_0.func 122 p122
theorem kf122_ok : KnownOk Go.Proofs.Try.prog kf122 := kl122_0_ok.func ok122

/-! loop 0 of ductility/motion.outsideOf -/

abbrev sh125_0 : Sh := { n := 35, slots := [0, 5, 8, 9, 10], pats := [.ty (.slice (.int .i64)), .acc (.int .i64), .ty (.slice (.pair (.pair (.int .i64) (.pair (.int .i64) .unit)) (.pair (.pair (.int .i64) (.pair (.int .i64) .unit)) .unit))), .ty (.int .i64), .ty (.int .i64)], boxes := [] }
abbrev shb125_0 : Sh := { n := 35, slots := [5], pats := [.acc (.int .i64)], boxes := [] }
abbrev shr125_0 : Sh := { n := 35, slots := [], pats := [], boxes := [] }

def t125_0 (x0 : (List Int)) (x1 : (List Int)) (x2 : (List ((Int × (Int × Unit)) × ((Int × (Int × Unit)) × Unit)))) (x3 : Int) (x4 : Int) : Tr (Out sh125_0.data shb125_0.data shr125_0.data) :=
  Tr.test ((!leF x3 x4 : Bool))
    (Tr.test ((decide ((0 : Int) ≤ x4) && decide (x4 < (↑(List.length x2) : Int)) : Bool))
      (Tr.test (Option.isSome (f120 (x0, ((((List.getD x2 (Int.toNat x4) (((0 : Int), (0 : Int), ()), ((0 : Int), (0 : Int), ()), ())).fst.fst : Int), (((List.getD x2 (Int.toNat x4) (((0 : Int), (0 : Int), ()), ((0 : Int), (0 : Int), ()), ())).fst.snd.fst : Int), ())), ()))))
        (let r0 : List Int × PUnit := g120 (x0, ((((List.getD x2 (Int.toNat x4) (((0 : Int), (0 : Int), ()), ((0 : Int), (0 : Int), ()), ())).fst.fst : Int), (((List.getD x2 (Int.toNat x4) (((0 : Int), (0 : Int), ()), ((0 : Int), (0 : Int), ()), ())).fst.snd.fst : Int), ())), ()));
        Tr.test (Option.isSome (f122 ((r0.fst : List Int), ())))
          (let r1 : Int × PUnit := g122 ((r0.fst : List Int), ());
          Tr.test (Option.isSome (f94 (((List.getD x2 (Int.toNat x4) (((0 : Int), (0 : Int), ()), ((0 : Int), (0 : Int), ()), ())).snd.fst.fst : Int), (((List.getD x2 (Int.toNat x4) (((0 : Int), (0 : Int), ()), ((0 : Int), (0 : Int), ()), ())).snd.fst.snd.fst : Int), (([r1.fst] : List Int), ())))))
            (let r2 : Bool × PUnit := g94 (((List.getD x2 (Int.toNat x4) (((0 : Int), (0 : Int), ()), ((0 : Int), (0 : Int), ()), ())).snd.fst.fst : Int), (((List.getD x2 (Int.toNat x4) (((0 : Int), (0 : Int), ()), ((0 : Int), (0 : Int), ()), ())).snd.fst.snd.fst : Int), (([r1.fst] : List Int), ())));
            Tr.test ((!r2.fst : Bool))
              (Tr.test ((Nat.ble (((2 : Nat) * (List.length x1 + (1 : Nat)) + (192 : Nat)) * (8 : Nat)) (281474976710656 : Nat) && Nat.ble (List.length x1 + (1 : Nat)) (281474976710656 : Nat) : Bool))
                (Tr.fin (.again ((x0, ((x1 ++ [x4] : List Int), (x2, (x3, ((wrap64 (x4 + (1 : Int)) : Int), ()))))), ())))
                (Tr.stop /- none [op 3 of region 6 of F125] -/))
              (Tr.fin (.again ((x0, (x1, (x2, (x3, ((wrap64 (x4 + (1 : Int)) : Int), ()))))), ()))))
            (Tr.stop))
          (Tr.stop))
        (Tr.stop))
      (Tr.stop /- none [op 1 of region 4 of F125] -/))
    (Tr.fin (.brk ((x1, ()), ())))

def s125_0 (d : sh125_0.data) : Option (Out sh125_0.data shb125_0.data shr125_0.data) := (t125_0 d.1.1 d.1.2.1 d.1.2.2.1 d.1.2.2.2.1 d.1.2.2.2.2.1).val
def l125_0 (d : sh125_0.data) : Option (shb125_0.data ⊕ shr125_0.data) := itr s125_0 rounds d
def b125_0 (d : sh125_0.data) : shb125_0.data := outB shb125_0.dflt (l125_0 d)
def r125_0 (d : sh125_0.data) : shr125_0.data := outR shr125_0.dflt (l125_0 d)
def lc125_0 : LoopC := lcB sh125_0 shb125_0 shr125_0 l125_0 b125_0

theorem e125_0_0 (x0 : (List Int)) (x1 : (List Int)) (x2 : (List ((Int × (Int × Unit)) × ((Int × (Int × Unit)) × Unit)))) (x3 : Int) (x4 : Int) : runBody kf122.orc Go.Proofs.Try.prog 400 125 0 sh125_0 shb125_0 shr125_0 ((x0, x1, x2, x3, x4, ()), ()) [true, true, true, true, true, true, true, false, true, true] =
    (let r0 : List Int × PUnit := g120 (x0, ((((List.getD x2 (Int.toNat x4) (((0 : Int), (0 : Int), ()), ((0 : Int), (0 : Int), ()), ())).fst.fst : Int), (((List.getD x2 (Int.toNat x4) (((0 : Int), (0 : Int), ()), ((0 : Int), (0 : Int), ()), ())).fst.snd.fst : Int), ())), ())); let r1 : Int × PUnit := g122 ((r0.fst : List Int), ()); let r2 : Bool × PUnit := g94 (((List.getD x2 (Int.toNat x4) (((0 : Int), (0 : Int), ()), ((0 : Int), (0 : Int), ()), ())).snd.fst.fst : Int), (((List.getD x2 (Int.toNat x4) (((0 : Int), (0 : Int), ()), ((0 : Int), (0 : Int), ()), ())).snd.fst.snd.fst : Int), (([r1.fst] : List Int), ()))); some (.again ((x0, ((x1 ++ [x4] : List Int), (x2, (x3, ((wrap64 (x4 + (1 : Int)) : Int), ()))))), ()), [((true : Bool), true), ((Nat.ble (((2 : Nat) * (List.length x1 + (1 : Nat)) + (192 : Nat)) * (8 : Nat)) (281474976710656 : Nat) && Nat.ble (List.length x1 + (1 : Nat)) (281474976710656 : Nat) : Bool), true), ((false : Bool), false), ((!r2.fst : Bool), true), (Option.isSome (f94 (((List.getD x2 (Int.toNat x4) (((0 : Int), (0 : Int), ()), ((0 : Int), (0 : Int), ()), ())).snd.fst.fst : Int), (((List.getD x2 (Int.toNat x4) (((0 : Int), (0 : Int), ()), ((0 : Int), (0 : Int), ()), ())).snd.fst.snd.fst : Int), (([r1.fst] : List Int), ())))), true), ((true : Bool), true), (Option.isSome (f122 ((r0.fst : List Int), ())), true), (Option.isSome (f120 (x0, ((((List.getD x2 (Int.toNat x4) (((0 : Int), (0 : Int), ()), ((0 : Int), (0 : Int), ()), ())).fst.fst : Int), (((List.getD x2 (Int.toNat x4) (((0 : Int), (0 : Int), ()), ((0 : Int), (0 : Int), ()), ())).fst.snd.fst : Int), ())), ()))), true), ((decide ((0 : Int) ≤ x4) && decide (x4 < (↑(List.length x2) : Int)) : Bool), true), ((!leF x3 x4 : Bool), true)])) := by kernel_rfl
theorem e125_0_2 (x0 : (List Int)) (x1 : (List Int)) (x2 : (List ((Int × (Int × Unit)) × ((Int × (Int × Unit)) × Unit)))) (x3 : Int) (x4 : Int) : runBody kf122.orc Go.Proofs.Try.prog 400 125 0 sh125_0 shb125_0 shr125_0 ((x0, x1, x2, x3, x4, ()), ()) [true, true, true, true, true, true, false] =
    (let r0 : List Int × PUnit := g120 (x0, ((((List.getD x2 (Int.toNat x4) (((0 : Int), (0 : Int), ()), ((0 : Int), (0 : Int), ()), ())).fst.fst : Int), (((List.getD x2 (Int.toNat x4) (((0 : Int), (0 : Int), ()), ((0 : Int), (0 : Int), ()), ())).fst.snd.fst : Int), ())), ())); let r1 : Int × PUnit := g122 ((r0.fst : List Int), ()); let r2 : Bool × PUnit := g94 (((List.getD x2 (Int.toNat x4) (((0 : Int), (0 : Int), ()), ((0 : Int), (0 : Int), ()), ())).snd.fst.fst : Int), (((List.getD x2 (Int.toNat x4) (((0 : Int), (0 : Int), ()), ((0 : Int), (0 : Int), ()), ())).snd.fst.snd.fst : Int), (([r1.fst] : List Int), ()))); some (.again ((x0, (x1, (x2, (x3, ((wrap64 (x4 + (1 : Int)) : Int), ()))))), ()), [((!r2.fst : Bool), false), (Option.isSome (f94 (((List.getD x2 (Int.toNat x4) (((0 : Int), (0 : Int), ()), ((0 : Int), (0 : Int), ()), ())).snd.fst.fst : Int), (((List.getD x2 (Int.toNat x4) (((0 : Int), (0 : Int), ()), ((0 : Int), (0 : Int), ()), ())).snd.fst.snd.fst : Int), (([r1.fst] : List Int), ())))), true), ((true : Bool), true), (Option.isSome (f122 ((r0.fst : List Int), ())), true), (Option.isSome (f120 (x0, ((((List.getD x2 (Int.toNat x4) (((0 : Int), (0 : Int), ()), ((0 : Int), (0 : Int), ()), ())).fst.fst : Int), (((List.getD x2 (Int.toNat x4) (((0 : Int), (0 : Int), ()), ((0 : Int), (0 : Int), ()), ())).fst.snd.fst : Int), ())), ()))), true), ((decide ((0 : Int) ≤ x4) && decide (x4 < (↑(List.length x2) : Int)) : Bool), true), ((!leF x3 x4 : Bool), true)])) := by kernel_rfl
theorem e125_0_4 (x0 : (List Int)) (x1 : (List Int)) (x2 : (List ((Int × (Int × Unit)) × ((Int × (Int × Unit)) × Unit)))) (x3 : Int) (x4 : Int) : runBody kf122.orc Go.Proofs.Try.prog 400 125 0 sh125_0 shb125_0 shr125_0 ((x0, x1, x2, x3, x4, ()), ()) [false] =
    (some (.brk ((x1, ()), ()), [((!leF x3 x4 : Bool), false)])) := by kernel_rfl

theorem ok125_0_t (x0 : (List Int)) (x1 : (List Int)) (x2 : (List ((Int × (Int × Unit)) × ((Int × (Int × Unit)) × Unit)))) (x3 : Int) (x4 : Int) : TrOk (BodyRuns Go.Proofs.Try.prog kf122.orc 125 0 sh125_0 shb125_0 shr125_0 ((x0, x1, x2, x3, x4, ()), ())) (t125_0 x0 x1 x2 x3 x4) :=
  TrOk.ofTest (fun h0 => TrOk.ofTest (fun h1 => TrOk.ofTest (fun h2 => TrOk.ofTest (fun h3 => TrOk.ofTest (fun h5 => TrOk.ofTest (fun h6 => TrOk.ofTest (fun h8 => TrOk.ofFin (BodyRuns.of (e125_0_0 x0 x1 x2 x3 x4) (All.cons rfl (All.cons h8 (All.cons rfl (All.cons h6 (All.cons h5 (All.cons rfl (All.cons h3 (All.cons h2 (All.cons h1 (All.cons h0 (All.nil))))))))))))) (fun h8 => TrOk.ofStop)) (fun h6 => TrOk.ofFin (BodyRuns.of (e125_0_2 x0 x1 x2 x3 x4) (All.cons h6 (All.cons h5 (All.cons rfl (All.cons h3 (All.cons h2 (All.cons h1 (All.cons h0 (All.nil))))))))))) (fun h5 => TrOk.ofStop)) (fun h3 => TrOk.ofStop)) (fun h2 => TrOk.ofStop)) (fun h1 => TrOk.ofStop)) (fun h0 => TrOk.ofFin (BodyRuns.of (e125_0_4 x0 x1 x2 x3 x4) (All.cons h0 (All.nil))))

theorem ok125_0 : LoopOk Go.Proofs.Try.prog 125 0 lc125_0 := loopOk_ofB kf122_ok.base (T := fun (d : sh125_0.data) => t125_0 d.1.1 d.1.2.1 d.1.2.2.1 d.1.2.2.2.1 d.1.2.2.2.2.1) (by kernel_rfl) rfl (fun (d : sh125_0.data) => ok125_0_t d.1.1 d.1.2.1 d.1.2.2.1 d.1.2.2.2.1 d.1.2.2.2.2.1) (fun _ => rfl)
def kl125_0 : Known := kf122.loop 125 0 lc125_0
theorem kl125_0_ok : KnownOk Go.Proofs.Try.prog kl125_0 := kf122_ok.loop ok125_0

/-! ductility/motion.outsideOf -/

abbrev as125 : List Ty := [(.slice (.int .i64)), (.slice (.pair (.pair (.int .i64) (.pair (.int .i64) .unit)) (.pair (.pair (.int .i64) (.pair (.int .i64) .unit)) .unit)))]
abbrev rs125 : List Ty := [(.slice (.int .i64))]

def t125 (x0 : (List Int)) (x1 : (List ((Int × (Int × Unit)) × ((Int × (Int × Unit)) × Unit)))) : Tr (Tys.data rs125) :=
  Tr.test (isBrk (l125_0 ((x0, (([] : List Int), (x1, ((↑(List.length x1) : Int), ((0 : Int), ()))))), ())))
    (let r0 : (List Int × PUnit) × PUnit := b125_0 ((x0, (([] : List Int), (x1, ((↑(List.length x1) : Int), ((0 : Int), ()))))), ());
    Tr.fin (((r0.fst.fst : List Int), ())))
    (Tr.stop)

def f125 (d : Tys.data as125) : Option (Tys.data rs125) := (t125 d.1 d.2.1).val
def g125 (d : Tys.data as125) : Tys.data rs125 := (f125 d).getD (Tys.dflt rs125)
def p125 : PureC := pcOf as125 rs125 f125 g125

theorem e125_0 (x0 : (List Int)) (x1 : (List ((Int × (Int × Unit)) × ((Int × (Int × Unit)) × Unit)))) : runPure kl125_0.orc Go.Proofs.Try.prog 400 125 as125 rs125 (x0, x1, ()) [true, true] =
    (let r0 : (List Int × PUnit) × PUnit := b125_0 ((x0, (([] : List Int), (x1, ((↑(List.length x1) : Int), ((0 : Int), ()))))), ()); some (((r0.fst.fst : List Int), ()), [((true : Bool), true), (isBrk (l125_0 ((x0, (([] : List Int), (x1, ((↑(List.length x1) : Int), ((0 : Int), ()))))), ())), true)])) := by kernel_rfl

theorem ok125_t (x0 : (List Int)) (x1 : (List ((Int × (Int × Unit)) × ((Int × (Int × Unit)) × Unit)))) : TrOk (PureRuns Go.Proofs.Try.prog kl125_0.orc 125 as125 rs125 (x0, x1, ())) (t125 x0 x1) :=
  TrOk.ofTest (fun h0 => TrOk.ofFin (PureRuns.of (e125_0 x0 x1) (All.cons rfl (All.cons h0 (All.nil))))) (fun h0 => TrOk.ofStop)

theorem ok125 : PureOk Go.Proofs.Try.prog 125 p125 := pureOk_of kl125_0_ok.base (T := fun (d : Tys.data as125) => t125 d.1 d.2.1) (by kernel_rfl) (fun (d : Tys.data as125) => ok125_t d.1 d.2.1)
def kf125 : Known := kl125_0.func 125 p125
theorem kf125_ok : KnownOk Go.Proofs.Try.prog kf125 := kl125_0_ok.func ok125

/-! ductility/motion.matchError -/

abbrev as129 : List Ty := [(.pair (.int .i64) (.pair (.slice (.int .i64)) .unit)), (.slice (.slice (.int .i64))), (.slice (.int .i64)), (.slice (.pair (.pair (.int .i64) (.pair (.int .i64) .unit)) (.pair (.pair (.int .i64) (.pair (.int .i64) .unit)) .unit)))]
abbrev rs129 : List Ty := [(.int .i64)]

def t129 (x0 : Int) (x0' : (List Int)) (x1 : (List (List Int))) (x2 : (List Int)) (x3 : (List ((Int × (Int × Unit)) × ((Int × (Int × Unit)) × Unit)))) : Tr (Tys.data rs129) :=
  Tr.test (Option.isSome (f128 ((x0, (x0', ())), (x1, (x2, ())))))
    (let r0 : (Int × List Int × PUnit) × Int × PUnit := g128 ((x0, (x0', ())), (x1, (x2, ())));
    Tr.test (Option.isSome (f125 ((r0.fst.snd.fst : List Int), (x3, ()))))
      (let r1 : List Int × PUnit := g125 ((r0.fst.snd.fst : List Int), (x3, ()));
      Tr.test (Option.isSome (f86 ((!leF (↑(List.length r1.fst) : Int) (0 : Int) : Bool), ((22 : Int), ()))))
        (let r2 : Int × PUnit := g86 ((!leF (↑(List.length r1.fst) : Int) (0 : Int) : Bool), ((22 : Int), ()));
        Tr.test (Option.isSome (f85 (([r0.snd.fst, r2.fst] : List Int), ())))
          (let r3 : Int × PUnit := g85 (([r0.snd.fst, r2.fst] : List Int), ());
          Tr.fin (((r3.fst : Int), ())))
          (Tr.stop))
        (Tr.stop))
      (Tr.stop))
    (Tr.stop)

def f129 (d : Tys.data as129) : Option (Tys.data rs129) := (t129 d.1.1 d.1.2.1 d.2.1 d.2.2.1 d.2.2.2.1).val
def g129 (d : Tys.data as129) : Tys.data rs129 := (f129 d).getD (Tys.dflt rs129)
def p129 : PureC := pcOf as129 rs129 f129 g129

theorem e129_0 (x0 : Int) (x0' : (List Int)) (x1 : (List (List Int))) (x2 : (List Int)) (x3 : (List ((Int × (Int × Unit)) × ((Int × (Int × Unit)) × Unit)))) : runPure kf125.orc Go.Proofs.Try.prog 400 129 as129 rs129 ((x0, x0', ()), x1, x2, x3, ()) [true, true, true, true, true] =
    (let r0 : (Int × List Int × PUnit) × Int × PUnit := g128 ((x0, (x0', ())), (x1, (x2, ()))); let r1 : List Int × PUnit := g125 ((r0.fst.snd.fst : List Int), (x3, ())); let r2 : Int × PUnit := g86 ((!leF (↑(List.length r1.fst) : Int) (0 : Int) : Bool), ((22 : Int), ())); let r3 : Int × PUnit := g85 (([r0.snd.fst, r2.fst] : List Int), ()); some (((r3.fst : Int), ()), [(Option.isSome (f85 (([r0.snd.fst, r2.fst] : List Int), ())), true), ((true : Bool), true), (Option.isSome (f86 ((!leF (↑(List.length r1.fst) : Int) (0 : Int) : Bool), ((22 : Int), ()))), true), (Option.isSome (f125 ((r0.fst.snd.fst : List Int), (x3, ()))), true), (Option.isSome (f128 ((x0, (x0', ())), (x1, (x2, ())))), true)])) := by kernel_rfl

theorem ok129_t (x0 : Int) (x0' : (List Int)) (x1 : (List (List Int))) (x2 : (List Int)) (x3 : (List ((Int × (Int × Unit)) × ((Int × (Int × Unit)) × Unit)))) : TrOk (PureRuns Go.Proofs.Try.prog kf125.orc 129 as129 rs129 ((x0, x0', ()), x1, x2, x3, ())) (t129 x0 x0' x1 x2 x3) :=
  TrOk.ofTest (fun h0 => TrOk.ofTest (fun h1 => TrOk.ofTest (fun h2 => TrOk.ofTest (fun h4 => TrOk.ofFin (PureRuns.of (e129_0 x0 x0' x1 x2 x3) (All.cons h4 (All.cons rfl (All.cons h2 (All.cons h1 (All.cons h0 (All.nil)))))))) (fun h4 => TrOk.ofStop)) (fun h2 => TrOk.ofStop)) (fun h1 => TrOk.ofStop)) (fun h0 => TrOk.ofStop)

theorem ok129 : PureOk Go.Proofs.Try.prog 129 p129 := pureOk_of kf125_ok.base (T := fun (d : Tys.data as129) => t129 d.1.1 d.1.2.1 d.2.1 d.2.2.1 d.2.2.2.1) (by kernel_rfl) (fun (d : Tys.data as129) => ok129_t d.1.1 d.1.2.1 d.2.1 d.2.2.1 d.2.2.2.1)
def kf129 : Known := kf125.func 129 p129
theorem kf129_ok : KnownOk Go.Proofs.Try.prog kf129 := kf125_ok.func ok129

/-! loop 0 of ductility/motion.sizeOf -/

abbrev sh130_0 : Sh := { n := 20, slots := [3, 6, 7, 8], pats := [.ty (.int .i64), .ty (.slice (.int .i64)), .ty (.int .i64), .ty (.int .i64)], boxes := [] }
abbrev shb130_0 : Sh := { n := 20, slots := [3], pats := [.ty (.int .i64)], boxes := [] }
abbrev shr130_0 : Sh := { n := 20, slots := [], pats := [], boxes := [] }

def t130_0 (x0 : Int) (x1 : (List Int)) (x2 : Int) (x3 : Int) : Tr (Out sh130_0.data shb130_0.data shr130_0.data) :=
  Tr.test ((!leF x2 x3 : Bool))
    (Tr.test ((decide ((0 : Int) ≤ x3) && decide (x3 < (↑(List.length x1) : Int)) : Bool))
      (Tr.fin (.again (((wrap64 (x0 + if List.getD x1 (Int.toNat x3) (0 : Int) < Go.IntKind.wrap Go.IntKind.i64 ((0 : Int) - List.getD x1 (Int.toNat x3) (0 : Int)) then Go.IntKind.wrap Go.IntKind.i64 ((0 : Int) - List.getD x1 (Int.toNat x3) (0 : Int)) else List.getD x1 (Int.toNat x3) (0 : Int)) : Int), (x1, (x2, ((wrap64 (x3 + (1 : Int)) : Int), ())))), ())))
      (Tr.stop /- none [op 0 of region 4 of F130] -/))
    (Tr.fin (.brk ((x0, ()), ())))

def s130_0 (d : sh130_0.data) : Option (Out sh130_0.data shb130_0.data shr130_0.data) := (t130_0 d.1.1 d.1.2.1 d.1.2.2.1 d.1.2.2.2.1).val
def l130_0 (d : sh130_0.data) : Option (shb130_0.data ⊕ shr130_0.data) := itr s130_0 rounds d
def b130_0 (d : sh130_0.data) : shb130_0.data := outB shb130_0.dflt (l130_0 d)
def r130_0 (d : sh130_0.data) : shr130_0.data := outR shr130_0.dflt (l130_0 d)
def lc130_0 : LoopC := lcB sh130_0 shb130_0 shr130_0 l130_0 b130_0

theorem e130_0_0 (x0 : Int) (x1 : (List Int)) (x2 : Int) (x3 : Int) : runBody kf129.orc Go.Proofs.Try.prog 400 130 0 sh130_0 shb130_0 shr130_0 ((x0, x1, x2, x3, ()), ()) [true, true] =
    (some (.again (((wrap64 (x0 + if List.getD x1 (Int.toNat x3) (0 : Int) < Go.IntKind.wrap Go.IntKind.i64 ((0 : Int) - List.getD x1 (Int.toNat x3) (0 : Int)) then Go.IntKind.wrap Go.IntKind.i64 ((0 : Int) - List.getD x1 (Int.toNat x3) (0 : Int)) else List.getD x1 (Int.toNat x3) (0 : Int)) : Int), (x1, (x2, ((wrap64 (x3 + (1 : Int)) : Int), ())))), ()), [((decide ((0 : Int) ≤ x3) && decide (x3 < (↑(List.length x1) : Int)) : Bool), true), ((!leF x2 x3 : Bool), true)])) := by kernel_rfl
theorem e130_0_2 (x0 : Int) (x1 : (List Int)) (x2 : Int) (x3 : Int) : runBody kf129.orc Go.Proofs.Try.prog 400 130 0 sh130_0 shb130_0 shr130_0 ((x0, x1, x2, x3, ()), ()) [false] =
    (some (.brk ((x0, ()), ()), [((!leF x2 x3 : Bool), false)])) := by kernel_rfl

theorem ok130_0_t (x0 : Int) (x1 : (List Int)) (x2 : Int) (x3 : Int) : TrOk (BodyRuns Go.Proofs.Try.prog kf129.orc 130 0 sh130_0 shb130_0 shr130_0 ((x0, x1, x2, x3, ()), ())) (t130_0 x0 x1 x2 x3) :=
  TrOk.ofTest (fun h0 => TrOk.ofTest (fun h1 => TrOk.ofFin (BodyRuns.of (e130_0_0 x0 x1 x2 x3) (All.cons h1 (All.cons h0 (All.nil))))) (fun h1 => TrOk.ofStop)) (fun h0 => TrOk.ofFin (BodyRuns.of (e130_0_2 x0 x1 x2 x3) (All.cons h0 (All.nil))))

theorem ok130_0 : LoopOk Go.Proofs.Try.prog 130 0 lc130_0 := loopOk_ofB kf129_ok.base (T := fun (d : sh130_0.data) => t130_0 d.1.1 d.1.2.1 d.1.2.2.1 d.1.2.2.2.1) (by kernel_rfl) rfl (fun (d : sh130_0.data) => ok130_0_t d.1.1 d.1.2.1 d.1.2.2.1 d.1.2.2.2.1) (fun _ => rfl)
def kl130_0 : Known := kf129.loop 130 0 lc130_0
theorem kl130_0_ok : KnownOk Go.Proofs.Try.prog kl130_0 := kf129_ok.loop ok130_0

/-! ductility/motion.sizeOf -/

abbrev as130 : List Ty := [(.slice (.int .i64))]
abbrev rs130 : List Ty := [(.int .i64)]

def t130 (x0 : (List Int)) : Tr (Tys.data rs130) :=
  Tr.test (isBrk (l130_0 (((0 : Int), (x0, ((↑(List.length x0) : Int), ((0 : Int), ())))), ())))
    (let r0 : (Int × PUnit) × PUnit := b130_0 (((0 : Int), (x0, ((↑(List.length x0) : Int), ((0 : Int), ())))), ());
    Tr.fin (((r0.fst.fst : Int), ())))
    (Tr.stop)

def f130 (d : Tys.data as130) : Option (Tys.data rs130) := (t130 d.1).val
def g130 (d : Tys.data as130) : Tys.data rs130 := (f130 d).getD (Tys.dflt rs130)
def p130 : PureC := pcOf as130 rs130 f130 g130

theorem e130_0 (x0 : (List Int)) : runPure kl130_0.orc Go.Proofs.Try.prog 400 130 as130 rs130 (x0, ()) [true, true] =
    (let r0 : (Int × PUnit) × PUnit := b130_0 (((0 : Int), (x0, ((↑(List.length x0) : Int), ((0 : Int), ())))), ()); some (((r0.fst.fst : Int), ()), [((true : Bool), true), (isBrk (l130_0 (((0 : Int), (x0, ((↑(List.length x0) : Int), ((0 : Int), ())))), ())), true)])) := by kernel_rfl

theorem ok130_t (x0 : (List Int)) : TrOk (PureRuns Go.Proofs.Try.prog kl130_0.orc 130 as130 rs130 (x0, ())) (t130 x0) :=
  TrOk.ofTest (fun h0 => TrOk.ofFin (PureRuns.of (e130_0 x0) (All.cons rfl (All.cons h0 (All.nil))))) (fun h0 => TrOk.ofStop)

theorem ok130 : PureOk Go.Proofs.Try.prog 130 p130 := pureOk_of kl130_0_ok.base (T := fun (d : Tys.data as130) => t130 d.1) (by kernel_rfl) (fun (d : Tys.data as130) => ok130_t d.1)
def kf130 : Known := kl130_0.func 130 p130
theorem kf130_ok : KnownOk Go.Proofs.Try.prog kf130 := kl130_0_ok.func ok130

/-! ductility/motion.CheckMatch -/

abbrev as71 : List Ty := [(.pair (.int .i64) (.pair (.slice (.int .i64)) .unit)), (.pair (.slice (.slice (.int .i64))) (.pair (.slice (.int .i64)) .unit)), (.slice (.pair (.pair (.int .i64) (.pair (.int .i64) .unit)) (.pair (.pair (.int .i64) (.pair (.int .i64) .unit)) .unit)))]
abbrev rs71 : List Ty := [(.int .i64), (.int .i64)]

def t71 (x0 : Int) (x0' : (List Int)) (x1 : (List (List Int))) (x1' : (List Int)) (x2 : (List ((Int × (Int × Unit)) × ((Int × (Int × Unit)) × Unit)))) : Tr (Tys.data rs71) :=
  Tr.test (Option.isSome (f88 ((x0, (x0', ())), ())))
    (Tr.test (Option.isSome (f126 (x1, ((↑(List.length x0') : Int), ()))))
      (Tr.test (Option.isSome (f127 (x1', ((↑(List.length x1) : Int), ()))))
        (Tr.test (Option.isSome (f124 (x2, ())))
          (let r0 : Int × PUnit := g88 ((x0, (x0', ())), ());
          let r1 : Int × PUnit := g126 (x1, ((↑(List.length x0') : Int), ()));
          let r2 : Int × PUnit := g127 (x1', ((↑(List.length x1) : Int), ()));
          let r3 : Int × PUnit := g124 (x2, ());
          Tr.test (Option.isSome (f85 (([r0.fst, r1.fst, r2.fst, r3.fst] : List Int), ())))
            (let r4 : Int × PUnit := g85 (([r0.fst, r1.fst, r2.fst, r3.fst] : List Int), ());
            Tr.test ((!eqF r4.fst (0 : Int) : Bool))
              (Tr.fin (((0 : Int), ((r4.fst : Int), ()))))
              (Tr.test (Option.isSome (f129 ((x0, (x0', ())), (x1, (x1', (x2, ()))))))
                (let r5 : Int × PUnit := g129 ((x0, (x0', ())), (x1, (x1', (x2, ()))));
                Tr.test ((!eqF r5.fst (0 : Int) : Bool))
                  (Tr.fin (((0 : Int), ((r5.fst : Int), ()))))
                  (Tr.test (Option.isSome (f130 (x1', ())))
                    (let r6 : Int × PUnit := g130 (x1', ());
                    Tr.fin (((r6.fst : Int), ((0 : Int), ()))))
                    (Tr.stop)))
                (Tr.stop)))
            (Tr.stop))
          (Tr.stop))
        (Tr.stop))
      (Tr.stop))
    (Tr.stop)

def f71 (d : Tys.data as71) : Option (Tys.data rs71) := (t71 d.1.1 d.1.2.1 d.2.1.1 d.2.1.2.1 d.2.2.1).val
def g71 (d : Tys.data as71) : Tys.data rs71 := (f71 d).getD (Tys.dflt rs71)
def p71 : PureC := pcOf as71 rs71 f71 g71

theorem e71_0 (x0 : Int) (x0' : (List Int)) (x1 : (List (List Int))) (x1' : (List Int)) (x2 : (List ((Int × (Int × Unit)) × ((Int × (Int × Unit)) × Unit)))) : runPure kf130.orc Go.Proofs.Try.prog 400 71 as71 rs71 ((x0, x0', ()), (x1, x1', ()), x2, ()) [true, true, true, true, true, true, true] =
    (let r0 : Int × PUnit := g88 ((x0, (x0', ())), ()); let r1 : Int × PUnit := g126 (x1, ((↑(List.length x0') : Int), ())); let r2 : Int × PUnit := g127 (x1', ((↑(List.length x1) : Int), ())); let r3 : Int × PUnit := g124 (x2, ()); let r4 : Int × PUnit := g85 (([r0.fst, r1.fst, r2.fst, r3.fst] : List Int), ()); some (((0 : Int), ((r4.fst : Int), ())), [((!eqF r4.fst (0 : Int) : Bool), true), (Option.isSome (f85 (([r0.fst, r1.fst, r2.fst, r3.fst] : List Int), ())), true), ((true : Bool), true), (Option.isSome (f124 (x2, ())), true), (Option.isSome (f127 (x1', ((↑(List.length x1) : Int), ()))), true), (Option.isSome (f126 (x1, ((↑(List.length x0') : Int), ()))), true), (Option.isSome (f88 ((x0, (x0', ())), ())), true)])) := by kernel_rfl
theorem e71_1 (x0 : Int) (x0' : (List Int)) (x1 : (List (List Int))) (x1' : (List Int)) (x2 : (List ((Int × (Int × Unit)) × ((Int × (Int × Unit)) × Unit)))) : runPure kf130.orc Go.Proofs.Try.prog 400 71 as71 rs71 ((x0, x0', ()), (x1, x1', ()), x2, ()) [true, true, true, true, true, true, false, true, true] =
    (let r0 : Int × PUnit := g88 ((x0, (x0', ())), ()); let r1 : Int × PUnit := g126 (x1, ((↑(List.length x0') : Int), ())); let r2 : Int × PUnit := g127 (x1', ((↑(List.length x1) : Int), ())); let r3 : Int × PUnit := g124 (x2, ()); let r4 : Int × PUnit := g85 (([r0.fst, r1.fst, r2.fst, r3.fst] : List Int), ()); let r5 : Int × PUnit := g129 ((x0, (x0', ())), (x1, (x1', (x2, ())))); some (((0 : Int), ((r5.fst : Int), ())), [((!eqF r5.fst (0 : Int) : Bool), true), (Option.isSome (f129 ((x0, (x0', ())), (x1, (x1', (x2, ()))))), true), ((!eqF r4.fst (0 : Int) : Bool), false), (Option.isSome (f85 (([r0.fst, r1.fst, r2.fst, r3.fst] : List Int), ())), true), ((true : Bool), true), (Option.isSome (f124 (x2, ())), true), (Option.isSome (f127 (x1', ((↑(List.length x1) : Int), ()))), true), (Option.isSome (f126 (x1, ((↑(List.length x0') : Int), ()))), true), (Option.isSome (f88 ((x0, (x0', ())), ())), true)])) := by kernel_rfl
theorem e71_2 (x0 : Int) (x0' : (List Int)) (x1 : (List (List Int))) (x1' : (List Int)) (x2 : (List ((Int × (Int × Unit)) × ((Int × (Int × Unit)) × Unit)))) : runPure kf130.orc Go.Proofs.Try.prog 400 71 as71 rs71 ((x0, x0', ()), (x1, x1', ()), x2, ()) [true, true, true, true, true, true, false, true, false, true] =
    (let r0 : Int × PUnit := g88 ((x0, (x0', ())), ()); let r1 : Int × PUnit := g126 (x1, ((↑(List.length x0') : Int), ())); let r2 : Int × PUnit := g127 (x1', ((↑(List.length x1) : Int), ())); let r3 : Int × PUnit := g124 (x2, ()); let r4 : Int × PUnit := g85 (([r0.fst, r1.fst, r2.fst, r3.fst] : List Int), ()); let r5 : Int × PUnit := g129 ((x0, (x0', ())), (x1, (x1', (x2, ())))); let r6 : Int × PUnit := g130 (x1', ()); some (((r6.fst : Int), ((0 : Int), ())), [(Option.isSome (f130 (x1', ())), true), ((!eqF r5.fst (0 : Int) : Bool), false), (Option.isSome (f129 ((x0, (x0', ())), (x1, (x1', (x2, ()))))), true), ((!eqF r4.fst (0 : Int) : Bool), false), (Option.isSome (f85 (([r0.fst, r1.fst, r2.fst, r3.fst] : List Int), ())), true), ((true : Bool), true), (Option.isSome (f124 (x2, ())), true), (Option.isSome (f127 (x1', ((↑(List.length x1) : Int), ()))), true), (Option.isSome (f126 (x1, ((↑(List.length x0') : Int), ()))), true), (Option.isSome (f88 ((x0, (x0', ())), ())), true)])) := by kernel_rfl

theorem ok71_t (x0 : Int) (x0' : (List Int)) (x1 : (List (List Int))) (x1' : (List Int)) (x2 : (List ((Int × (Int × Unit)) × ((Int × (Int × Unit)) × Unit)))) : TrOk (PureRuns Go.Proofs.Try.prog kf130.orc 71 as71 rs71 ((x0, x0', ()), (x1, x1', ()), x2, ())) (t71 x0 x0' x1 x1' x2) :=
  TrOk.ofTest (fun h0 => TrOk.ofTest (fun h1 => TrOk.ofTest (fun h2 => TrOk.ofTest (fun h3 => TrOk.ofTest (fun h5 => TrOk.ofTest (fun h6 => TrOk.ofFin (PureRuns.of (e71_0 x0 x0' x1 x1' x2) (All.cons h6 (All.cons h5 (All.cons rfl (All.cons h3 (All.cons h2 (All.cons h1 (All.cons h0 (All.nil)))))))))) (fun h6 => TrOk.ofTest (fun h7 => TrOk.ofTest (fun h8 => TrOk.ofFin (PureRuns.of (e71_1 x0 x0' x1 x1' x2) (All.cons h8 (All.cons h7 (All.cons h6 (All.cons h5 (All.cons rfl (All.cons h3 (All.cons h2 (All.cons h1 (All.cons h0 (All.nil)))))))))))) (fun h8 => TrOk.ofTest (fun h9 => TrOk.ofFin (PureRuns.of (e71_2 x0 x0' x1 x1' x2) (All.cons h9 (All.cons h8 (All.cons h7 (All.cons h6 (All.cons h5 (All.cons rfl (All.cons h3 (All.cons h2 (All.cons h1 (All.cons h0 (All.nil))))))))))))) (fun h9 => TrOk.ofStop))) (fun h7 => TrOk.ofStop))) (fun h5 => TrOk.ofStop)) (fun h3 => TrOk.ofStop)) (fun h2 => TrOk.ofStop)) (fun h1 => TrOk.ofStop)) (fun h0 => TrOk.ofStop)

theorem ok71 : PureOk Go.Proofs.Try.prog 71 p71 := pureOk_of kf130_ok.base (T := fun (d : Tys.data as71) => t71 d.1.1 d.1.2.1 d.2.1.1 d.2.1.2.1 d.2.2.1) (by kernel_rfl) (fun (d : Tys.data as71) => ok71_t d.1.1 d.1.2.1 d.2.1.1 d.2.1.2.1 d.2.2.1)
def kf71 : Known := kf130.func 71 p71
theorem kf71_ok : KnownOk Go.Proofs.Try.prog kf71 := kf130_ok.func ok71

/-! loop 0 of ductility/ductilityref02.CheckRecord -/

abbrev sh22_0 : Sh := { n := 32, slots := [1, 4], pats := [.ptr 0 2 0, .ty (.int .i64)], boxes := [.row [.ty (.int .i64), .ty (.slice (.int .i64))]] }
abbrev shb22_0 : Sh := { n := 32, slots := [], pats := [], boxes := [.row [.ty (.int .i64), .ty (.slice (.int .i64))]] }
abbrev shr22_0 : Sh := { n := 32, slots := [2, 3], pats := [.ty (.int .i64), .ty (.int .i64)], boxes := [.row [.ty (.int .i64), .ty (.slice (.int .i64))]] }

def t22_0 (x1 : Int) (b0_0 : Int) (b0_1 : (List Int)) : Tr (Out sh22_0.data shb22_0.data shr22_0.data) :=
  Tr.test ((!leF (↑(List.length b0_1) : Int) x1 : Bool))
    (Tr.test ((decide ((0 : Int) ≤ x1) && decide (x1 < (↑(List.length b0_1) : Int)) : Bool))
      (Tr.test (Option.isSome (f54 ((List.getD b0_1 (Int.toNat x1) (0 : Int) : Int), ())))
        (let r0 : Bool × PUnit := g54 ((List.getD b0_1 (Int.toNat x1) (0 : Int) : Int), ());
        Tr.test ((!r0.fst : Bool))
          (Tr.fin (.ret ((x1, ((2 : Int), ())), ((b0_0, (b0_1, ())), ()))))
          (Tr.fin (.again (((wrap64 (x1 + (1 : Int)) : Int), ()), ((b0_0, (b0_1, ())), ())))))
        (Tr.stop))
      (Tr.stop /- none [op 3 of region 10 of F22] -/))
    (Tr.fin (.brk ((), ((b0_0, (b0_1, ())), ()))))

def s22_0 (d : sh22_0.data) : Option (Out sh22_0.data shb22_0.data shr22_0.data) := (t22_0 d.1.1 d.2.1.1 d.2.1.2.1).val
def l22_0 (d : sh22_0.data) : Option (shb22_0.data ⊕ shr22_0.data) := itr s22_0 rounds d
def b22_0 (d : sh22_0.data) : shb22_0.data := outB shb22_0.dflt (l22_0 d)
def r22_0 (d : sh22_0.data) : shr22_0.data := outR shr22_0.dflt (l22_0 d)
def lc22_0 : LoopC := lcOf sh22_0 shb22_0 shr22_0 l22_0 b22_0 r22_0

theorem e22_0_0 (x1 : Int) (b0_0 : Int) (b0_1 : (List Int)) : runBody kf71.orc Go.Proofs.Try.prog 400 22 0 sh22_0 shb22_0 shr22_0 ((x1, ()), (b0_0, b0_1, ()), ()) [true, true, true, true] =
    (let r0 : Bool × PUnit := g54 ((List.getD b0_1 (Int.toNat x1) (0 : Int) : Int), ()); some (.ret ((x1, ((2 : Int), ())), ((b0_0, (b0_1, ())), ())), [((!r0.fst : Bool), true), (Option.isSome (f54 ((List.getD b0_1 (Int.toNat x1) (0 : Int) : Int), ())), true), ((decide ((0 : Int) ≤ x1) && decide (x1 < (↑(List.length b0_1) : Int)) : Bool), true), ((!leF (↑(List.length b0_1) : Int) x1 : Bool), true)])) := by kernel_rfl
theorem e22_0_1 (x1 : Int) (b0_0 : Int) (b0_1 : (List Int)) : runBody kf71.orc Go.Proofs.Try.prog 400 22 0 sh22_0 shb22_0 shr22_0 ((x1, ()), (b0_0, b0_1, ()), ()) [true, true, true, false] =
    (let r0 : Bool × PUnit := g54 ((List.getD b0_1 (Int.toNat x1) (0 : Int) : Int), ()); some (.again (((wrap64 (x1 + (1 : Int)) : Int), ()), ((b0_0, (b0_1, ())), ())), [((!r0.fst : Bool), false), (Option.isSome (f54 ((List.getD b0_1 (Int.toNat x1) (0 : Int) : Int), ())), true), ((decide ((0 : Int) ≤ x1) && decide (x1 < (↑(List.length b0_1) : Int)) : Bool), true), ((!leF (↑(List.length b0_1) : Int) x1 : Bool), true)])) := by kernel_rfl
theorem e22_0_3 (x1 : Int) (b0_0 : Int) (b0_1 : (List Int)) : runBody kf71.orc Go.Proofs.Try.prog 400 22 0 sh22_0 shb22_0 shr22_0 ((x1, ()), (b0_0, b0_1, ()), ()) [false] =
    (some (.brk ((), ((b0_0, (b0_1, ())), ())), [((!leF (↑(List.length b0_1) : Int) x1 : Bool), false)])) := by kernel_rfl

theorem ok22_0_t (x1 : Int) (b0_0 : Int) (b0_1 : (List Int)) : TrOk (BodyRuns Go.Proofs.Try.prog kf71.orc 22 0 sh22_0 shb22_0 shr22_0 ((x1, ()), (b0_0, b0_1, ()), ())) (t22_0 x1 b0_0 b0_1) :=
  TrOk.ofTest (fun h0 => TrOk.ofTest (fun h1 => TrOk.ofTest (fun h2 => TrOk.ofTest (fun h3 => TrOk.ofFin (BodyRuns.of (e22_0_0 x1 b0_0 b0_1) (All.cons h3 (All.cons h2 (All.cons h1 (All.cons h0 (All.nil))))))) (fun h3 => TrOk.ofFin (BodyRuns.of (e22_0_1 x1 b0_0 b0_1) (All.cons h3 (All.cons h2 (All.cons h1 (All.cons h0 (All.nil)))))))) (fun h2 => TrOk.ofStop)) (fun h1 => TrOk.ofStop)) (fun h0 => TrOk.ofFin (BodyRuns.of (e22_0_3 x1 b0_0 b0_1) (All.cons h0 (All.nil))))

theorem ok22_0 : LoopOk Go.Proofs.Try.prog 22 0 lc22_0 := loopOk_of kf71_ok.base (T := fun (d : sh22_0.data) => t22_0 d.1.1 d.2.1.1 d.2.1.2.1) (by kernel_rfl) rfl (fun (d : sh22_0.data) => ok22_0_t d.1.1 d.2.1.1 d.2.1.2.1) (fun _ => rfl)
def kl22_0 : Known := kf71.loop 22 0 lc22_0
theorem kl22_0_ok : KnownOk Go.Proofs.Try.prog kl22_0 := kf71_ok.loop ok22_0

/-! ductility/ductilityref02.CheckRecord -/

abbrev as22 : List Ty := [(.pair (.int .i64) (.pair (.slice (.int .i64)) .unit))]
abbrev rs22 : List Ty := [(.int .i64), (.int .i64)]

def t22 (x0 : Int) (x0' : (List Int)) : Tr (Tys.data rs22) :=
  Tr.test (Option.isSome (f47 (x0, ((1 : Int), ((1000000 : Int), ())))))
    (let r0 : Bool × PUnit := g47 (x0, ((1 : Int), ((1000000 : Int), ())));
    Tr.test ((!r0.fst : Bool))
      (Tr.fin (((0 : Int), ((2 : Int), ()))))
      (Tr.test ((!leF (2 : Int) (↑(List.length x0') : Int) : Bool))
        (Tr.fin (((0 : Int), ((10 : Int), ()))))
        (Tr.test ((!leF (↑(List.length x0') : Int) (24 : Int) : Bool))
          (Tr.fin (((0 : Int), ((8 : Int), ()))))
          (Tr.test (Option.isSome (l22_0 (((0 : Int), ()), ((x0, (x0', ())), ()))))
            (Tr.test (isRet (l22_0 (((0 : Int), ()), ((x0, (x0', ())), ()))))
              (let r1 : (Int × Int × PUnit) × (Int × List Int × PUnit) × PUnit := r22_0 (((0 : Int), ()), ((x0, (x0', ())), ()));
              Tr.fin (((r1.fst.fst : Int), ((r1.fst.snd.fst : Int), ()))))
              (Tr.fin (((0 : Int), ((0 : Int), ())))))
            (Tr.stop)))))
    (Tr.stop)

def f22 (d : Tys.data as22) : Option (Tys.data rs22) := (t22 d.1.1 d.1.2.1).val
def g22 (d : Tys.data as22) : Tys.data rs22 := (f22 d).getD (Tys.dflt rs22)
def p22 : PureC := pcOf as22 rs22 f22 g22

theorem e22_0 (x0 : Int) (x0' : (List Int)) : runPure kl22_0.orc Go.Proofs.Try.prog 400 22 as22 rs22 ((x0, x0', ()), ()) [true, true] =
    (let r0 : Bool × PUnit := g47 (x0, ((1 : Int), ((1000000 : Int), ()))); some (((0 : Int), ((2 : Int), ())), [((!r0.fst : Bool), true), (Option.isSome (f47 (x0, ((1 : Int), ((1000000 : Int), ())))), true)])) := by kernel_rfl
theorem e22_1 (x0 : Int) (x0' : (List Int)) : runPure kl22_0.orc Go.Proofs.Try.prog 400 22 as22 rs22 ((x0, x0', ()), ()) [true, false, true] =
    (let r0 : Bool × PUnit := g47 (x0, ((1 : Int), ((1000000 : Int), ()))); some (((0 : Int), ((10 : Int), ())), [((!leF (2 : Int) (↑(List.length x0') : Int) : Bool), true), ((!r0.fst : Bool), false), (Option.isSome (f47 (x0, ((1 : Int), ((1000000 : Int), ())))), true)])) := by kernel_rfl
theorem e22_2 (x0 : Int) (x0' : (List Int)) : runPure kl22_0.orc Go.Proofs.Try.prog 400 22 as22 rs22 ((x0, x0', ()), ()) [true, false, false, true] =
    (let r0 : Bool × PUnit := g47 (x0, ((1 : Int), ((1000000 : Int), ()))); some (((0 : Int), ((8 : Int), ())), [((!leF (↑(List.length x0') : Int) (24 : Int) : Bool), true), ((!leF (2 : Int) (↑(List.length x0') : Int) : Bool), false), ((!r0.fst : Bool), false), (Option.isSome (f47 (x0, ((1 : Int), ((1000000 : Int), ())))), true)])) := by kernel_rfl
theorem e22_3 (x0 : Int) (x0' : (List Int)) : runPure kl22_0.orc Go.Proofs.Try.prog 400 22 as22 rs22 ((x0, x0', ()), ()) [true, false, false, false, true, true] =
    (let r0 : Bool × PUnit := g47 (x0, ((1 : Int), ((1000000 : Int), ()))); let r1 : (Int × Int × PUnit) × (Int × List Int × PUnit) × PUnit := r22_0 (((0 : Int), ()), ((x0, (x0', ())), ())); some (((r1.fst.fst : Int), ((r1.fst.snd.fst : Int), ())), [(isRet (l22_0 (((0 : Int), ()), ((x0, (x0', ())), ()))), true), (Option.isSome (l22_0 (((0 : Int), ()), ((x0, (x0', ())), ()))), true), ((!leF (↑(List.length x0') : Int) (24 : Int) : Bool), false), ((!leF (2 : Int) (↑(List.length x0') : Int) : Bool), false), ((!r0.fst : Bool), false), (Option.isSome (f47 (x0, ((1 : Int), ((1000000 : Int), ())))), true)])) := by kernel_rfl
theorem e22_4 (x0 : Int) (x0' : (List Int)) : runPure kl22_0.orc Go.Proofs.Try.prog 400 22 as22 rs22 ((x0, x0', ()), ()) [true, false, false, false, true, false] =
    (let r0 : Bool × PUnit := g47 (x0, ((1 : Int), ((1000000 : Int), ()))); some (((0 : Int), ((0 : Int), ())), [(isRet (l22_0 (((0 : Int), ()), ((x0, (x0', ())), ()))), false), (Option.isSome (l22_0 (((0 : Int), ()), ((x0, (x0', ())), ()))), true), ((!leF (↑(List.length x0') : Int) (24 : Int) : Bool), false), ((!leF (2 : Int) (↑(List.length x0') : Int) : Bool), false), ((!r0.fst : Bool), false), (Option.isSome (f47 (x0, ((1 : Int), ((1000000 : Int), ())))), true)])) := by kernel_rfl

theorem ok22_t (x0 : Int) (x0' : (List Int)) : TrOk (PureRuns Go.Proofs.Try.prog kl22_0.orc 22 as22 rs22 ((x0, x0', ()), ())) (t22 x0 x0') :=
  TrOk.ofTest (fun h0 => TrOk.ofTest (fun h1 => TrOk.ofFin (PureRuns.of (e22_0 x0 x0') (All.cons h1 (All.cons h0 (All.nil))))) (fun h1 => TrOk.ofTest (fun h2 => TrOk.ofFin (PureRuns.of (e22_1 x0 x0') (All.cons h2 (All.cons h1 (All.cons h0 (All.nil)))))) (fun h2 => TrOk.ofTest (fun h3 => TrOk.ofFin (PureRuns.of (e22_2 x0 x0') (All.cons h3 (All.cons h2 (All.cons h1 (All.cons h0 (All.nil))))))) (fun h3 => TrOk.ofTest (fun h4 => TrOk.ofTest (fun h5 => TrOk.ofFin (PureRuns.of (e22_3 x0 x0') (All.cons h5 (All.cons h4 (All.cons h3 (All.cons h2 (All.cons h1 (All.cons h0 (All.nil))))))))) (fun h5 => TrOk.ofFin (PureRuns.of (e22_4 x0 x0') (All.cons h5 (All.cons h4 (All.cons h3 (All.cons h2 (All.cons h1 (All.cons h0 (All.nil)))))))))) (fun h4 => TrOk.ofStop))))) (fun h0 => TrOk.ofStop)

theorem ok22 : PureOk Go.Proofs.Try.prog 22 p22 := pureOk_of kl22_0_ok.base (T := fun (d : Tys.data as22) => t22 d.1.1 d.1.2.1) (by kernel_rfl) (fun (d : Tys.data as22) => ok22_t d.1.1 d.1.2.1)
def kf22 : Known := kl22_0.func 22 p22
theorem kf22_ok : KnownOk Go.Proofs.Try.prog kf22 := kl22_0_ok.func ok22

/-! ductility/ductilityref02.RecordErr -/

abbrev as29 : List Ty := [(.pair (.int .i64) (.pair (.slice (.int .i64)) .unit))]
abbrev rs29 : List Ty := [(.int .i64)]

def t29 (x0 : Int) (x0' : (List Int)) : Tr (Tys.data rs29) :=
  Tr.test (Option.isSome (f22 ((x0, (x0', ())), ())))
    (let r0 : Int × Int × PUnit := g22 ((x0, (x0', ())), ());
    Tr.fin (((r0.snd.fst : Int), ())))
    (Tr.stop)

def f29 (d : Tys.data as29) : Option (Tys.data rs29) := (t29 d.1.1 d.1.2.1).val
def g29 (d : Tys.data as29) : Tys.data rs29 := (f29 d).getD (Tys.dflt rs29)
def p29 : PureC := pcOf as29 rs29 f29 g29

theorem e29_0 (x0 : Int) (x0' : (List Int)) : runPure kf22.orc Go.Proofs.Try.prog 400 29 as29 rs29 ((x0, x0', ()), ()) [true] =
    (let r0 : Int × Int × PUnit := g22 ((x0, (x0', ())), ()); some (((r0.snd.fst : Int), ()), [(Option.isSome (f22 ((x0, (x0', ())), ())), true)])) := by kernel_rfl

theorem ok29_t (x0 : Int) (x0' : (List Int)) : TrOk (PureRuns Go.Proofs.Try.prog kf22.orc 29 as29 rs29 ((x0, x0', ()), ())) (t29 x0 x0') :=
  TrOk.ofTest (fun h0 => TrOk.ofFin (PureRuns.of (e29_0 x0 x0') (All.cons h0 (All.nil)))) (fun h0 => TrOk.ofStop)

theorem ok29 : PureOk Go.Proofs.Try.prog 29 p29 := pureOk_of kf22_ok.base (T := fun (d : Tys.data as29) => t29 d.1.1 d.1.2.1) (by kernel_rfl) (fun (d : Tys.data as29) => ok29_t d.1.1 d.1.2.1)
def kf29 : Known := kf22.func 29 p29
theorem kf29_ok : KnownOk Go.Proofs.Try.prog kf29 := kf22_ok.func ok29

/-! loop 0 of ductility/ductilityref02.End -/

abbrev sh26_0 : Sh := { n := 33, slots := [0, 2, 3, 4], pats := [.ty (.slice (.int .i64)), .ptr 0 2 0, .ptr 1 2 0, .ty (.int .i64)], boxes := [.row [.ty (.int .i64), .ty (.int .i64)], .row [.ty (.int .i64), .ty (.int .i64)]] }
abbrev shb26_0 : Sh := { n := 33, slots := [2, 3], pats := [.ptr 0 2 0, .ptr 1 2 0], boxes := [.row [.ty (.int .i64), .ty (.int .i64)], .row [.ty (.int .i64), .ty (.int .i64)]] }
abbrev shr26_0 : Sh := { n := 33, slots := [], pats := [], boxes := [.row [.ty (.int .i64), .ty (.int .i64)], .row [.ty (.int .i64), .ty (.int .i64)]] }

def t26_0 (x0 : (List Int)) (x3 : Int) (b0_0 : Int) (b0_1 : Int) (b1_0 : Int) (b1_1 : Int) : Tr (Out sh26_0.data shb26_0.data shr26_0.data) :=
  Tr.test ((!leF (↑(List.length x0) : Int) x3 : Bool))
    (Tr.test ((decide ((0 : Int) ≤ x3) && decide (x3 < (↑(List.length x0) : Int)) : Bool))
      (Tr.fin (.again ((x0, ((wrap64 (x3 + (1 : Int)) : Int), ())), ((b0_0, (b0_1, ())), (((wrap64 (b1_0 + List.getD x0 (Int.toNat x3) (0 : Int)) : Int), ((wrap64 (b1_1 + wrap64 (wrap64 ((↑(List.length x0) : Int) - x3) * List.getD x0 (Int.toNat x3) (0 : Int))) : Int), ())), ())))))
      (Tr.stop /- none [op 4 of region 5 of F26] -/))
    (Tr.fin (.brk ((), ((b0_0, (b0_1, ())), ((b1_0, (b1_1, ())), ())))))

def s26_0 (d : sh26_0.data) : Option (Out sh26_0.data shb26_0.data shr26_0.data) := (t26_0 d.1.1 d.1.2.1 d.2.1.1 d.2.1.2.1 d.2.2.1.1 d.2.2.1.2.1).val
def l26_0 (d : sh26_0.data) : Option (shb26_0.data ⊕ shr26_0.data) := itr s26_0 rounds d
def b26_0 (d : sh26_0.data) : shb26_0.data := outB shb26_0.dflt (l26_0 d)
def r26_0 (d : sh26_0.data) : shr26_0.data := outR shr26_0.dflt (l26_0 d)
def lc26_0 : LoopC := lcB sh26_0 shb26_0 shr26_0 l26_0 b26_0

theorem e26_0_0 (x0 : (List Int)) (x3 : Int) (b0_0 : Int) (b0_1 : Int) (b1_0 : Int) (b1_1 : Int) : runBody kf29.orc Go.Proofs.Try.prog 400 26 0 sh26_0 shb26_0 shr26_0 ((x0, x3, ()), (b0_0, b0_1, ()), (b1_0, b1_1, ()), ()) [true, true, true] =
    (some (.again ((x0, ((wrap64 (x3 + (1 : Int)) : Int), ())), ((b0_0, (b0_1, ())), (((wrap64 (b1_0 + List.getD x0 (Int.toNat x3) (0 : Int)) : Int), ((wrap64 (b1_1 + wrap64 (wrap64 ((↑(List.length x0) : Int) - x3) * List.getD x0 (Int.toNat x3) (0 : Int))) : Int), ())), ()))), [((decide ((0 : Int) ≤ x3) && decide (x3 < (↑(List.length x0) : Int)) : Bool), true), ((decide ((0 : Int) ≤ x3) && decide (x3 < (↑(List.length x0) : Int)) : Bool), true), ((!leF (↑(List.length x0) : Int) x3 : Bool), true)])) := by kernel_rfl
theorem e26_0_2 (x0 : (List Int)) (x3 : Int) (b0_0 : Int) (b0_1 : Int) (b1_0 : Int) (b1_1 : Int) : runBody kf29.orc Go.Proofs.Try.prog 400 26 0 sh26_0 shb26_0 shr26_0 ((x0, x3, ()), (b0_0, b0_1, ()), (b1_0, b1_1, ()), ()) [false] =
    (some (.brk ((), ((b0_0, (b0_1, ())), ((b1_0, (b1_1, ())), ()))), [((!leF (↑(List.length x0) : Int) x3 : Bool), false)])) := by kernel_rfl

theorem ok26_0_t (x0 : (List Int)) (x3 : Int) (b0_0 : Int) (b0_1 : Int) (b1_0 : Int) (b1_1 : Int) : TrOk (BodyRuns Go.Proofs.Try.prog kf29.orc 26 0 sh26_0 shb26_0 shr26_0 ((x0, x3, ()), (b0_0, b0_1, ()), (b1_0, b1_1, ()), ())) (t26_0 x0 x3 b0_0 b0_1 b1_0 b1_1) :=
  TrOk.ofTest (fun h0 => TrOk.ofTest (fun h1 => TrOk.ofFin (BodyRuns.of (e26_0_0 x0 x3 b0_0 b0_1 b1_0 b1_1) (All.cons (h1) (All.cons h1 (All.cons h0 (All.nil)))))) (fun h1 => TrOk.ofStop)) (fun h0 => TrOk.ofFin (BodyRuns.of (e26_0_2 x0 x3 b0_0 b0_1 b1_0 b1_1) (All.cons h0 (All.nil))))

theorem ok26_0 : LoopOk Go.Proofs.Try.prog 26 0 lc26_0 := loopOk_ofB kf29_ok.base (T := fun (d : sh26_0.data) => t26_0 d.1.1 d.1.2.1 d.2.1.1 d.2.1.2.1 d.2.2.1.1 d.2.2.1.2.1) (by kernel_rfl) rfl (fun (d : sh26_0.data) => ok26_0_t d.1.1 d.1.2.1 d.2.1.1 d.2.1.2.1 d.2.2.1.1 d.2.2.1.2.1) (fun _ => rfl)
def kl26_0 : Known := kf29.loop 26 0 lc26_0
theorem kl26_0_ok : KnownOk Go.Proofs.Try.prog kl26_0 := kf29_ok.loop ok26_0

/-! ductility/ductilityref02.End -/

abbrev as26 : List Ty := [(.slice (.int .i64))]
abbrev rs26 : List Ty := [(.pair (.int .i64) (.pair (.int .i64) .unit))]

def t26 (x0 : (List Int)) : Tr (Tys.data rs26) :=
  Tr.test (isBrk (l26_0 ((x0, ((0 : Int), ())), (((0 : Int), ((0 : Int), ())), (((0 : Int), ((0 : Int), ())), ())))))
    (let r0 : PUnit × (Int × Int × PUnit) × (Int × Int × PUnit) × PUnit := b26_0 ((x0, ((0 : Int), ())), (((0 : Int), ((0 : Int), ())), (((0 : Int), ((0 : Int), ())), ())));
    Tr.fin ((((r0.snd.snd.fst.fst : Int), ((r0.snd.snd.fst.snd.fst : Int), ())), ())))
    (Tr.stop)

def f26 (d : Tys.data as26) : Option (Tys.data rs26) := (t26 d.1).val
def g26 (d : Tys.data as26) : Tys.data rs26 := (f26 d).getD (Tys.dflt rs26)
def p26 : PureC := pcOf as26 rs26 f26 g26

theorem e26_0 (x0 : (List Int)) : runPure kl26_0.orc Go.Proofs.Try.prog 400 26 as26 rs26 (x0, ()) [true, true] =
    (let r0 : PUnit × (Int × Int × PUnit) × (Int × Int × PUnit) × PUnit := b26_0 ((x0, ((0 : Int), ())), (((0 : Int), ((0 : Int), ())), (((0 : Int), ((0 : Int), ())), ()))); some ((((r0.snd.snd.fst.fst : Int), ((r0.snd.snd.fst.snd.fst : Int), ())), ()), [((true : Bool), true), (isBrk (l26_0 ((x0, ((0 : Int), ())), (((0 : Int), ((0 : Int), ())), (((0 : Int), ((0 : Int), ())), ())))), true)])) := by kernel_rfl

theorem ok26_t (x0 : (List Int)) : TrOk (PureRuns Go.Proofs.Try.prog kl26_0.orc 26 as26 rs26 (x0, ())) (t26 x0) :=
  TrOk.ofTest (fun h0 => TrOk.ofFin (PureRuns.of (e26_0 x0) (All.cons rfl (All.cons h0 (All.nil))))) (fun h0 => TrOk.ofStop)

theorem ok26 : PureOk Go.Proofs.Try.prog 26 p26 := pureOk_of kl26_0_ok.base (T := fun (d : Tys.data as26) => t26 d.1) (by kernel_rfl) (fun (d : Tys.data as26) => ok26_t d.1)
def kf26 : Known := kl26_0.func 26 p26
theorem kf26_ok : KnownOk Go.Proofs.Try.prog kf26 := kl26_0_ok.func ok26

/-! loop 2 of ductility/ductilityref02.WavesErr -/

abbrev sh73_2 : Sh := { n := 44, slots := [0, 1, 5, 6], pats := [.ty (.int .i64), .ty (.slice (.slice (.int .i64))), .ty (.int .i64), .ty (.int .i64)], boxes := [] }
abbrev shb73_2 : Sh := { n := 44, slots := [0, 1, 5], pats := [.ty (.int .i64), .ty (.slice (.slice (.int .i64))), .ty (.int .i64)], boxes := [] }
abbrev shr73_2 : Sh := { n := 44, slots := [4], pats := [.ty (.int .i64)], boxes := [] }

def t73_2 (x0 : Int) (x1 : (List (List Int))) (x2 : Int) (x3 : Int) : Tr (Out sh73_2.data shb73_2.data shr73_2.data) :=
  Tr.test ((!leF x0 x3 : Bool))
    (Tr.test ((decide ((0 : Int) ≤ x2) && decide (x2 < (↑(List.length x1) : Int)) : Bool))
      (Tr.test ((decide ((0 : Int) ≤ x3) && decide (x3 < (↑(List.length (List.getD x1 (Int.toNat x2) [])) : Int)) : Bool))
        (Tr.test (Option.isSome (f54 ((List.getD (List.getD x1 (Int.toNat x2) []) (Int.toNat x3) (0 : Int) : Int), ())))
          (let r0 : Bool × PUnit := g54 ((List.getD (List.getD x1 (Int.toNat x2) []) (Int.toNat x3) (0 : Int) : Int), ());
          Tr.test ((!r0.fst : Bool))
            (Tr.fin (.ret (((2 : Int), ()), ())))
            (Tr.fin (.again ((x0, (x1, (x2, ((wrap64 (x3 + (1 : Int)) : Int), ())))), ()))))
          (Tr.stop))
        (Tr.stop /- none [op 5 of region 11 of F73] -/))
      (Tr.stop /- none [op 2 of region 11 of F73] -/))
    (Tr.fin (.brk ((x0, (x1, (x2, ()))), ())))

def s73_2 (d : sh73_2.data) : Option (Out sh73_2.data shb73_2.data shr73_2.data) := (t73_2 d.1.1 d.1.2.1 d.1.2.2.1 d.1.2.2.2.1).val
def l73_2 (d : sh73_2.data) : Option (shb73_2.data ⊕ shr73_2.data) := itr s73_2 rounds d
def b73_2 (d : sh73_2.data) : shb73_2.data := outB shb73_2.dflt (l73_2 d)
def r73_2 (d : sh73_2.data) : shr73_2.data := outR shr73_2.dflt (l73_2 d)
def lc73_2 : LoopC := lcOf sh73_2 shb73_2 shr73_2 l73_2 b73_2 r73_2

theorem e73_2_0 (x0 : Int) (x1 : (List (List Int))) (x2 : Int) (x3 : Int) : runBody kf26.orc Go.Proofs.Try.prog 400 73 2 sh73_2 shb73_2 shr73_2 ((x0, x1, x2, x3, ()), ()) [true, true, true, true, true] =
    (let r0 : Bool × PUnit := g54 ((List.getD (List.getD x1 (Int.toNat x2) []) (Int.toNat x3) (0 : Int) : Int), ()); some (.ret (((2 : Int), ()), ()), [((!r0.fst : Bool), true), (Option.isSome (f54 ((List.getD (List.getD x1 (Int.toNat x2) []) (Int.toNat x3) (0 : Int) : Int), ())), true), ((decide ((0 : Int) ≤ x3) && decide (x3 < (↑(List.length (List.getD x1 (Int.toNat x2) [])) : Int)) : Bool), true), ((decide ((0 : Int) ≤ x2) && decide (x2 < (↑(List.length x1) : Int)) : Bool), true), ((!leF x0 x3 : Bool), true)])) := by kernel_rfl
theorem e73_2_1 (x0 : Int) (x1 : (List (List Int))) (x2 : Int) (x3 : Int) : runBody kf26.orc Go.Proofs.Try.prog 400 73 2 sh73_2 shb73_2 shr73_2 ((x0, x1, x2, x3, ()), ()) [true, true, true, true, false] =
    (let r0 : Bool × PUnit := g54 ((List.getD (List.getD x1 (Int.toNat x2) []) (Int.toNat x3) (0 : Int) : Int), ()); some (.again ((x0, (x1, (x2, ((wrap64 (x3 + (1 : Int)) : Int), ())))), ()), [((!r0.fst : Bool), false), (Option.isSome (f54 ((List.getD (List.getD x1 (Int.toNat x2) []) (Int.toNat x3) (0 : Int) : Int), ())), true), ((decide ((0 : Int) ≤ x3) && decide (x3 < (↑(List.length (List.getD x1 (Int.toNat x2) [])) : Int)) : Bool), true), ((decide ((0 : Int) ≤ x2) && decide (x2 < (↑(List.length x1) : Int)) : Bool), true), ((!leF x0 x3 : Bool), true)])) := by kernel_rfl
theorem e73_2_4 (x0 : Int) (x1 : (List (List Int))) (x2 : Int) (x3 : Int) : runBody kf26.orc Go.Proofs.Try.prog 400 73 2 sh73_2 shb73_2 shr73_2 ((x0, x1, x2, x3, ()), ()) [false] =
    (some (.brk ((x0, (x1, (x2, ()))), ()), [((!leF x0 x3 : Bool), false)])) := by kernel_rfl

theorem ok73_2_t (x0 : Int) (x1 : (List (List Int))) (x2 : Int) (x3 : Int) : TrOk (BodyRuns Go.Proofs.Try.prog kf26.orc 73 2 sh73_2 shb73_2 shr73_2 ((x0, x1, x2, x3, ()), ())) (t73_2 x0 x1 x2 x3) :=
  TrOk.ofTest (fun h0 => TrOk.ofTest (fun h1 => TrOk.ofTest (fun h2 => TrOk.ofTest (fun h3 => TrOk.ofTest (fun h4 => TrOk.ofFin (BodyRuns.of (e73_2_0 x0 x1 x2 x3) (All.cons h4 (All.cons h3 (All.cons h2 (All.cons h1 (All.cons h0 (All.nil)))))))) (fun h4 => TrOk.ofFin (BodyRuns.of (e73_2_1 x0 x1 x2 x3) (All.cons h4 (All.cons h3 (All.cons h2 (All.cons h1 (All.cons h0 (All.nil))))))))) (fun h3 => TrOk.ofStop)) (fun h2 => TrOk.ofStop)) (fun h1 => TrOk.ofStop)) (fun h0 => TrOk.ofFin (BodyRuns.of (e73_2_4 x0 x1 x2 x3) (All.cons h0 (All.nil))))

theorem ok73_2 : LoopOk Go.Proofs.Try.prog 73 2 lc73_2 := loopOk_of kf26_ok.base (T := fun (d : sh73_2.data) => t73_2 d.1.1 d.1.2.1 d.1.2.2.1 d.1.2.2.2.1) (by kernel_rfl) rfl (fun (d : sh73_2.data) => ok73_2_t d.1.1 d.1.2.1 d.1.2.2.1 d.1.2.2.2.1) (fun _ => rfl)
def kl73_2 : Known := kf26.loop 73 2 lc73_2
theorem kl73_2_ok : KnownOk Go.Proofs.Try.prog kl73_2 := kf26_ok.loop ok73_2

/-! loop 0 of ductility/ductilityref02.WavesErr -/

abbrev sh73_0 : Sh := { n := 44, slots := [0, 1, 5], pats := [.ty (.int .i64), .ty (.slice (.slice (.int .i64))), .ty (.int .i64)], boxes := [] }
abbrev shb73_0 : Sh := { n := 44, slots := [], pats := [], boxes := [] }
abbrev shr73_0 : Sh := { n := 44, slots := [4], pats := [.ty (.int .i64)], boxes := [] }

def t73_0 (x0 : Int) (x1 : (List (List Int))) (x2 : Int) : Tr (Out sh73_0.data shb73_0.data shr73_0.data) :=
  Tr.test ((!leF (↑(List.length x1) : Int) x2 : Bool))
    (Tr.test ((decide ((0 : Int) ≤ x2) && decide (x2 < (↑(List.length x1) : Int)) : Bool))
      (Tr.test ((!eqF (↑(List.length (List.getD x1 (Int.toNat x2) [])) : Int) x0 : Bool))
        (Tr.fin (.ret (((10 : Int), ()), ())))
        (Tr.test (Option.isSome (l73_2 ((x0, (x1, (x2, ((0 : Int), ())))), ())))
          (Tr.test (isRet (l73_2 ((x0, (x1, (x2, ((0 : Int), ())))), ())))
            (let r0 : (Int × PUnit) × PUnit := r73_2 ((x0, (x1, (x2, ((0 : Int), ())))), ());
            Tr.fin (.ret (((r0.fst.fst : Int), ()), ())))
            (let r1 : (Int × List (List Int) × Int × PUnit) × PUnit := b73_2 ((x0, (x1, (x2, ((0 : Int), ())))), ());
            Tr.test ((decide ((0 : Int) ≤ r1.fst.snd.snd.fst) && decide (r1.fst.snd.snd.fst < (↑(List.length r1.fst.snd.fst) : Int)) : Bool))
              (Tr.test (Option.isSome (f26 ((List.getD r1.fst.snd.fst (Int.toNat r1.fst.snd.snd.fst) [] : List Int), ())))
                (let r2 : (Int × Int × PUnit) × PUnit := g26 ((List.getD r1.fst.snd.fst (Int.toNat r1.fst.snd.snd.fst) [] : List Int), ());
                Tr.test ((!(r2.fst.fst == (0 : Int) && (r2.fst.snd.fst == (0 : Int) && true)) : Bool))
                  (Tr.fin (.ret (((21 : Int), ()), ())))
                  (Tr.fin (.again (((r1.fst.fst : Int), ((r1.fst.snd.fst : List (List Int)), ((wrap64 (r1.fst.snd.snd.fst + (1 : Int)) : Int), ()))), ()))))
                (Tr.stop))
              (Tr.stop /- none [op 2 of region 13 of F73] -/)))
          (Tr.stop)))
      (Tr.stop /- none [op 2 of region 6 of F73] -/))
    (Tr.fin (.brk ((), ())))

def s73_0 (d : sh73_0.data) : Option (Out sh73_0.data shb73_0.data shr73_0.data) := (t73_0 d.1.1 d.1.2.1 d.1.2.2.1).val
def l73_0 (d : sh73_0.data) : Option (shb73_0.data ⊕ shr73_0.data) := itr s73_0 rounds d
def b73_0 (d : sh73_0.data) : shb73_0.data := outB shb73_0.dflt (l73_0 d)
def r73_0 (d : sh73_0.data) : shr73_0.data := outR shr73_0.dflt (l73_0 d)
def lc73_0 : LoopC := lcOf sh73_0 shb73_0 shr73_0 l73_0 b73_0 r73_0

theorem e73_0_0 (x0 : Int) (x1 : (List (List Int))) (x2 : Int) : runBody kl73_2.orc Go.Proofs.Try.prog 400 73 0 sh73_0 shb73_0 shr73_0 ((x0, x1, x2, ()), ()) [true, true, true] =
    (some (.ret (((10 : Int), ()), ()), [((!eqF (↑(List.length (List.getD x1 (Int.toNat x2) [])) : Int) x0 : Bool), true), ((decide ((0 : Int) ≤ x2) && decide (x2 < (↑(List.length x1) : Int)) : Bool), true), ((!leF (↑(List.length x1) : Int) x2 : Bool), true)])) := by kernel_rfl
theorem e73_0_1 (x0 : Int) (x1 : (List (List Int))) (x2 : Int) : runBody kl73_2.orc Go.Proofs.Try.prog 400 73 0 sh73_0 shb73_0 shr73_0 ((x0, x1, x2, ()), ()) [true, true, false, true, true] =
    (let r0 : (Int × PUnit) × PUnit := r73_2 ((x0, (x1, (x2, ((0 : Int), ())))), ()); some (.ret (((r0.fst.fst : Int), ()), ()), [(isRet (l73_2 ((x0, (x1, (x2, ((0 : Int), ())))), ())), true), (Option.isSome (l73_2 ((x0, (x1, (x2, ((0 : Int), ())))), ())), true), ((!eqF (↑(List.length (List.getD x1 (Int.toNat x2) [])) : Int) x0 : Bool), false), ((decide ((0 : Int) ≤ x2) && decide (x2 < (↑(List.length x1) : Int)) : Bool), true), ((!leF (↑(List.length x1) : Int) x2 : Bool), true)])) := by kernel_rfl
theorem e73_0_2 (x0 : Int) (x1 : (List (List Int))) (x2 : Int) : runBody kl73_2.orc Go.Proofs.Try.prog 400 73 0 sh73_0 shb73_0 shr73_0 ((x0, x1, x2, ()), ()) [true, true, false, true, false, true, true, true] =
    (let r1 : (Int × List (List Int) × Int × PUnit) × PUnit := b73_2 ((x0, (x1, (x2, ((0 : Int), ())))), ()); let r2 : (Int × Int × PUnit) × PUnit := g26 ((List.getD r1.fst.snd.fst (Int.toNat r1.fst.snd.snd.fst) [] : List Int), ()); some (.ret (((21 : Int), ()), ()), [((!(r2.fst.fst == (0 : Int) && (r2.fst.snd.fst == (0 : Int) && true)) : Bool), true), (Option.isSome (f26 ((List.getD r1.fst.snd.fst (Int.toNat r1.fst.snd.snd.fst) [] : List Int), ())), true), ((decide ((0 : Int) ≤ r1.fst.snd.snd.fst) && decide (r1.fst.snd.snd.fst < (↑(List.length r1.fst.snd.fst) : Int)) : Bool), true), (isRet (l73_2 ((x0, (x1, (x2, ((0 : Int), ())))), ())), false), (Option.isSome (l73_2 ((x0, (x1, (x2, ((0 : Int), ())))), ())), true), ((!eqF (↑(List.length (List.getD x1 (Int.toNat x2) [])) : Int) x0 : Bool), false), ((decide ((0 : Int) ≤ x2) && decide (x2 < (↑(List.length x1) : Int)) : Bool), true), ((!leF (↑(List.length x1) : Int) x2 : Bool), true)])) := by kernel_rfl
theorem e73_0_3 (x0 : Int) (x1 : (List (List Int))) (x2 : Int) : runBody kl73_2.orc Go.Proofs.Try.prog 400 73 0 sh73_0 shb73_0 shr73_0 ((x0, x1, x2, ()), ()) [true, true, false, true, false, true, true, false] =
    (let r1 : (Int × List (List Int) × Int × PUnit) × PUnit := b73_2 ((x0, (x1, (x2, ((0 : Int), ())))), ()); let r2 : (Int × Int × PUnit) × PUnit := g26 ((List.getD r1.fst.snd.fst (Int.toNat r1.fst.snd.snd.fst) [] : List Int), ()); some (.again (((r1.fst.fst : Int), ((r1.fst.snd.fst : List (List Int)), ((wrap64 (r1.fst.snd.snd.fst + (1 : Int)) : Int), ()))), ()), [((!(r2.fst.fst == (0 : Int) && (r2.fst.snd.fst == (0 : Int) && true)) : Bool), false), (Option.isSome (f26 ((List.getD r1.fst.snd.fst (Int.toNat r1.fst.snd.snd.fst) [] : List Int), ())), true), ((decide ((0 : Int) ≤ r1.fst.snd.snd.fst) && decide (r1.fst.snd.snd.fst < (↑(List.length r1.fst.snd.fst) : Int)) : Bool), true), (isRet (l73_2 ((x0, (x1, (x2, ((0 : Int), ())))), ())), false), (Option.isSome (l73_2 ((x0, (x1, (x2, ((0 : Int), ())))), ())), true), ((!eqF (↑(List.length (List.getD x1 (Int.toNat x2) [])) : Int) x0 : Bool), false), ((decide ((0 : Int) ≤ x2) && decide (x2 < (↑(List.length x1) : Int)) : Bool), true), ((!leF (↑(List.length x1) : Int) x2 : Bool), true)])) := by kernel_rfl
theorem e73_0_6 (x0 : Int) (x1 : (List (List Int))) (x2 : Int) : runBody kl73_2.orc Go.Proofs.Try.prog 400 73 0 sh73_0 shb73_0 shr73_0 ((x0, x1, x2, ()), ()) [false] =
    (some (.brk ((), ()), [((!leF (↑(List.length x1) : Int) x2 : Bool), false)])) := by kernel_rfl

theorem ok73_0_t (x0 : Int) (x1 : (List (List Int))) (x2 : Int) : TrOk (BodyRuns Go.Proofs.Try.prog kl73_2.orc 73 0 sh73_0 shb73_0 shr73_0 ((x0, x1, x2, ()), ())) (t73_0 x0 x1 x2) :=
  TrOk.ofTest (fun h0 => TrOk.ofTest (fun h1 => TrOk.ofTest (fun h2 => TrOk.ofFin (BodyRuns.of (e73_0_0 x0 x1 x2) (All.cons h2 (All.cons h1 (All.cons h0 (All.nil)))))) (fun h2 => TrOk.ofTest (fun h3 => TrOk.ofTest (fun h4 => TrOk.ofFin (BodyRuns.of (e73_0_1 x0 x1 x2) (All.cons h4 (All.cons h3 (All.cons h2 (All.cons h1 (All.cons h0 (All.nil)))))))) (fun h4 => TrOk.ofTest (fun h5 => TrOk.ofTest (fun h6 => TrOk.ofTest (fun h7 => TrOk.ofFin (BodyRuns.of (e73_0_2 x0 x1 x2) (All.cons h7 (All.cons h6 (All.cons h5 (All.cons h4 (All.cons h3 (All.cons h2 (All.cons h1 (All.cons h0 (All.nil))))))))))) (fun h7 => TrOk.ofFin (BodyRuns.of (e73_0_3 x0 x1 x2) (All.cons h7 (All.cons h6 (All.cons h5 (All.cons h4 (All.cons h3 (All.cons h2 (All.cons h1 (All.cons h0 (All.nil)))))))))))) (fun h6 => TrOk.ofStop)) (fun h5 => TrOk.ofStop))) (fun h3 => TrOk.ofStop))) (fun h1 => TrOk.ofStop)) (fun h0 => TrOk.ofFin (BodyRuns.of (e73_0_6 x0 x1 x2) (All.cons h0 (All.nil))))

theorem ok73_0 : LoopOk Go.Proofs.Try.prog 73 0 lc73_0 := loopOk_of kl73_2_ok.base (T := fun (d : sh73_0.data) => t73_0 d.1.1 d.1.2.1 d.1.2.2.1) (by kernel_rfl) rfl (fun (d : sh73_0.data) => ok73_0_t d.1.1 d.1.2.1 d.1.2.2.1) (fun _ => rfl)
def kl73_0 : Known := kl73_2.loop 73 0 lc73_0
theorem kl73_0_ok : KnownOk Go.Proofs.Try.prog kl73_0 := kl73_2_ok.loop ok73_0

/-! ductility/ductilityref02.WavesErr -/

abbrev as73 : List Ty := [(.int .i64), (.slice (.slice (.int .i64)))]
abbrev rs73 : List Ty := [(.int .i64)]

def t73 (x0 : Int) (x1 : (List (List Int))) : Tr (Tys.data rs73) :=
  Tr.test ((!leF (↑(List.length x1) : Int) (3 : Int) : Bool))
    (Tr.fin (((8 : Int), ())))
    (Tr.test (Option.isSome (l73_0 ((x0, (x1, ((0 : Int), ()))), ())))
      (Tr.test (isRet (l73_0 ((x0, (x1, ((0 : Int), ()))), ())))
        (let r0 : (Int × PUnit) × PUnit := r73_0 ((x0, (x1, ((0 : Int), ()))), ());
        Tr.fin (((r0.fst.fst : Int), ())))
        (Tr.fin (((0 : Int), ()))))
      (Tr.stop))

def f73 (d : Tys.data as73) : Option (Tys.data rs73) := (t73 d.1 d.2.1).val
def g73 (d : Tys.data as73) : Tys.data rs73 := (f73 d).getD (Tys.dflt rs73)
def p73 : PureC := pcOf as73 rs73 f73 g73

theorem e73_0 (x0 : Int) (x1 : (List (List Int))) : runPure kl73_0.orc Go.Proofs.Try.prog 400 73 as73 rs73 (x0, x1, ()) [true] =
    (some (((8 : Int), ()), [((!leF (↑(List.length x1) : Int) (3 : Int) : Bool), true)])) := by kernel_rfl
theorem e73_1 (x0 : Int) (x1 : (List (List Int))) : runPure kl73_0.orc Go.Proofs.Try.prog 400 73 as73 rs73 (x0, x1, ()) [false, true, true] =
    (let r0 : (Int × PUnit) × PUnit := r73_0 ((x0, (x1, ((0 : Int), ()))), ()); some (((r0.fst.fst : Int), ()), [(isRet (l73_0 ((x0, (x1, ((0 : Int), ()))), ())), true), (Option.isSome (l73_0 ((x0, (x1, ((0 : Int), ()))), ())), true), ((!leF (↑(List.length x1) : Int) (3 : Int) : Bool), false)])) := by kernel_rfl
theorem e73_2 (x0 : Int) (x1 : (List (List Int))) : runPure kl73_0.orc Go.Proofs.Try.prog 400 73 as73 rs73 (x0, x1, ()) [false, true, false] =
    (some (((0 : Int), ()), [(isRet (l73_0 ((x0, (x1, ((0 : Int), ()))), ())), false), (Option.isSome (l73_0 ((x0, (x1, ((0 : Int), ()))), ())), true), ((!leF (↑(List.length x1) : Int) (3 : Int) : Bool), false)])) := by kernel_rfl

theorem ok73_t (x0 : Int) (x1 : (List (List Int))) : TrOk (PureRuns Go.Proofs.Try.prog kl73_0.orc 73 as73 rs73 (x0, x1, ())) (t73 x0 x1) :=
  TrOk.ofTest (fun h0 => TrOk.ofFin (PureRuns.of (e73_0 x0 x1) (All.cons h0 (All.nil)))) (fun h0 => TrOk.ofTest (fun h1 => TrOk.ofTest (fun h2 => TrOk.ofFin (PureRuns.of (e73_1 x0 x1) (All.cons h2 (All.cons h1 (All.cons h0 (All.nil)))))) (fun h2 => TrOk.ofFin (PureRuns.of (e73_2 x0 x1) (All.cons h2 (All.cons h1 (All.cons h0 (All.nil))))))) (fun h1 => TrOk.ofStop))

theorem ok73 : PureOk Go.Proofs.Try.prog 73 p73 := pureOk_of kl73_0_ok.base (T := fun (d : Tys.data as73) => t73 d.1 d.2.1) (by kernel_rfl) (fun (d : Tys.data as73) => ok73_t d.1 d.2.1)
def kf73 : Known := kl73_0.func 73 p73
theorem kf73_ok : KnownOk Go.Proofs.Try.prog kf73 := kl73_0_ok.func ok73

/-! loop 0 of ductility/ductilityref02.TimesErr -/

abbrev sh74_0 : Sh := { n := 23, slots := [1, 5], pats := [.ty (.slice (.int .i64)), .ty (.int .i64)], boxes := [] }
abbrev shb74_0 : Sh := { n := 23, slots := [], pats := [], boxes := [] }
abbrev shr74_0 : Sh := { n := 23, slots := [4], pats := [.ty (.int .i64)], boxes := [] }

def t74_0 (x0 : (List Int)) (x1 : Int) : Tr (Out sh74_0.data shb74_0.data shr74_0.data) :=
  Tr.test ((!leF (↑(List.length x0) : Int) x1 : Bool))
    (Tr.test ((decide ((0 : Int) ≤ x1) && decide (x1 < (↑(List.length x0) : Int)) : Bool))
      (Tr.test (Option.isSome (f47 ((List.getD x0 (Int.toNat x1) (0 : Int) : Int), ((-2 : Int), ((2 : Int), ())))))
        (let r0 : Bool × PUnit := g47 ((List.getD x0 (Int.toNat x1) (0 : Int) : Int), ((-2 : Int), ((2 : Int), ())));
        Tr.test ((!r0.fst : Bool))
          (Tr.fin (.ret (((2 : Int), ()), ())))
          (Tr.fin (.again ((x0, ((wrap64 (x1 + (1 : Int)) : Int), ())), ()))))
        (Tr.stop))
      (Tr.stop /- none [op 2 of region 6 of F74] -/))
    (Tr.fin (.brk ((), ())))

def s74_0 (d : sh74_0.data) : Option (Out sh74_0.data shb74_0.data shr74_0.data) := (t74_0 d.1.1 d.1.2.1).val
def l74_0 (d : sh74_0.data) : Option (shb74_0.data ⊕ shr74_0.data) := itr s74_0 rounds d
def b74_0 (d : sh74_0.data) : shb74_0.data := outB shb74_0.dflt (l74_0 d)
def r74_0 (d : sh74_0.data) : shr74_0.data := outR shr74_0.dflt (l74_0 d)
def lc74_0 : LoopC := lcOf sh74_0 shb74_0 shr74_0 l74_0 b74_0 r74_0

theorem e74_0_0 (x0 : (List Int)) (x1 : Int) : runBody kf73.orc Go.Proofs.Try.prog 400 74 0 sh74_0 shb74_0 shr74_0 ((x0, x1, ()), ()) [true, true, true, true] =
    (let r0 : Bool × PUnit := g47 ((List.getD x0 (Int.toNat x1) (0 : Int) : Int), ((-2 : Int), ((2 : Int), ()))); some (.ret (((2 : Int), ()), ()), [((!r0.fst : Bool), true), (Option.isSome (f47 ((List.getD x0 (Int.toNat x1) (0 : Int) : Int), ((-2 : Int), ((2 : Int), ())))), true), ((decide ((0 : Int) ≤ x1) && decide (x1 < (↑(List.length x0) : Int)) : Bool), true), ((!leF (↑(List.length x0) : Int) x1 : Bool), true)])) := by kernel_rfl
theorem e74_0_1 (x0 : (List Int)) (x1 : Int) : runBody kf73.orc Go.Proofs.Try.prog 400 74 0 sh74_0 shb74_0 shr74_0 ((x0, x1, ()), ()) [true, true, true, false] =
    (let r0 : Bool × PUnit := g47 ((List.getD x0 (Int.toNat x1) (0 : Int) : Int), ((-2 : Int), ((2 : Int), ()))); some (.again ((x0, ((wrap64 (x1 + (1 : Int)) : Int), ())), ()), [((!r0.fst : Bool), false), (Option.isSome (f47 ((List.getD x0 (Int.toNat x1) (0 : Int) : Int), ((-2 : Int), ((2 : Int), ())))), true), ((decide ((0 : Int) ≤ x1) && decide (x1 < (↑(List.length x0) : Int)) : Bool), true), ((!leF (↑(List.length x0) : Int) x1 : Bool), true)])) := by kernel_rfl
theorem e74_0_3 (x0 : (List Int)) (x1 : Int) : runBody kf73.orc Go.Proofs.Try.prog 400 74 0 sh74_0 shb74_0 shr74_0 ((x0, x1, ()), ()) [false] =
    (some (.brk ((), ()), [((!leF (↑(List.length x0) : Int) x1 : Bool), false)])) := by kernel_rfl

theorem ok74_0_t (x0 : (List Int)) (x1 : Int) : TrOk (BodyRuns Go.Proofs.Try.prog kf73.orc 74 0 sh74_0 shb74_0 shr74_0 ((x0, x1, ()), ())) (t74_0 x0 x1) :=
  TrOk.ofTest (fun h0 => TrOk.ofTest (fun h1 => TrOk.ofTest (fun h2 => TrOk.ofTest (fun h3 => TrOk.ofFin (BodyRuns.of (e74_0_0 x0 x1) (All.cons h3 (All.cons h2 (All.cons h1 (All.cons h0 (All.nil))))))) (fun h3 => TrOk.ofFin (BodyRuns.of (e74_0_1 x0 x1) (All.cons h3 (All.cons h2 (All.cons h1 (All.cons h0 (All.nil)))))))) (fun h2 => TrOk.ofStop)) (fun h1 => TrOk.ofStop)) (fun h0 => TrOk.ofFin (BodyRuns.of (e74_0_3 x0 x1) (All.cons h0 (All.nil))))

theorem ok74_0 : LoopOk Go.Proofs.Try.prog 74 0 lc74_0 := loopOk_of kf73_ok.base (T := fun (d : sh74_0.data) => t74_0 d.1.1 d.1.2.1) (by kernel_rfl) rfl (fun (d : sh74_0.data) => ok74_0_t d.1.1 d.1.2.1) (fun _ => rfl)
def kl74_0 : Known := kf73.loop 74 0 lc74_0
theorem kl74_0_ok : KnownOk Go.Proofs.Try.prog kl74_0 := kf73_ok.loop ok74_0


end Go.Vm.Mo
