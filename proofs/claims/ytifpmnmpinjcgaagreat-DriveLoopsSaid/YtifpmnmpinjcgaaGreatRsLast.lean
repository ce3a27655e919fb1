/- DriveLoops: for all loops of at most six coefficients (the law answers true for longer ones): the program gives the error that the document asks for; where there is none, the first mass that is not stable, and the margin below it, whose polynomial is stable. No condition: the law as it is given, for every input. -/
import Derived.Test.YtifpmnmpinjcgaaGreatRsM
import Derived.Test.YtifpmnmpinjcgaaGreatRows
import Derived.ProofKit
set_option linter.unusedVariables false
set_option linter.unusedSimpArgs false

namespace Go.Proofs.YtifpmnmpinjcgaaGreat
open Go.ChangeShapes Go.WideShapes Go.ChangeAt Go.RowKit
set_option linter.unusedVariables false

theorem driveLoopsLaw : Vm.IsLaw Rows.driveLoopsSpec 1 := ⟨rfl, fun H ds h => by
  match ds, h with
  | [d0], _ => exact ⟨rfl, rfl, rfl⟩⟩

theorem driveLoopsOwn : ownKnob Tryz.prog.godebug = none := by kernel_rfl

set_option maxRecDepth 100000 in
theorem driveLoopsLifted (os : Os) (started : os.Started) (H : Type) (enc : TypeId × Value → H) :
    ReturnsInHanded {} Tryz.checked os 5 .any (Rows.driveLoopsSpec.pre6 enc Tryz.prog Tryz.f5 Rows.driveLoopsRow.domain false) (Rows.driveLoopsSpec.post enc Tryz.prog Tryz.f5 false true false false) := by
  refine returnsInHanded_of_change (C := Tryz.checked) driveLoopsOwn started (by kernel_rfl) Tryz.func5
    (ChangeSpec.witness6 (enc := enc) (C := Tryz.checked) false ⟨#[], #[.agg #[.slice none 0 0, .slice none 0 0, .int .i64 0, .int .i64 0]], []⟩ 8 (by kernel_rfl) (by kernel_rfl) (by kernel_rfl) (by kernel_rfl)) ?_
  intro W base args ds gs before hval hW _ _
  exact Vm.law_contract (us := Vm.Mo.as5) driveLoopsLaw (by kernel_rfl) (by kernel_rfl) (by kernel_rfl) rfl (by kernel_rfl) (fun d hd => Vm.Mo.law5 d hd) hval hW

theorem driveLoopsHolds : Rows.DriveLoopsSaid :=
  OpenClaim.holds_of_wide 5 Tryz.f5 rfl rfl rfl rfl rfl rfl rfl ⟨rfl, rfl, rfl, rfl, rfl⟩ rfl rfl rfl rfl rfl (by kernel_rfl) Tryz.func5 (by kernel_rfl)
    (of_decide_eq_true (by kernel_rfl)) (by unfold Func.isWrapper; first | (rw [if_pos (by decide +kernel)]; kernel_rfl) | (rw [if_neg (by decide +kernel)]; exact ⟨rfl, rfl⟩))
    (fun os started H enc _ => driveLoopsLifted os started H enc)

#print axioms driveLoopsHolds
end Go.Proofs.YtifpmnmpinjcgaaGreat
