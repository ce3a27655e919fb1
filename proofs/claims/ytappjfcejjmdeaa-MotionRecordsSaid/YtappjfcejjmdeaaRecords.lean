/- MotionRecords gives true whatever record it is handed, and leaves the record as it was. No condition. -/
import Derived.Test.YtappjfcejjmdeaaRecordsM
import Derived.Test.YtappjfcejjmdeaaRows
import Derived.ProofKit
set_option linter.unusedVariables false
set_option linter.unusedSimpArgs false

namespace Go.Proofs.Ytappjfcejjmdeaa
open Go.ChangeShapes Go.WideShapes Go.ChangeAt Go.RowKit
set_option linter.unusedVariables false

theorem motionRecordsLaw : Vm.IsLaw Rows.motionRecordsSpec 1 := ⟨rfl, fun H ds h => by
  match ds, h with
  | [d], _ => exact ⟨rfl, rfl, rfl⟩⟩

theorem motionRecordsOwn : ownKnob Try.prog.godebug = none := by kernel_rfl

set_option maxRecDepth 100000 in
theorem motionRecordsLifted (os : Os) (started : os.Started) (H : Type) (enc : TypeId × Value → H) :
    ReturnsInHanded {} Try.checked os 3 .any (Rows.motionRecordsSpec.pre6 enc Try.prog Try.f3 Rows.motionRecordsRow.domain false) (Rows.motionRecordsSpec.post enc Try.prog Try.f3 false true false false) := by
  refine returnsInHanded_of_change (C := Try.checked) motionRecordsOwn started (by kernel_rfl) Try.func3
    (ChangeSpec.witness6 (enc := enc) (C := Try.checked) false ⟨#[], #[.agg #[.int .i64 0, .slice none 0 0]], []⟩ 8 (by kernel_rfl) (by kernel_rfl) (by kernel_rfl) (by kernel_rfl)) ?_
  intro W base args ds gs before hval hW _ _
  exact Vm.law_contract (us := Vm.Mo.as3) motionRecordsLaw (by kernel_rfl) (by kernel_rfl) (by kernel_rfl) rfl (by kernel_rfl) (fun d _ => Vm.Mo.law3 d) hval hW

theorem motionRecordsHolds : Rows.MotionRecordsSaid :=
  OpenClaim.holds_of_wide 3 Try.f3 rfl rfl rfl rfl rfl rfl rfl ⟨rfl, rfl, rfl, rfl, rfl⟩ rfl rfl rfl rfl rfl (by kernel_rfl) Try.func3 (by kernel_rfl)
    (of_decide_eq_true (by kernel_rfl)) (by unfold Func.isWrapper; first | (rw [if_pos (by decide +kernel)]; kernel_rfl) | (rw [if_neg (by decide +kernel)]; exact ⟨rfl, rfl⟩))
    (fun os started H enc _ => motionRecordsLifted os started H enc)

#print axioms motionRecordsHolds
end Go.Proofs.Ytappjfcejjmdeaa
