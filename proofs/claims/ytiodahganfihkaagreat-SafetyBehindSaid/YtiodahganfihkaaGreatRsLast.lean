/- SafetyBehind: for all gates and signatures (at most 8 gates are looked at, and only those that are as specified) and every two numbers: one signature fewer raises no level, without the signatures of a gate that asks for something the level is at most that gate, signatures backwards have the same level, and the gate of the level does not hold while all ahead of it do. No condition: the law as it is given, for every input. -/
import Derived.Test.YtiodahganfihkaaGreatRsM
import Derived.Test.YtiodahganfihkaaGreatRows
import Derived.ProofKit
set_option linter.unusedVariables false
set_option linter.unusedSimpArgs false

namespace Go.Proofs.YtiodahganfihkaaGreat
open Go.ChangeShapes Go.WideShapes Go.ChangeAt Go.RowKit
set_option linter.unusedVariables false

theorem safetyBehindLaw : Vm.IsLaw Rows.safetyBehindSpec 3 := ⟨rfl, fun H ds h => by
  match ds, h with
  | [d0, d1, d2], _ => exact ⟨rfl, rfl, rfl⟩⟩

theorem safetyBehindOwn : ownKnob Tryz.prog.godebug = none := by kernel_rfl

set_option maxRecDepth 100000 in
theorem safetyBehindLifted (os : Os) (started : os.Started) (H : Type) (enc : TypeId × Value → H) :
    ReturnsInHanded {} Tryz.checked os 12 .any (Rows.safetyBehindSpec.pre6 enc Tryz.prog Tryz.f12 Rows.safetyBehindRow.domain false) (Rows.safetyBehindSpec.post enc Tryz.prog Tryz.f12 false true false false) := by
  refine returnsInHanded_of_change (C := Tryz.checked) safetyBehindOwn started (by kernel_rfl) Tryz.func12
    (ChangeSpec.witness6 (enc := enc) (C := Tryz.checked) false ⟨#[], #[.slice none 0 0, .slice none 0 0, .agg #[.int .i64 0, .int .i64 0]], []⟩ 8 (by kernel_rfl) (by kernel_rfl) (by kernel_rfl) (by kernel_rfl)) ?_
  intro W base args ds gs before hval hW _ _
  exact Vm.law_contract (us := Vm.Mo.as12) safetyBehindLaw (by kernel_rfl) (by kernel_rfl) (by kernel_rfl) rfl (by kernel_rfl) (fun d hd => Vm.Mo.law12 d hd) hval hW

theorem safetyBehindHolds : Rows.SafetyBehindSaid :=
  OpenClaim.holds_of_wide 12 Tryz.f12 rfl rfl rfl rfl rfl rfl rfl ⟨rfl, rfl, rfl, rfl, rfl⟩ rfl rfl rfl rfl rfl (by kernel_rfl) Tryz.func12 (by kernel_rfl)
    (of_decide_eq_true (by kernel_rfl)) (by unfold Func.isWrapper; first | (rw [if_pos (by decide +kernel)]; kernel_rfl) | (rw [if_neg (by decide +kernel)]; exact ⟨rfl, rfl⟩))
    (fun os started H enc _ => safetyBehindLifted os started H enc)

#print axioms safetyBehindHolds
end Go.Proofs.YtiodahganfihkaaGreat
