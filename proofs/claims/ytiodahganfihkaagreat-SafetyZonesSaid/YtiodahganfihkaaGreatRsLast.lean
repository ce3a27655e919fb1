/- SafetyZones: for all zones and paths (at most 10 zones and 22 positions are looked at) and every number: whether a path touches no zone is as specified, or the errors; backwards it is clear exactly if it is; with one zone fewer, or one position fewer at its end, it is clear if it was; all positions of a clear path are outside of all zones. No condition: the law as it is given, for every input. -/
import Derived.Test.YtiodahganfihkaaGreatRsM
import Derived.Test.YtiodahganfihkaaGreatRows
import Derived.ProofKit
set_option linter.unusedVariables false
set_option linter.unusedSimpArgs false

namespace Go.Proofs.YtiodahganfihkaaGreat
open Go.ChangeShapes Go.WideShapes Go.ChangeAt Go.RowKit
set_option linter.unusedVariables false

theorem safetyZonesLaw : Vm.IsLaw Rows.safetyZonesSpec 3 := ⟨rfl, fun H ds h => by
  match ds, h with
  | [d0, d1, d2], _ => exact ⟨rfl, rfl, rfl⟩⟩

theorem safetyZonesOwn : ownKnob Tryz.prog.godebug = none := by kernel_rfl

set_option maxRecDepth 100000 in
theorem safetyZonesLifted (os : Os) (started : os.Started) (H : Type) (enc : TypeId × Value → H) :
    ReturnsInHanded {} Tryz.checked os 13 .any (Rows.safetyZonesSpec.pre6 enc Tryz.prog Tryz.f13 Rows.safetyZonesRow.domain false) (Rows.safetyZonesSpec.post enc Tryz.prog Tryz.f13 false true false false) := by
  refine returnsInHanded_of_change (C := Tryz.checked) safetyZonesOwn started (by kernel_rfl) Tryz.func13
    (ChangeSpec.witness6 (enc := enc) (C := Tryz.checked) false ⟨#[], #[.slice none 0 0, .slice none 0 0, .int .i64 0], []⟩ 8 (by kernel_rfl) (by kernel_rfl) (by kernel_rfl) (by kernel_rfl)) ?_
  intro W base args ds gs before hval hW _ _
  exact Vm.law_contract (us := Vm.Mo.as13) safetyZonesLaw (by kernel_rfl) (by kernel_rfl) (by kernel_rfl) rfl (by kernel_rfl) (fun d hd => Vm.Mo.law13 d hd) hval hW

theorem safetyZonesHolds : Rows.SafetyZonesSaid :=
  OpenClaim.holds_of_wide 13 Tryz.f13 rfl rfl rfl rfl rfl rfl rfl ⟨rfl, rfl, rfl, rfl, rfl⟩ rfl rfl rfl rfl rfl (by kernel_rfl) Tryz.func13 (by kernel_rfl)
    (of_decide_eq_true (by kernel_rfl)) (by unfold Func.isWrapper; first | (rw [if_pos (by decide +kernel)]; kernel_rfl) | (rw [if_neg (by decide +kernel)]; exact ⟨rfl, rfl⟩))
    (fun os started H enc _ => safetyZonesLifted os started H enc)

#print axioms safetyZonesHolds
end Go.Proofs.YtiodahganfihkaaGreat
