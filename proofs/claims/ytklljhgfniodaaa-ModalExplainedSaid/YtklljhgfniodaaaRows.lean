/-
  No cell of these rows narrows 'for every input' (looked for: loops, veiled, ifaces, maps, wideKeys, modest, calm, conditions, laid).
  DERIVED. THE GIVEN ROWS OF THIS SEAT. 5 by the template 'for every input the law returns true; each argument reads behind the call as it read before'; 0 by the template 'total and deterministic' (their statements: YtklljhgfniodaaaTotals.lean).
  GIVEN WITH THE SEED: the statements are not yours to turn. If you find one false, say at which input.
  Laid BY PROGRAM, IN A SANDBOX (cutbox-rows.mjs): the forced cells as the released guide's own fill.sh prints them over the translation b4e771026da527f5… (all of the seat's roots in one cut). By AI agents, Wed Nov 11 2026. No macro, syntax, notation, axiom, sorry.
-/
import Derived.Test.YtklljhgfniodaaaChecked
import GoSem.Claim
import GoSem.ClaimJoined
import GoSem.ClaimMapViews
import Derived.JoinedTies
import Derived.KernelRfl
namespace Go.Proofs.Ytklljhgfniodaaa
/- THE CELL 'sum', in the pinned program and in every row, IS THE sha256 OF THE DUMP (.gsa) THAT YtklljhgfniodaaaProg.lean LOADS. Nothing in Lean hashes anything: it is a label: what it is worth is what the hold of that sum in a sandbox is worth. -/
noncomputable def Try.pinned : Pinned := { name := "ytklljhgfniodaaa", sum := "b4e771026da527f5c90a6828a16178a543b50db2b52b76ca0754eaf86af7b932", checked := Try.checked }
namespace Rows
def none {H : Type} : Left H := { results := [], args := [] }

/-- 'ductilitylaw06.ModalCounts': WHATEVER THE INPUT: true; the input reads as it did. -/
def modalCountsSpec : ChangeSpec := { name := "modalCounts", fn := fun _ => fun
  | [d1, d2, d3] => { results := [.lit (.bool true)], args := [d1, d2, d3] }
  | _ => none }
def modalCountsRow : OpenClaim := { program := "ytklljhgfniodaaa", sum := "b4e771026da527f5c90a6828a16178a543b50db2b52b76ca0754eaf86af7b932", func := "ductility/ductilitylaw06.ModalCounts", spec := "modalCounts", unfollowed := true, recurses := true, apart := false }
def ModalCountsSaid : Prop := modalCountsRow.holds Try.pinned (OpenSpec.ofChange modalCountsSpec)

/-- ITS FALSE NEIGHBOUR: 'it returns false'. Refute it at one input. -/
def modalCountsWrong : ChangeSpec := { name := "modalCounts", fn := fun _ => fun
  | [d1, d2, d3] => { results := [.lit (.bool false)], args := [d1, d2, d3] }
  | _ => none }
def ModalCountsWrongFalsely : Prop := modalCountsRow.holds Try.pinned (OpenSpec.ofChange modalCountsWrong)

/-- 'ductilitylaw06.ModalSigns': WHATEVER THE INPUT: true; the input reads as it did. -/
def modalSignsSpec : ChangeSpec := { name := "modalSigns", fn := fun _ => fun
  | [d1, d2, d3] => { results := [.lit (.bool true)], args := [d1, d2, d3] }
  | _ => none }
def modalSignsRow : OpenClaim := { program := "ytklljhgfniodaaa", sum := "b4e771026da527f5c90a6828a16178a543b50db2b52b76ca0754eaf86af7b932", func := "ductility/ductilitylaw06.ModalSigns", spec := "modalSigns", unfollowed := true, recurses := true, apart := false }
def ModalSignsSaid : Prop := modalSignsRow.holds Try.pinned (OpenSpec.ofChange modalSignsSpec)

/-- ITS FALSE NEIGHBOUR: 'it returns false'. Refute it at one input. -/
def modalSignsWrong : ChangeSpec := { name := "modalSigns", fn := fun _ => fun
  | [d1, d2, d3] => { results := [.lit (.bool false)], args := [d1, d2, d3] }
  | _ => none }
def ModalSignsWrongFalsely : Prop := modalSignsRow.holds Try.pinned (OpenSpec.ofChange modalSignsWrong)

/-- 'ductilitylaw06.ModalStiffer': WHATEVER THE INPUT: true; the input reads as it did. -/
def modalStifferSpec : ChangeSpec := { name := "modalStiffer", fn := fun _ => fun
  | [d1, d2, d3] => { results := [.lit (.bool true)], args := [d1, d2, d3] }
  | _ => none }
def modalStifferRow : OpenClaim := { program := "ytklljhgfniodaaa", sum := "b4e771026da527f5c90a6828a16178a543b50db2b52b76ca0754eaf86af7b932", func := "ductility/ductilitylaw06.ModalStiffer", spec := "modalStiffer", unfollowed := true, recurses := true, apart := false }
def ModalStifferSaid : Prop := modalStifferRow.holds Try.pinned (OpenSpec.ofChange modalStifferSpec)

/-- ITS FALSE NEIGHBOUR: 'it returns false'. Refute it at one input. -/
def modalStifferWrong : ChangeSpec := { name := "modalStiffer", fn := fun _ => fun
  | [d1, d2, d3] => { results := [.lit (.bool false)], args := [d1, d2, d3] }
  | _ => none }
def ModalStifferWrongFalsely : Prop := modalStifferRow.holds Try.pinned (OpenSpec.ofChange modalStifferWrong)

/-- 'ductilitylaw06.ModalDamages': WHATEVER THE INPUT: true; the input reads as it did. -/
def modalDamagesSpec : ChangeSpec := { name := "modalDamages", fn := fun _ => fun
  | [d1, d2, d3] => { results := [.lit (.bool true)], args := [d1, d2, d3] }
  | _ => none }
def modalDamagesRow : OpenClaim := { program := "ytklljhgfniodaaa", sum := "b4e771026da527f5c90a6828a16178a543b50db2b52b76ca0754eaf86af7b932", func := "ductility/ductilitylaw06.ModalDamages", spec := "modalDamages", unfollowed := true, recurses := true, apart := false }
def ModalDamagesSaid : Prop := modalDamagesRow.holds Try.pinned (OpenSpec.ofChange modalDamagesSpec)

/-- ITS FALSE NEIGHBOUR: 'it returns false'. Refute it at one input. -/
def modalDamagesWrong : ChangeSpec := { name := "modalDamages", fn := fun _ => fun
  | [d1, d2, d3] => { results := [.lit (.bool false)], args := [d1, d2, d3] }
  | _ => none }
def ModalDamagesWrongFalsely : Prop := modalDamagesRow.holds Try.pinned (OpenSpec.ofChange modalDamagesWrong)

/-- 'ductilitylaw06.ModalExplained': WHATEVER THE INPUT: true; the input reads as it did. -/
def modalExplainedSpec : ChangeSpec := { name := "modalExplained", fn := fun _ => fun
  | [d1, d2, d3] => { results := [.lit (.bool true)], args := [d1, d2, d3] }
  | _ => none }
def modalExplainedRow : OpenClaim := { program := "ytklljhgfniodaaa", sum := "b4e771026da527f5c90a6828a16178a543b50db2b52b76ca0754eaf86af7b932", func := "ductility/ductilitylaw06.ModalExplained", spec := "modalExplained", unfollowed := true, recurses := true, apart := false }
def ModalExplainedSaid : Prop := modalExplainedRow.holds Try.pinned (OpenSpec.ofChange modalExplainedSpec)

/-- ITS FALSE NEIGHBOUR: 'it returns false'. Refute it at one input. -/
def modalExplainedWrong : ChangeSpec := { name := "modalExplained", fn := fun _ => fun
  | [d1, d2, d3] => { results := [.lit (.bool false)], args := [d1, d2, d3] }
  | _ => none }
def ModalExplainedWrongFalsely : Prop := modalExplainedRow.holds Try.pinned (OpenSpec.ofChange modalExplainedWrong)

/- THE SECOND FORM. 'bulk': how many values and letters a reading holds, each counted each time it is reached (what is shared counts as often as it is met; a slice's spare places count too). A statement '..UptoSaid' is the law's where the arguments, and the package variables that the reading takes, are together of bulk at most 1048576: NARROWER than '..Said'. Prove '..Said' where nothing that the law and all that it calls make is longer than what came in: it says more and counts as full. Else prove '..UptoSaid'. A law counts once. -/
mutual
def uptoBulk {H : Type} : DataW H → Nat
  | .lit (.string bytes) => bytes.length + 1
  | .lit _ => 1
  | .nil => 1
  | .ptr d => uptoBulk d + 1
  | .slice elems spare => uptoBulkAll elems + uptoBulkAll spare + 1
  | .agg parts => uptoBulkAll parts + 1
  | .iface _ d => uptoBulk d + 1
  | .map entries => uptoBulkEntries entries + 1
  | .held _ => 1
def uptoBulkAll {H : Type} : List (DataW H) → Nat
  | [] => 0
  | d :: r => uptoBulk d + uptoBulkAll r
def uptoBulkEntries {H : Type} : List (Lit × DataW H) → Nat
  | [] => 0
  | x :: r => uptoBulkEntry x + uptoBulkEntries r
def uptoBulkEntry {H : Type} : Lit × DataW H → Nat
  | (.string bytes, d) => bytes.length + uptoBulk d + 1
  | (_, d) => uptoBulk d + 1
 end
def uptoSmall : (H : Type) → List (DataW H) → Bool := fun _ ds => decide (uptoBulkAll ds ≤ 1048576)
def OpenSpec.upto (s : _root_.Go.ChangeSpec) : _root_.Go.OpenSpec := { _root_.Go.OpenSpec.ofChange s with cond := some uptoSmall }

/-- 'ductilitylaw06.ModalCounts', WHERE WHAT IT READS IS OF BULK AT MOST 1048576: true; the input reads as it did. -/
def modalCountsUptoRow : OpenClaim := { program := "ytklljhgfniodaaa", sum := "b4e771026da527f5c90a6828a16178a543b50db2b52b76ca0754eaf86af7b932", func := "ductility/ductilitylaw06.ModalCounts", spec := "modalCounts", unfollowed := true, recurses := true, apart := false, narrowed := true }
def ModalCountsUptoSaid : Prop := modalCountsUptoRow.holds Try.pinned (OpenSpec.upto modalCountsSpec)

/-- 'ductilitylaw06.ModalSigns', WHERE WHAT IT READS IS OF BULK AT MOST 1048576: true; the input reads as it did. -/
def modalSignsUptoRow : OpenClaim := { program := "ytklljhgfniodaaa", sum := "b4e771026da527f5c90a6828a16178a543b50db2b52b76ca0754eaf86af7b932", func := "ductility/ductilitylaw06.ModalSigns", spec := "modalSigns", unfollowed := true, recurses := true, apart := false, narrowed := true }
def ModalSignsUptoSaid : Prop := modalSignsUptoRow.holds Try.pinned (OpenSpec.upto modalSignsSpec)

/-- 'ductilitylaw06.ModalStiffer', WHERE WHAT IT READS IS OF BULK AT MOST 1048576: true; the input reads as it did. -/
def modalStifferUptoRow : OpenClaim := { program := "ytklljhgfniodaaa", sum := "b4e771026da527f5c90a6828a16178a543b50db2b52b76ca0754eaf86af7b932", func := "ductility/ductilitylaw06.ModalStiffer", spec := "modalStiffer", unfollowed := true, recurses := true, apart := false, narrowed := true }
def ModalStifferUptoSaid : Prop := modalStifferUptoRow.holds Try.pinned (OpenSpec.upto modalStifferSpec)

/-- 'ductilitylaw06.ModalDamages', WHERE WHAT IT READS IS OF BULK AT MOST 1048576: true; the input reads as it did. -/
def modalDamagesUptoRow : OpenClaim := { program := "ytklljhgfniodaaa", sum := "b4e771026da527f5c90a6828a16178a543b50db2b52b76ca0754eaf86af7b932", func := "ductility/ductilitylaw06.ModalDamages", spec := "modalDamages", unfollowed := true, recurses := true, apart := false, narrowed := true }
def ModalDamagesUptoSaid : Prop := modalDamagesUptoRow.holds Try.pinned (OpenSpec.upto modalDamagesSpec)

/-- 'ductilitylaw06.ModalExplained', WHERE WHAT IT READS IS OF BULK AT MOST 1048576: true; the input reads as it did. -/
def modalExplainedUptoRow : OpenClaim := { program := "ytklljhgfniodaaa", sum := "b4e771026da527f5c90a6828a16178a543b50db2b52b76ca0754eaf86af7b932", func := "ductility/ductilitylaw06.ModalExplained", spec := "modalExplained", unfollowed := true, recurses := true, apart := false, narrowed := true }
def ModalExplainedUptoSaid : Prop := modalExplainedUptoRow.holds Try.pinned (OpenSpec.upto modalExplainedSpec)

end Rows
end Go.Proofs.Ytklljhgfniodaaa
