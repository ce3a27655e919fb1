/-
  No cell of these rows narrows 'for every input' (looked for: loops, veiled, ifaces, maps, wideKeys, modest, calm, conditions, laid).
  DERIVED. THE GIVEN ROWS OF THIS SEAT. 3 by the template 'for every input the law returns true; each argument reads behind the call as it read before'; 0 by the template 'total and deterministic' (their statements: YtlmcodagfhdncaaGreatTotals.lean).
  GIVEN WITH THE SEED: the statements are not yours to turn. If you find one false, say at which input.
  Laid BY PROGRAM, IN A SANDBOX (cutbox-rows.mjs): the forced cells as the released guide's own fill.sh prints them over the translation 4c71dd2fe1dcb517… (all of the seat's roots in one cut). By AI agents, Wed Nov 11 2026. No macro, syntax, notation, axiom, sorry.
-/
import Derived.Test.YtlmcodagfhdncaaGreatChecked
import GoSem.Claim
import GoSem.ClaimJoined
import GoSem.ClaimMapViews
import Derived.JoinedTies
import Derived.KernelRfl
namespace Go.Proofs.YtlmcodagfhdncaaGreat
/- THE CELL 'sum', in the pinned program and in every row, IS THE sha256 OF THE DUMP (.gsa) THAT YtlmcodagfhdncaaGreatProg.lean LOADS. Nothing in Lean hashes anything: it is a label: what it is worth is what the hold of that sum in a sandbox is worth. -/
noncomputable def Tryz.pinned : Pinned := { name := "ytlmcodagfhdncaagreat", sum := "4c71dd2fe1dcb51725b8049dbcb47e203340e70d34b07c720ff2520f69e21b18", checked := Tryz.checked }
namespace Rows
def none {H : Type} : Left H := { results := [], args := [] }

/-- 'ductilitylaw08.HybridReached': WHATEVER THE INPUT: true; the input reads as it did. -/
def hybridReachedSpec : ChangeSpec := { name := "hybridReached", fn := fun _ => fun
  | [d1, d2] => { results := [.lit (.bool true)], args := [d1, d2] }
  | _ => none }
def hybridReachedRow : OpenClaim := { program := "ytlmcodagfhdncaagreat", sum := "4c71dd2fe1dcb51725b8049dbcb47e203340e70d34b07c720ff2520f69e21b18", func := "ductility/ductilitylaw08.HybridReached", spec := "hybridReached", unfollowed := true, recurses := true, plainKeys := false, apart := false }
def HybridReachedSaid : Prop := hybridReachedRow.holds Tryz.pinned (OpenSpec.ofChange hybridReachedSpec)

/-- ITS FALSE NEIGHBOUR: 'it returns false'. Refute it at one input. -/
def hybridReachedWrong : ChangeSpec := { name := "hybridReached", fn := fun _ => fun
  | [d1, d2] => { results := [.lit (.bool false)], args := [d1, d2] }
  | _ => none }
def HybridReachedWrongFalsely : Prop := hybridReachedRow.holds Tryz.pinned (OpenSpec.ofChange hybridReachedWrong)

/-- 'ductilitylaw08.HybridChains': WHATEVER THE INPUT: true; the input reads as it did. -/
def hybridChainsSpec : ChangeSpec := { name := "hybridChains", fn := fun _ => fun
  | [d1, d2, d3] => { results := [.lit (.bool true)], args := [d1, d2, d3] }
  | _ => none }
def hybridChainsRow : OpenClaim := { program := "ytlmcodagfhdncaagreat", sum := "4c71dd2fe1dcb51725b8049dbcb47e203340e70d34b07c720ff2520f69e21b18", func := "ductility/ductilitylaw08.HybridChains", spec := "hybridChains", unfollowed := true, recurses := true, plainKeys := false, apart := false }
def HybridChainsSaid : Prop := hybridChainsRow.holds Tryz.pinned (OpenSpec.ofChange hybridChainsSpec)

/-- ITS FALSE NEIGHBOUR: 'it returns false'. Refute it at one input. -/
def hybridChainsWrong : ChangeSpec := { name := "hybridChains", fn := fun _ => fun
  | [d1, d2, d3] => { results := [.lit (.bool false)], args := [d1, d2, d3] }
  | _ => none }
def HybridChainsWrongFalsely : Prop := hybridChainsRow.holds Tryz.pinned (OpenSpec.ofChange hybridChainsWrong)

/-- 'ductilitylaw08.HybridHalves': WHATEVER THE INPUT: true; the input reads as it did. -/
def hybridHalvesSpec : ChangeSpec := { name := "hybridHalves", fn := fun _ => fun
  | [d1, d2] => { results := [.lit (.bool true)], args := [d1, d2] }
  | _ => none }
def hybridHalvesRow : OpenClaim := { program := "ytlmcodagfhdncaagreat", sum := "4c71dd2fe1dcb51725b8049dbcb47e203340e70d34b07c720ff2520f69e21b18", func := "ductility/ductilitylaw08.HybridHalves", spec := "hybridHalves", unfollowed := true, recurses := true, plainKeys := false, apart := false }
def HybridHalvesSaid : Prop := hybridHalvesRow.holds Tryz.pinned (OpenSpec.ofChange hybridHalvesSpec)

/-- ITS FALSE NEIGHBOUR: 'it returns false'. Refute it at one input. -/
def hybridHalvesWrong : ChangeSpec := { name := "hybridHalves", fn := fun _ => fun
  | [d1, d2] => { results := [.lit (.bool false)], args := [d1, d2] }
  | _ => none }
def HybridHalvesWrongFalsely : Prop := hybridHalvesRow.holds Tryz.pinned (OpenSpec.ofChange hybridHalvesWrong)

/- THE SECOND FORM. 'bulk': how many values and letters a reading holds, each counted each time it is reached (what is shared counts as often as it is met; a slice's spare places count too). A statement '..UptoSaid' is the law's where the arguments, and the package variables that the reading takes, are together of bulk at most 1048576: NARROWER than '..Said'. Prove '..Said' where nothing that the law and all that it calls make is longer than what came in: it says more and counts as full. Else prove '..UptoSaid'. A law counts once. -/
mutual
def uptoBulk {H : Type} : DataW H → Nat
  | .lit (.string bytes) => bytes.length + 1
  | .lit _ => 1
  | .nil => 1
  | .ptr d => uptoBulk d + 1
  | .slice elems spare => uptoBulkAll elems + uptoBulkAll spare + 1
  | .agg parts => uptoBulkAll parts + 1
  | .iface _ d => uptoBulk d + 1
  | .map entries => uptoBulkEntries entries + 1
  | .held _ => 1
def uptoBulkAll {H : Type} : List (DataW H) → Nat
  | [] => 0
  | d :: r => uptoBulk d + uptoBulkAll r
def uptoBulkEntries {H : Type} : List (Lit × DataW H) → Nat
  | [] => 0
  | x :: r => uptoBulkEntry x + uptoBulkEntries r
def uptoBulkEntry {H : Type} : Lit × DataW H → Nat
  | (.string bytes, d) => bytes.length + uptoBulk d + 1
  | (_, d) => uptoBulk d + 1
 end
def uptoSmall : (H : Type) → List (DataW H) → Bool := fun _ ds => decide (uptoBulkAll ds ≤ 1048576)
def OpenSpec.upto (s : _root_.Go.ChangeSpec) : _root_.Go.OpenSpec := { _root_.Go.OpenSpec.ofChange s with cond := some uptoSmall }

/-- 'ductilitylaw08.HybridReached', WHERE WHAT IT READS IS OF BULK AT MOST 1048576: true; the input reads as it did. -/
def hybridReachedUptoRow : OpenClaim := { program := "ytlmcodagfhdncaagreat", sum := "4c71dd2fe1dcb51725b8049dbcb47e203340e70d34b07c720ff2520f69e21b18", func := "ductility/ductilitylaw08.HybridReached", spec := "hybridReached", unfollowed := true, recurses := true, plainKeys := false, apart := false, narrowed := true }
def HybridReachedUptoSaid : Prop := hybridReachedUptoRow.holds Tryz.pinned (OpenSpec.upto hybridReachedSpec)

/-- 'ductilitylaw08.HybridChains', WHERE WHAT IT READS IS OF BULK AT MOST 1048576: true; the input reads as it did. -/
def hybridChainsUptoRow : OpenClaim := { program := "ytlmcodagfhdncaagreat", sum := "4c71dd2fe1dcb51725b8049dbcb47e203340e70d34b07c720ff2520f69e21b18", func := "ductility/ductilitylaw08.HybridChains", spec := "hybridChains", unfollowed := true, recurses := true, plainKeys := false, apart := false, narrowed := true }
def HybridChainsUptoSaid : Prop := hybridChainsUptoRow.holds Tryz.pinned (OpenSpec.upto hybridChainsSpec)

/-- 'ductilitylaw08.HybridHalves', WHERE WHAT IT READS IS OF BULK AT MOST 1048576: true; the input reads as it did. -/
def hybridHalvesUptoRow : OpenClaim := { program := "ytlmcodagfhdncaagreat", sum := "4c71dd2fe1dcb51725b8049dbcb47e203340e70d34b07c720ff2520f69e21b18", func := "ductility/ductilitylaw08.HybridHalves", spec := "hybridHalves", unfollowed := true, recurses := true, plainKeys := false, apart := false, narrowed := true }
def HybridHalvesUptoSaid : Prop := hybridHalvesUptoRow.holds Tryz.pinned (OpenSpec.upto hybridHalvesSpec)

end Rows
end Go.Proofs.YtlmcodagfhdncaaGreat
