/-
  No cell of these rows narrows 'for every input' (looked for: loops, veiled, ifaces, maps, wideKeys, modest, calm, conditions, laid).
  DERIVED. THE GIVEN ROWS OF THIS SEAT. 4 by the template 'for every input the law returns true; each argument reads behind the call as it read before'; 0 by the template 'total and deterministic' (their statements: YtmbopaemnlikkaaTotals.lean).
  GIVEN WITH THE SEED: the statements are not yours to turn. If you find one false, say at which input.
  Laid BY PROGRAM, IN A SANDBOX (cutbox-rows.mjs): the forced cells as the released guide's own fill.sh prints them over the translation 9f9bf5ddc00e8d02… (all of the seat's roots in one cut). By AI agents, Wed Nov 11 2026. No macro, syntax, notation, axiom, sorry.
-/
import Derived.Test.YtmbopaemnlikkaaChecked
import GoSem.Claim
import GoSem.ClaimJoined
import GoSem.ClaimMapViews
import Derived.JoinedTies
import Derived.KernelRfl
namespace Go.Proofs.Ytmbopaemnlikkaa
/- THE CELL 'sum', in the pinned program and in every row, IS THE sha256 OF THE DUMP (.gsa) THAT YtmbopaemnlikkaaProg.lean LOADS. Nothing in Lean hashes anything: it is a label: what it is worth is what the hold of that sum in a sandbox is worth. -/
noncomputable def Try.pinned : Pinned := { name := "ytmbopaemnlikkaa", sum := "9f9bf5ddc00e8d02abe4b92613089ca7ce2ae0cbf89554cadaa128b389d41a7c", checked := Try.checked }
namespace Rows
def none {H : Type} : Left H := { results := [], args := [] }

/-- 'culvertlaw17.LaneRises': WHATEVER THE INPUT: true; the input reads as it did. -/
def laneRisesSpec : ChangeSpec := { name := "laneRises", fn := fun _ => fun
  | [d1, d2, d3] => { results := [.lit (.bool true)], args := [d1, d2, d3] }
  | _ => none }
def laneRisesRow : OpenClaim := { program := "ytmbopaemnlikkaa", sum := "9f9bf5ddc00e8d02abe4b92613089ca7ce2ae0cbf89554cadaa128b389d41a7c", func := "culvert/culvertlaw17.LaneRises", spec := "laneRises", unfollowed := true, recurses := true, apart := false }
def LaneRisesSaid : Prop := laneRisesRow.holds Try.pinned (OpenSpec.ofChange laneRisesSpec)

/-- ITS FALSE NEIGHBOUR: 'it returns false'. Refute it at one input. -/
def laneRisesWrong : ChangeSpec := { name := "laneRises", fn := fun _ => fun
  | [d1, d2, d3] => { results := [.lit (.bool false)], args := [d1, d2, d3] }
  | _ => none }
def LaneRisesWrongFalsely : Prop := laneRisesRow.holds Try.pinned (OpenSpec.ofChange laneRisesWrong)

/-- 'culvertlaw17.LaneNever': WHATEVER THE INPUT: true; the input reads as it did. -/
def laneNeverSpec : ChangeSpec := { name := "laneNever", fn := fun _ => fun
  | [d1, d2, d3, d4] => { results := [.lit (.bool true)], args := [d1, d2, d3, d4] }
  | _ => none }
def laneNeverRow : OpenClaim := { program := "ytmbopaemnlikkaa", sum := "9f9bf5ddc00e8d02abe4b92613089ca7ce2ae0cbf89554cadaa128b389d41a7c", func := "culvert/culvertlaw17.LaneNever", spec := "laneNever", unfollowed := true, recurses := true, apart := false }
def LaneNeverSaid : Prop := laneNeverRow.holds Try.pinned (OpenSpec.ofChange laneNeverSpec)

/-- ITS FALSE NEIGHBOUR: 'it returns false'. Refute it at one input. -/
def laneNeverWrong : ChangeSpec := { name := "laneNever", fn := fun _ => fun
  | [d1, d2, d3, d4] => { results := [.lit (.bool false)], args := [d1, d2, d3, d4] }
  | _ => none }
def LaneNeverWrongFalsely : Prop := laneNeverRow.holds Try.pinned (OpenSpec.ofChange laneNeverWrong)

/-- 'culvertlaw17.LaneCeils': WHATEVER THE INPUT: true; the input reads as it did. -/
def laneCeilsSpec : ChangeSpec := { name := "laneCeils", fn := fun _ => fun
  | [d1, d2, d3, d4] => { results := [.lit (.bool true)], args := [d1, d2, d3, d4] }
  | _ => none }
def laneCeilsRow : OpenClaim := { program := "ytmbopaemnlikkaa", sum := "9f9bf5ddc00e8d02abe4b92613089ca7ce2ae0cbf89554cadaa128b389d41a7c", func := "culvert/culvertlaw17.LaneCeils", spec := "laneCeils", unfollowed := true, recurses := true, apart := false }
def LaneCeilsSaid : Prop := laneCeilsRow.holds Try.pinned (OpenSpec.ofChange laneCeilsSpec)

/-- ITS FALSE NEIGHBOUR: 'it returns false'. Refute it at one input. -/
def laneCeilsWrong : ChangeSpec := { name := "laneCeils", fn := fun _ => fun
  | [d1, d2, d3, d4] => { results := [.lit (.bool false)], args := [d1, d2, d3, d4] }
  | _ => none }
def LaneCeilsWrongFalsely : Prop := laneCeilsRow.holds Try.pinned (OpenSpec.ofChange laneCeilsWrong)

/-- 'culvertlaw17.LanePlace': WHATEVER THE INPUT: true; the input reads as it did. -/
def lanePlaceSpec : ChangeSpec := { name := "lanePlace", fn := fun _ => fun
  | [d1, d2, d3] => { results := [.lit (.bool true)], args := [d1, d2, d3] }
  | _ => none }
def lanePlaceRow : OpenClaim := { program := "ytmbopaemnlikkaa", sum := "9f9bf5ddc00e8d02abe4b92613089ca7ce2ae0cbf89554cadaa128b389d41a7c", func := "culvert/culvertlaw17.LanePlace", spec := "lanePlace", unfollowed := true, recurses := true, apart := false }
def LanePlaceSaid : Prop := lanePlaceRow.holds Try.pinned (OpenSpec.ofChange lanePlaceSpec)

/-- ITS FALSE NEIGHBOUR: 'it returns false'. Refute it at one input. -/
def lanePlaceWrong : ChangeSpec := { name := "lanePlace", fn := fun _ => fun
  | [d1, d2, d3] => { results := [.lit (.bool false)], args := [d1, d2, d3] }
  | _ => none }
def LanePlaceWrongFalsely : Prop := lanePlaceRow.holds Try.pinned (OpenSpec.ofChange lanePlaceWrong)

/- THE SECOND FORM. 'bulk': how many values and letters a reading holds, each counted each time it is reached (what is shared counts as often as it is met; a slice's spare places count too). A statement '..UptoSaid' is the law's where the arguments, and the package variables that the reading takes, are together of bulk at most 1048576: NARROWER than '..Said'. Prove '..Said' where nothing that the law and all that it calls make is longer than what came in: it says more and counts as full. Else prove '..UptoSaid'. A law counts once. -/
mutual
def uptoBulk {H : Type} : DataW H → Nat
  | .lit (.string bytes) => bytes.length + 1
  | .lit _ => 1
  | .nil => 1
  | .ptr d => uptoBulk d + 1
  | .slice elems spare => uptoBulkAll elems + uptoBulkAll spare + 1
  | .agg parts => uptoBulkAll parts + 1
  | .iface _ d => uptoBulk d + 1
  | .map entries => uptoBulkEntries entries + 1
  | .held _ => 1
def uptoBulkAll {H : Type} : List (DataW H) → Nat
  | [] => 0
  | d :: r => uptoBulk d + uptoBulkAll r
def uptoBulkEntries {H : Type} : List (Lit × DataW H) → Nat
  | [] => 0
  | x :: r => uptoBulkEntry x + uptoBulkEntries r
def uptoBulkEntry {H : Type} : Lit × DataW H → Nat
  | (.string bytes, d) => bytes.length + uptoBulk d + 1
  | (_, d) => uptoBulk d + 1
 end
def uptoSmall : (H : Type) → List (DataW H) → Bool := fun _ ds => decide (uptoBulkAll ds ≤ 1048576)
def OpenSpec.upto (s : _root_.Go.ChangeSpec) : _root_.Go.OpenSpec := { _root_.Go.OpenSpec.ofChange s with cond := some uptoSmall }

/-- 'culvertlaw17.LaneRises', WHERE WHAT IT READS IS OF BULK AT MOST 1048576: true; the input reads as it did. -/
def laneRisesUptoRow : OpenClaim := { program := "ytmbopaemnlikkaa", sum := "9f9bf5ddc00e8d02abe4b92613089ca7ce2ae0cbf89554cadaa128b389d41a7c", func := "culvert/culvertlaw17.LaneRises", spec := "laneRises", unfollowed := true, recurses := true, apart := false, narrowed := true }
def LaneRisesUptoSaid : Prop := laneRisesUptoRow.holds Try.pinned (OpenSpec.upto laneRisesSpec)

/-- 'culvertlaw17.LaneNever', WHERE WHAT IT READS IS OF BULK AT MOST 1048576: true; the input reads as it did. -/
def laneNeverUptoRow : OpenClaim := { program := "ytmbopaemnlikkaa", sum := "9f9bf5ddc00e8d02abe4b92613089ca7ce2ae0cbf89554cadaa128b389d41a7c", func := "culvert/culvertlaw17.LaneNever", spec := "laneNever", unfollowed := true, recurses := true, apart := false, narrowed := true }
def LaneNeverUptoSaid : Prop := laneNeverUptoRow.holds Try.pinned (OpenSpec.upto laneNeverSpec)

/-- 'culvertlaw17.LaneCeils', WHERE WHAT IT READS IS OF BULK AT MOST 1048576: true; the input reads as it did. -/
def laneCeilsUptoRow : OpenClaim := { program := "ytmbopaemnlikkaa", sum := "9f9bf5ddc00e8d02abe4b92613089ca7ce2ae0cbf89554cadaa128b389d41a7c", func := "culvert/culvertlaw17.LaneCeils", spec := "laneCeils", unfollowed := true, recurses := true, apart := false, narrowed := true }
def LaneCeilsUptoSaid : Prop := laneCeilsUptoRow.holds Try.pinned (OpenSpec.upto laneCeilsSpec)

/-- 'culvertlaw17.LanePlace', WHERE WHAT IT READS IS OF BULK AT MOST 1048576: true; the input reads as it did. -/
def lanePlaceUptoRow : OpenClaim := { program := "ytmbopaemnlikkaa", sum := "9f9bf5ddc00e8d02abe4b92613089ca7ce2ae0cbf89554cadaa128b389d41a7c", func := "culvert/culvertlaw17.LanePlace", spec := "lanePlace", unfollowed := true, recurses := true, apart := false, narrowed := true }
def LanePlaceUptoSaid : Prop := lanePlaceUptoRow.holds Try.pinned (OpenSpec.upto lanePlaceSpec)

end Rows
end Go.Proofs.Ytmbopaemnlikkaa
