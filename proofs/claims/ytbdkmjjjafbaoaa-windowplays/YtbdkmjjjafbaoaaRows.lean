/-
  No cell of these rows narrows 'for every input' (looked for: loops, veiled, ifaces, maps, wideKeys, modest, calm, conditions, laid).
  DERIVED. THE GIVEN ROWS OF THIS SEAT. 6 by the template 'for every input the law returns true; each argument reads behind the call as it read before'; 0 by the template 'total and deterministic' (their statements: YtbdkmjjjafbaoaaTotals.lean).
  GIVEN WITH THE SEED: the statements are not yours to turn. If you find one false, say at which input.
  Laid BY PROGRAM, IN A SANDBOX (cutbox-rows.mjs): the forced cells as the released guide's own fill.sh prints them over the translation 681910582ded7fd5… (all of the seat's roots in one cut). By AI agents, Wed Nov 11 2026. No macro, syntax, notation, axiom, sorry.
-/
import Derived.Test.YtbdkmjjjafbaoaaChecked
import GoSem.Claim
import GoSem.ClaimJoined
import GoSem.ClaimMapViews
import Derived.JoinedTies
import Derived.KernelRfl
namespace Go.Proofs.Ytbdkmjjjafbaoaa
/- THE CELL 'sum', in the pinned program and in every row, IS THE sha256 OF THE DUMP (.gsa) THAT YtbdkmjjjafbaoaaProg.lean LOADS. Nothing in Lean hashes anything: it is a label: what it is worth is what the hold of that sum in a sandbox is worth. -/
noncomputable def Try.pinned : Pinned := { name := "ytbdkmjjjafbaoaa", sum := "681910582ded7fd583f49b1ea99e99003a33cb477c7f7c5435766fbd38b137da", checked := Try.checked }
namespace Rows
def none {H : Type} : Left H := { results := [], args := [] }

/-- 'culvertlaw18.WindowPlays': WHATEVER THE INPUT: true; the input reads as it did. -/
def windowPlaysSpec : ChangeSpec := { name := "windowPlays", fn := fun _ => fun
  | [d1, d2, d3, d4, d5] => { results := [.lit (.bool true)], args := [d1, d2, d3, d4, d5] }
  | _ => none }
def windowPlaysRow : OpenClaim := { program := "ytbdkmjjjafbaoaa", sum := "681910582ded7fd583f49b1ea99e99003a33cb477c7f7c5435766fbd38b137da", func := "culvert/culvertlaw18.WindowPlays", spec := "windowPlays", apart := false }
def WindowPlaysSaid : Prop := windowPlaysRow.holds Try.pinned (OpenSpec.ofChange windowPlaysSpec)

/-- ITS FALSE NEIGHBOUR: 'it returns false'. Refute it at one input. -/
def windowPlaysWrong : ChangeSpec := { name := "windowPlays", fn := fun _ => fun
  | [d1, d2, d3, d4, d5] => { results := [.lit (.bool false)], args := [d1, d2, d3, d4, d5] }
  | _ => none }
def WindowPlaysWrongFalsely : Prop := windowPlaysRow.holds Try.pinned (OpenSpec.ofChange windowPlaysWrong)

/-- 'culvertlaw18.WindowNews': WHATEVER THE INPUT: true; the input reads as it did. -/
def windowNewsSpec : ChangeSpec := { name := "windowNews", fn := fun _ => fun
  | [d1, d2] => { results := [.lit (.bool true)], args := [d1, d2] }
  | _ => none }
def windowNewsRow : OpenClaim := { program := "ytbdkmjjjafbaoaa", sum := "681910582ded7fd583f49b1ea99e99003a33cb477c7f7c5435766fbd38b137da", func := "culvert/culvertlaw18.WindowNews", spec := "windowNews", apart := false }
def WindowNewsSaid : Prop := windowNewsRow.holds Try.pinned (OpenSpec.ofChange windowNewsSpec)

/-- ITS FALSE NEIGHBOUR: 'it returns false'. Refute it at one input. -/
def windowNewsWrong : ChangeSpec := { name := "windowNews", fn := fun _ => fun
  | [d1, d2] => { results := [.lit (.bool false)], args := [d1, d2] }
  | _ => none }
def WindowNewsWrongFalsely : Prop := windowNewsRow.holds Try.pinned (OpenSpec.ofChange windowNewsWrong)

/-- 'culvertlaw18.WindowMany': WHATEVER THE INPUT: true; the input reads as it did. -/
def windowManySpec : ChangeSpec := { name := "windowMany", fn := fun _ => fun
  | [d1, d2, d3] => { results := [.lit (.bool true)], args := [d1, d2, d3] }
  | _ => none }
def windowManyRow : OpenClaim := { program := "ytbdkmjjjafbaoaa", sum := "681910582ded7fd583f49b1ea99e99003a33cb477c7f7c5435766fbd38b137da", func := "culvert/culvertlaw18.WindowMany", spec := "windowMany", apart := false }
def WindowManySaid : Prop := windowManyRow.holds Try.pinned (OpenSpec.ofChange windowManySpec)

/-- ITS FALSE NEIGHBOUR: 'it returns false'. Refute it at one input. -/
def windowManyWrong : ChangeSpec := { name := "windowMany", fn := fun _ => fun
  | [d1, d2, d3] => { results := [.lit (.bool false)], args := [d1, d2, d3] }
  | _ => none }
def WindowManyWrongFalsely : Prop := windowManyRow.holds Try.pinned (OpenSpec.ofChange windowManyWrong)

/-- 'culvertlaw18.WindowOnce': WHATEVER THE INPUT: true; the input reads as it did. -/
def windowOnceSpec : ChangeSpec := { name := "windowOnce", fn := fun _ => fun
  | [d1, d2, d3] => { results := [.lit (.bool true)], args := [d1, d2, d3] }
  | _ => none }
def windowOnceRow : OpenClaim := { program := "ytbdkmjjjafbaoaa", sum := "681910582ded7fd583f49b1ea99e99003a33cb477c7f7c5435766fbd38b137da", func := "culvert/culvertlaw18.WindowOnce", spec := "windowOnce", apart := false }
def WindowOnceSaid : Prop := windowOnceRow.holds Try.pinned (OpenSpec.ofChange windowOnceSpec)

/-- ITS FALSE NEIGHBOUR: 'it returns false'. Refute it at one input. -/
def windowOnceWrong : ChangeSpec := { name := "windowOnce", fn := fun _ => fun
  | [d1, d2, d3] => { results := [.lit (.bool false)], args := [d1, d2, d3] }
  | _ => none }
def WindowOnceWrongFalsely : Prop := windowOnceRow.holds Try.pinned (OpenSpec.ofChange windowOnceWrong)

/-- 'culvertlaw18.WindowReach': WHATEVER THE INPUT: true; the input reads as it did. -/
def windowReachSpec : ChangeSpec := { name := "windowReach", fn := fun _ => fun
  | [d1, d2, d3, d4] => { results := [.lit (.bool true)], args := [d1, d2, d3, d4] }
  | _ => none }
def windowReachRow : OpenClaim := { program := "ytbdkmjjjafbaoaa", sum := "681910582ded7fd583f49b1ea99e99003a33cb477c7f7c5435766fbd38b137da", func := "culvert/culvertlaw18.WindowReach", spec := "windowReach", apart := false }
def WindowReachSaid : Prop := windowReachRow.holds Try.pinned (OpenSpec.ofChange windowReachSpec)

/-- ITS FALSE NEIGHBOUR: 'it returns false'. Refute it at one input. -/
def windowReachWrong : ChangeSpec := { name := "windowReach", fn := fun _ => fun
  | [d1, d2, d3, d4] => { results := [.lit (.bool false)], args := [d1, d2, d3, d4] }
  | _ => none }
def WindowReachWrongFalsely : Prop := windowReachRow.holds Try.pinned (OpenSpec.ofChange windowReachWrong)

/-- 'culvertlaw18.WindowOrder': WHATEVER THE INPUT: true; the input reads as it did. -/
def windowOrderSpec : ChangeSpec := { name := "windowOrder", fn := fun _ => fun
  | [d1, d2, d3, d4] => { results := [.lit (.bool true)], args := [d1, d2, d3, d4] }
  | _ => none }
def windowOrderRow : OpenClaim := { program := "ytbdkmjjjafbaoaa", sum := "681910582ded7fd583f49b1ea99e99003a33cb477c7f7c5435766fbd38b137da", func := "culvert/culvertlaw18.WindowOrder", spec := "windowOrder", apart := false }
def WindowOrderSaid : Prop := windowOrderRow.holds Try.pinned (OpenSpec.ofChange windowOrderSpec)

/-- ITS FALSE NEIGHBOUR: 'it returns false'. Refute it at one input. -/
def windowOrderWrong : ChangeSpec := { name := "windowOrder", fn := fun _ => fun
  | [d1, d2, d3, d4] => { results := [.lit (.bool false)], args := [d1, d2, d3, d4] }
  | _ => none }
def WindowOrderWrongFalsely : Prop := windowOrderRow.holds Try.pinned (OpenSpec.ofChange windowOrderWrong)

/- THE SECOND FORM. 'bulk': how many values and letters a reading holds, each counted each time it is reached (what is shared counts as often as it is met; a slice's spare places count too). A statement '..UptoSaid' is the law's where the arguments, and the package variables that the reading takes, are together of bulk at most 1048576: NARROWER than '..Said'. Prove '..Said' where nothing that the law and all that it calls make is longer than what came in: it says more and counts as full. Else prove '..UptoSaid'. A law counts once. -/
mutual
def uptoBulk {H : Type} : DataW H → Nat
  | .lit (.string bytes) => bytes.length + 1
  | .lit _ => 1
  | .nil => 1
  | .ptr d => uptoBulk d + 1
  | .slice elems spare => uptoBulkAll elems + uptoBulkAll spare + 1
  | .agg parts => uptoBulkAll parts + 1
  | .iface _ d => uptoBulk d + 1
  | .map entries => uptoBulkEntries entries + 1
  | .held _ => 1
def uptoBulkAll {H : Type} : List (DataW H) → Nat
  | [] => 0
  | d :: r => uptoBulk d + uptoBulkAll r
def uptoBulkEntries {H : Type} : List (Lit × DataW H) → Nat
  | [] => 0
  | x :: r => uptoBulkEntry x + uptoBulkEntries r
def uptoBulkEntry {H : Type} : Lit × DataW H → Nat
  | (.string bytes, d) => bytes.length + uptoBulk d + 1
  | (_, d) => uptoBulk d + 1
 end
def uptoSmall : (H : Type) → List (DataW H) → Bool := fun _ ds => decide (uptoBulkAll ds ≤ 1048576)
def OpenSpec.upto (s : _root_.Go.ChangeSpec) : _root_.Go.OpenSpec := { _root_.Go.OpenSpec.ofChange s with cond := some uptoSmall }

/-- 'culvertlaw18.WindowPlays', WHERE WHAT IT READS IS OF BULK AT MOST 1048576: true; the input reads as it did. -/
def windowPlaysUptoRow : OpenClaim := { program := "ytbdkmjjjafbaoaa", sum := "681910582ded7fd583f49b1ea99e99003a33cb477c7f7c5435766fbd38b137da", func := "culvert/culvertlaw18.WindowPlays", spec := "windowPlays", apart := false, narrowed := true }
def WindowPlaysUptoSaid : Prop := windowPlaysUptoRow.holds Try.pinned (OpenSpec.upto windowPlaysSpec)

/-- 'culvertlaw18.WindowNews', WHERE WHAT IT READS IS OF BULK AT MOST 1048576: true; the input reads as it did. -/
def windowNewsUptoRow : OpenClaim := { program := "ytbdkmjjjafbaoaa", sum := "681910582ded7fd583f49b1ea99e99003a33cb477c7f7c5435766fbd38b137da", func := "culvert/culvertlaw18.WindowNews", spec := "windowNews", apart := false, narrowed := true }
def WindowNewsUptoSaid : Prop := windowNewsUptoRow.holds Try.pinned (OpenSpec.upto windowNewsSpec)

/-- 'culvertlaw18.WindowMany', WHERE WHAT IT READS IS OF BULK AT MOST 1048576: true; the input reads as it did. -/
def windowManyUptoRow : OpenClaim := { program := "ytbdkmjjjafbaoaa", sum := "681910582ded7fd583f49b1ea99e99003a33cb477c7f7c5435766fbd38b137da", func := "culvert/culvertlaw18.WindowMany", spec := "windowMany", apart := false, narrowed := true }
def WindowManyUptoSaid : Prop := windowManyUptoRow.holds Try.pinned (OpenSpec.upto windowManySpec)

/-- 'culvertlaw18.WindowOnce', WHERE WHAT IT READS IS OF BULK AT MOST 1048576: true; the input reads as it did. -/
def windowOnceUptoRow : OpenClaim := { program := "ytbdkmjjjafbaoaa", sum := "681910582ded7fd583f49b1ea99e99003a33cb477c7f7c5435766fbd38b137da", func := "culvert/culvertlaw18.WindowOnce", spec := "windowOnce", apart := false, narrowed := true }
def WindowOnceUptoSaid : Prop := windowOnceUptoRow.holds Try.pinned (OpenSpec.upto windowOnceSpec)

/-- 'culvertlaw18.WindowReach', WHERE WHAT IT READS IS OF BULK AT MOST 1048576: true; the input reads as it did. -/
def windowReachUptoRow : OpenClaim := { program := "ytbdkmjjjafbaoaa", sum := "681910582ded7fd583f49b1ea99e99003a33cb477c7f7c5435766fbd38b137da", func := "culvert/culvertlaw18.WindowReach", spec := "windowReach", apart := false, narrowed := true }
def WindowReachUptoSaid : Prop := windowReachUptoRow.holds Try.pinned (OpenSpec.upto windowReachSpec)

/-- 'culvertlaw18.WindowOrder', WHERE WHAT IT READS IS OF BULK AT MOST 1048576: true; the input reads as it did. -/
def windowOrderUptoRow : OpenClaim := { program := "ytbdkmjjjafbaoaa", sum := "681910582ded7fd583f49b1ea99e99003a33cb477c7f7c5435766fbd38b137da", func := "culvert/culvertlaw18.WindowOrder", spec := "windowOrder", apart := false, narrowed := true }
def WindowOrderUptoSaid : Prop := windowOrderUptoRow.holds Try.pinned (OpenSpec.upto windowOrderSpec)

end Rows
end Go.Proofs.Ytbdkmjjjafbaoaa
