/-
  No cell of these rows narrows 'for every input' (looked for: loops, veiled, ifaces, maps, wideKeys, modest, calm, conditions, laid).
  DERIVED. THE GIVEN ROWS OF THIS SEAT. 5 by the template 'for every input the law returns true; each argument reads behind the call as it read before'; 0 by the template 'total and deterministic' (their statements: YtcaecfdeieoenaaTotals.lean).
  GIVEN WITH THE SEED: the statements are not yours to turn. If you find one false, say at which input.
  Laid BY PROGRAM, IN A SANDBOX (cutbox-rows.mjs): the forced cells as the released guide's own fill.sh prints them over the translation 92d7416a3da01ad0… (all of the seat's roots in one cut). By AI agents, Wed Nov 11 2026. No macro, syntax, notation, axiom, sorry.
-/
import Derived.Test.YtcaecfdeieoenaaChecked
import GoSem.Claim
import GoSem.ClaimJoined
import GoSem.ClaimMapViews
import Derived.JoinedTies
import Derived.KernelRfl
namespace Go.Proofs.Ytcaecfdeieoenaa
/- THE CELL 'sum', in the pinned program and in every row, IS THE sha256 OF THE DUMP (.gsa) THAT YtcaecfdeieoenaaProg.lean LOADS. Nothing in Lean hashes anything: it is a label: what it is worth is what the hold of that sum in a sandbox is worth. -/
noncomputable def Try.pinned : Pinned := { name := "ytcaecfdeieoenaa", sum := "92d7416a3da01ad0d444160cc429ca7f1aa3324a88813a3cf2bfff83b7cd9507", checked := Try.checked }
namespace Rows
def none {H : Type} : Left H := { results := [], args := [] }

/-- 'culvertlaw8.RoutePlays': WHATEVER THE INPUT: true; the input reads as it did. -/
def routePlaysSpec : ChangeSpec := { name := "routePlays", fn := fun _ => fun
  | [d] => { results := [.lit (.bool true)], args := [d] }
  | _ => none }
def routePlaysRow : OpenClaim := { program := "ytcaecfdeieoenaa", sum := "92d7416a3da01ad0d444160cc429ca7f1aa3324a88813a3cf2bfff83b7cd9507", func := "culvert/culvertlaw8.RoutePlays", spec := "routePlays", unfollowed := true, recurses := true, apart := false }
def RoutePlaysSaid : Prop := routePlaysRow.holds Try.pinned (OpenSpec.ofChange routePlaysSpec)

/-- ITS FALSE NEIGHBOUR: 'it returns false'. Refute it at one input. -/
def routePlaysWrong : ChangeSpec := { name := "routePlays", fn := fun _ => fun
  | [d] => { results := [.lit (.bool false)], args := [d] }
  | _ => none }
def RoutePlaysWrongFalsely : Prop := routePlaysRow.holds Try.pinned (OpenSpec.ofChange routePlaysWrong)

/-- 'culvertlaw8.RouteFlat': WHATEVER THE INPUT: true; the input reads as it did. -/
def routeFlatSpec : ChangeSpec := { name := "routeFlat", fn := fun _ => fun
  | [d1, d2] => { results := [.lit (.bool true)], args := [d1, d2] }
  | _ => none }
def routeFlatRow : OpenClaim := { program := "ytcaecfdeieoenaa", sum := "92d7416a3da01ad0d444160cc429ca7f1aa3324a88813a3cf2bfff83b7cd9507", func := "culvert/culvertlaw8.RouteFlat", spec := "routeFlat", unfollowed := true, recurses := true, apart := false }
def RouteFlatSaid : Prop := routeFlatRow.holds Try.pinned (OpenSpec.ofChange routeFlatSpec)

/-- ITS FALSE NEIGHBOUR: 'it returns false'. Refute it at one input. -/
def routeFlatWrong : ChangeSpec := { name := "routeFlat", fn := fun _ => fun
  | [d1, d2] => { results := [.lit (.bool false)], args := [d1, d2] }
  | _ => none }
def RouteFlatWrongFalsely : Prop := routeFlatRow.holds Try.pinned (OpenSpec.ofChange routeFlatWrong)

/-- 'culvertlaw8.RouteOrderless': WHATEVER THE INPUT: true; the input reads as it did. -/
def routeOrderlessSpec : ChangeSpec := { name := "routeOrderless", fn := fun _ => fun
  | [d1, d2] => { results := [.lit (.bool true)], args := [d1, d2] }
  | _ => none }
def routeOrderlessRow : OpenClaim := { program := "ytcaecfdeieoenaa", sum := "92d7416a3da01ad0d444160cc429ca7f1aa3324a88813a3cf2bfff83b7cd9507", func := "culvert/culvertlaw8.RouteOrderless", spec := "routeOrderless", unfollowed := true, recurses := true, apart := false }
def RouteOrderlessSaid : Prop := routeOrderlessRow.holds Try.pinned (OpenSpec.ofChange routeOrderlessSpec)

/-- ITS FALSE NEIGHBOUR: 'it returns false'. Refute it at one input. -/
def routeOrderlessWrong : ChangeSpec := { name := "routeOrderless", fn := fun _ => fun
  | [d1, d2] => { results := [.lit (.bool false)], args := [d1, d2] }
  | _ => none }
def RouteOrderlessWrongFalsely : Prop := routeOrderlessRow.holds Try.pinned (OpenSpec.ofChange routeOrderlessWrong)

/-- 'culvertlaw8.RouteTurns': WHATEVER THE INPUT: true; the input reads as it did. -/
def routeTurnsSpec : ChangeSpec := { name := "routeTurns", fn := fun _ => fun
  | [d1, d2, d3, d4] => { results := [.lit (.bool true)], args := [d1, d2, d3, d4] }
  | _ => none }
def routeTurnsRow : OpenClaim := { program := "ytcaecfdeieoenaa", sum := "92d7416a3da01ad0d444160cc429ca7f1aa3324a88813a3cf2bfff83b7cd9507", func := "culvert/culvertlaw8.RouteTurns", spec := "routeTurns", unfollowed := true, recurses := true, apart := false }
def RouteTurnsSaid : Prop := routeTurnsRow.holds Try.pinned (OpenSpec.ofChange routeTurnsSpec)

/-- ITS FALSE NEIGHBOUR: 'it returns false'. Refute it at one input. -/
def routeTurnsWrong : ChangeSpec := { name := "routeTurns", fn := fun _ => fun
  | [d1, d2, d3, d4] => { results := [.lit (.bool false)], args := [d1, d2, d3, d4] }
  | _ => none }
def RouteTurnsWrongFalsely : Prop := routeTurnsRow.holds Try.pinned (OpenSpec.ofChange routeTurnsWrong)

/-- 'culvertlaw8.RouteNew': WHATEVER THE INPUT: true; the input reads as it did. -/
def routeNewSpec : ChangeSpec := { name := "routeNew", fn := fun _ => fun
  | [d] => { results := [.lit (.bool true)], args := [d] }
  | _ => none }
def routeNewRow : OpenClaim := { program := "ytcaecfdeieoenaa", sum := "92d7416a3da01ad0d444160cc429ca7f1aa3324a88813a3cf2bfff83b7cd9507", func := "culvert/culvertlaw8.RouteNew", spec := "routeNew", unfollowed := true, recurses := true, apart := false }
def RouteNewSaid : Prop := routeNewRow.holds Try.pinned (OpenSpec.ofChange routeNewSpec)

/-- ITS FALSE NEIGHBOUR: 'it returns false'. Refute it at one input. -/
def routeNewWrong : ChangeSpec := { name := "routeNew", fn := fun _ => fun
  | [d] => { results := [.lit (.bool false)], args := [d] }
  | _ => none }
def RouteNewWrongFalsely : Prop := routeNewRow.holds Try.pinned (OpenSpec.ofChange routeNewWrong)

/- THE SECOND FORM. 'bulk': how many values and letters a reading holds, each counted each time it is reached (what is shared counts as often as it is met; a slice's spare places count too). A statement '..UptoSaid' is the law's where the arguments, and the package variables that the reading takes, are together of bulk at most 1048576: NARROWER than '..Said'. Prove '..Said' where nothing that the law and all that it calls make is longer than what came in: it says more and counts as full. Else prove '..UptoSaid'. A law counts once. -/
mutual
def uptoBulk {H : Type} : DataW H → Nat
  | .lit (.string bytes) => bytes.length + 1
  | .lit _ => 1
  | .nil => 1
  | .ptr d => uptoBulk d + 1
  | .slice elems spare => uptoBulkAll elems + uptoBulkAll spare + 1
  | .agg parts => uptoBulkAll parts + 1
  | .iface _ d => uptoBulk d + 1
  | .map entries => uptoBulkEntries entries + 1
  | .held _ => 1
def uptoBulkAll {H : Type} : List (DataW H) → Nat
  | [] => 0
  | d :: r => uptoBulk d + uptoBulkAll r
def uptoBulkEntries {H : Type} : List (Lit × DataW H) → Nat
  | [] => 0
  | x :: r => uptoBulkEntry x + uptoBulkEntries r
def uptoBulkEntry {H : Type} : Lit × DataW H → Nat
  | (.string bytes, d) => bytes.length + uptoBulk d + 1
  | (_, d) => uptoBulk d + 1
 end
def uptoSmall : (H : Type) → List (DataW H) → Bool := fun _ ds => decide (uptoBulkAll ds ≤ 1048576)
def OpenSpec.upto (s : _root_.Go.ChangeSpec) : _root_.Go.OpenSpec := { _root_.Go.OpenSpec.ofChange s with cond := some uptoSmall }

/-- 'culvertlaw8.RoutePlays', WHERE WHAT IT READS IS OF BULK AT MOST 1048576: true; the input reads as it did. -/
def routePlaysUptoRow : OpenClaim := { program := "ytcaecfdeieoenaa", sum := "92d7416a3da01ad0d444160cc429ca7f1aa3324a88813a3cf2bfff83b7cd9507", func := "culvert/culvertlaw8.RoutePlays", spec := "routePlays", unfollowed := true, recurses := true, apart := false, narrowed := true }
def RoutePlaysUptoSaid : Prop := routePlaysUptoRow.holds Try.pinned (OpenSpec.upto routePlaysSpec)

/-- 'culvertlaw8.RouteFlat', WHERE WHAT IT READS IS OF BULK AT MOST 1048576: true; the input reads as it did. -/
def routeFlatUptoRow : OpenClaim := { program := "ytcaecfdeieoenaa", sum := "92d7416a3da01ad0d444160cc429ca7f1aa3324a88813a3cf2bfff83b7cd9507", func := "culvert/culvertlaw8.RouteFlat", spec := "routeFlat", unfollowed := true, recurses := true, apart := false, narrowed := true }
def RouteFlatUptoSaid : Prop := routeFlatUptoRow.holds Try.pinned (OpenSpec.upto routeFlatSpec)

/-- 'culvertlaw8.RouteOrderless', WHERE WHAT IT READS IS OF BULK AT MOST 1048576: true; the input reads as it did. -/
def routeOrderlessUptoRow : OpenClaim := { program := "ytcaecfdeieoenaa", sum := "92d7416a3da01ad0d444160cc429ca7f1aa3324a88813a3cf2bfff83b7cd9507", func := "culvert/culvertlaw8.RouteOrderless", spec := "routeOrderless", unfollowed := true, recurses := true, apart := false, narrowed := true }
def RouteOrderlessUptoSaid : Prop := routeOrderlessUptoRow.holds Try.pinned (OpenSpec.upto routeOrderlessSpec)

/-- 'culvertlaw8.RouteTurns', WHERE WHAT IT READS IS OF BULK AT MOST 1048576: true; the input reads as it did. -/
def routeTurnsUptoRow : OpenClaim := { program := "ytcaecfdeieoenaa", sum := "92d7416a3da01ad0d444160cc429ca7f1aa3324a88813a3cf2bfff83b7cd9507", func := "culvert/culvertlaw8.RouteTurns", spec := "routeTurns", unfollowed := true, recurses := true, apart := false, narrowed := true }
def RouteTurnsUptoSaid : Prop := routeTurnsUptoRow.holds Try.pinned (OpenSpec.upto routeTurnsSpec)

/-- 'culvertlaw8.RouteNew', WHERE WHAT IT READS IS OF BULK AT MOST 1048576: true; the input reads as it did. -/
def routeNewUptoRow : OpenClaim := { program := "ytcaecfdeieoenaa", sum := "92d7416a3da01ad0d444160cc429ca7f1aa3324a88813a3cf2bfff83b7cd9507", func := "culvert/culvertlaw8.RouteNew", spec := "routeNew", unfollowed := true, recurses := true, apart := false, narrowed := true }
def RouteNewUptoSaid : Prop := routeNewUptoRow.holds Try.pinned (OpenSpec.upto routeNewSpec)

end Rows
end Go.Proofs.Ytcaecfdeieoenaa
