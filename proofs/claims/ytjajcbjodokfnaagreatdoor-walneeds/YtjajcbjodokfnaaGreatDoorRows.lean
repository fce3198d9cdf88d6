/-
  NARROWER THAN 'FOR EVERY INPUT', by the rows' own cells (each row's printed sentence says how): WalNeeds: laid · WalPlays: laid · WalOpens: laid · WalGreat: laid · WalBeside: laid · WalWhole: laid.
  DERIVED. THE GIVEN ROWS OF THIS SEAT. 6 by the template 'for every input the law returns true; each argument reads behind the call as it read before'; 0 by the template 'total and deterministic' (their statements: YtjajcbjodokfnaaGreatDoorTotals.lean).
  GIVEN WITH THE SEED: the statements are not yours to turn. If you find one false, say at which input.
  Laid BY PROGRAM, IN A SANDBOX (cutbox-rows.mjs): the forced cells as the released guide's own fill.sh prints them over the translation eb8e824f481c9ce5… (all of the seat's roots in one cut). By AI agents, Wed Nov 11 2026. No macro, syntax, notation, axiom, sorry.
-/
import Derived.Test.YtjajcbjodokfnaaGreatDoorChecked
import GoSem.Claim
import GoSem.ClaimJoined
import GoSem.ClaimMapViews
import Derived.JoinedTies
import Derived.KernelRfl
namespace Go.Proofs.YtjajcbjodokfnaaGreatDoor
/- THE CELL 'sum', in the pinned program and in every row, IS THE sha256 OF THE DUMP (.gsa) THAT YtjajcbjodokfnaaGreatDoorProg.lean LOADS. Nothing in Lean hashes anything: it is a label: what it is worth is what the hold of that sum in a sandbox is worth. -/
noncomputable def Tryz.pinned : Pinned := { name := "ytjajcbjodokfnaagreatdoor", sum := "eb8e824f481c9ce58e049bd8e8cc3e1eb6fcebb7671e24d6ef429a370f5aca10", checked := Tryz.checked }
namespace Rows
def none {H : Type} : Left H := { results := [], args := [] }

/- WHAT THE LISTED PACKAGE-LEVEL VARIABLES READ AS WHEN THE CALL BEGINS. Each datum BY PROGRAM (the guide's laid-datum.mjs) off the statement by which the dump's own 'gosem.cut.vars' lays the variable. In a bare row this is a premise. The card (YtjajcbjodokfnaaGreatDoorCards.lean) ties it to the program's text. -/
def laid_culvert_crc_fourSteps {H : Type} : DataW H := .agg [.lit (.int .u32 0), .lit (.int .u32 274646895), .lit (.int .u32 549293790), .lit (.int .u32 820201905), .lit (.int .u32 1098587580), .lit (.int .u32 1361435347), .lit (.int .u32 1640403810), .lit (.int .u32 1905808397), .lit (.int .u32 2197175160), .lit (.int .u32 2460548119), .lit (.int .u32 2722870694), .lit (.int .u32 2987750089), .lit (.int .u32 3280807620), .lit (.int .u32 3553878443), .lit (.int .u32 3811616794), .lit (.int .u32 4084100981)]

/-- 'culvertlaw12.WalNeeds': WHATEVER THE INPUT: true; the input reads as it did. -/
def walNeedsSpec : ChangeSpec := { name := "walNeeds", fn := fun _ => fun
  | [d] => { results := [.lit (.bool true)], args := [d] }
  | _ => none }
def walNeedsRow : OpenClaim := { program := "ytjajcbjodokfnaagreatdoor", sum := "eb8e824f481c9ce58e049bd8e8cc3e1eb6fcebb7671e24d6ef429a370f5aca10", func := "culvert/culvertlaw12.WalNeeds", spec := "walNeeds", unfollowed := true, recurses := true, named := ["culvert/crc.fourSteps"], apart := false, laid := [("culvert/crc.fourSteps", laid_culvert_crc_fourSteps)] }
def WalNeedsSaid : Prop := walNeedsRow.holds Tryz.pinned (OpenSpec.ofChange walNeedsSpec)

/-- ITS FALSE NEIGHBOUR: 'it returns false'. Refute it at one input. -/
def walNeedsWrong : ChangeSpec := { name := "walNeeds", fn := fun _ => fun
  | [d] => { results := [.lit (.bool false)], args := [d] }
  | _ => none }
def WalNeedsWrongFalsely : Prop := walNeedsRow.holds Tryz.pinned (OpenSpec.ofChange walNeedsWrong)

/-- 'culvertlaw12.WalPlays': WHATEVER THE INPUT: true; the input reads as it did. -/
def walPlaysSpec : ChangeSpec := { name := "walPlays", fn := fun _ => fun
  | [d1, d2] => { results := [.lit (.bool true)], args := [d1, d2] }
  | _ => none }
def walPlaysRow : OpenClaim := { program := "ytjajcbjodokfnaagreatdoor", sum := "eb8e824f481c9ce58e049bd8e8cc3e1eb6fcebb7671e24d6ef429a370f5aca10", func := "culvert/culvertlaw12.WalPlays", spec := "walPlays", unfollowed := true, recurses := true, named := ["culvert/crc.fourSteps"], apart := false, laid := [("culvert/crc.fourSteps", laid_culvert_crc_fourSteps)] }
def WalPlaysSaid : Prop := walPlaysRow.holds Tryz.pinned (OpenSpec.ofChange walPlaysSpec)

/-- ITS FALSE NEIGHBOUR: 'it returns false'. Refute it at one input. -/
def walPlaysWrong : ChangeSpec := { name := "walPlays", fn := fun _ => fun
  | [d1, d2] => { results := [.lit (.bool false)], args := [d1, d2] }
  | _ => none }
def WalPlaysWrongFalsely : Prop := walPlaysRow.holds Tryz.pinned (OpenSpec.ofChange walPlaysWrong)

/-- 'culvertlaw12.WalOpens': WHATEVER THE INPUT: true; the input reads as it did. -/
def walOpensSpec : ChangeSpec := { name := "walOpens", fn := fun _ => fun
  | [d1, d2, d3] => { results := [.lit (.bool true)], args := [d1, d2, d3] }
  | _ => none }
def walOpensRow : OpenClaim := { program := "ytjajcbjodokfnaagreatdoor", sum := "eb8e824f481c9ce58e049bd8e8cc3e1eb6fcebb7671e24d6ef429a370f5aca10", func := "culvert/culvertlaw12.WalOpens", spec := "walOpens", unfollowed := true, recurses := true, named := ["culvert/crc.fourSteps"], apart := false, laid := [("culvert/crc.fourSteps", laid_culvert_crc_fourSteps)] }
def WalOpensSaid : Prop := walOpensRow.holds Tryz.pinned (OpenSpec.ofChange walOpensSpec)

/-- ITS FALSE NEIGHBOUR: 'it returns false'. Refute it at one input. -/
def walOpensWrong : ChangeSpec := { name := "walOpens", fn := fun _ => fun
  | [d1, d2, d3] => { results := [.lit (.bool false)], args := [d1, d2, d3] }
  | _ => none }
def WalOpensWrongFalsely : Prop := walOpensRow.holds Tryz.pinned (OpenSpec.ofChange walOpensWrong)

/-- 'culvertlaw12.WalGreat': WHATEVER THE INPUT: true; the input reads as it did. -/
def walGreatSpec : ChangeSpec := { name := "walGreat", fn := fun _ => fun
  | [d1, d2, d3, d4, d5] => { results := [.lit (.bool true)], args := [d1, d2, d3, d4, d5] }
  | _ => none }
def walGreatRow : OpenClaim := { program := "ytjajcbjodokfnaagreatdoor", sum := "eb8e824f481c9ce58e049bd8e8cc3e1eb6fcebb7671e24d6ef429a370f5aca10", func := "culvert/culvertlaw12.WalGreat", spec := "walGreat", unfollowed := true, recurses := true, named := ["culvert/crc.fourSteps"], apart := false, laid := [("culvert/crc.fourSteps", laid_culvert_crc_fourSteps)] }
def WalGreatSaid : Prop := walGreatRow.holds Tryz.pinned (OpenSpec.ofChange walGreatSpec)

/-- ITS FALSE NEIGHBOUR: 'it returns false'. Refute it at one input. -/
def walGreatWrong : ChangeSpec := { name := "walGreat", fn := fun _ => fun
  | [d1, d2, d3, d4, d5] => { results := [.lit (.bool false)], args := [d1, d2, d3, d4, d5] }
  | _ => none }
def WalGreatWrongFalsely : Prop := walGreatRow.holds Tryz.pinned (OpenSpec.ofChange walGreatWrong)

/-- 'culvertlaw12.WalBeside': WHATEVER THE INPUT: true; the input reads as it did. -/
def walBesideSpec : ChangeSpec := { name := "walBeside", fn := fun _ => fun
  | [d1, d2, d3, d4, d5] => { results := [.lit (.bool true)], args := [d1, d2, d3, d4, d5] }
  | _ => none }
def walBesideRow : OpenClaim := { program := "ytjajcbjodokfnaagreatdoor", sum := "eb8e824f481c9ce58e049bd8e8cc3e1eb6fcebb7671e24d6ef429a370f5aca10", func := "culvert/culvertlaw12.WalBeside", spec := "walBeside", unfollowed := true, recurses := true, named := ["culvert/crc.fourSteps"], apart := false, laid := [("culvert/crc.fourSteps", laid_culvert_crc_fourSteps)] }
def WalBesideSaid : Prop := walBesideRow.holds Tryz.pinned (OpenSpec.ofChange walBesideSpec)

/-- ITS FALSE NEIGHBOUR: 'it returns false'. Refute it at one input. -/
def walBesideWrong : ChangeSpec := { name := "walBeside", fn := fun _ => fun
  | [d1, d2, d3, d4, d5] => { results := [.lit (.bool false)], args := [d1, d2, d3, d4, d5] }
  | _ => none }
def WalBesideWrongFalsely : Prop := walBesideRow.holds Tryz.pinned (OpenSpec.ofChange walBesideWrong)

/-- 'culvertlaw12.WalWhole': WHATEVER THE INPUT: true; the input reads as it did. -/
def walWholeSpec : ChangeSpec := { name := "walWhole", fn := fun _ => fun
  | [d1, d2] => { results := [.lit (.bool true)], args := [d1, d2] }
  | _ => none }
def walWholeRow : OpenClaim := { program := "ytjajcbjodokfnaagreatdoor", sum := "eb8e824f481c9ce58e049bd8e8cc3e1eb6fcebb7671e24d6ef429a370f5aca10", func := "culvert/culvertlaw12.WalWhole", spec := "walWhole", unfollowed := true, recurses := true, named := ["culvert/crc.fourSteps"], apart := false, laid := [("culvert/crc.fourSteps", laid_culvert_crc_fourSteps)] }
def WalWholeSaid : Prop := walWholeRow.holds Tryz.pinned (OpenSpec.ofChange walWholeSpec)

/-- ITS FALSE NEIGHBOUR: 'it returns false'. Refute it at one input. -/
def walWholeWrong : ChangeSpec := { name := "walWhole", fn := fun _ => fun
  | [d1, d2] => { results := [.lit (.bool false)], args := [d1, d2] }
  | _ => none }
def WalWholeWrongFalsely : Prop := walWholeRow.holds Tryz.pinned (OpenSpec.ofChange walWholeWrong)

/- THE SECOND FORM. 'bulk': how many values and letters a reading holds, each counted each time it is reached (what is shared counts as often as it is met; a slice's spare places count too). A statement '..UptoSaid' is the law's where the arguments, and the package variables that the reading takes, are together of bulk at most 1048576: NARROWER than '..Said'. Prove '..Said' where nothing that the law and all that it calls make is longer than what came in: it says more and counts as full. Else prove '..UptoSaid'. A law counts once. -/
mutual
def uptoBulk {H : Type} : DataW H → Nat
  | .lit (.string bytes) => bytes.length + 1
  | .lit _ => 1
  | .nil => 1
  | .ptr d => uptoBulk d + 1
  | .slice elems spare => uptoBulkAll elems + uptoBulkAll spare + 1
  | .agg parts => uptoBulkAll parts + 1
  | .iface _ d => uptoBulk d + 1
  | .map entries => uptoBulkEntries entries + 1
  | .held _ => 1
def uptoBulkAll {H : Type} : List (DataW H) → Nat
  | [] => 0
  | d :: r => uptoBulk d + uptoBulkAll r
def uptoBulkEntries {H : Type} : List (Lit × DataW H) → Nat
  | [] => 0
  | x :: r => uptoBulkEntry x + uptoBulkEntries r
def uptoBulkEntry {H : Type} : Lit × DataW H → Nat
  | (.string bytes, d) => bytes.length + uptoBulk d + 1
  | (_, d) => uptoBulk d + 1
 end
def uptoSmall : (H : Type) → List (DataW H) → Bool := fun _ ds => decide (uptoBulkAll ds ≤ 1048576)
def OpenSpec.upto (s : _root_.Go.ChangeSpec) : _root_.Go.OpenSpec := { _root_.Go.OpenSpec.ofChange s with cond := some uptoSmall }

/-- 'culvertlaw12.WalNeeds', WHERE WHAT IT READS IS OF BULK AT MOST 1048576: true; the input reads as it did. -/
def walNeedsUptoRow : OpenClaim := { program := "ytjajcbjodokfnaagreatdoor", sum := "eb8e824f481c9ce58e049bd8e8cc3e1eb6fcebb7671e24d6ef429a370f5aca10", func := "culvert/culvertlaw12.WalNeeds", spec := "walNeeds", unfollowed := true, recurses := true, named := ["culvert/crc.fourSteps"], apart := false, laid := [("culvert/crc.fourSteps", laid_culvert_crc_fourSteps)], narrowed := true }
def WalNeedsUptoSaid : Prop := walNeedsUptoRow.holds Tryz.pinned (OpenSpec.upto walNeedsSpec)

/-- 'culvertlaw12.WalPlays', WHERE WHAT IT READS IS OF BULK AT MOST 1048576: true; the input reads as it did. -/
def walPlaysUptoRow : OpenClaim := { program := "ytjajcbjodokfnaagreatdoor", sum := "eb8e824f481c9ce58e049bd8e8cc3e1eb6fcebb7671e24d6ef429a370f5aca10", func := "culvert/culvertlaw12.WalPlays", spec := "walPlays", unfollowed := true, recurses := true, named := ["culvert/crc.fourSteps"], apart := false, laid := [("culvert/crc.fourSteps", laid_culvert_crc_fourSteps)], narrowed := true }
def WalPlaysUptoSaid : Prop := walPlaysUptoRow.holds Tryz.pinned (OpenSpec.upto walPlaysSpec)

/-- 'culvertlaw12.WalOpens', WHERE WHAT IT READS IS OF BULK AT MOST 1048576: true; the input reads as it did. -/
def walOpensUptoRow : OpenClaim := { program := "ytjajcbjodokfnaagreatdoor", sum := "eb8e824f481c9ce58e049bd8e8cc3e1eb6fcebb7671e24d6ef429a370f5aca10", func := "culvert/culvertlaw12.WalOpens", spec := "walOpens", unfollowed := true, recurses := true, named := ["culvert/crc.fourSteps"], apart := false, laid := [("culvert/crc.fourSteps", laid_culvert_crc_fourSteps)], narrowed := true }
def WalOpensUptoSaid : Prop := walOpensUptoRow.holds Tryz.pinned (OpenSpec.upto walOpensSpec)

/-- 'culvertlaw12.WalGreat', WHERE WHAT IT READS IS OF BULK AT MOST 1048576: true; the input reads as it did. -/
def walGreatUptoRow : OpenClaim := { program := "ytjajcbjodokfnaagreatdoor", sum := "eb8e824f481c9ce58e049bd8e8cc3e1eb6fcebb7671e24d6ef429a370f5aca10", func := "culvert/culvertlaw12.WalGreat", spec := "walGreat", unfollowed := true, recurses := true, named := ["culvert/crc.fourSteps"], apart := false, laid := [("culvert/crc.fourSteps", laid_culvert_crc_fourSteps)], narrowed := true }
def WalGreatUptoSaid : Prop := walGreatUptoRow.holds Tryz.pinned (OpenSpec.upto walGreatSpec)

/-- 'culvertlaw12.WalBeside', WHERE WHAT IT READS IS OF BULK AT MOST 1048576: true; the input reads as it did. -/
def walBesideUptoRow : OpenClaim := { program := "ytjajcbjodokfnaagreatdoor", sum := "eb8e824f481c9ce58e049bd8e8cc3e1eb6fcebb7671e24d6ef429a370f5aca10", func := "culvert/culvertlaw12.WalBeside", spec := "walBeside", unfollowed := true, recurses := true, named := ["culvert/crc.fourSteps"], apart := false, laid := [("culvert/crc.fourSteps", laid_culvert_crc_fourSteps)], narrowed := true }
def WalBesideUptoSaid : Prop := walBesideUptoRow.holds Tryz.pinned (OpenSpec.upto walBesideSpec)

/-- 'culvertlaw12.WalWhole', WHERE WHAT IT READS IS OF BULK AT MOST 1048576: true; the input reads as it did. -/
def walWholeUptoRow : OpenClaim := { program := "ytjajcbjodokfnaagreatdoor", sum := "eb8e824f481c9ce58e049bd8e8cc3e1eb6fcebb7671e24d6ef429a370f5aca10", func := "culvert/culvertlaw12.WalWhole", spec := "walWhole", unfollowed := true, recurses := true, named := ["culvert/crc.fourSteps"], apart := false, laid := [("culvert/crc.fourSteps", laid_culvert_crc_fourSteps)], narrowed := true }
def WalWholeUptoSaid : Prop := walWholeUptoRow.holds Tryz.pinned (OpenSpec.upto walWholeSpec)

end Rows
end Go.Proofs.YtjajcbjodokfnaaGreatDoor
