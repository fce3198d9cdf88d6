import Derived.Test.YtkeogggeefnoeaaGreatDoorF1
import Derived.Test.YtkeogggeefnoeaaGreatDoorPH
import Derived.Test.YtkeogggeefnoeaaGreatDoorCards
import Derived.Test.YtkeogggeefnoeaaGreatDoorTie
import Derived.WalkKit
import Derived.ProofKit
import Derived.OpenShut
import Derived.Below
import Derived.Deep.DeepHandedRow
import Derived.Lib.LaidTab
import Derived.Stop.LaidErr
import Derived.SizedLaws
namespace Go.Proofs.YtkeogggeefnoeaaGreatDoor.scriptFault
set_option maxRecDepth 100000
open Go.ChangeShapes Go.WideShapes Go.ChangeAt Go.RowKit
set_option linter.unusedVariables false

theorem own : ownKnob Tryz.prog.godebug = none := by kernel_rfl
theorem laidOut : laidOutB Tryz.prog = true := by kernel_rfl
theorem gT : Tryz.prog.globalNamed "internal/strconv.uint64pow10" = some 3 := by kernel_rfl
theorem gTType : (Tryz.prog.globals[3]?).map (·.type) = some 159 := by kernel_rfl
theorem gB : Tryz.prog.globalNamed "math/bits.deBruijn64tab" = some 6 := by kernel_rfl
theorem gBType : (Tryz.prog.globals[6]?).map (·.type) = some 206 := by kernel_rfl
theorem gE : Tryz.prog.globalNamed "strconv.ErrSyntax" = some 7 := by kernel_rfl
theorem gR : Tryz.prog.globalNamed "strconv.ErrRange" = some 8 := by kernel_rfl
theorem gEType : (Tryz.prog.globals[7]?).map (·.type) = some 143 := by kernel_rfl
theorem gRType : (Tryz.prog.globals[8]?).map (·.type) = some 143 := by kernel_rfl
theorem star : "*" ++ "errors.errorString" = "*errors.errorString" := by decide
theorem oneName (u : TypeId) (h : Tryz.prog.typeName? 3 u = some "*errors.errorString") : u = 220 :=
  typeName_ptr_named (nm := "errors.errorString") (by rw [star]; kernel_rfl) (by kernel_rfl) (by decide) u (by rw [star]; exact h)
def nums : List (DataW Unit) → List Int
  | .lit (.int _ z) :: r => z :: nums r
  | _ :: r => nums r
  | [] => []
def numsOf : DataW Unit → List Int
  | .agg l => nums l
  | _ => []
theorem gC : Tryz.prog.globalNamed "culvert/script.changes" = some 4 := by kernel_rfl
theorem gS : Tryz.prog.globalNamed "culvert/script.steps" = some 0 := by kernel_rfl
theorem gF : Tryz.prog.globalNamed "culvert/script.faults" = some 1 := by kernel_rfl
theorem gCType : (Tryz.prog.globals[4]?).map (·.type) = some 173 := by kernel_rfl
theorem gSType : (Tryz.prog.globals[0]?).map (·.type) = some 78 := by kernel_rfl
theorem gFType : (Tryz.prog.globals[1]?).map (·.type) = some 123 := by kernel_rfl
theorem tq_of {W : World} (hL : laidMet Tryz.prog Rows.scriptFaultRow.laid W) : Tq W := by
  have h0 : laidMet Tryz.prog [("math/bits.deBruijn64tab", Lib.tabData .u8 (numsOf Rows.laid_math_bits_deBruijn64tab)), ("internal/strconv.uint64pow10", Lib.tabData .u64 Lib.pow10Tab), ("strconv.ErrRange", Rows.laid_strconv_ErrRange), ("strconv.ErrSyntax", Rows.laid_strconv_ErrSyntax), ("culvert/script.steps", .agg (partsOf Rows.laid_culvert_script_steps)), ("culvert/script.changes", .agg (partsOf Rows.laid_culvert_script_changes)), ("culvert/script.faults", .agg (partsOf Rows.laid_culvert_script_faults))] W := hL.tail
  have b0 := Lib.tabIs_of_head (n := 64) (e := 5) gB gBType (by kernel_rfl) (by kernel_rfl) (by kernel_rfl) (by kernel_rfl) h0
  have h1 := h0.tail
  have t0 := Lib.tabIs_of_head (n := 20) (e := 64) gT gTType (by kernel_rfl) (by kernel_rfl) (by kernel_rfl) (by kernel_rfl) h1
  have h2 := h1.tail
  have h3 := h2.tail
  have h4 := h3.tail
  have h5 := h4.tail
  have h6 := h5.tail
  obtain ⟨a1, s1, r1, _⟩ := laid_sentinel h2 gR gRType Tryz.underlying143 oneName Tryz.underlying220 Tryz.underlying222 rfl rfl Tryz.underlying9 (by kernel_rfl) (by kernel_rfl)
  obtain ⟨a2, s2, r2, _⟩ := laid_sentinel h3 gE gEType Tryz.underlying143 oneName Tryz.underlying220 Tryz.underlying222 rfl rfl Tryz.underlying9 (by kernel_rfl) (by kernel_rfl)
  have hst := arr_head (n := 15) (s := 2) (e := 77) (g := pairOf) gS gSType (by kernel_rfl) (by kernel_rfl) (by kernel_rfl) (fun fuel cs d p h => pair_of Tryz.underlying77 rfl rfl rfl rfl Tryz.underlying9 (by kernel_rfl) (by kernel_rfl) h) h4
  have hch := arr_head (n := 6) (s := 2) (e := 77) (g := pairOf) gC gCType (by kernel_rfl) (by kernel_rfl) (by kernel_rfl) (fun fuel cs d p h => pair_of Tryz.underlying77 rfl rfl rfl rfl Tryz.underlying9 (by kernel_rfl) (by kernel_rfl) h) h5
  have hfl := arr_head (n := 3) (s := 1) (e := 9) (g := strOf) gF gFType (by kernel_rfl) (by kernel_rfl) (by kernel_rfl) (fun fuel cs d p h => str_of Tryz.underlying9 h) h6
  refine ⟨⟨t0, ⟨_, _, r2⟩, ⟨_, _, r1⟩, ⟨_, b0, ?_⟩⟩, hch.trans (by kernel_rfl), hst.trans (by kernel_rfl), hfl.trans (by kernel_rfl)⟩
  kernel_rfl

theorem walk (l0 : List Nat) (l1 : List Nat) (w : World) (hT : Tq w) (w0 : (∀ x ∈ l0, x < 256) ∧ l0.length ≤ maxLen) (s0 : l0.length ≤ 140737488351232) (w1 : (∀ x ∈ l1, x < 256) ∧ l1.length ≤ maxLen) (s1 : l1.length ≤ 140737488351232) :
    Calls Tryz.prog 6 #[.string (sb l0), .string (sb l1)] w fun e w' => e = .returned (.bool true) ∧ Below w.heap.size w w' :=
  scriptFault_ l0 l1 w0.1 w1.1 (by omega) (by omega) w hT

set_option maxRecDepth 100000 in
theorem contract (H : Type) (enc : TypeId × Value → H) (W : World) (base : Nat) (args : Array Value) (ds gs : List (DataW H)) (before : List MemPlace)
    (hval0 : ∀ (j : Nat) t v, Tryz.f6.params[j]? = some t → args[j]? = some v → Value.okWide Tryz.prog W .any base t v)
    (hW : DataW.Whole enc Tryz.prog Tryz.f6.params.toList Rows.scriptFaultSpec.vars false W args.toList ds gs before)
    (hsz : (DataW.weightsEach Tryz.prog (Tryz.f6.params.toList ++ (OpenSpec.ofChange Rows.scriptFaultSpec).bare.plain.varTypes Tryz.prog) (ds ++ gs)).all (· ≤ reachBytes) = true)
    (hL : laidMet Tryz.prog Rows.scriptFaultRow.laid W) :
    Calls Tryz.prog 6 args W fun e W' => ∃ v, e = .returned v ∧ Rows.scriptFaultSpec.post enc Tryz.prog Tryz.f6 false true false false W args v W' := by
  have hval : ∀ (j : Nat) t v, Tryz.f6.params[j]? = some t → args[j]? = some v → Value.okWide Tryz.prog W .any base t v := hval0
  have hW' := hW
  obtain ⟨p, q, hA0, hV, rfl, hfz, hnd⟩ := hW
  have hA : DataW.TrodAll enc Tryz.prog W 0 (fun _ => true) true Tryz.f6.params.toList args.toList ds p := hA0
  rw [Tryz.params6] at hA hval hsz
  obtain ⟨v0, vs0, d0, ds0, p0, q0, hargs, rfl, rfl, h0, r0⟩ := trodAll_cons hA
  obtain ⟨v1, vs1, d1, ds1, p1, q1, rfl, rfl, rfl, h1, r1⟩ := trodAll_cons r0
  obtain ⟨rfl, rfl, rfl⟩ := trodAll_nil r1
  obtain rfl : args = #[v0, v1] := by cases args; simp_all
  obtain ⟨rfl, rfl⟩ := trodVars_none hV
  obtain ⟨s0', rfl, rfl, rfl, u0⟩ := Go.ChangeMaps.open_string Tryz.underlying9 (hval 0 9 v0 rfl rfl) h0
  have g0 := sized_string hsz (j := 0) (t := 9) (by rfl) (by rfl)
  obtain ⟨l0, w0, rfl⟩ := of_sb s0' u0
  have s0 : l0.length ≤ 140737488351232 := by
    have hr : reachBytes = 140737488351232 := by decide
    rw [size_data, sb_size] at g0
    omega
  obtain ⟨s1', rfl, rfl, rfl, u1⟩ := Go.ChangeMaps.open_string Tryz.underlying9 (hval 1 9 v1 rfl rfl) h1
  have g1 := sized_string hsz (j := 1) (t := 9) (by rfl) (by rfl)
  obtain ⟨l1, w1, rfl⟩ := of_sb s1' u1
  have s1 : l1.length ≤ 140737488351232 := by
    have hr : reachBytes = 140737488351232 := by decide
    rw [size_data, sb_size] at g1
    omega
  clear hA0 hval0
  refine (walk l0 l1 W (tq_of hL) w0 s0 w1 s1).mono fun e W' ⟨he, bel⟩ => ?_
  subst he
  exact ⟨_, rfl, _, _, _, [], _, [], hW', trodAll_mk1 (shut_bool Tryz.underlying4 _), (trodAll_cons_mk (Go.ChangeMaps.shut_string Tryz.underlying9 u0) (trodAll_cons_mk (Go.ChangeMaps.shut_string Tryz.underlying9 u1) trodAll_mk0)), rfl, bel.frame _, fun h => by cases h⟩

/-- A world for the witness: the settled one, the tables holding what their initialisers lay, the two errors pointing at texts behind it. -/
noncomputable def lay (W : World) (b : Nat) (k : IntKind) (zs : List Int) : World :=
  { W with heap := W.heap.modify b fun
      | .cells _ t frozen => .cells (zs.map (Value.int k)).toArray t frozen
      | o => o }
noncomputable def layT (W : World) (b : Nat) (vs : List Value) : World :=
  { W with heap := W.heap.modify b fun
      | .cells _ t frozen => .cells vs.toArray t frozen
      | o => o }
noncomputable def point (W : World) (b : Nat) (p : Nat) : World :=
  { W with heap := W.heap.modify b fun
      | .cells _ t frozen => .cells #[.iface 220 (.pointer (some ⟨p, 0, none⟩))] t frozen
      | o => o }
def textOf : DataW Unit → ByteArray
  | .iface _ (.ptr (.agg [.lit (.string s)])) => ⟨s.toArray⟩
  | _ => ⟨#[]⟩
noncomputable def low : Nat := (World.holding Tryz.prog default ⟨#[], #[], []⟩).heap.size
noncomputable def laidWorld (os : Os) : World := layT (layT (layT (point (point (lay (lay (lay (World.holding Tryz.prog os ⟨#[.cells #[.string (textOf Rows.laid_strconv_ErrRange)] 222, .cells #[.string (textOf Rows.laid_strconv_ErrSyntax)] 222], #[], []⟩) 5 .u8 (numsOf Rows.laid_math_bits_deBruijn32tab)) 6 .u8 (numsOf Rows.laid_math_bits_deBruijn64tab)) 3 .u64 Lib.pow10Tab) 8 low) 7 (low + 1)) 0 ((partsOf Rows.laid_culvert_script_steps).flatMap pairOf)) 4 ((partsOf Rows.laid_culvert_script_changes).flatMap pairOf)) 1 ((partsOf Rows.laid_culvert_script_faults).flatMap strOf)
theorem laid_met (os : Os) : laidMet Tryz.prog Rows.scriptFaultRow.laid ((laidWorld os).forCall (fun _ _ => 0) ⟨#[], #[Value.string ⟨#[]⟩, .string ⟨#[]⟩], []⟩).memory :=
  laidMet_of_run' 8 (by kernel_rfl) (by kernel_rfl)
theorem reads (os : Os) {H : Type} (enc : TypeId × Value → H) : ∃ places, DataW.whole enc Tryz.prog ((laidWorld os).forCall (fun _ _ => 0) ⟨#[], #[Value.string ⟨#[]⟩, .string ⟨#[]⟩], []⟩).memory Tryz.f6.params.toList Rows.scriptFaultSpec.vars false (#[Value.string ⟨#[]⟩, .string ⟨#[]⟩] : Array Value).toList 8 = some ([.lit (.string []), .lit (.string [])], [], places) :=
  ⟨[], by kernel_rfl⟩

set_option maxRecDepth 100000 in
theorem lifted (os : Os) (started : os.Started) (H : Type) (enc : TypeId × Value → H) (F : Stop.Interp) :
    ReturnsInHanded {} Tryz.checked os 6 .any ((OpenSpec.ofChange Rows.scriptFaultSpec).preRow enc Tryz.prog Tryz.f6 Rows.scriptFaultRow.domain false Rows.scriptFaultRow.laid) (((OpenSpec.ofChange Rows.scriptFaultSpec).at F).post enc Tryz.prog Tryz.f6 false true false false) := by
  obtain ⟨places, hx⟩ := reads os enc
  refine returnsInHanded_of_row (C := Tryz.checked) (s := OpenSpec.ofChange Rows.scriptFaultSpec) own started (by kernel_rfl) Tryz.func6
    (witness_row_at (enc := enc) (C := Tryz.checked) false (laidWorld os) #[Value.string ⟨#[]⟩, .string ⟨#[]⟩] rfl (by kernel_rfl) (by kernel_rfl) (by kernel_rfl)
      (OpenSpec.preRow_of_cond 8 hx (by kernel_rfl) (fun k hk => by cases hk) (by kernel_rfl) (laid_met os))) ?_
  intro W base args ds gs before hval hW _ _ hsz hL _ _
  exact contract H enc W base args ds gs before hval hW hsz hL

theorem said : Rows.ScriptFaultSaid :=
  OpenClaim.holds_of_cond 6 Tryz.f6 rfl rfl rfl rfl rfl rfl rfl ⟨rfl, rfl, rfl, rfl, rfl⟩ rfl rfl rfl rfl rfl (by kernel_rfl) Tryz.func6 (by kernel_rfl)
    (of_decide_eq_true (by kernel_rfl)) (by unfold Func.isWrapper; first | (rw [if_pos (by decide +kernel)]; kernel_rfl) | (rw [if_neg (by decide +kernel)]; exact ⟨rfl, rfl⟩))
    (fun os started H enc _ F => by rw [OpenClaim.pre_eq_preRow]; exact lifted os started H enc F)

theorem plain (f : FuncId) (fn : Func) (hf : Tryz.pinned.checked.prog.funcNamed "culvert/culvertlaw22.ScriptFault" = some f) (hfn : Tryz.pinned.checked.prog.funcs[f]? = some fn) :
    true = Tryz.pinned.checked.prog.looks [] ∧ ∀ (j : Nat) t, fn.params[j]? = some t → Tryz.pinned.checked.prog.wantsStandIn t = false := by
  obtain rfl : f = 6 := Option.some.inj ((show Tryz.prog.funcNamed "culvert/culvertlaw22.ScriptFault" = some 6 by kernel_rfl).symm.trans hf) |>.symm
  obtain rfl : fn = Tryz.f6 := (Option.some.inj (Tryz.func6.symm.trans hfn)).symm
  refine ⟨by kernel_rfl, fun j t ht => ?_⟩
  rw [Tryz.params6] at ht
  have ht' : t = 9 := by simpa using Array.mem_of_getElem? ht
  subst ht'
  exact (show Tryz.prog.wantsStandIn 9 = false by kernel_rfl)

theorem card : Rows.ScriptFaultCardSaid :=
  Claim7.holds_tied_plain_at .later [] _ _ _ _ said (fun _ h => by cases h) (by kernel_rfl) (fun _ h => by cases h) scriptFault_row_tie rfl ⟨rfl, rfl⟩ (by kernel_rfl) rfl plain (by kernel_rfl)
end Go.Proofs.YtkeogggeefnoeaaGreatDoor.scriptFault
namespace Go.Proofs.YtkeogggeefnoeaaGreatDoor
set_option linter.unusedSimpArgs false
theorem scriptFault_holds : Rows.ScriptFaultCardSaid := scriptFault.card
#print axioms scriptFault_holds
end Go.Proofs.YtkeogggeefnoeaaGreatDoor
