import Derived.Test.YteeapmcpbmjpmaaGreatTM
import Derived.RangeFuncFrom
import Derived.RangeFuncNested
import Derived.RangeFuncBound
import Derived.RangeFuncCalls
import Derived.RangeFuncLeaves
import Derived.Shelf.Abstract
import Derived.Shelf.RegionOpen
import Derived.WalkKit
import Derived.OwnWalkIn
import Derived.TacticsInMore
import Derived.LoopNIn
import Derived.LoopIn
import Derived.OrdersIn
import Derived.OrdersHeld
import Derived.Deep.RegionHeld
namespace Go.Proofs.YteeapmcpbmjpmaaGreat
set_option maxRecDepth 100000
open Go.RowKit Go.Shelf Go.Maps
set_option linter.unusedVariables false

/-- What All has gathered, in memory. -/
structure Gd (w : World) (V : Nat → Prop) (gl : Nat) (a : Option Addr) (n c : Nat) (M : Tab) : Prop where
  cell : w.heap[gl]? = some (.cells #[.slice a n c] 28 (0, 0))
  rl : Rl w V a n M
  own : V gl
theorem Gd.step {w w' : World} {V : Nat → Prop} {gl : Nat} {a : Option Addr} {n c : Nat} {M : Tab} (h : Gd w V gl a n c M) (hk : ∀ x, x < w.heap.size → V x → (∀ es cl, w.heap[x]? ≠ some (.map es cl)) → w'.heap[x]? = w.heap[x]?) : Gd w' V gl a n c M :=
  ⟨(hk gl (Array.getElem?_eq_some_iff.1 h.cell).1 h.own (fun es cl e => by rw [h.cell] at e; cases e)).trans h.cell, h.rl.step hk, h.own⟩
theorem Gd.below {w w' : World} {V : Nat → Prop} {gl : Nat} {a : Option Addr} {n c : Nat} {M : Tab} (h : Gd w V gl a n c M) (hg : Below w.heap.size w w') : Gd w' V gl a n c M := h.step fun x hx _ _ => hg.block x hx
theorem Gd.lt {w : World} {V : Nat → Prop} {gl : Nat} {a : Option Addr} {n c : Nat} {M : Tab} (h : Gd w V gl a n c M) : gl < w.heap.size := (Array.getElem?_eq_some_iff.1 h.cell).1
def allF (gl : Nat) : Value := .func (.func 61) #[] #[.pointer (some ⟨gl, 0, none⟩)]
set_option maxHeartbeats 1000000 in
theorem all_ (t b : Nat) (V : Nat → Prop) (M : Tab) (w : World) (h : Tw w t b V M) (hML : M.length ≤ 1000000000) :
    Calls Tryz.prog 42 #[.pointer (some ⟨t, 0, none⟩)] w fun e w' => ∃ gl a n c, n = M.length ∧ e = .returned (allF gl) ∧ Gd w' (fun x => V x ∨ w.heap.size ≤ x) gl a n c M ∧ w.heap.size ≤ gl ∧ Below w.heap.size w w' := by
  have ct := h.tbl.cell
  have k1 := fun wx (hM : Mp wx b V M) => inOrder_ b V M wx hM h.tok hML
  have HT := hid h
  clear h
  unfold allF
  go_enter Tryz.func42, Tryz.ntmps42
  go_wp2_with fail
  refine (k1 _ HT.out.mp).mono ?_
  rintro e w1 ⟨a, n, c, hn, rfl, hrl, hnc, hcm, hnil, g1⟩
  have HRL := hid hrl
  have HG1 := hid g1
  have HN := hid hn
  clear k1 hrl g1 ct hn hnc hcm hnil
  go_wp2_with fail
  go_ret
  have hnw := heap_alloc_new w1 (.cells #[.slice a n c] 28)
  have B2 := HG1.out.alloc HG1.out.size (.cells #[.slice a n c] 28)
  have hR2 := HRL.out.below ((Below.refl w1.heap.size w1).alloc (Nat.le_refl _) (.cells #[.slice a n c] 28))
  have hgd : Gd (w1.alloc (.cells #[.slice a n c] 28)) (fun x => V x ∨ w.heap.size ≤ x) w1.heap.size a n c M := ⟨hnw, hR2, .inr HG1.out.size⟩
  first | exact ⟨w1.heap.size, a, n, c, HN.out, rfl, hgd, HG1.out.size, B2⟩ | exact ⟨w1.heap.size, rfl, a, n, HN.out, c, hgd, HG1.out.size, B2⟩ | exact ⟨w1.heap.size, n, HN.out, rfl, a, c, hgd, HG1.out.size, B2⟩ | exact ⟨w1.heap.size, rfl, a, n, c, HN.out, hgd, HG1.out.size, B2⟩
theorem Rl.at {w : World} {V : Nat → Prop} {a : Option Addr} {n k : Nat} {l : Tab} (h : Rl w V a n l) (hk : k < n) : ∃ b off ka kc va vc kn vn, a = some ⟨b, off, none⟩ ∧ kn = (l.getD k ([], [])).1.length ∧ vn = (l.getD k ([], [])).2.length ∧ w.cell? ⟨b, off + k * 2, none⟩ = some (.slice ka kn kc) ∧ w.cell? ⟨b, off + k * 2 + 1, none⟩ = some (.slice va vn vc) ∧ Vs w V ka kn kc (l.getD k ([], [])).1 ∧ Vs w V va vn vc (l.getD k ([], [])).2 := by
  rcases h.cells with h0 | ⟨b, off, e, hb, hc⟩
  · omega
  · obtain ⟨ka, kc, va, vc, h1, h2, h4, h5⟩ := hc k hk
    exact ⟨b, off, ka, kc, va, vc, _, _, e, rfl, rfl, h1, h2, h4, h5⟩
theorem tab_mem {M : Tab} {k : Nat} (hk : k < M.length) : M.getD k ([], []) ∈ M := by simp [List.getD, hk]
/-- What a yield is asked. -/
def Yld (g : Nat) (cb : Array Value) (M : Tab) (I Fi : Nat → World → Prop) : Prop :=
  ∀ (j : Nat) (w1 w2 : World) (B B2 : Nat) (kv vv : Value), j < M.length → I j w1 → Below w1.heap.size w1 w2 → w1.heap.size < B → w2.ownsRow B 5 1 kv (M.getD j ([], [])).1.length (cells (M.getD j ([], [])).1) → B ≤ B2 → (∀ q, kv.ownBlock = some q → q < B2) → w2.ownsRow B2 5 1 vv (M.getD j ([], [])).2.length (cells (M.getD j ([], [])).2) →
    Calls Tryz.prog g (#[kv, vv] ++ cb) w2 fun e w3 => w3.heap[w1.heap.size]? = w2.heap[w1.heap.size]? ∧ ∃ t : Bool, e = .returned (.bool t) ∧ (t = true → I (j + 1) w3) ∧ (t = false → Fi (j + 1) w3)
set_option maxHeartbeats 1000000 in
theorem all1_ (gl g : Nat) (cb : Array Value) (a : Option Addr) (n c : Nat) (V : Nat → Prop) (M : Tab) (hT : Tok M) (I Fi : Nat → World → Prop) (hn : n = M.length) (hnm : n ≤ 1000000000)
    (hI : ∀ j w, I j w → Gd w V gl a n c M) (hB : ∀ j w w', I j w → Below w.heap.size w w' → I j w') (hy : Yld g cb M I Fi) (eg : ∀ args w, (callFunc g args).run Tryz.prog w = .ok (.enter g args) w) (w : World) (h0 : I 0 w) :
    Calls Tryz.prog 61 #[.func (.func g) #[] cb, .pointer (some ⟨gl, 0, none⟩)] w fun e w' => e = .returned (.tuple #[]) ∧ (I n w' ∨ ∃ j, j < n ∧ Fi (j + 1) w') := by
  have H0 := hid h0
  have c0 : w.cell? ⟨gl, 0, none⟩ = some (.slice a n c) := by rw [cell_of_row w gl 0 _ 28 (0, 0) (hI 0 w h0).cell]; rfl
  have HI := hid hI
  have HBB := hid hB
  have HY := hid hy
  have HN := hid hn
  have HT := hid hT
  clear h0 hI hB hy hn hT
  go_enter Tryz.func61, Tryz.ntmps61
  go_wp2_with fail
  go_loopw [7] (fun i wr => ∃ j : Nat, j ≤ n ∧ i = .int .i64 j ∧ Hid (I j wr)) (fun i _ => n - (intOf i).toNat)
  case atStart => exact ⟨0, by omega, rfl, H0⟩
  case round =>
    obtain ⟨j, hj, rfl, HJ⟩ := hrel
    by_cases hlt : j < n
    · have hIl : (j : Int) < n := by omega
      obtain ⟨bl, off, ka, kc, va, vc, kn, vn, rfl, hkn, hvn, c1, c2, v1, v2⟩ := (HI.out j wr HJ.out).rl.at hlt
      have hm := tab_mem (M := M) (k := j) (by rw [← HN.out]; exact hlt)
      have hkl : kn ≤ 40 := by rw [hkn]; exact (HT.out.key _ hm).2.2
      have hvl : vn ≤ 480 := by rw [hvn]; exact (HT.out.val _ hm).2
      obtain ⟨o, HOB⟩ : ∃ o, Hid (Obj.cells #[.slice ka kn kc, .slice va vn vc] 55 = o) := ⟨_, rfl⟩
      have BA : Below wr.heap.size wr (wr.alloc o).drew := ((Below.refl wr.heap.size wr).alloc (Nat.le_refl _) o).trans ⟨rfl, rfl, rfl, Nat.le_refl _, fun _ _ => rfl⟩
      have HBA := hid BA
      have hnw : (wr.alloc o).drew.heap[wr.heap.size]? = some o := heap_alloc_new wr o
      have HNW := hid hnw
      have hsz : (wr.alloc o).drew.heap.size = wr.heap.size + 1 := by show (wr.alloc o).heap.size = _; simp
      have HSZ := hid hsz
      have V1 := hid v1
      have V2 := hid v2
      obtain ⟨K, HK⟩ : ∃ K, Hid ((M.getD j ([], [])).1 = K) := ⟨_, rfl⟩
      obtain ⟨U, HU⟩ : ∃ U, Hid ((M.getD j ([], [])).2 = U) := ⟨_, rfl⟩
      have hy := HY.out j wr
      rw [HK.out] at hkn V1 hy
      rw [HU.out] at hvn V2 hy
      rw [← hkn, ← hvn] at hy
      have HY2 := hid hy
      have kk := fun wx (h1 : Bs wx ka kn K) => bclone_ ka kn kc K wx h1 V1.out.nil V1.out.nc (by omega)
      have kv := fun wx (h1 : Bs wx va vn U) => bclone_ va vn vc U wx h1 V2.out.nil V2.out.nc (by omega)
      have hcc := fun {wx : World} (h : wx.heap[wr.heap.size]? = some o) => (show wx.cell? ⟨wr.heap.size, 0, none⟩ = some (.slice ka kn kc) ∧ wx.cell? ⟨wr.heap.size, 1, none⟩ = some (.slice va vn vc) from by rw [← HOB.out] at h; exact ⟨by rw [cell_of_row wx wr.heap.size 0 _ 55 (0, 0) h]; rfl, by rw [cell_of_row wx wr.heap.size 1 _ 55 (0, 0) h]; rfl⟩)
      rw [← HOB.out] at HBA HNW HSZ
      clear v1 v2 hkn hvn hm BA hnw hsz hy
      go_wp2_with fail
      go_region_held (fun wx => wx.cell? ⟨wr.heap.size, 0, none⟩ = some (.slice ka kn kc) ∧ wx.cell? ⟨wr.heap.size, 1, none⟩ = some (.slice va vn vc)) (go_keep) (first
        | (go_at_call 41; have HQ := G1; refine (kv _ (by exact (V2.out.bs.below HBA.out).below HQ.out)).mono ?_; rintro e w3 ⟨vv, rfl, o3, g3⟩; have HN3 := hid ((g3.block wr.heap.size (Array.getElem?_eq_some_iff.1 HN2.out).1).trans HN2.out); have y3 := (hcc (HOB.out ▸ HN3.out)).1; have y4 := (hcc (HOB.out ▸ HN3.out)).2; have O3 := hid o3; have HBW2 : Hid (Below wr.heap.size wr w3) := (HBA.out.trans ⟨HQ.out.os, HQ.out.tape, HQ.out.output, HQ.out.size, fun x hx => HQ.out.block x (by rw [HSZ.out]; omega)⟩).trans ⟨g3.os, g3.tape, g3.output, g3.size, fun x hx => g3.block x (by have := HQ.out.size; rw [HSZ.out] at this; omega)⟩; have HOK := hid (own_bel O2.out g3); rw [HSZ.out] at HOK; have HBB2 : Hid (wr.heap.size + 1 ≤ w2.heap.size) := (by have := HQ.out.size; rw [HSZ.out] at this; exact this); have HKL : Hid (∀ q, kv1.ownBlock = some q → q < w2.heap.size) := (fun q e => (O2.out.lt q e).2); clear o3 g3 y1 y2 O2 HQ G1)
        | (go_at_call 41; refine (kk _ (by exact V1.out.bs.below HBA.out)).mono ?_; rintro e w2 ⟨kv1, rfl, o2, g2⟩; have HN2 := hid ((g2.block wr.heap.size (by rw [HSZ.out]; omega)).trans HNW.out); have y1 := (hcc (HOB.out ▸ HN2.out)).1; have y2 := (hcc (HOB.out ▸ HN2.out)).2; have O2 := hid o2; have G1 := hid g2; clear o2 g2)
        | (go_at_fn g; refine (HY2.out w3 (wr.heap.size + 1) w2.heap.size kv1 vv (by rw [← HN.out]; exact hlt) HJ.out (HBW2.out) (Nat.lt_succ_self _) (HOK.out) (HBB2.out) (HKL.out) O3.out).mono ?_; rintro e w4 ⟨hq4, t, rfl, hp4⟩; have z1 := (hcc (HOB.out ▸ (hq4.trans HN3.out))).1; have z2 := (hcc (HOB.out ▸ (hq4.trans HN3.out))).2; have HP := hid hp4; clear hp4 hq4 y3 y4))
      cases t with
      | true =>
        have HI4 := hid (HP.out.1 rfl)
        go_wp2_with fail
        go_roundw
        case rel => exact ⟨j + 1, by omega, by go_num, HI4⟩
        case measure => simp [intOf]; omega
      | false =>
        have HI4 := hid (HP.out.2 rfl)
        go_wp2_with fail
        refine bodyPost_ret (results_none rfl _ _ _) rfl ?_
        exact ⟨rfl, .inr ⟨j, hlt, HI4.out⟩⟩
    · have hIl : ¬ (j : Int) < n := by omega
      obtain rfl : j = n := by omega
      go_wp2_with fail
      go_end0
      exact ⟨rfl, .inl HJ.out⟩
end Go.Proofs.YteeapmcpbmjpmaaGreat
namespace Go.Proofs.YteeapmcpbmjpmaaGreat
set_option maxRecDepth 100000
open Go.RowKit Go.Shelf
set_option linter.unusedVariables false

/-! A region that draws its order, inside a fence that lets all by (in a round of a loop over a function, or in none). -/
section
variable {P : Program} {ops : Array Oper} {Q : Exit → Act → World → Prop} {lp n : Nat}
theorem rows_w {row : String} {args : Array Value} {w : World} {R : Value → World → Prop} (h : Rows P row args w R) : RowsIn Fence.wide n P row args w R :=
  fun b cs _ => let ⟨v, w', r, s⟩ := h b cs; ⟨v, w', r, stepsIn_wide.2 s⟩
theorem rows_r {row : String} {args : Array Value} {w : World} {R : Value → World → Prop} (h : Rows P row args w R) : RowsIn (Fence.wide.inRound lp) n P row args w R :=
  fun b cs _ => let ⟨v, w', r, s⟩ := h b cs; ⟨v, w', r, stepsIn_wide.2 s⟩
theorem calls_w {f : FuncId} {args : Array Value} {w : World} {R : Ending → World → Prop} (h : Calls P f args w R) : CallsIn Fence.wide n P f args w R := callsIn_wide.2 h
theorem calls_r {f : FuncId} {args : Array Value} {w : World} {R : Ending → World → Prop} (h : Calls P f args w R) : CallsIn (Fence.wide.inRound lp) n P f args w R := CallsIn.inRound lp (callsIn_wide.2 h)
theorem upon_w {o : Oper} {a : Act} {K K' : Act → World → Prop} {r : Result Next} (hK : ∀ a w, K a w → K' a w) (h : Oper.upon P o a K Q r) : Oper.uponIn Fence.wide n P o a K' Q r := by
  cases r with
  | ok x w' =>
    cases x with
    | value v => exact hK _ _ h
    | skip => exact hK _ _ h
    | defer d => exact hK _ _ h
    | enter f args =>
      refine ⟨fun hh => by simp [Fence.wide] at hh, calls_w (Calls.mono h (fun e w'' he => ?_))⟩
      cases e with
      | returned v => exact hK _ _ he
      | panicked c => exact he
      | outgrown => exact he
    | row row args => exact ⟨fun hh => by simp [Fence.wide] at hh, RowsIn.mono (rows_w h) (fun v w'' he => hK _ _ he)⟩
    | _ => exact h.elim
  | halt x w' => cases x <;> first | exact h | exact h.elim
theorem op_w (hQ : LetsOut Q → False) (hd : ∀ (i : Nat) (o : Oper), ops[i]? = some o → ∀ c, o.op ≠ .defer c) {i : Nat} {a : Act} {w : World} {K K' : Act → World → Prop} (hK : ∀ a w, K a w → K' a w) (h : wpOp P ops Q i K a w) : wpOpIn Fence.wide n P ops Q i K' a w := by
  unfold wpOp at h
  unfold wpOpIn
  cases ho : ops[i]? with
  | none => rw [ho] at h; exact hK _ _ h
  | some o =>
    rw [ho] at h
    simp only at h ⊢
    by_cases hw : Region.wanted o (yielded ops a.tmps) = true
    · rw [if_pos hw] at h ⊢
      refine ⟨fun _ _ => trivial, ?_⟩
      rw [Oper.semAt_eq _ _ _ (hd i o ho)]
      rcases h with h | h
      · exact upon_w hK h
      · exact (hQ h.2).elim
    · rw [if_neg hw] at h ⊢
      exact ⟨fun _ _ => trivial, hK _ _ h⟩
theorem any_w (hQ : LetsOut Q → False) (hd : ∀ (i : Nat) (o : Oper), ops[i]? = some o → ∀ c, o.op ≠ .defer c) {md : Region.Mode} : ∀ (fuel : Nat) (listed : Array Bool) (a : Act) (w : World), wpAny P md ops Q fuel listed a w → wpAnyIn Fence.wide n P md ops Q fuel listed a w
  | 0, _, _, _, h => h
  | fuel + 1, listed, a, w, h => ⟨h.1, fun i hi => op_w hQ hd (fun a w hk => any_w hQ hd fuel _ a w hk) (h.2 i hi)⟩
theorem ofAny_w {id : Nat} {a : Act} {w : World} {l : List Oper} (hm : P.follows .mixedOrders = true) (hQ : LetsOut Q → False) (hd : ∀ o ∈ l, ∀ c, o.op ≠ .defer c)
    (h : wpAny P .any l.toArray Q l.toArray.size (Array.replicate l.toArray.size false) a { w with drawn := w.drawn + 1 }) : (Code.region id l.toArray true).wpIn Fence.wide n P Q a w :=
  wpIn_region_any hm (any_w hQ (fun i o ho => hd o (by
    have : l[i]? = some o := by simpa using ho
    exact List.mem_of_getElem? this)) _ _ _ _ h)
/-- All only read: one walk serves. -/
theorem quiet_w {C : World → Prop} {id : Nat} {a : Act} {w : World} {l : List Oper} (hm : P.follows .mixedOrders = true) (hQ : LetsOut Q → False) (hd : ∀ o ∈ l, ∀ c, o.op ≠ .defer c) (hB : Region.lexB .any l.toArray = true)
    (hC : C { w with drawn := w.drawn + 1 }) (h : wpQuiet P l.toArray C (fun a' => ∀ w', C w' → Q .normal a' w') l a) : (Code.region id l.toArray true).wpIn Fence.wide n P Q a w := by
  simp only [Region.lexB, Bool.and_eq_true] at hB
  refine ofAny_w hm hQ hd (wpAny_of_quiet (Q := fun a' => ∀ w', C w' → Q .normal a' w') (fun _ w' hw' h => h w' hw') _ _ _ _ hC ?_)
  have := wpAnyQ_lex (C := C) (md := .any) hB.1 l 0 (Array.replicate l.toArray.size false) a (by simp) (by simpa using hB.2) h
  simpa using this
/-- The walk in which loads may be taken first. -/
theorem held_w {S : World → Prop} {id : Nat} {a : Act} {w : World} {l : List Oper} (hm : P.follows .mixedOrders = true) (hQ : LetsOut Q → False) (hd : ∀ o ∈ l, ∀ c, o.op ≠ .defer c)
    (hS : S { w with drawn := w.drawn + 1 }) (h : S { w with drawn := w.drawn + 1 } → wpAnyH P .any l.toArray Q S l.toArray.size (Array.replicate l.toArray.size false) a { w with drawn := w.drawn + 1 }) : (Code.region id l.toArray true).wpIn Fence.wide n P Q a w :=
  ofAny_w hm hQ hd (wpAny_of_held _ _ _ _ (h hS))
theorem upon_r {o : Oper} {a : Act} {K K' : Act → World → Prop} {r : Result Next} (hK : ∀ a w, K a w → K' a w) (h : Oper.upon P o a K Q r) : Oper.uponIn (lp|>Fence.wide.inRound) n P o a K' Q r := by
  cases r with
  | ok x w' =>
    cases x with
    | value v => exact hK _ _ h
    | skip => exact hK _ _ h
    | defer d => exact hK _ _ h
    | enter f args =>
      refine ⟨fun hh => by simp [Fence.wide] at hh, calls_r (Calls.mono h (fun e w'' he => ?_))⟩
      cases e with
      | returned v => exact hK _ _ he
      | panicked c => exact he
      | outgrown => exact he
    | row row args => exact ⟨fun hh => by simp [Fence.wide] at hh, RowsIn.mono (rows_r h) (fun v w'' he => hK _ _ he)⟩
    | _ => exact h.elim
  | halt x w' => cases x <;> first | exact h | exact h.elim
theorem op_r (hQ : LetsOut Q → False) (hd : ∀ (i : Nat) (o : Oper), ops[i]? = some o → ∀ c, o.op ≠ .defer c) {i : Nat} {a : Act} {w : World} {K K' : Act → World → Prop} (hK : ∀ a w, K a w → K' a w) (h : wpOp P ops Q i K a w) : wpOpIn (lp|>Fence.wide.inRound) n P ops Q i K' a w := by
  unfold wpOp at h
  unfold wpOpIn
  cases ho : ops[i]? with
  | none => rw [ho] at h; exact hK _ _ h
  | some o =>
    rw [ho] at h
    simp only at h ⊢
    by_cases hw : Region.wanted o (yielded ops a.tmps) = true
    · rw [if_pos hw] at h ⊢
      refine ⟨fun _ _ => trivial, ?_⟩
      rw [Oper.semAt_eq _ _ _ (hd i o ho)]
      rcases h with h | h
      · exact upon_r hK h
      · exact (hQ h.2).elim
    · rw [if_neg hw] at h ⊢
      exact ⟨fun _ _ => trivial, hK _ _ h⟩
theorem any_r (hQ : LetsOut Q → False) (hd : ∀ (i : Nat) (o : Oper), ops[i]? = some o → ∀ c, o.op ≠ .defer c) {md : Region.Mode} : ∀ (fuel : Nat) (listed : Array Bool) (a : Act) (w : World), wpAny P md ops Q fuel listed a w → wpAnyIn (lp|>Fence.wide.inRound) n P md ops Q fuel listed a w
  | 0, _, _, _, h => h
  | fuel + 1, listed, a, w, h => ⟨h.1, fun i hi => op_r hQ hd (fun a w hk => any_r hQ hd fuel _ a w hk) (h.2 i hi)⟩
theorem ofAny_r {id : Nat} {a : Act} {w : World} {l : List Oper} (hm : P.follows .mixedOrders = true) (hQ : LetsOut Q → False) (hd : ∀ o ∈ l, ∀ c, o.op ≠ .defer c)
    (h : wpAny P .any l.toArray Q l.toArray.size (Array.replicate l.toArray.size false) a { w with drawn := w.drawn + 1 }) : (Code.region id l.toArray true).wpIn (lp|>Fence.wide.inRound) n P Q a w :=
  wpIn_region_any hm (any_r hQ (fun i o ho => hd o (by
    have : l[i]? = some o := by simpa using ho
    exact List.mem_of_getElem? this)) _ _ _ _ h)
/-- All only read: one walk serves. -/
theorem quiet_r {C : World → Prop} {id : Nat} {a : Act} {w : World} {l : List Oper} (hm : P.follows .mixedOrders = true) (hQ : LetsOut Q → False) (hd : ∀ o ∈ l, ∀ c, o.op ≠ .defer c) (hB : Region.lexB .any l.toArray = true)
    (hC : C { w with drawn := w.drawn + 1 }) (h : wpQuiet P l.toArray C (fun a' => ∀ w', C w' → Q .normal a' w') l a) : (Code.region id l.toArray true).wpIn (lp|>Fence.wide.inRound) n P Q a w := by
  simp only [Region.lexB, Bool.and_eq_true] at hB
  refine ofAny_r hm hQ hd (wpAny_of_quiet (Q := fun a' => ∀ w', C w' → Q .normal a' w') (fun _ w' hw' h => h w' hw') _ _ _ _ hC ?_)
  have := wpAnyQ_lex (C := C) (md := .any) hB.1 l 0 (Array.replicate l.toArray.size false) a (by simp) (by simpa using hB.2) h
  simpa using this
/-- The walk in which loads may be taken first. -/
theorem held_r {S : World → Prop} {id : Nat} {a : Act} {w : World} {l : List Oper} (hm : P.follows .mixedOrders = true) (hQ : LetsOut Q → False) (hd : ∀ o ∈ l, ∀ c, o.op ≠ .defer c)
    (hS : S { w with drawn := w.drawn + 1 }) (h : S { w with drawn := w.drawn + 1 } → wpAnyH P .any l.toArray Q S l.toArray.size (Array.replicate l.toArray.size false) a { w with drawn := w.drawn + 1 }) : (Code.region id l.toArray true).wpIn (lp|>Fence.wide.inRound) n P Q a w :=
  ofAny_r hm hQ hd (wpAny_of_held _ _ _ _ (h hS))
end
end Go.Proofs.YteeapmcpbmjpmaaGreat
