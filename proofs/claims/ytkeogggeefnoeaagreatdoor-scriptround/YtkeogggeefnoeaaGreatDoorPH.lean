import Derived.Test.YtkeogggeefnoeaaGreatDoorP3
import Derived.ProofKit
import Derived.OpenShut
import Derived.ChangeSame
import Derived.ChangeMaps5
import Derived.Deep.Slices
import Derived.Deep.Strs
import Derived.SizedLaws
import Derived.Lib.LaidTab
import Derived.Stop.LaidErr
import Derived.Test.YtkeogggeefnoeaaGreatDoorM11
import Derived.ChangeArms
import Derived.Test.YtkeogggeefnoeaaGreatDoorN26
import Derived.Test.YtkeogggeefnoeaaGreatDoorN22
import Derived.Test.YtkeogggeefnoeaaGreatDoorN1
namespace Go.Proofs.YtkeogggeefnoeaaGreatDoor
set_option linter.unusedSimpArgs false
set_option maxRecDepth 100000
open Go.ChangeShapes Go.WideShapes Go.ChangeAt Go.RowKit
set_option linter.unusedVariables false

/-- A slice of integers that came in: nil, or a row of 'cap' numbers. -/
def IsRow (k : IntKind) (w : World) (a : Option Addr) (len cap : Nat) (zs : List Int) : Prop :=
  (a = none ∧ len = 0 ∧ cap = 0 ∧ zs = []) ∨
  ∃ x, a = some x ∧ len ≤ cap ∧ cap ≤ maxLen ∧ zs.length = cap ∧ (∀ i, i < zs.length → w.cell? (x.add i) = some (.int k (zs.getD i 0))) ∧ ∀ n ∈ zs, (Lit.int k n).wf = true

theorem IsRow.fits {k : IntKind} {w : World} {a : Option Addr} {len cap : Nat} {zs : List Int} (h : IsRow k w a len cap zs) : len ≤ cap ∧ cap ≤ maxLen ∧ (a = none → cap = 0) ∧ zs.length = cap := by
  rcases h with ⟨rfl, rfl, rfl, rfl⟩ | ⟨x, rfl, hl, hm, hz, _⟩
  · exact ⟨Nat.le_refl _, by unfold maxLen; omega, fun _ => rfl, rfl⟩
  · exact ⟨hl, hm, (fun e => by cases e), hz⟩

theorem IsRow.at {k : IntKind} {w : World} {a : Option Addr} {len cap : Nat} {zs : List Int} (h : IsRow k w a len cap zs) :
    len = 0 ∨ ∃ b off, a = some ⟨b, off, none⟩ ∧ ∀ i, i < len → w.cell? ⟨b, off + i, none⟩ = some (.int k (zs.getD i 0)) := by
  rcases h with ⟨rfl, rfl, rfl, rfl⟩ | ⟨x, rfl, hl, hm, hz, hcell, hwz⟩
  · exact .inl rfl
  · by_cases h0 : len = 0
    · exact .inl h0
    · obtain ⟨b, off, spot⟩ := x
      have hc := hcell 0 (by omega)
      have hspot : spot = none := by simpa [Addr.add] using World.cell?_spot hc
      subst hspot
      refine .inr ⟨b, off, rfl, fun i hi => ?_⟩
      have := hcell i (by omega)
      rwa [Addr.add_lit] at this

theorem IsRow.bs {w : World} {a : Option Addr} {len cap : Nat} {zs : List Int} (h : IsRow .u8 w a len cap zs) : Bs w a len (zs.take len) := by
  obtain ⟨f1, f2, _, f3⟩ := h.fits
  have hat := h.at
  refine ⟨by simp; omega, fun z hz => ?_, ?_⟩
  · rcases h with ⟨rfl, rfl, rfl, rfl⟩ | ⟨x, rfl, hl, hm, hz', hcell, hwz⟩
    · simp at hz
    · exact bounds_u8 (hwz z (List.mem_of_mem_take hz))
  · rcases hat with h0 | ⟨b, off, rfl, hc⟩
    · exact .inl h0
    · refine .inr ⟨b, off, rfl, fun i hi => ?_⟩
      rw [hc i hi]
      simp only [List.getD, List.getElem?_take, if_pos hi]
theorem underAd : ∃ f0 f1 f2, Tryz.prog.underlying 66 = some (.struct #[f0, f1, f2]) ∧ f0.type = 3 ∧ f1.type = 64 ∧ f2.type = 64 ∧ f0.offset = 0 ∧ f1.offset = 1 ∧ f2.offset = 2 := ⟨_, _, _, Tryz.underlying66, rfl, rfl, rfl, rfl, rfl, rfl⟩
theorem underPx : ∃ f0 f1, Tryz.prog.underlying 68 = some (.struct #[f0, f1]) ∧ f0.type = 66 ∧ f1.type = 3 ∧ f0.offset = 0 ∧ f1.offset = 3 := ⟨_, _, Tryz.underlying68, rfl, rfl, rfl, rfl⟩
theorem cells3 : Tryz.prog.cellsOf 3 = 1 := by kernel_rfl
theorem cellsU : Tryz.prog.cellsOf 64 = 1 := by kernel_rfl
theorem cellsAd : Tryz.prog.cellsOf 66 = 3 := by kernel_rfl
theorem cellsPx : Tryz.prog.cellsOf 68 = 4 := by kernel_rfl
theorem inU_of {n : Int} (h : (Lit.int .u64 n).wf = true) : InU n := by
  have := bounds_u64 h
  unfold InU
  omega
/-- Three cells that read as an address. -/
theorem open_three {H : Type} {enc : TypeId × Value → H} {W : World} {b0 fuel : Nat} {spare : Nat → Bool} {held : Bool} {cs : List Value} {x : DataW H × List MemPlace} (h : DataW.trod enc Tryz.prog W b0 spare held fuel 66 cs = some x) :
    ∃ F H L, InI F ∧ InU H ∧ InU L ∧ cs = [.int .i64 F, .int .u64 H, .int .u64 L] := by
  obtain ⟨f0, f1, f2, hu, t0, t1, t2, o0, o1, o2⟩ := underAd
  obtain ⟨y0, y1, y2, q, _, hl, h0, h1, h2⟩ := Go.Deep.trod_struct3 hu h
  rw [t0, o0, cells3] at h0
  rw [t1, o1, cellsU] at h1
  rw [t2, o2, cellsU] at h2
  rw [cellsAd] at hl
  obtain ⟨F, e0, _, w0⟩ := DataW.trod_int Tryz.underlying3 h0
  obtain ⟨H', e1, _, w1⟩ := DataW.trod_int Tryz.underlying64 h1
  obtain ⟨L, e2, _, w2⟩ := DataW.trod_int Tryz.underlying64 h2
  refine ⟨F, H', L, bounds_i64 w0, inU_of w1, inU_of w2, ?_⟩
  match cs, hl with
  | [a, b, c], _ =>
    simp at e0 e1 e2
    rw [e0, e1, e2]
/-- Four that read as a prefix. -/
theorem open_four {H : Type} {enc : TypeId × Value → H} {W : World} {b0 fuel : Nat} {spare : Nat → Bool} {held : Bool} {cs : List Value} {x : DataW H × List MemPlace} (h : DataW.trod enc Tryz.prog W b0 spare held fuel 68 cs = some x) :
    ∃ F H L B, (InI F ∧ InU H ∧ InU L ∧ InI B) ∧ cs = [.int .i64 F, .int .u64 H, .int .u64 L, .int .i64 B] := by
  obtain ⟨f0, f1, hu, t0, t1, o0, o1⟩ := underPx
  obtain ⟨y0, y1, q, _, hl, h0, h1⟩ := trod_struct2 hu h
  rw [t0, o0, cellsAd] at h0
  rw [t1, o1, cells3] at h1
  rw [cellsPx] at hl
  obtain ⟨F, H', L, a1, a2, a3, e0⟩ := open_three h0
  obtain ⟨B, e1, _, w1⟩ := DataW.trod_int Tryz.underlying3 h1
  refine ⟨F, H', L, B, ⟨a1, a2, a3, bounds_i64 w1⟩, ?_⟩
  match cs, hl with
  | [a, b, c, d], _ =>
    simp at e0 e1
    rw [e0.1, e0.2.1, e0.2.2, e1]
theorem open_ad {H : Type} {enc : TypeId × Value → H} {W : World} {base b0 : Nat} {spare : Nat → Bool} {held : Bool} {v : Value} {d : DataW H} {p : List MemPlace} (hv : Value.okWide Tryz.prog W .any base 66 v) (h : DataW.Trod enc Tryz.prog W b0 spare held 66 v d p) :
    ∃ F H L, (InI F ∧ InU H ∧ InU L) ∧ v = .agg #[.int .i64 F, .int .u64 H, .int .u64 L] := by
  obtain ⟨cs, rfl, hsz, _⟩ : ∃ cs, v = .agg cs ∧ cs.size = Tryz.prog.cellsOf 66 ∧ Row.okWide Tryz.prog W .any base 66 cs := by
    simpa [Value.okWide, Tryz.underlying66] using hv
  obtain ⟨fuel, hf⟩ := h
  obtain ⟨F, H', L, a1, a2, a3, e⟩ := open_three hf
  refine ⟨F, H', L, ⟨a1, a2, a3⟩, ?_⟩
  have : cs.toList = [.int .i64 F, .int .u64 H', .int .u64 L] := e
  congr 1
  apply Array.ext'
  exact this
theorem open_px {H : Type} {enc : TypeId × Value → H} {W : World} {base b0 : Nat} {spare : Nat → Bool} {held : Bool} {v : Value} {d : DataW H} {p : List MemPlace} (hv : Value.okWide Tryz.prog W .any base 68 v) (h : DataW.Trod enc Tryz.prog W b0 spare held 68 v d p) :
    ∃ F H L B, (InI F ∧ InU H ∧ InU L ∧ InI B) ∧ v = .agg #[.int .i64 F, .int .u64 H, .int .u64 L, .int .i64 B] := by
  obtain ⟨cs, rfl, hsz, _⟩ : ∃ cs, v = .agg cs ∧ cs.size = Tryz.prog.cellsOf 68 ∧ Row.okWide Tryz.prog W .any base 68 cs := by
    simpa [Value.okWide, Tryz.underlying68] using hv
  obtain ⟨fuel, hf⟩ := h
  obtain ⟨F, H', L, B, a1, e⟩ := open_four hf
  refine ⟨F, H', L, B, a1, ?_⟩
  have : cs.toList = [.int .i64 F, .int .u64 H', .int .u64 L, .int .i64 B] := e
  congr 1
  apply Array.ext'
  exact this
theorem Tb.room {w : World} (h : Tb w) : 0 < w.heap.size := by
  obtain ⟨_, ⟨tp, p, h2⟩, _, _⟩ := h
  rcases Nat.eq_zero_or_pos w.heap.size with h0 | h0
  · exfalso
    have he : w.heap = #[] := Array.eq_empty_of_size_eq_zero h0
    unfold World.var? at h2
    rw [he] at h2
    cases hg : Tryz.prog.globalNamed "strconv.ErrSyntax" with
    | none => rw [hg] at h2; simp at h2
    | some g => rw [hg] at h2; simp at h2
  · exact h0
/-- A text that came in is a list of bytes. -/
theorem sb_of (s : ByteArray) : sb (s.data.toList.map UInt8.toNat) = s := by
  apply ByteArray.ext
  apply Array.ext'
  show ((s.data.toList.map UInt8.toNat).map UInt8.ofNat) = _
  rw [List.map_map]
  have : (UInt8.ofNat ∘ UInt8.toNat) = id := by
    funext x
    simp
  rw [this, List.map_id]
theorem of_sb (s : ByteArray) (hs : s.size ≤ maxLen) : ∃ l, ((∀ x ∈ l, x < 256) ∧ l.length ≤ maxLen) ∧ s = sb l := by
  refine ⟨s.data.toList.map UInt8.toNat, ⟨?_, ?_⟩, (sb_of s).symm⟩
  · intro x hx
    obtain ⟨b, _, rfl⟩ := List.mem_map.1 hx
    exact b.toNat_lt
  · rw [List.length_map]
    exact hs
end Go.Proofs.YtkeogggeefnoeaaGreatDoor
namespace Go.Proofs.YtkeogggeefnoeaaGreatDoor
set_option linter.unusedSimpArgs false
open Go.RowKit
set_option linter.unusedVariables false
set_option maxRecDepth 100000

/-! What the listed tables of texts hold. -/
def strOf : DataW Unit → List Value
  | .lit (.string s) => [.string ⟨s.toArray⟩]
  | _ => []
def pairOf : DataW Unit → List Value
  | .agg [a, b] => strOf a ++ strOf b
  | _ => []
def partsOf : DataW Unit → List (DataW Unit)
  | .agg l => l
  | _ => []
section
variable {P : Program} {w : World} {base fuel : Nat} {sp : Nat → Bool} {held : Bool}
theorem str_of {t : TypeId} {cs : List Value} {d : DataW Unit} {p : List MemPlace} (ht : P.underlying t = some .string) (h : DataW.trod (fun _ => ()) P w base sp held fuel t cs = some (d, p)) : cs = strOf d := by
  obtain ⟨s, rfl, hx, _⟩ := DataW.trod_string ht h
  cases hx
  simp [strOf]
theorem pair_of {t s : TypeId} {f0 f1 : Field} {cs : List Value} {d : DataW Unit} {p : List MemPlace} (ht : P.underlying t = some (.struct #[f0, f1])) (h0 : f0.type = s) (h1 : f1.type = s) (o0 : f0.offset = 0) (o1 : f1.offset = 1) (hs : P.underlying s = some .string) (hc : P.cellsOf s = 1) (hct : P.cellsOf t = 2)
    (h : DataW.trod (fun _ => ()) P w base sp held fuel t cs = some (d, p)) : cs = pairOf d := by
  obtain ⟨⟨d0, p0⟩, ⟨d1, p1⟩, n, hx, hl, e0, e1⟩ := Go.ChangeShapes.trod_struct2 ht h
  rw [h0, o0, hc] at e0
  rw [h1, o1, hc] at e1
  have a0 := str_of hs e0
  have a1 := str_of hs e1
  rw [hct] at hl
  cases hx
  match cs, hl with
  | [x, y], _ =>
    simp at a0 a1
    simp [pairOf, ← a0, ← a1]
theorem arr_of {t e : TypeId} {n s : Nat} {cs : List Value} {ds : List (DataW Unit)} {p : List MemPlace} {g : DataW Unit → List Value} (ht : P.underlying t = some (.array n e)) (hce : P.cellsOf e = s) (hct : P.cellsOf t = n * s)
    (hE : ∀ (fuel : Nat) (cs : List Value) (d : DataW Unit) (p : List MemPlace), DataW.trod (fun _ => ()) P w base sp held fuel e cs = some (d, p) → cs = g d)
    (h : DataW.trod (fun _ => ()) P w base sp held fuel t cs = some (.agg ds, p)) : cs = ds.flatMap g := by
  obtain ⟨xs, m, _, hx, hl, hn, hf⟩ := DataW.trod_array ht h
  obtain ⟨hx, -⟩ := Prod.mk.inj hx
  injection hx with hx
  subst hx
  rw [hct] at hl
  rw [hce] at hf
  have key : ∀ k, k ≤ n → cs.take (k * s) = ((xs.take k).map (·.1)).flatMap g := by
    intro k
    induction k with
    | zero => intro _; simp
    | succ k ih =>
      intro hk
      have h1 := hf k (by omega)
      rw [List.getElem?_eq_getElem (show k < xs.length by omega)] at h1
      have h2 := hE m _ _ _ h1
      rw [List.take_add_one, List.getElem?_eq_getElem (show k < xs.length by omega), List.map_append, List.flatMap_append, ← ih (by omega)]
      simp only [Option.toList_some, List.map_cons, List.map_nil, List.flatMap_cons, List.flatMap_nil, List.append_nil]
      have h2 : List.take s (List.drop (k * s) cs) = g xs[k].1 := h2
      rw [← h2, Nat.add_mul, Nat.one_mul, List.take_add]
  have := key n (Nat.le_refl _)
  rw [List.take_of_length_le (by omega), List.take_of_length_le (by omega)] at this
  exact this
theorem arr_head {W : World} {name : String} {ds : List (DataW Unit)} {rest : List (String × DataW Unit)} {b : Nat} {t e : TypeId} {n s : Nat} {g : DataW Unit → List Value}
    (hg : P.globalNamed name = some b) (hty : (P.globals[b]?).map (·.type) = some t) (ht : P.underlying t = some (.array n e)) (hce : P.cellsOf e = s) (hct : P.cellsOf t = n * s)
    (hE : ∀ (fuel : Nat) (cs : List Value) (d : DataW Unit) (p : List MemPlace), DataW.trod (fun _ => ()) P W 0 (fun _ => true) false fuel e cs = some (d, p) → cs = g d)
    (h : laidMet P ((name, .agg ds) :: rest) W) : W.var? P name = some (ds.flatMap g).toArray := by
  obtain ⟨ps, ⟨g', t', cs, fuel, p, q, hg', ht', hvar, hd, _, _⟩, _⟩ := h
  obtain rfl := Option.some.inj (hg.symm.trans hg')
  obtain rfl := Option.some.inj (hty.symm.trans ht')
  rw [hvar, ← arr_of ht hce hct hE hd]
end
end Go.Proofs.YtkeogggeefnoeaaGreatDoor
namespace Go.Proofs.YtkeogggeefnoeaaGreatDoor
set_option linter.unusedSimpArgs false
set_option maxRecDepth 100000
set_option linter.unusedVariables false

/-! What is read has numbers of Go's and lists of no great length. -/
structure ChL (c : Chg) : Prop where
  n : InC c
  k : c.key.length ≤ 2097152
structure OpL (o : Opp) : Prop where
  n : InO o
  d : o.d.length ≤ 2097152
  c : o.ch.length ≤ 2097152
  cs : ∀ x ∈ o.ch, ChL x
  f : o.fl.length ≤ 2097152
  fs : ∀ x ∈ o.fl, InI x.1 ∧ InI x.2
  b : o.kp.length ≤ 2097152
theorem inI_nat {n : Nat} (h : n ≤ 4294967295) : InI (n : Int) := ⟨by omega, by omega⟩
theorem numv_in {w : List Nat} {n : Nat} (h : numv w = some n) : InI (n : Int) := inI_nat (numv_some h).2
theorem hxp_len : ∀ (w b : List Nat), hxp w = some b → b.length ≤ w.length
  | [], b, h => by cases h; simp
  | [_], b, h => by simp [hxp] at h
  | p :: q :: l, b, h => by
    rw [hxp] at h
    split at h
    · rename_i u v r h1 h2 h3
      cases h
      have := hxp_len l r h3
      simp
      omega
    · simp at h
theorem hexv_len {w b : List Nat} (h : hexv w = some b) : b.length ≤ w.length := by
  unfold hexv at h
  split at h
  · cases h; simp
  · exact hxp_len w b h
theorem btp_len : ∀ (w : List Nat) (b : List Bool), btp w = some b → b.length ≤ w.length
  | [], b, h => by cases h; simp
  | x :: l, b, h => by
    rw [btp] at h
    split at h
    · cases hb : btp l with
      | none => rw [hb] at h; cases h
      | some r =>
        rw [hb] at h
        cases h
        have := btp_len l r hb
        simp
        omega
    · cases h
theorem bitv_len {w : List Nat} {b : List Bool} (h : bitv w = some b) : b.length ≤ w.length := by
  unfold bitv at h
  split at h
  · cases h; simp
  · exact btp_len w b h
/-- Words of a line. -/
def Gl (ws : List (List Nat)) : Prop := (∀ w ∈ ws, w.length ≤ 1048576) ∧ ws.length ≤ 1048578
theorem Gl.tail {x : List Nat} {ws : List (List Nat)} (h : Gl (x :: ws)) : Gl ws := ⟨fun w hw => h.1 w (List.mem_cons_of_mem _ hw), by have := h.2; rw [List.length_cons] at this; omega⟩
theorem Gl.drop {ws : List (List Nat)} (h : Gl ws) (k : Nat) : Gl (ws.drop k) := ⟨fun w hw => h.1 w (List.mem_of_mem_drop hw), by rw [List.length_drop]; have := h.2; omega⟩
theorem Gl.at {ws : List (List Nat)} (h : Gl ws) (i : Nat) : (ws.getD i []).length ≤ 1048576 := by
  by_cases hi : i < ws.length
  · rw [show ws.getD i [] = ws[i] by simp [List.getD, hi]]
    exact h.1 _ (List.getElem_mem hi)
  · rw [show ws.getD i [] = [] by simp [List.getD, Nat.le_of_not_lt hi]]
    simp
theorem inI_0 : InI 0 := ⟨by decide, by decide⟩
theorem inU_0 : InU 0 := ⟨by decide, by decide⟩
theorem vp_inI {F H L B : Int} (h : vp F H L B = true) : InI F ∧ InI B := by
  unfold vp va at h
  rw [Bool.and_eq_true] at h
  obtain ⟨h1, h2⟩ := h
  have h1 := of_decide_eq_true h1
  have h2 := of_decide_eq_true h2
  have h3 : nb F ≤ 128 := by
    unfold nb
    split
    · omega
    · split <;> omega
  exact ⟨⟨by omega, by omega⟩, by omega, by omega⟩
theorem cFil_L {c c' : Chg} {f : Nat} {w : List Nat} (hw : w.length ≤ 1048576) (hf : cLet f) (hc : ChL c) (h : cFil c f w = .ok c') : ChL c' := by
  obtain ⟨kd, lk, sd, key, F, H, L, B⟩ := c
  obtain ⟨⟨i1, i2, i3, i4, i5, i6, i7⟩, hk⟩ := hc
  simp only at i1 i2 i3 i4 i5 i6 i7 hk
  rcases hf with rfl | rfl | rfl | rfl
  · unfold cFil at h
    rw [if_neg (by decide), if_neg (by decide)] at h
    split at h
    · cases h
    · rename_i n hn
      cases h
      exact ⟨⟨i1, numv_in hn, i3, i4, i5, i6, i7⟩, hk⟩
  · unfold cFil at h
    rw [if_neg (by decide), if_neg (by decide)] at h
    split at h
    · cases h
    · rename_i n hn
      cases h
      exact ⟨⟨i1, i2, numv_in hn, i4, i5, i6, i7⟩, hk⟩
  · unfold cFil at h
    rw [if_pos rfl] at h
    split at h
    · cases h
    · rename_i b hb
      cases h
      exact ⟨⟨i1, i2, i3, i4, i5, i6, i7⟩, by have := hexv_len hb; show b.length ≤ _; omega⟩
  · unfold cFil at h
    rw [if_neg (by decide), if_pos rfl] at h
    split at h
    · rename_i he
      cases h
      have hp := pf_fore w he
      have hv := vp_inI hp.1
      exact ⟨⟨i1, i2, i3, hv.1, hp.2.2.1, hp.2.2.2, hv.2⟩, hk⟩
    · cases h
theorem cRun_L : ∀ (fs : List Nat) (ws : List (List Nat)) (c c' : Chg), Gl ws → (∀ f ∈ fs, cLet f) → ChL c → cRun c fs ws = .ok c' → ChL c'
  | [], _, c, c', _, _, hc, h => by rw [cRun] at h; cases h; exact hc
  | _ :: _, [], c, c', _, _, hc, h => by rw [cRun] at h; cases h; exact hc
  | f :: fs, w :: ws, c, c', hg, hl, hc, h => by
    rw [cRun] at h
    split at h
    · cases h
    · rename_i c1 h1
      exact cRun_L fs ws c1 c' hg.tail (fun g hg => hl g (List.mem_cons_of_mem _ hg)) (cFil_L (hg.1 w List.mem_cons_self) (hl f List.mem_cons_self) hc h1) h
theorem chgv_L {ws : List (List Nat)} {c : Chg} (hg : Gl ws) (h : chgv ws = .ok c) : ChL c := by
  cases ws with
  | nil => cases h
  | cons n ws =>
    rw [chgv] at h
    split at h
    · cases h
    · rename_i h0
      split at h
      · cases h
      · have hk := @cKd_in n
        obtain ⟨_, d2⟩ := cFm_let h0 hk
        refine cRun_L _ _ _ _ hg.tail d2 ⟨⟨?_, inI_0, inI_0, inI_0, inU_0, inU_0, inI_0⟩, Nat.zero_le _⟩ h
        exact inI_nat (show cKd n ≤ _ by omega)
theorem pcs_gl : ∀ (l cur : List (List Nat)), (∀ w ∈ cur, w.length ≤ 1048576) → (∀ w ∈ l, w.length ≤ 1048576) → cur.length + l.length ≤ 1048578 → ∀ x ∈ pcs cur l, Gl x
  | [], cur, hc, _, hn, x, hx => by
    rw [pcs] at hx
    rw [List.mem_singleton.1 hx]
    exact ⟨hc, by simp at hn; exact hn⟩
  | y :: l, cur, hc, hl, hn, x, hx => by
    rw [pcs] at hx
    rw [List.length_cons] at hn
    have hl' : ∀ w ∈ l, w.length ≤ 1048576 := fun w hw => hl w (List.mem_cons_of_mem _ hw)
    split at hx
    · rcases List.mem_cons.1 hx with rfl | hx
      · exact ⟨hc, by omega⟩
      · exact pcs_gl l [] (by simp) hl' (by simp; omega) x hx
    · refine pcs_gl l (cur ++ [y]) (fun w hw => ?_) hl' (by simp; omega) x hx
      rcases List.mem_append.1 hw with hw | hw
      · exact hc w hw
      · rw [List.mem_singleton.1 hw]; exact hl y List.mem_cons_self
theorem mapR_allM {α β : Type} {f : α → R β} {P : β → Prop} : ∀ (l : List α) (r : List β), (∀ x ∈ l, ∀ y, f x = .ok y → P y) → mapR f l = .ok r → ∀ y ∈ r, P y
  | [], r, _, h, y, hy => by cases h; simp at hy
  | x :: l, r, hf, h, y, hy => by
    rw [mapR] at h
    split at h
    · cases h
    · rename_i y' hy'
      split at h
      · cases h
      · rename_i r' hr
        cases h
        rcases List.mem_cons.1 hy with rfl | hy
        · exact hf x List.mem_cons_self _ hy'
        · exact mapR_allM l r' (fun z hz => hf z (List.mem_cons_of_mem _ hz)) hr y hy
theorem chsv_L {ws : List (List Nat)} {l : List Chg} (hg : Gl ws) (h : chsv ws = .ok l) : (∀ c ∈ l, ChL c) ∧ l.length ≤ 1048579 := by
  unfold chsv at h
  split at h
  · cases h; exact ⟨by simp, by simp⟩
  · refine ⟨mapR_allM _ _ (fun x hx y e => chgv_L (pcs_gl ws [] (by simp) hg.1 (by have := hg.2; simp; omega) x hx) e) h, ?_⟩
    rw [mapR_len _ _ _ h]
    have := pcs_len ws []
    have := hg.2
    omega
theorem fltv_L : ∀ (ws : List (List Nat)) (l : List (Int × Int)), fltv ws = .ok l → (∀ x ∈ l, InI x.1 ∧ InI x.2) ∧ l.length ≤ ws.length
  | [], l, h => by cases h; exact ⟨by simp, by simp⟩
  | [_], l, h => by
    rw [fltv] at h
    · cases h; exact ⟨by simp, by simp⟩
    · intro a b l' e; simp at e
  | a :: b :: ws, l, h => by
    rw [fltv] at h
    split at h
    · cases h
    · split at h
      · cases h
      · rename_i n hn
        split at h
        · cases h
        · rename_i r hr
          cases h
          obtain ⟨h1, h2⟩ := fltv_L ws r hr
          have hk : fKd a ≤ 3 := by
            unfold fKd fNm
            unfold fndN; split; · omega
            unfold fndN; split; · omega
            unfold fndN; split; · omega
            unfold fndN; omega
          refine ⟨fun x hx => ?_, by simp; omega⟩
          rcases List.mem_cons.1 hx with rfl | hx
          · exact ⟨numv_in hn, inI_nat (show fKd a ≤ _ by omega)⟩
          · exact h1 x hx
theorem sFil_L {o o' : Opp} {f : Nat} {ws : List (List Nat)} (hg : Gl ws) (hf : sLet f) (hc : OpL o) (h : sFil o f ws = .ok o') : OpL o' := by
  have hw := hg.at 0
  obtain ⟨kd, a, k, t, x, lk, d, sec, nano, bl, wi, ch, fl, kp⟩ := o
  obtain ⟨⟨i1, i2, i3, i4, i5, i6, i7, i8, i9, i10⟩, q1, q2, q3, q4, q5, q6⟩ := hc
  simp only at i1 i2 i3 i4 i5 i6 i7 i8 i9 i10 q1 q2 q3 q4 q5 q6
  rcases hf with rfl | rfl | rfl | rfl | rfl | rfl | rfl | rfl | rfl | rfl | rfl | rfl
  iterate 7
    · have h : (match numv (ws.getD 0 []) with | none => .error 223 | some n => .ok (sNum _ _ n) : R Opp) = .ok o' := h
      split at h
      · cases h
      · rename_i n hn
        cases h
        have hi := numv_in hn
        first
          | exact ⟨⟨i1, hi, i3, i4, i5, i6, i7, i8, i9, i10⟩, q1, q2, q3, q4, q5, q6⟩
          | exact ⟨⟨i1, i2, hi, i4, i5, i6, i7, i8, i9, i10⟩, q1, q2, q3, q4, q5, q6⟩
          | exact ⟨⟨i1, i2, i3, hi, i5, i6, i7, i8, i9, i10⟩, q1, q2, q3, q4, q5, q6⟩
          | exact ⟨⟨i1, i2, i3, i4, hi, i6, i7, i8, i9, i10⟩, q1, q2, q3, q4, q5, q6⟩
          | exact ⟨⟨i1, i2, i3, i4, i5, hi, i7, i8, i9, i10⟩, q1, q2, q3, q4, q5, q6⟩
          | exact ⟨⟨i1, i2, i3, i4, i5, i6, i7, i8, hi, i10⟩, q1, q2, q3, q4, q5, q6⟩
          | exact ⟨⟨i1, i2, i3, i4, i5, i6, i7, i8, i9, hi⟩, q1, q2, q3, q4, q5, q6⟩
  · have h : (match hexv (ws.getD 0 []) with | none => .error 225 | some b => .ok (⟨kd, a, k, t, x, lk, b, sec, nano, bl, wi, ch, fl, kp⟩ : Opp) : R Opp) = .ok o' := h
    split at h
    · cases h
    · rename_i b hb
      cases h
      have := hexv_len hb
      exact ⟨⟨i1, i2, i3, i4, i5, i6, i7, i8, i9, i10⟩, by show b.length ≤ _; omega, q2, q3, q4, q5, q6⟩
  · have h : (if xe (ws.getD 0 []) = 0 then .ok (⟨kd, a, k, t, x, lk, d, xs (ws.getD 0 []), xn (ws.getD 0 []), bl, wi, ch, fl, kp⟩ : Opp) else .error 60 : R Opp) = .ok o' := h
    split at h
    · rename_i he
      cases h
      have hp := st_fore _ he
      have hv := of_decide_eq_true (show decide _ = true from hp.1)
      exact ⟨⟨i1, i2, i3, i4, i5, i6, ⟨by show _ ≤ xs _; omega, hp.2.2⟩, ⟨by show _ ≤ xn _; omega, by show xn _ ≤ _; omega⟩, i9, i10⟩, q1, q2, q3, q4, q5, q6⟩
    · cases h
  · have h : (match bitv (ws.getD 0 []) with | none => .error 223 | some b => .ok (⟨kd, a, k, t, x, lk, d, sec, nano, bl, wi, ch, fl, b⟩ : Opp) : R Opp) = .ok o' := h
    split at h
    · cases h
    · rename_i b hb
      cases h
      have := bitv_len hb
      exact ⟨⟨i1, i2, i3, i4, i5, i6, i7, i8, i9, i10⟩, q1, q2, q3, q4, q5, by show b.length ≤ _; omega⟩
  · have h : (match fltv ws with | .error e => .error e | .ok l => .ok (⟨kd, a, k, t, x, lk, d, sec, nano, bl, wi, ch, l, kp⟩ : Opp) : R Opp) = .ok o' := h
    split at h
    · cases h
    · rename_i l hl
      cases h
      obtain ⟨h1, h2⟩ := fltv_L _ _ hl
      have := hg.2
      exact ⟨⟨i1, i2, i3, i4, i5, i6, i7, i8, i9, i10⟩, q1, q2, q3, by show l.length ≤ _; omega, h1, q6⟩
  · have h : (match chsv ws with | .error e => .error e | .ok l => .ok (⟨kd, a, k, t, x, lk, d, sec, nano, bl, wi, l, fl, kp⟩ : Opp) : R Opp) = .ok o' := h
    split at h
    · cases h
    · rename_i l hl
      cases h
      obtain ⟨h1, h2⟩ := chsv_L hg hl
      exact ⟨⟨i1, i2, i3, i4, i5, i6, i7, i8, i9, i10⟩, q1, by show l.length ≤ _; omega, h1, q4, q5, q6⟩
theorem sRun_L : ∀ (fs : List Nat) (ws : List (List Nat)) (c c' : Opp), Gl ws → (∀ f ∈ fs, sLet f) → OpL c → sRun c fs ws = .ok c' → OpL c'
  | [], _, c, c', _, _, hc, h => by rw [sRun] at h; cases h; exact hc
  | f :: fs, ws, c, c', hg, hlt, hc, h => by
    rw [sRun] at h
    split at h
    · cases h
    · rename_i c1 h1
      exact sRun_L fs _ c1 c' (hg.drop 1) (fun g hg => hlt g (List.mem_cons_of_mem _ hg)) (sFil_L hg (hlt f List.mem_cons_self) hc h1) h
theorem stpv_L {ws : List (List Nat)} {o : Opp} (hg : Gl ws) (h : stpv ws = .ok o) : OpL o := by
  cases ws with
  | nil => cases h
  | cons n ws =>
    rw [stpv] at h
    split at h
    · cases h
    · rename_i h0
      split at h
      · have hk := @sKd_in n
        obtain ⟨_, d2⟩ := sFm_let h0 hk
        refine sRun_L _ _ _ _ hg.tail d2 ⟨⟨?_, inI_0, inI_0, inI_0, inI_0, inI_0, inI_0, inI_0, inI_0, inI_0⟩, Nat.zero_le _, Nat.zero_le _, by simp [opp0], Nat.zero_le _, by simp [opp0], Nat.zero_le _⟩ h
        exact inI_nat (show sKd n ≤ _ by omega)
      · cases h
def ScL (s : Option Scr) : Prop := ∀ s', s = some s' → InI s'.sec ∧ s'.ops.length ≤ 2000 ∧ ∀ o ∈ s'.ops, OpL o
theorem wds_gl {l : List Nat} (hl : l.length ≤ 1048576) : Gl (wds l) := by
  have h2 := said_len l
  refine ⟨fun w hw => ?_, ?_⟩
  · have h1 : ∀ (l cur : List Nat), ∀ w ∈ spl cur l, w.length ≤ cur.length + l.length := by
      intro l
      induction l with
      | nil =>
        intro cur w hw
        rw [spl] at hw
        split at hw
        · simp at hw
        · rw [List.mem_singleton.1 hw]; simp
      | cons x l ih =>
        intro cur w hw
        rw [spl] at hw
        split at hw
        · split at hw
          · have := ih [] w hw
            simp at this ⊢
            omega
          · rcases List.mem_cons.1 hw with rfl | hw
            · omega
            · have := ih [] w hw
              simp at this ⊢
              omega
        · have := ih (cur ++ [x]) w hw
          simp at this ⊢
          omega
    have := h1 (said l) [] w hw
    simp at this
    omega
  · have := wds_len l
    omega
theorem linv_L {s s' : Option Scr} {l : List Nat} (hl : l.length ≤ 1048576) (hs : ScL s) (h : linv s l = .ok s') : ScL s' := by
  unfold linv at h
  split at h
  · split at h
    · cases h; exact hs
    · cases s with
      | none =>
        simp only at h
        split at h
        · cases h
        · rename_i n hn
          cases h
          intro s' e
          cases e
          refine ⟨?_, by simp, by simp⟩
          unfold fstv at hn
          split at hn
          · cases hn
          · split at hn
            · cases hn
            · split at hn
              · cases hn
              · rename_i m hm
                cases hn
                exact numv_in hm
      | some s =>
        simp only at h
        split at h
        · cases h
        · rename_i hm
          split at h
          · cases h
          · rename_i o ho
            cases h
            intro s' e
            cases e
            obtain ⟨h1, h2, h3⟩ := hs s rfl
            refine ⟨h1, by simp; omega, fun x hx => ?_⟩
            rcases List.mem_append.1 hx with hx | hx
            · exact h3 x hx
            · rw [List.mem_singleton.1 hx]
              exact stpv_L (wds_gl hl) ho
  · cases h
theorem lnsv_L : ∀ (ls : List (List Nat)) (s : Option Scr) (i : Nat) (r : Scr) (n e : Nat), (∀ l ∈ ls, l.length ≤ 1048576) → ScL s → lnsv s i ls = (r, n, e) → ScL (some r)
  | [], s, i, r, n, e, _, hs, h => by
    cases s with
    | none =>
      cases h
      intro s' e
      cases e
      exact ⟨⟨by decide, by decide⟩, by decide, by simp [scr0]⟩
    | some s =>
      cases h
      exact hs
  | l :: ls, s, i, r, n, e, hl, hs, h => by
    rw [lnsv] at h
    split at h
    · cases h
      intro s' e
      cases e
      exact ⟨⟨by decide, by decide⟩, by decide, by simp [scr0]⟩
    · rename_i s' he
      exact lnsv_L ls s' (i + 1) r n e (fun x hx => hl x (List.mem_cons_of_mem _ hx)) (linv_L (hl l List.mem_cons_self) hs he) h
theorem scrv_L (t : List Nat) : InI (scrv t).1.sec ∧ (scrv t).1.ops.length ≤ 2000 ∧ ∀ o ∈ (scrv t).1.ops, OpL o := by
  unfold scrv
  split
  · exact ⟨⟨by decide, by decide⟩, by decide, by simp [scr0]⟩
  · rename_i ht
    obtain ⟨⟨r, n, e⟩, hr⟩ : ∃ z, lnsv none 1 (cutL [] t) = z := ⟨_, rfl⟩
    rw [hr]
    refine lnsv_L _ none 1 r n e (fun l hl => ?_) (fun s' e => by cases e) hr r rfl
    have := cutL_len t [] l hl
    simp at this
    omega
theorem OpL.opn {o : Opp} (h : OpL o) : OpN o := ⟨by have := h.c; omega, by have := h.f; omega, by have := h.b; omega⟩
theorem OpL.bo {o : Opp} (h : OpL o) : InO o ∧ Bo o := ⟨h.n, by have := h.d; omega, by have := h.c; omega, fun x hx => ⟨(h.cs x hx).n, by have := (h.cs x hx).k; omega⟩, by have := h.f; omega, h.fs, by have := h.b; omega⟩
end Go.Proofs.YtkeogggeefnoeaaGreatDoor
