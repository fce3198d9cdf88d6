import Derived.Test.YtnjfckijpbgagaaPTxt
import Derived.ProofKit
import Derived.OpenShut
import Derived.ChangeSame
import Derived.Deep.Slices
import Derived.Deep.Strs
import Derived.SizedLaws
namespace Go.Proofs.Ytnjfckijpbgagaa
set_option maxRecDepth 100000
open Go.ChangeShapes Go.WideShapes Go.ChangeAt Go.RowKit
set_option linter.unusedVariables false

/-- A slice of integers that came in: nil, or a row of 'cap' numbers. -/
def IsRow (k : IntKind) (w : World) (a : Option Addr) (len cap : Nat) (zs : List Int) : Prop :=
  (a = none ∧ len = 0 ∧ cap = 0 ∧ zs = []) ∨
  ∃ x, a = some x ∧ len ≤ cap ∧ cap ≤ maxLen ∧ zs.length = cap ∧ (∀ i, i < zs.length → w.cell? (x.add i) = some (.int k (zs.getD i 0))) ∧ ∀ n ∈ zs, (Lit.int k n).wf = true

theorem IsRow.fits {k : IntKind} {w : World} {a : Option Addr} {len cap : Nat} {zs : List Int} (h : IsRow k w a len cap zs) : len ≤ cap ∧ cap ≤ maxLen ∧ (a = none → cap = 0) ∧ zs.length = cap := by
  rcases h with ⟨rfl, rfl, rfl, rfl⟩ | ⟨x, rfl, hl, hm, hz, _⟩
  · exact ⟨Nat.le_refl _, by unfold maxLen; omega, fun _ => rfl, rfl⟩
  · exact ⟨hl, hm, (fun e => by cases e), hz⟩

theorem IsRow.at {k : IntKind} {w : World} {a : Option Addr} {len cap : Nat} {zs : List Int} (h : IsRow k w a len cap zs) :
    len = 0 ∨ ∃ b off, a = some ⟨b, off, none⟩ ∧ ∀ i, i < len → w.cell? ⟨b, off + i, none⟩ = some (.int k (zs.getD i 0)) := by
  rcases h with ⟨rfl, rfl, rfl, rfl⟩ | ⟨x, rfl, hl, hm, hz, hcell, hwz⟩
  · exact .inl rfl
  · by_cases h0 : len = 0
    · exact .inl h0
    · obtain ⟨b, off, spot⟩ := x
      have hc := hcell 0 (by omega)
      have hspot : spot = none := by simpa [Addr.add] using World.cell?_spot hc
      subst hspot
      refine .inr ⟨b, off, rfl, fun i hi => ?_⟩
      have := hcell i (by omega)
      rwa [Addr.add_lit] at this

theorem IsRow.bs {w : World} {a : Option Addr} {len cap : Nat} {zs : List Int} (h : IsRow .u8 w a len cap zs) : Bs w a len (zs.take len) := by
  obtain ⟨f1, f2, _, f3⟩ := h.fits
  have hat := h.at
  refine ⟨by simp; omega, fun z hz => ?_, ?_⟩
  · rcases h with ⟨rfl, rfl, rfl, rfl⟩ | ⟨x, rfl, hl, hm, hz', hcell, hwz⟩
    · simp at hz
    · exact bounds_u8 (hwz z (List.mem_of_mem_take hz))
  · rcases hat with h0 | ⟨b, off, rfl, hc⟩
    · exact .inl h0
    · refine .inr ⟨b, off, rfl, fun i hi => ?_⟩
      rw [hc i hi]
      simp only [List.getD, List.getElem?_take, if_pos hi]
theorem underAd : ∃ f0 f1 f2, Try.prog.underlying 43 = some (.struct #[f0, f1, f2]) ∧ f0.type = 3 ∧ f1.type = 23 ∧ f2.type = 23 ∧ f0.offset = 0 ∧ f1.offset = 1 ∧ f2.offset = 2 := ⟨_, _, _, Try.underlying43, rfl, rfl, rfl, rfl, rfl, rfl⟩
theorem underPx : ∃ f0 f1, Try.prog.underlying 112 = some (.struct #[f0, f1]) ∧ f0.type = 43 ∧ f1.type = 3 ∧ f0.offset = 0 ∧ f1.offset = 3 := ⟨_, _, Try.underlying112, rfl, rfl, rfl, rfl⟩
theorem cells3 : Try.prog.cellsOf 3 = 1 := by kernel_rfl
theorem cellsU : Try.prog.cellsOf 23 = 1 := by kernel_rfl
theorem cellsAd : Try.prog.cellsOf 43 = 3 := by kernel_rfl
theorem cellsPx : Try.prog.cellsOf 112 = 4 := by kernel_rfl
theorem inU_of {n : Int} (h : (Lit.int .u64 n).wf = true) : InU n := by
  have := bounds_u64 h
  unfold InU
  omega
/-- Three cells that read as an address. -/
theorem open_three {H : Type} {enc : TypeId × Value → H} {W : World} {b0 fuel : Nat} {spare : Nat → Bool} {held : Bool} {cs : List Value} {x : DataW H × List MemPlace} (h : DataW.trod enc Try.prog W b0 spare held fuel 43 cs = some x) :
    ∃ F H L, InI F ∧ InU H ∧ InU L ∧ cs = [.int .i64 F, .int .u64 H, .int .u64 L] := by
  obtain ⟨f0, f1, f2, hu, t0, t1, t2, o0, o1, o2⟩ := underAd
  obtain ⟨y0, y1, y2, q, _, hl, h0, h1, h2⟩ := Go.Deep.trod_struct3 hu h
  rw [t0, o0, cells3] at h0
  rw [t1, o1, cellsU] at h1
  rw [t2, o2, cellsU] at h2
  rw [cellsAd] at hl
  obtain ⟨F, e0, _, w0⟩ := DataW.trod_int Try.underlying3 h0
  obtain ⟨H', e1, _, w1⟩ := DataW.trod_int Try.underlying23 h1
  obtain ⟨L, e2, _, w2⟩ := DataW.trod_int Try.underlying23 h2
  refine ⟨F, H', L, bounds_i64 w0, inU_of w1, inU_of w2, ?_⟩
  match cs, hl with
  | [a, b, c], _ =>
    simp at e0 e1 e2
    rw [e0, e1, e2]
/-- Four that read as a prefix. -/
theorem open_four {H : Type} {enc : TypeId × Value → H} {W : World} {b0 fuel : Nat} {spare : Nat → Bool} {held : Bool} {cs : List Value} {x : DataW H × List MemPlace} (h : DataW.trod enc Try.prog W b0 spare held fuel 112 cs = some x) :
    ∃ F H L B, (InI F ∧ InU H ∧ InU L ∧ InI B) ∧ cs = [.int .i64 F, .int .u64 H, .int .u64 L, .int .i64 B] := by
  obtain ⟨f0, f1, hu, t0, t1, o0, o1⟩ := underPx
  obtain ⟨y0, y1, q, _, hl, h0, h1⟩ := trod_struct2 hu h
  rw [t0, o0, cellsAd] at h0
  rw [t1, o1, cells3] at h1
  rw [cellsPx] at hl
  obtain ⟨F, H', L, a1, a2, a3, e0⟩ := open_three h0
  obtain ⟨B, e1, _, w1⟩ := DataW.trod_int Try.underlying3 h1
  refine ⟨F, H', L, B, ⟨a1, a2, a3, bounds_i64 w1⟩, ?_⟩
  match cs, hl with
  | [a, b, c, d], _ =>
    simp at e0 e1
    rw [e0.1, e0.2.1, e0.2.2, e1]
theorem open_ad {H : Type} {enc : TypeId × Value → H} {W : World} {base b0 : Nat} {spare : Nat → Bool} {held : Bool} {v : Value} {d : DataW H} {p : List MemPlace} (hv : Value.okWide Try.prog W .any base 43 v) (h : DataW.Trod enc Try.prog W b0 spare held 43 v d p) :
    ∃ F H L, (InI F ∧ InU H ∧ InU L) ∧ v = .agg #[.int .i64 F, .int .u64 H, .int .u64 L] := by
  obtain ⟨cs, rfl, hsz, _⟩ : ∃ cs, v = .agg cs ∧ cs.size = Try.prog.cellsOf 43 ∧ Row.okWide Try.prog W .any base 43 cs := by
    simpa [Value.okWide, Try.underlying43] using hv
  obtain ⟨fuel, hf⟩ := h
  obtain ⟨F, H', L, a1, a2, a3, e⟩ := open_three hf
  refine ⟨F, H', L, ⟨a1, a2, a3⟩, ?_⟩
  have : cs.toList = [.int .i64 F, .int .u64 H', .int .u64 L] := e
  congr 1
  apply Array.ext'
  exact this
theorem open_px {H : Type} {enc : TypeId × Value → H} {W : World} {base b0 : Nat} {spare : Nat → Bool} {held : Bool} {v : Value} {d : DataW H} {p : List MemPlace} (hv : Value.okWide Try.prog W .any base 112 v) (h : DataW.Trod enc Try.prog W b0 spare held 112 v d p) :
    ∃ F H L B, (InI F ∧ InU H ∧ InU L ∧ InI B) ∧ v = .agg #[.int .i64 F, .int .u64 H, .int .u64 L, .int .i64 B] := by
  obtain ⟨cs, rfl, hsz, _⟩ : ∃ cs, v = .agg cs ∧ cs.size = Try.prog.cellsOf 112 ∧ Row.okWide Try.prog W .any base 112 cs := by
    simpa [Value.okWide, Try.underlying112] using hv
  obtain ⟨fuel, hf⟩ := h
  obtain ⟨F, H', L, B, a1, e⟩ := open_four hf
  refine ⟨F, H', L, B, a1, ?_⟩
  have : cs.toList = [.int .i64 F, .int .u64 H', .int .u64 L, .int .i64 B] := e
  congr 1
  apply Array.ext'
  exact this
end Go.Proofs.Ytnjfckijpbgagaa
namespace Go.Proofs.Ytnjfckijpbgagaa
set_option maxRecDepth 100000
open Go.ChangeShapes Go.WideShapes Go.ChangeAt Go.RowKit Go.Deep
set_option linter.unusedVariables false

theorem underHd : ∃ f0 f1 f2 f3, Try.prog.underlying 25 = some (.struct #[f0, f1, f2, f3]) ∧ f0.type = 3 ∧ f1.type = 3 ∧ f2.type = 3 ∧ f3.type = 23 ∧ f0.offset = 0 ∧ f1.offset = 1 ∧ f2.offset = 2 ∧ f3.offset = 3 := ⟨_, _, _, _, Try.underlying25, rfl, rfl, rfl, rfl, rfl, rfl, rfl, rfl⟩
theorem cellsHd : Try.prog.cellsOf 25 = 4 := by kernel_rfl
theorem cellsBy : Try.prog.cellsOf 22 = 1 := by kernel_rfl
/-- Four cells that read as a head. -/
theorem open_head {H : Type} {enc : TypeId × Value → H} {W : World} {b0 fuel : Nat} {spare : Nat → Bool} {held : Bool} {cs : List Value} {x : DataW H × List MemPlace} (h : DataW.trod enc Try.prog W b0 spare held fuel 25 cs = some x) :
    ∃ T K G C, (InI T ∧ InI K ∧ InI G ∧ InU C) ∧ cs = [.int .i64 T, .int .i64 K, .int .i64 G, .int .u64 C] := by
  obtain ⟨f0, f1, f2, f3, hu, t0, t1, t2, t3, o0, o1, o2, o3⟩ := underHd
  obtain ⟨xs, n, _, rfl, hl, hlen, hf⟩ := DataW.trod_struct hu h
  match xs, hlen with
  | [y0, y1, y2, y3], _ =>
    have h0 : DataW.trod enc Try.prog W b0 spare held n f0.type ((cs.drop f0.offset).take (Try.prog.cellsOf f0.type)) = some y0 := by simpa using hf 0 f0 rfl
    have h1 : DataW.trod enc Try.prog W b0 spare held n f1.type ((cs.drop f1.offset).take (Try.prog.cellsOf f1.type)) = some y1 := by simpa using hf 1 f1 rfl
    have h2 : DataW.trod enc Try.prog W b0 spare held n f2.type ((cs.drop f2.offset).take (Try.prog.cellsOf f2.type)) = some y2 := by simpa using hf 2 f2 rfl
    have h3 : DataW.trod enc Try.prog W b0 spare held n f3.type ((cs.drop f3.offset).take (Try.prog.cellsOf f3.type)) = some y3 := by simpa using hf 3 f3 rfl
    rw [t0, o0, cells3] at h0
    rw [t1, o1, cells3] at h1
    rw [t2, o2, cells3] at h2
    rw [t3, o3, cellsU] at h3
    rw [cellsHd] at hl
    obtain ⟨T, e0, _, w0⟩ := DataW.trod_int Try.underlying3 h0
    obtain ⟨K, e1, _, w1⟩ := DataW.trod_int Try.underlying3 h1
    obtain ⟨G, e2, _, w2⟩ := DataW.trod_int Try.underlying3 h2
    obtain ⟨C, e3, _, w3⟩ := DataW.trod_int Try.underlying23 h3
    refine ⟨T, K, G, C, ⟨bounds_i64 w0, bounds_i64 w1, bounds_i64 w2, inU_of w3⟩, ?_⟩
    match cs, hl with
    | [a, b, c, d], _ =>
      simp at e0 e1 e2 e3
      rw [e0, e1, e2, e3]
theorem open_hd {H : Type} {enc : TypeId × Value → H} {W : World} {base b0 : Nat} {spare : Nat → Bool} {held : Bool} {v : Value} {d : DataW H} {p : List MemPlace} (hv : Value.okWide Try.prog W .any base 25 v) (h : DataW.Trod enc Try.prog W b0 spare held 25 v d p) :
    ∃ T K G C, (InI T ∧ InI K ∧ InI G ∧ InU C) ∧ v = .agg #[.int .i64 T, .int .i64 K, .int .i64 G, .int .u64 C] := by
  obtain ⟨cs, rfl, hsz, _⟩ : ∃ cs, v = .agg cs ∧ cs.size = Try.prog.cellsOf 25 ∧ Row.okWide Try.prog W .any base 25 cs := by
    simpa [Value.okWide, Try.underlying25] using hv
  obtain ⟨fuel, hf⟩ := h
  obtain ⟨T, K, G, C, a1, e⟩ := open_head hf
  refine ⟨T, K, G, C, a1, ?_⟩
  have : cs.toList = [.int .i64 T, .int .i64 K, .int .i64 G, .int .u64 C] := e
  congr 1
  apply Array.ext'
  exact this
/-- One cell that reads as a list of bytes. -/
theorem open_bytes {H : Type} {enc : TypeId × Value → H} {W : World} {b0 fuel : Nat} {held : Bool} {cs : List Value} {x : DataW H × List MemPlace} (h : DataW.trod enc Try.prog W b0 (fun _ => true) held fuel 22 cs = some x) (hw : ∀ n ∈ x.1.weights Try.prog 22, n ≤ reachBytes) :
    ∃ a len cap zs, cs = [.slice a len cap] ∧ IsRow .u8 W a len cap zs ∧ len ≤ 140737488351232 := by
  rcases open_ints Try.underlying22 Try.underlying5 (by kernel_rfl) h with ⟨rfl, _⟩ | ⟨y, l, c, zs, rfl, _, hl, hm, hz, hdat, hcell, hwz⟩
  · exact ⟨none, 0, 0, [], rfl, .inl ⟨rfl, rfl, rfl, rfl⟩, by omega⟩
  · refine ⟨some y, l, c, zs, rfl, .inr ⟨_, rfl, hl, hm, by simpa using hz, hcell, hwz⟩, ?_⟩
    subst hdat
    have hs := hw (((lits (H := H) .u8 (zs.take l)).length + (lits (H := H) .u8 (zs.drop l)).length) * Try.prog.bytesOf 5) (by simp only [DataW.weights, Try.underlying22]; exact List.mem_cons_self)
    rw [show Try.prog.bytesOf 5 = 1 by kernel_rfl, Nat.mul_one] at hs
    have hr : reachBytes = 140737488351232 := by decide
    have hlen : l ≤ zs.length := by simp at hz; omega
    simp only [lits, List.length_map, List.length_take, List.length_drop] at hs
    omega
theorem underPk : ∃ f0 f1, Try.prog.underlying 27 = some (.struct #[f0, f1]) ∧ f0.type = 25 ∧ f1.type = 22 ∧ f0.offset = 0 ∧ f1.offset = 4 := ⟨_, _, Try.underlying27, rfl, rfl, rfl, rfl⟩
theorem cellsPk : Try.prog.cellsOf 27 = 5 := by kernel_rfl
theorem open_pk {H : Type} {enc : TypeId × Value → H} {W : World} {base b0 : Nat} {held : Bool} {v : Value} {d : DataW H} {p : List MemPlace} (hv : Value.okWide Try.prog W .any base 27 v) (h : DataW.Trod enc Try.prog W b0 (fun _ => true) held 27 v d p) (hw : ∀ n ∈ d.weights Try.prog 27, n ≤ reachBytes) :
    ∃ T K G C a len cap zs, (InI T ∧ InI K ∧ InI G ∧ InU C) ∧ v = .agg #[.int .i64 T, .int .i64 K, .int .i64 G, .int .u64 C, .slice a len cap] ∧ IsRow .u8 W a len cap zs ∧ len ≤ 140737488351232 := by
  obtain ⟨cs, rfl, hsz, _⟩ : ∃ cs, v = .agg cs ∧ cs.size = Try.prog.cellsOf 27 ∧ Row.okWide Try.prog W .any base 27 cs := by
    simpa [Value.okWide, Try.underlying27] using hv
  obtain ⟨fuel, hf⟩ := h
  obtain ⟨f0, f1, hu, t0, t1, o0, o1⟩ := underPk
  obtain ⟨y0, y1, q, hd, hl, h0, h1⟩ := trod_struct2 hu hf
  rw [t0, o0, cellsHd] at h0
  rw [t1, o1, cellsBy] at h1
  obtain ⟨rfl, rfl⟩ := Prod.mk.inj hd
  obtain ⟨T, K, G, C, a1, e0⟩ := open_head h0
  obtain ⟨a, len, cap, zs, e1, hr, hlen⟩ := open_bytes h1 (fun n hn => hw n (by
    simp only [DataW.weights, hu]
    simp [DataW.weightsEach, t0, t1, hn]))
  refine ⟨T, K, G, C, a, len, cap, zs, a1, ?_, hr, hlen⟩
  have hl2 : cs.toList.length = 5 := by rw [Array.length_toList, hsz, cellsPk]
  have : cs.toList = [.int .i64 T, .int .i64 K, .int .i64 G, .int .u64 C, .slice a len cap] := by
    have e0' : (cs.toList.drop 0).take 4 = [.int .i64 T, .int .i64 K, .int .i64 G, .int .u64 C] := e0
    have e1' : (cs.toList.drop 4).take 1 = [.slice a len cap] := e1
    match h : cs.toList, hl2 with
    | [x0, x1, x2, x3, x4], _ =>
      rw [h] at e0' e1'
      simp at e0' e1'
      rw [e0'.1, e0'.2.1, e0'.2.2.1, e0'.2.2.2, e1']
  congr 1
  apply Array.ext'
  exact this
theorem underPy : ∃ f0 f1 f2, Try.prog.underlying 45 = some (.struct #[f0, f1, f2]) ∧ f0.type = 43 ∧ f1.type = 43 ∧ f2.type = 22 ∧ f0.offset = 0 ∧ f1.offset = 3 ∧ f2.offset = 6 := ⟨_, _, _, Try.underlying45, rfl, rfl, rfl, rfl, rfl, rfl⟩
theorem cellsPy : Try.prog.cellsOf 45 = 7 := by kernel_rfl
/-- Seven cells that read as a payload. -/
theorem open_seven {H : Type} {enc : TypeId × Value → H} {W : World} {b0 fuel : Nat} {held : Bool} {cs : List Value} {x : DataW H × List MemPlace} (h : DataW.trod enc Try.prog W b0 (fun _ => true) held fuel 45 cs = some x) (hw : ∀ n ∈ x.1.weights Try.prog 45, n ≤ reachBytes) :
    ∃ F G L F' G' L' a len cap zs, ((InI F ∧ InU G ∧ InU L) ∧ InI F' ∧ InU G' ∧ InU L') ∧ cs = [.int .i64 F, .int .u64 G, .int .u64 L, .int .i64 F', .int .u64 G', .int .u64 L', .slice a len cap] ∧ IsRow .u8 W a len cap zs ∧ len ≤ 140737488351232 := by
  obtain ⟨f0, f1, f2, hu, t0, t1, t2, o0, o1, o2⟩ := underPy
  obtain ⟨y0, y1, y2, q, rfl, hl, h0, h1, h2⟩ := Go.Deep.trod_struct3 hu h
  rw [t0, o0, cellsAd] at h0
  rw [t1, o1, cellsAd] at h1
  rw [t2, o2, cellsBy] at h2
  rw [cellsPy] at hl
  obtain ⟨F, G, L, a1, a2, a3, e0⟩ := open_three h0
  obtain ⟨F', G', L', b1, b2, b3, e1⟩ := open_three h1
  obtain ⟨a, len, cap, zs, e2, hr, hlen⟩ := open_bytes h2 (fun n hn => hw n (by
    simp only [DataW.weights, hu]
    simp [DataW.weightsEach, t0, t1, t2, hn]))
  refine ⟨F, G, L, F', G', L', a, len, cap, zs, ⟨⟨a1, a2, a3⟩, b1, b2, b3⟩, ?_, hr, hlen⟩
  match cs, hl with
  | [x0, x1, x2, x3, x4, x5, x6], _ =>
    simp at e0 e1 e2
    rw [e0.1, e0.2.1, e0.2.2, e1.1, e1.2.1, e1.2.2, e2]
theorem open_py {H : Type} {enc : TypeId × Value → H} {W : World} {base b0 : Nat} {held : Bool} {v : Value} {d : DataW H} {p : List MemPlace} (hv : Value.okWide Try.prog W .any base 45 v) (h : DataW.Trod enc Try.prog W b0 (fun _ => true) held 45 v d p) (hw : ∀ n ∈ d.weights Try.prog 45, n ≤ reachBytes) :
    ∃ F G L F' G' L' a len cap zs, ((InI F ∧ InU G ∧ InU L) ∧ InI F' ∧ InU G' ∧ InU L') ∧ v = .agg #[.int .i64 F, .int .u64 G, .int .u64 L, .int .i64 F', .int .u64 G', .int .u64 L', .slice a len cap] ∧ IsRow .u8 W a len cap zs ∧ len ≤ 140737488351232 := by
  obtain ⟨cs, rfl, hsz, _⟩ : ∃ cs, v = .agg cs ∧ cs.size = Try.prog.cellsOf 45 ∧ Row.okWide Try.prog W .any base 45 cs := by
    simpa [Value.okWide, Try.underlying45] using hv
  obtain ⟨fuel, hf⟩ := h
  obtain ⟨F, G, L, F', G', L', a, len, cap, zs, a1, e, hr, hlen⟩ := open_seven hf hw
  refine ⟨F, G, L, F', G', L', a, len, cap, zs, a1, ?_, hr, hlen⟩
  have : cs.toList = [.int .i64 F, .int .u64 G, .int .u64 L, .int .i64 F', .int .u64 G', .int .u64 L', .slice a len cap] := e
  congr 1
  apply Array.ext'
  exact this
theorem sized_at {H : Type} {P : Program} {ts : List TypeId} {ds : List (DataW H)} {j : Nat} {t : TypeId} {d : DataW H} (h : (DataW.weightsEach P ts ds).all (· ≤ reachBytes) = true) (ht : ts[j]? = some t) (hd : ds[j]? = some d) : ∀ n ∈ d.weights P t, n ≤ reachBytes := fun n hn => by
  have := List.all_eq_true.1 h _ (DataW.weights_mem_each ht hd n hn)
  simpa using this
end Go.Proofs.Ytnjfckijpbgagaa
