import Derived.Test.YteeapmcpbmjpmaaGreatPTxt
import Derived.ProofKit
import Derived.OpenShut
import Derived.ChangeSame
import Derived.Deep.Slices
import Derived.Deep.Strs
import Derived.SizedLaws
import Derived.Test.YteeapmcpbmjpmaaGreatZA
import Derived.Deep.Grids
import Derived.Test.YteeapmcpbmjpmaaGreatZZi
namespace Go.Proofs.YteeapmcpbmjpmaaGreat
set_option maxRecDepth 100000
open Go.ChangeShapes Go.WideShapes Go.ChangeAt Go.RowKit
set_option linter.unusedVariables false

/-- A slice of integers that came in: nil, or a row of 'cap' numbers. -/
def IsRow (k : IntKind) (w : World) (a : Option Addr) (len cap : Nat) (zs : List Int) : Prop :=
  (a = none ∧ len = 0 ∧ cap = 0 ∧ zs = []) ∨
  ∃ x, a = some x ∧ len ≤ cap ∧ cap ≤ maxLen ∧ zs.length = cap ∧ (∀ i, i < zs.length → w.cell? (x.add i) = some (.int k (zs.getD i 0))) ∧ ∀ n ∈ zs, (Lit.int k n).wf = true

theorem IsRow.fits {k : IntKind} {w : World} {a : Option Addr} {len cap : Nat} {zs : List Int} (h : IsRow k w a len cap zs) : len ≤ cap ∧ cap ≤ maxLen ∧ (a = none → cap = 0) ∧ zs.length = cap := by
  rcases h with ⟨rfl, rfl, rfl, rfl⟩ | ⟨x, rfl, hl, hm, hz, _⟩
  · exact ⟨Nat.le_refl _, by unfold maxLen; omega, fun _ => rfl, rfl⟩
  · exact ⟨hl, hm, (fun e => by cases e), hz⟩

theorem IsRow.at {k : IntKind} {w : World} {a : Option Addr} {len cap : Nat} {zs : List Int} (h : IsRow k w a len cap zs) :
    len = 0 ∨ ∃ b off, a = some ⟨b, off, none⟩ ∧ ∀ i, i < len → w.cell? ⟨b, off + i, none⟩ = some (.int k (zs.getD i 0)) := by
  rcases h with ⟨rfl, rfl, rfl, rfl⟩ | ⟨x, rfl, hl, hm, hz, hcell, hwz⟩
  · exact .inl rfl
  · by_cases h0 : len = 0
    · exact .inl h0
    · obtain ⟨b, off, spot⟩ := x
      have hc := hcell 0 (by omega)
      have hspot : spot = none := by simpa [Addr.add] using World.cell?_spot hc
      subst hspot
      refine .inr ⟨b, off, rfl, fun i hi => ?_⟩
      have := hcell i (by omega)
      rwa [Addr.add_lit] at this

theorem IsRow.bs {w : World} {a : Option Addr} {len cap : Nat} {zs : List Int} (h : IsRow .u8 w a len cap zs) : Bs w a len (zs.take len) := by
  obtain ⟨f1, f2, _, f3⟩ := h.fits
  have hat := h.at
  refine ⟨by simp; omega, fun z hz => ?_, ?_⟩
  · rcases h with ⟨rfl, rfl, rfl, rfl⟩ | ⟨x, rfl, hl, hm, hz', hcell, hwz⟩
    · simp at hz
    · exact bounds_u8 (hwz z (List.mem_of_mem_take hz))
  · rcases hat with h0 | ⟨b, off, rfl, hc⟩
    · exact .inl h0
    · refine .inr ⟨b, off, rfl, fun i hi => ?_⟩
      rw [hc i hi]
      simp only [List.getD, List.getElem?_take, if_pos hi]
theorem open_bytes {H : Type} {enc : TypeId × Value → H} {W : World} {b0 fuel : Nat} {held : Bool} {cs : List Value} {x : DataW H × List MemPlace} (h : DataW.trod enc Tryz.prog W b0 (fun _ => true) held fuel 35 cs = some x) (hw : ∀ n ∈ x.1.weights Tryz.prog 35, n ≤ reachBytes) :
    ∃ a len cap zs, cs = [.slice a len cap] ∧ IsRow .u8 W a len cap zs ∧ len ≤ 140737488351232 ∧ cap ≤ 140737488355328 := by
  rcases open_ints Tryz.underlying35 Tryz.underlying5 (by kernel_rfl) h with ⟨rfl, _⟩ | ⟨y, l, c, zs, rfl, _, hl, hm, hz, hdat, hcell, hwz⟩
  · exact ⟨none, 0, 0, [], rfl, .inl ⟨rfl, rfl, rfl, rfl⟩, by omega, by omega⟩
  · refine ⟨some y, l, c, zs, rfl, .inr ⟨_, rfl, hl, hm, by simpa using hz, hcell, hwz⟩, ?_⟩
    subst hdat
    have hs := hw (((lits (H := H) .u8 (zs.take l)).length + (lits (H := H) .u8 (zs.drop l)).length) * Tryz.prog.bytesOf 5) (by simp only [DataW.weights, Tryz.underlying35]; exact List.mem_cons_self)
    rw [show Tryz.prog.bytesOf 5 = 1 by kernel_rfl, Nat.mul_one] at hs
    have hr : reachBytes = 140737488351232 := by decide
    have hlen : l ≤ zs.length := by simp at hz; omega
    simp only [lits, List.length_map, List.length_take, List.length_drop] at hs
    have hz2 : zs.length = c := by simpa using hz
    omega
theorem sized_at {H : Type} {P : Program} {ts : List TypeId} {ds : List (DataW H)} {j : Nat} {t : TypeId} {d : DataW H} (h : (DataW.weightsEach P ts ds).all (· ≤ reachBytes) = true) (ht : ts[j]? = some t) (hd : ds[j]? = some d) : ∀ n ∈ d.weights P t, n ≤ reachBytes := fun n hn => by
  have := List.all_eq_true.1 h _ (DataW.weights_mem_each ht hd n hn)
  simpa using this
end Go.Proofs.YteeapmcpbmjpmaaGreat
namespace Go.Proofs.YteeapmcpbmjpmaaGreat
set_option maxRecDepth 100000
open Go.ChangeShapes Go.WideShapes Go.ChangeAt Go.RowKit Go.Deep
set_option linter.unusedVariables false

theorem mem_weightsAll {H : Type} {P : Program} {e : TypeId} {d : DataW H} {m : Nat} (hm : m ∈ d.weights P e) : ∀ {l : List (DataW H)}, d ∈ l → m ∈ DataW.weightsAll P e l
  | x :: l, h => by
    rw [DataW.weightsAll]
    rcases List.mem_cons.1 h with rfl | h
    · exact List.mem_append_left _ hm
    · exact List.mem_append_right _ (mem_weightsAll hm h)
theorem cells_three {w : World} {base : Nat} {x : Addr} {cs : List Value} (h : w.cells? base x 3 = some cs) : ∃ c0 c1 c2, cs = [c0, c1, c2] ∧ w.cell? (x.add 0) = some c0 ∧ w.cell? (x.add 1) = some c1 ∧ w.cell? (x.add 2) = some c2 := by
  unfold World.cells? at h
  split at h
  · simp only [List.range, List.range.loop, List.mapM_cons, List.mapM_nil, Option.bind_eq_bind, Option.pure_def, Option.bind_eq_some_iff] at h
    obtain ⟨c0, h0, y, ⟨c1, h1, y1, ⟨c2, h2, u, e3, e2⟩, e1⟩, e0⟩ := h
    simp at e0 e1 e2 e3
    subst e3 e2 e1 e0
    exact ⟨c0, c1, c2, rfl, h0, h1, h2⟩
  · cases h
theorem vs_arg {w : World} {a : Option Addr} {len cap : Nat} {zs : List Int} (h : IsRow .u8 w a len cap zs) : Vs w (fun x => x < w.heap.size) a len cap (zs.take len) :=
  ⟨h.bs, h.fits.1, h.fits.2.1, h.fits.2.2.1, fun ad e hn => (Bs.at_block h.bs e hn).1⟩
theorem underSet : ∃ f0 f1 f2, Tryz.prog.underlying 44 = some (.struct #[f0, f1, f2]) ∧ (f0.type = 35 ∧ f1.type = 35 ∧ f2.type = 4) ∧ f0.offset = 0 ∧ f1.offset = 1 ∧ f2.offset = 2 := ⟨_, _, _, Tryz.underlying44, ⟨rfl, rfl, rfl⟩, rfl, rfl, rfl⟩
theorem cellsSet : Tryz.prog.cellsOf 44 = 3 := by kernel_rfl
theorem bytesSet : Tryz.prog.bytesOf 44 = 56 := by kernel_rfl
theorem cells4 : Tryz.prog.cellsOf 4 = 1 := by kernel_rfl
theorem cellsB : Tryz.prog.cellsOf 35 = 1 := by kernel_rfl
/-- Three cells that read as a Set. -/
theorem open_set {H : Type} {enc : TypeId × Value → H} {w : World} {base fuel : Nat} {held : Bool} {cs : List Value} {x : DataW H × List MemPlace} (h : DataW.trod enc Tryz.prog w base (fun _ => true) held fuel 44 cs = some x) (hw : ∀ n ∈ x.1.weights Tryz.prog 44, n ≤ reachBytes) :
    ∃ (s : Sx) (ka va : Option Addr) (kc vc : Nat), cs = [.slice ka s.k.length kc, .slice va s.v.length vc, .bool s.g] ∧ Vs w (fun x => x < w.heap.size) ka s.k.length kc s.k ∧ Vs w (fun x => x < w.heap.size) va s.v.length vc s.v := by
  obtain ⟨f0, f1, f2, hu, ⟨t0, t1, t2⟩, o0, o1, o2⟩ := underSet
  obtain ⟨xs, n, _, rfl, hl, hlen, hf⟩ := DataW.trod_struct hu h
  rw [cellsSet] at hl
  match xs, hlen with
  | [y0, y1, y2], _ =>
    have h0 := hf 0 f0 rfl
    have h1 := hf 1 f1 rfl
    have h2 := hf 2 f2 rfl
    rw [t0, o0, cellsB] at h0
    rw [t1, o1, cellsB] at h1
    rw [t2, o2, cells4] at h2
    obtain ⟨a0, n0, c0, z0, e0, r0, l0, _⟩ := open_bytes (h0.trans rfl) (fun n hn => hw n (by
      simp only [DataW.weights, hu]
      simp [DataW.weightsEach, t0, t1, t2, hn]))
    obtain ⟨a1, n1, c1, z1, e1, r1, l1, _⟩ := open_bytes (h1.trans rfl) (fun n hn => hw n (by
      simp only [DataW.weights, hu]
      simp [DataW.weightsEach, t0, t1, t2, hn]))
    obtain ⟨z2, e2, _⟩ := DataW.trod_bool Tryz.underlying4 (h2.trans rfl)
    have q0 := vs_arg r0
    have q1 := vs_arg r1
    have b0 : (z0.take n0).length = n0 := q0.bs.1
    have b1 : (z1.take n1).length = n1 := q1.bs.1
    refine ⟨⟨z0.take n0, z1.take n1, z2⟩, a0, a1, c0, c1, ?_, ?_, ?_⟩
    · match cs, hl with
      | [x0, x1, x2], _ =>
        simp at e0 e1 e2
        rw [e0, e1, e2]
        simp only [b0, b1]
    · simp only [b0]; exact q0
    · simp only [b1]; exact q1
/-- A list of Sets that came in. -/
theorem open_sets {H : Type} {enc : TypeId × Value → H} {w : World} {base fuel : Nat} {held : Bool} {cs : List Value} {x : DataW H × List MemPlace}
    (h : DataW.trod enc Tryz.prog w base (fun _ => true) held fuel 36 cs = some x) (hw : ∀ n ∈ x.1.weights Tryz.prog 36, n ≤ reachBytes) :
    ∃ a n c l, cs = [.slice a n c] ∧ Sl w (fun x => x < w.heap.size) a n l ∧ n ≤ 140737488355328 := by
  rcases open_slice Tryz.underlying36 h with ⟨rfl, _⟩ | ⟨x, n, c, m, nn, D, Pl, rfl, _, hl, hm, hme, hx, hel⟩
  · exact ⟨none, 0, 0, [], rfl, ⟨rfl, .inl rfl⟩, by omega⟩
  · have hnm : n ≤ m := by rw [hme]; split <;> omega
    subst hx
    have hb := hw ((((List.range n).map D).length + ((List.range (m - n)).map fun j => D (n + j)).length) * Tryz.prog.bytesOf 44) (by simp only [DataW.weights, Tryz.underlying36]; exact List.mem_cons_self)
    rw [bytesSet] at hb
    simp only [List.length_map, List.length_range] at hb
    have hr : reachBytes = 140737488351232 := by decide
    have key : ∀ i, i < n → ∃ s : Sx, ∃ ka kc va vc, w.cell? ((x.add (i * 3)).add 0) = some (.slice ka s.k.length kc) ∧ w.cell? ((x.add (i * 3)).add 1) = some (.slice va s.v.length vc) ∧ w.cell? ((x.add (i * 3)).add 2) = some (.bool s.g) ∧ Vs w (fun x => x < w.heap.size) ka s.k.length kc s.k ∧ Vs w (fun x => x < w.heap.size) va s.v.length vc s.v := by
      intro i hi
      obtain ⟨cs', h1, h2⟩ := hel i (by omega)
      rw [cellsSet] at h1
      obtain ⟨c0, c1, c2, rfl, g0, g1, g2⟩ := cells_three h1
      obtain ⟨s, ka, va, kc, vc, e, v1, v2⟩ := open_set h2 (fun k hk => hw k (by
        simp only [DataW.weights, Tryz.underlying36]
        refine List.mem_cons_of_mem _ (List.mem_append_left _ (mem_weightsAll hk ?_))
        exact List.mem_map.2 ⟨i, List.mem_range.2 hi, rfl⟩))
      simp at e
      obtain ⟨rfl, rfl, rfl⟩ := e
      exact ⟨s, ka, kc, va, vc, g0, g1, g2, v1, v2⟩
    obtain ⟨f, hf⟩ := choose_lt key
    refine ⟨some x, n, c, (List.range n).map f, rfl, ⟨by simp, ?_⟩, by omega⟩
    by_cases h0 : n = 0
    · exact .inl h0
    obtain ⟨b, off, spot⟩ := x
    have hspot : spot = none := by
      obtain ⟨_, _, _, _, q, _⟩ := hf 0 (by omega)
      simpa [Addr.add] using World.cell?_spot q
    subst hspot
    refine .inr ⟨b, off, rfl, ?_, fun i hi => ?_⟩
    · obtain ⟨_, _, _, _, q, _⟩ := hf 0 (by omega)
      exact World.block_lt_of_cell? w _ q
    · obtain ⟨ka, kc, va, vc, q0, q1, q2, v1, v2⟩ := hf i hi
      have hg : ((List.range n).map f).getD i default = f i := by simp [List.getD, hi]
      rw [hg]
      simp only [Addr.add_lit, Nat.add_zero] at q0 q1 q2
      exact ⟨ka, kc, va, vc, q0, q1, q2, v1, v2⟩
end Go.Proofs.YteeapmcpbmjpmaaGreat
namespace Go.Proofs.YteeapmcpbmjpmaaGreat
set_option maxRecDepth 100000
open Go.ChangeShapes Go.WideShapes Go.ChangeAt Go.RowKit Go.Deep
set_option linter.unusedVariables false

/-! A list of ops that came in. -/
theorem cells_five {w : World} {base : Nat} {x : Addr} {cs : List Value} (h : w.cells? base x 5 = some cs) : ∃ c0 c1 c2 c3 c4, cs = [c0, c1, c2, c3, c4] ∧ w.cell? (x.add 0) = some c0 ∧ w.cell? (x.add 1) = some c1 ∧ w.cell? (x.add 2) = some c2 ∧ w.cell? (x.add 3) = some c3 ∧ w.cell? (x.add 4) = some c4 := by
  unfold World.cells? at h
  split at h
  · simp only [List.range, List.range.loop, List.mapM_cons, List.mapM_nil, Option.bind_eq_bind, Option.pure_def, Option.bind_eq_some_iff] at h
    obtain ⟨c0, h0, y, ⟨c1, h1, y1, ⟨c2, h2, y2, ⟨c3, h3, y3, ⟨c4, h4, u, e5, e4⟩, e3⟩, e2⟩, e1⟩, e0⟩ := h
    simp at e0 e1 e2 e3 e4 e5
    subst e5 e4 e3 e2 e1 e0
    exact ⟨c0, c1, c2, c3, c4, rfl, h0, h1, h2, h3, h4⟩
  · cases h
theorem underOp13 : ∃ f0 f1 f2 f3 f4, Tryz.prog.underlying 38 = some (.struct #[f0, f1, f2, f3, f4]) ∧ (f0.type = 3 ∧ f1.type = 4 ∧ f2.type = 35 ∧ f3.type = 35 ∧ f4.type = 36) ∧ f0.offset = 0 ∧ f1.offset = 1 ∧ f2.offset = 2 ∧ f3.offset = 3 ∧ f4.offset = 4 := ⟨_, _, _, _, _, Tryz.underlying38, ⟨rfl, rfl, rfl, rfl, rfl⟩, rfl, rfl, rfl, rfl, rfl⟩
theorem cellsOp13 : Tryz.prog.cellsOf 38 = 5 := by kernel_rfl
theorem cellsI13 : Tryz.prog.cellsOf 3 = 1 := by kernel_rfl
theorem cellsSs13 : Tryz.prog.cellsOf 36 = 1 := by kernel_rfl
def OpC (w : World) (cs : List Value) (o : OpX) : Prop := cs = [.int .i64 o.kd, .bool o.sec, .slice o.ka o.kn o.kc, .slice o.va o.vn o.vc, .slice o.sa o.sn o.sc] ∧ Vs w (fun y => y < w.heap.size) o.ka o.kn o.kc o.k ∧ Vs w (fun y => y < w.heap.size) o.va o.vn o.vc o.v ∧ Sl w (fun y => y < w.heap.size) o.sa o.sn o.l ∧ o.sn ≤ 140737488355328
theorem open_opc13 {H : Type} {enc : TypeId × Value → H} {w : World} {base fuel : Nat} {held : Bool} {cs : List Value} {x : DataW H × List MemPlace} (h : DataW.trod enc Tryz.prog w base (fun _ => true) held fuel 38 cs = some x) (hw : ∀ n ∈ x.1.weights Tryz.prog 38, n ≤ reachBytes) :
    ∃ o : OpX, OpC w cs o := by
  obtain ⟨f0, f1, f2, f3, f4, hu, ⟨t0, t1, t2, t3, t4⟩, o0, o1, o2, o3, o4⟩ := underOp13
  obtain ⟨xs, n, _, rfl, hl, hlen, hf⟩ := DataW.trod_struct hu h
  rw [cellsOp13] at hl
  match xs, hlen with
  | [y0, y1, y2, y3, y4], _ =>
    have h0 := hf 0 f0 rfl
    have h1 := hf 1 f1 rfl
    have h2 := hf 2 f2 rfl
    have h3 := hf 3 f3 rfl
    have h4 := hf 4 f4 rfl
    rw [t0, o0, cellsI13] at h0
    rw [t1, o1, cells4] at h1
    rw [t2, o2, cellsB] at h2
    rw [t3, o3, cellsB] at h3
    rw [t4, o4, cellsSs13] at h4
    obtain ⟨z0, e0, _, _⟩ := DataW.trod_int Tryz.underlying3 (h0.trans rfl)
    obtain ⟨z1, e1, _⟩ := DataW.trod_bool Tryz.underlying4 (h1.trans rfl)
    obtain ⟨a2, n2, c2, z2, e2, r2, _, _⟩ := open_bytes (h2.trans rfl) (fun n hn => hw n (by
      simp only [DataW.weights, hu]
      simp [DataW.weightsEach, t0, t1, t2, t3, t4, hn]))
    obtain ⟨a3, n3, c3, z3, e3, r3, _, _⟩ := open_bytes (h3.trans rfl) (fun n hn => hw n (by
      simp only [DataW.weights, hu]
      simp [DataW.weightsEach, t0, t1, t2, t3, t4, hn]))
    obtain ⟨a4, n4, c4, l4, e4, s4, b4⟩ := open_sets (h4.trans rfl) (fun n hn => hw n (by
      simp only [DataW.weights, hu]
      simp [DataW.weightsEach, t0, t1, t2, t3, t4, hn]))
    refine ⟨⟨z0, z1, a2, n2, c2, a3, n3, c3, a4, n4, c4, z2.take n2, z3.take n3, l4⟩, ?_, vs_arg r2, vs_arg r3, s4, b4⟩
    match cs, hl with
    | [x0, x1, x2, x3, x4], _ =>
      simp at e0 e1 e2 e3 e4
      rw [e0, e1, e2, e3, e4]
instance : Inhabited OpX := ⟨⟨0, false, none, 0, 0, none, 0, 0, none, 0, 0, [], [], []⟩⟩
theorem open_ops13 {H : Type} {enc : TypeId × Value → H} {w : World} {base fuel : Nat} {held : Bool} {cs : List Value} {x : DataW H × List MemPlace}
    (h : DataW.trod enc Tryz.prog w base (fun _ => true) held fuel 22 cs = some x) (hw : ∀ n ∈ x.1.weights Tryz.prog 22, n ≤ reachBytes) :
    ∃ a n c O, cs = [.slice a n c] ∧ IsOps13 w a n O ∧ n ≤ c ∧ c ≤ maxLen := by
  rcases open_slice Tryz.underlying22 h with ⟨rfl, _⟩ | ⟨x, n, c, m, nn, D, Pl, rfl, _, hl, hm, hme, hx, hel⟩
  · exact ⟨none, 0, 0, fun _ => default, rfl, .inl rfl, Nat.le_refl _, by unfold maxLen; omega⟩
  · have hnm : n ≤ m := by rw [hme]; split <;> omega
    subst hx
    have key : ∀ i, i < n → ∃ o : OpX, ∃ cs', OpC w cs' o ∧ (w.cell? ((x.add (i * 5)).add 0) = some (.int .i64 o.kd) ∧ w.cell? ((x.add (i * 5)).add 1) = some (.bool o.sec) ∧ w.cell? ((x.add (i * 5)).add 2) = some (.slice o.ka o.kn o.kc) ∧ w.cell? ((x.add (i * 5)).add 3) = some (.slice o.va o.vn o.vc) ∧ w.cell? ((x.add (i * 5)).add 4) = some (.slice o.sa o.sn o.sc)) := by
      intro i hi
      obtain ⟨cs', h1, h2⟩ := hel i (by omega)
      rw [cellsOp13] at h1
      obtain ⟨c0, c1, c2, c3, c4, rfl, g0, g1, g2, g3, g4⟩ := cells_five h1
      obtain ⟨o, ho⟩ := open_opc13 h2 (fun k hk => hw k (by
        simp only [DataW.weights, Tryz.underlying22]
        refine List.mem_cons_of_mem _ (List.mem_append_left _ (mem_weightsAll hk ?_))
        exact List.mem_map.2 ⟨i, List.mem_range.2 hi, rfl⟩))
      have e := ho.1
      simp at e
      obtain ⟨rfl, rfl, rfl, rfl, rfl⟩ := e
      exact ⟨o, _, ho, g0, g1, g2, g3, g4⟩
    obtain ⟨f, hf⟩ := choose_lt key
    refine ⟨some x, n, c, f, rfl, ?_, hl, hm⟩
    by_cases h0 : n = 0
    · exact .inl h0
    obtain ⟨b, off, spot⟩ := x
    have hspot : spot = none := by
      obtain ⟨_, _, q, _⟩ := hf 0 (by omega)
      simpa [Addr.add] using World.cell?_spot q
    subst hspot
    refine .inr ⟨b, off, rfl, fun i hi => ?_⟩
    obtain ⟨cs', hc, q0, q1, q2, q3, q4⟩ := hf i hi
    simp only [Addr.add_lit, Nat.add_zero] at q0 q1 q2 q3 q4
    exact ⟨q0, q1, q2, q3, q4, hc.2.1, hc.2.2.1, hc.2.2.2.1, hc.2.2.2.2⟩
end Go.Proofs.YteeapmcpbmjpmaaGreat
