import Derived.Test.YtnmklleoilicdaaTE
import Derived.Test.YtnmklleoilicdaaNRow
import Derived.Deep.Slices
import Derived.Deep.Grids
namespace Go.Proofs.Ytnmklleoilicdaa
set_option maxRecDepth 100000
open Go.ChangeShapes Go.WideShapes Go.ChangeAt Go.RowKit Go.Deep
set_option linter.unusedVariables false

theorem mem_weightsAll {H : Type} {P : Program} {e : TypeId} {d : DataW H} {m : Nat} (hm : m ∈ d.weights P e) : ∀ {l : List (DataW H)}, d ∈ l → m ∈ DataW.weightsAll P e l
  | x :: l, h => by
    rw [DataW.weightsAll]
    rcases List.mem_cons.1 h with rfl | h
    · exact List.mem_append_left _ hm
    · exact List.mem_append_right _ (mem_weightsAll hm h)
theorem cells_three {w : World} {base : Nat} {x : Addr} {cs : List Value} (h : w.cells? base x 3 = some cs) : ∃ c0 c1 c2, cs = [c0, c1, c2] ∧ w.cell? (x.add 0) = some c0 ∧ w.cell? (x.add 1) = some c1 ∧ w.cell? (x.add 2) = some c2 := by
  unfold World.cells? at h
  split at h
  · simp only [List.range, List.range.loop, List.mapM_cons, List.mapM_nil, Option.bind_eq_bind, Option.pure_def, Option.bind_eq_some_iff] at h
    obtain ⟨c0, h0, y, ⟨c1, h1, y1, ⟨c2, h2, u, e3, e2⟩, e1⟩, e0⟩ := h
    simp at e0 e1 e2 e3
    subst e3 e2 e1 e0
    exact ⟨c0, c1, c2, rfl, h0, h1, h2⟩
  · cases h
theorem vs_arg {w : World} {a : Option Addr} {len cap : Nat} {zs : List Int} (h : IsRow .u8 w a len cap zs) : Vs w (fun x => x < w.heap.size) a len cap (zs.take len) :=
  ⟨h.bs, h.fits.1, h.fits.2.1, h.fits.2.2.1, fun ad e hn => (Bs.at_block h.bs e hn).1⟩
theorem underSet : ∃ f0 f1 f2, Try.prog.underlying 37 = some (.struct #[f0, f1, f2]) ∧ (f0.type = 27 ∧ f1.type = 27 ∧ f2.type = 4) ∧ f0.offset = 0 ∧ f1.offset = 1 ∧ f2.offset = 2 := ⟨_, _, _, Try.underlying37, ⟨rfl, rfl, rfl⟩, rfl, rfl, rfl⟩
theorem cellsSet : Try.prog.cellsOf 37 = 3 := by kernel_rfl
theorem bytesSet : Try.prog.bytesOf 37 = 56 := by kernel_rfl
theorem cells4 : Try.prog.cellsOf 4 = 1 := by kernel_rfl
theorem cellsB : Try.prog.cellsOf 27 = 1 := by kernel_rfl
/-- Three cells that read as a Set. -/
theorem open_set {H : Type} {enc : TypeId × Value → H} {w : World} {base fuel : Nat} {held : Bool} {cs : List Value} {x : DataW H × List MemPlace} (h : DataW.trod enc Try.prog w base (fun _ => true) held fuel 37 cs = some x) (hw : ∀ n ∈ x.1.weights Try.prog 37, n ≤ reachBytes) :
    ∃ (s : Sx) (ka va : Option Addr) (kc vc : Nat), cs = [.slice ka s.k.length kc, .slice va s.v.length vc, .bool s.g] ∧ Vs w (fun x => x < w.heap.size) ka s.k.length kc s.k ∧ Vs w (fun x => x < w.heap.size) va s.v.length vc s.v := by
  obtain ⟨f0, f1, f2, hu, ⟨t0, t1, t2⟩, o0, o1, o2⟩ := underSet
  obtain ⟨xs, n, _, rfl, hl, hlen, hf⟩ := DataW.trod_struct hu h
  rw [cellsSet] at hl
  match xs, hlen with
  | [y0, y1, y2], _ =>
    have h0 := hf 0 f0 rfl
    have h1 := hf 1 f1 rfl
    have h2 := hf 2 f2 rfl
    rw [t0, o0, cellsB] at h0
    rw [t1, o1, cellsB] at h1
    rw [t2, o2, cells4] at h2
    obtain ⟨a0, n0, c0, z0, e0, r0, l0, _⟩ := open_bytes (h0.trans rfl) (fun n hn => hw n (by
      simp only [DataW.weights, hu]
      simp [DataW.weightsEach, t0, t1, t2, hn]))
    obtain ⟨a1, n1, c1, z1, e1, r1, l1, _⟩ := open_bytes (h1.trans rfl) (fun n hn => hw n (by
      simp only [DataW.weights, hu]
      simp [DataW.weightsEach, t0, t1, t2, hn]))
    obtain ⟨z2, e2, _⟩ := DataW.trod_bool Try.underlying4 (h2.trans rfl)
    have q0 := vs_arg r0
    have q1 := vs_arg r1
    have b0 : (z0.take n0).length = n0 := q0.bs.1
    have b1 : (z1.take n1).length = n1 := q1.bs.1
    refine ⟨⟨z0.take n0, z1.take n1, z2⟩, a0, a1, c0, c1, ?_, ?_, ?_⟩
    · match cs, hl with
      | [x0, x1, x2], _ =>
        simp at e0 e1 e2
        rw [e0, e1, e2]
        simp only [b0, b1]
    · simp only [b0]; exact q0
    · simp only [b1]; exact q1
/-- A list of Sets that came in. -/
theorem open_sets {H : Type} {enc : TypeId × Value → H} {w : World} {base fuel : Nat} {held : Bool} {cs : List Value} {x : DataW H × List MemPlace}
    (h : DataW.trod enc Try.prog w base (fun _ => true) held fuel 22 cs = some x) (hw : ∀ n ∈ x.1.weights Try.prog 22, n ≤ reachBytes) :
    ∃ a n c l, cs = [.slice a n c] ∧ Sl w (fun x => x < w.heap.size) a n l ∧ n ≤ 140737488355328 := by
  rcases open_slice Try.underlying22 h with ⟨rfl, _⟩ | ⟨x, n, c, m, nn, D, Pl, rfl, _, hl, hm, hme, hx, hel⟩
  · exact ⟨none, 0, 0, [], rfl, ⟨rfl, .inl rfl⟩, by omega⟩
  · have hnm : n ≤ m := by rw [hme]; split <;> omega
    subst hx
    have hb := hw ((((List.range n).map D).length + ((List.range (m - n)).map fun j => D (n + j)).length) * Try.prog.bytesOf 37) (by simp only [DataW.weights, Try.underlying22]; exact List.mem_cons_self)
    rw [bytesSet] at hb
    simp only [List.length_map, List.length_range] at hb
    have hr : reachBytes = 140737488351232 := by decide
    have key : ∀ i, i < n → ∃ s : Sx, ∃ ka kc va vc, w.cell? ((x.add (i * 3)).add 0) = some (.slice ka s.k.length kc) ∧ w.cell? ((x.add (i * 3)).add 1) = some (.slice va s.v.length vc) ∧ w.cell? ((x.add (i * 3)).add 2) = some (.bool s.g) ∧ Vs w (fun x => x < w.heap.size) ka s.k.length kc s.k ∧ Vs w (fun x => x < w.heap.size) va s.v.length vc s.v := by
      intro i hi
      obtain ⟨cs', h1, h2⟩ := hel i (by omega)
      rw [cellsSet] at h1
      obtain ⟨c0, c1, c2, rfl, g0, g1, g2⟩ := cells_three h1
      obtain ⟨s, ka, va, kc, vc, e, v1, v2⟩ := open_set h2 (fun k hk => hw k (by
        simp only [DataW.weights, Try.underlying22]
        refine List.mem_cons_of_mem _ (List.mem_append_left _ (mem_weightsAll hk ?_))
        exact List.mem_map.2 ⟨i, List.mem_range.2 hi, rfl⟩))
      simp at e
      obtain ⟨rfl, rfl, rfl⟩ := e
      exact ⟨s, ka, kc, va, vc, g0, g1, g2, v1, v2⟩
    obtain ⟨f, hf⟩ := choose_lt key
    refine ⟨some x, n, c, (List.range n).map f, rfl, ⟨by simp, ?_⟩, by omega⟩
    by_cases h0 : n = 0
    · exact .inl h0
    obtain ⟨b, off, spot⟩ := x
    have hspot : spot = none := by
      obtain ⟨_, _, _, _, q, _⟩ := hf 0 (by omega)
      simpa [Addr.add] using World.cell?_spot q
    subst hspot
    refine .inr ⟨b, off, rfl, ?_, fun i hi => ?_⟩
    · obtain ⟨_, _, _, _, q, _⟩ := hf 0 (by omega)
      exact World.block_lt_of_cell? w _ q
    · obtain ⟨ka, kc, va, vc, q0, q1, q2, v1, v2⟩ := hf i hi
      have hg : ((List.range n).map f).getD i default = f i := by simp [List.getD, hi]
      rw [hg]
      simp only [Addr.add_lit, Nat.add_zero] at q0 q1 q2
      exact ⟨ka, kc, va, vc, q0, q1, q2, v1, v2⟩
end Go.Proofs.Ytnmklleoilicdaa
