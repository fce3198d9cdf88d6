import Derived.Test.YthflghjmpellpaaLT4
namespace Go.Proofs.Ythflghjmpellpaa
open Go.RowKit
set_option linter.unusedVariables false
set_option maxRecDepth 100000

/-- The book and who is here, in memory of their own. -/
structure Fs (w : World) (K : Nat → Prop) (bv hv : Value) (ds : List FD) (H : List Bool) : Prop where
  bown : w.ownsRow 0 34 3 bv ds.length (fds ds)
  hown : w.ownsRow 0 4 1 hv H.length (H.map Value.bool)
  down : ∀ d ∈ ds, w.ownsRow 0 5 1 (fv d) d.f.d.length (cells d.f.d)
  apart : Apart ds
  kb : ∀ k, bv.ownBlock = some k → K k
  kh : ∀ k, hv.ownBlock = some k → K k
  kd : ∀ d ∈ ds, ∀ k, (fv d).ownBlock = some k → K k
  byt : ∀ d ∈ ds, Okb d.f.d ∧ d.f.d.length ≤ 4096
  len : ds.length = H.length
  nos : Nos 0 (ds.map (·.f))
section
variable {w w' : World} {K K' : Nat → Prop} {bv hv : Value} {ds : List FD} {H : List Bool}
theorem Fs.kx (h : Fs w K bv hv ds H) (hk : Kx K w w') : Fs w' K bv hv ds H :=
  ⟨row_same h.bown fun k e => hk k (h.kb k e), row_same h.hown fun k e => hk k (h.kh k e), fun d hd => row_same (h.down d hd) fun k e => hk k (h.kd d hd k e), h.apart, h.kb, h.kh, h.kd, h.byt, h.len, h.nos⟩
theorem Fs.wide (h : Fs w K bv hv ds H) (hK : ∀ k, K k → K' k) : Fs w K' bv hv ds H :=
  ⟨h.bown, h.hown, h.down, h.apart, fun k e => hK k (h.kb k e), fun k e => hK k (h.kh k e), fun d hd k e => hK k (h.kd d hd k e), h.byt, h.len, h.nos⟩
theorem Fs.nil (w : World) (K : Nat → Prop) : Fs w K (.slice none 0 0) (.slice none 0 0) [] [] :=
  ⟨World.ownsRow_nil _ _ _ _, World.ownsRow_nil _ _ _ _, fun d hd => by simp at hd, List.Pairwise.nil, fun k e => by simp [Value.ownBlock] at e, fun k e => by simp [Value.ownBlock] at e, fun d hd => by simp at hd, fun d hd => by simp at hd, rfl, trivial⟩
theorem Fs.fls (h : Fs w K bv hv ds H) : ∃ a c, bv = .slice a ds.length c ∧ Fls w K a ds.length (ds.map (·.f)) := by
  obtain ⟨a, c, e, hf, _⟩ := Fls.ofOwn (V := K) h.bown (fun d hd => by
    obtain ⟨a, c, e, hv⟩ := Vs.own (h.down d hd) (h.byt d hd).1
    obtain ⟨rfl, rfl⟩ : d.a = a ∧ d.c = c := by simpa [fv] using e
    exact hv.wide fun k _ e => h.kd d hd k e) (fun k _ _ e => h.kb k e)
  exact ⟨a, c, e, hf⟩
theorem Fs.hrs (h : Fs w K bv hv ds H) : ∃ a c, hv = .slice a ds.length c ∧ Hrs w a ds.length H := by
  obtain ⟨a, c, e, _, _, _, h4⟩ := own_addr h.hown
  refine ⟨a, c, by rw [h.len]; exact e, h.len.symm, ?_⟩
  rcases h4 with ⟨_, h0⟩ | ⟨g, e, _, _, hc⟩
  · exact .inl (by rw [h.len]; exact h0)
  · exact .inr ⟨g, 0, e, fun i hi => by
      rw [Nat.zero_add]
      exact hc i _ (by have hi' : i < H.length := by rw [← h.len]; exact hi
                       simp [List.getD, hi'])⟩
/-- No two of the three kinds share a block. -/
theorem Fs.bh (h : Fs w K bv hv ds H) {k : Nat} (e1 : bv.ownBlock = some k) : hv.ownBlock ≠ some k := fun e2 => by
  obtain ⟨_, t1⟩ := row_type h.bown e1
  obtain ⟨_, t2⟩ := row_type h.hown e2
  rw [t1] at t2
  simp at t2
theorem Fs.bd (h : Fs w K bv hv ds H) {d : FD} (hd : d ∈ ds) {k : Nat} (e1 : (fv d).ownBlock = some k) : bv.ownBlock ≠ some k ∧ hv.ownBlock ≠ some k := by
  obtain ⟨_, t1⟩ := row_type (h.down d hd) e1
  refine ⟨fun e2 => ?_, fun e2 => ?_⟩
  · obtain ⟨_, t2⟩ := row_type h.bown e2
    rw [t1] at t2
    simp at t2
  · obtain ⟨_, t2⟩ := row_type h.hown e2
    rw [t1] at t2
    simp at t2
theorem Fs.lt (h : Fs w K bv hv ds H) : (∀ k, bv.ownBlock = some k → k < w.heap.size) ∧ (∀ k, hv.ownBlock = some k → k < w.heap.size) ∧ ∀ d ∈ ds, ∀ k, (fv d).ownBlock = some k → k < w.heap.size :=
  ⟨fun k e => (h.bown.lt k e).2, fun k e => (h.hown.lt k e).2, fun d hd k e => ((h.down d hd).lt k e).2⟩
end
end Go.Proofs.Ythflghjmpellpaa
