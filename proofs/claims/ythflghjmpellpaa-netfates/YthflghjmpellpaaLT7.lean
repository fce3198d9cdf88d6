import Derived.Test.YthflghjmpellpaaLT6
namespace Go.Proofs.Ythflghjmpellpaa
open Go.RowKit
set_option linter.unusedVariables false
set_option maxRecDepth 100000

section
variable {w w' : World} {K : Nat → Prop} {bv hv : Value} {ds : List FD} {H : List Bool}
def flD (x : FD) (j : Nat) (v : Int) : FD := ⟨flipF x.f j v, x.a, x.c⟩
theorem flD_fv (x : FD) (j : Nat) (v : Int) : fv (flD x j v) = fv x := by simp [fv, flD, flipF]
theorem flD_fdc (x : FD) (j : Nat) (v : Int) : fdc (flD x j v) = fdc x := by
  unfold fdc
  rw [flD_fv]
  rfl
theorem set_same {α : Type} (F : FD → α) {ds : List FD} {i : Nat} (hi : i < ds.length) {x : FD} (h : F x = F ds[i]) : (ds.set i x).map F = ds.map F := by
  rw [List.map_set, h, ← List.getElem_map F (l := ds) (i := i) (h := by simpa using hi)]
  exact List.set_getElem_self _
theorem fds_map (ds : List FD) : fds ds = (ds.map fdc).flatten := by simp [fds, List.flatMap]
theorem apart_map (ds : List FD) : Apart ds ↔ (ds.map fv).Pairwise fun x y => ∀ k, x.ownBlock = some k → y.ownBlock ≠ some k := by rw [List.pairwise_map]; rfl
theorem apart_at (h : Apart ds) {i m : Nat} (hi : i < ds.length) (hm : m < ds.length) (hne : i ≠ m) {k : Nat} (e : (fv ds[i]).ownBlock = some k) : (fv ds[m]).ownBlock ≠ some k := by
  rcases Nat.lt_or_gt_of_ne hne with q | q
  · exact List.pairwise_iff_getElem.1 h i m hi hm q k e
  · exact fun e2 => List.pairwise_iff_getElem.1 h m i hm hi q k e2 e
/-- A flip. -/
theorem Fs.flip (h : Fs w K bv hv ds H) {i j : Nat} {v : Int} (hi : i < ds.length) (hf : Fx (fun k => (fv ds[i]).ownBlock = some k) w w') (hd : w'.ownsRow 0 5 1 (fv ds[i]) (flD ds[i] j v).f.d.length (cells (flD ds[i] j v).f.d)) : Fs w' K bv hv (ds.set i (flD ds[i] j v)) H := by
  have hmem : ds[i] ∈ ds := List.getElem_mem hi
  have hsp : ∀ y ∈ ds.set i (flD ds[i] j v), y = flD ds[i] j v ∨ ∃ m, ∃ hm : m < ds.length, i ≠ m ∧ y = ds[m] := by
    intro y hy
    obtain ⟨m, hm, e⟩ := List.mem_iff_getElem.1 hy
    rw [List.length_set] at hm
    rw [List.getElem_set] at e
    split at e
    · exact .inl e.symm
    · rename_i hne
      exact .inr ⟨m, hm, hne, e.symm⟩
  have hfd : fds (ds.set i (flD ds[i] j v)) = fds ds := by rw [fds_map, fds_map, set_same fdc hi (flD_fdc _ _ _)]
  refine ⟨?_, ?_, ?_, ?_, h.kb, h.kh, ?_, ?_, by rw [List.length_set]; exact h.len, ?_⟩
  · rw [List.length_set, hfd]
    exact row_same h.bown fun k e => hf.block k (h.bown.lt k e).2 fun q => (h.bd hmem q).1 e
  · exact row_same h.hown fun k e => hf.block k (h.hown.lt k e).2 fun q => (h.bd hmem q).2 e
  · intro y hy
    rcases hsp y hy with rfl | ⟨m, hm, hne, rfl⟩
    · rw [flD_fv]; exact hd
    · exact row_same (h.down _ (List.getElem_mem hm)) fun k e => hf.block k ((h.down _ (List.getElem_mem hm)).lt k e).2 fun q => apart_at h.apart hi hm hne q e
  · rw [apart_map, set_same fv hi (flD_fv _ _ _), ← apart_map]
    exact h.apart
  · intro y hy k e
    rcases hsp y hy with rfl | ⟨m, hm, hne, rfl⟩
    · rw [flD_fv] at e; exact h.kd _ hmem k e
    · exact h.kd _ (List.getElem_mem hm) k e
  · intro y hy
    rcases hsp y hy with rfl | ⟨m, hm, hne, rfl⟩
    · have := h.byt _ hmem
      exact ⟨okb_set this.1 _ _ (xor_byte _ _), by show (ds[i].f.d.set _ _).length ≤ _; rw [List.length_set]; exact this.2⟩
    · exact h.byt _ (List.getElem_mem hm)
  · rw [List.map_set]
    refine nos_set _ 0 i _ h.nos ?_
    simp [List.getD, hi, flD, flipF]
theorem Fs.flip_map {i : Nat} (hi : i < ds.length) (j : Nat) (v : Int) : (ds.set i (flD ds[i] j v)).map (·.f) = (ds.map (·.f)).set i (flipF ((ds.map (·.f)).getD i fl0) j v) := by
  rw [List.map_set]
  congr 1
  simp [List.getD, hi, flD]
end
end Go.Proofs.Ythflghjmpellpaa
