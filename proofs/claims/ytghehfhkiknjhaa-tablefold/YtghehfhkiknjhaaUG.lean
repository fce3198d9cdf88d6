import Derived.Test.YtghehfhkiknjhaaUF
namespace Go.Proofs.Ytghehfhkiknjhaa
set_option maxRecDepth 100000
open Go.RowKit Go.Shelf Go.Maps
set_option linter.unusedVariables false

theorem Vs.lift {w w' : World} {V V' : Nat → Prop} {a : Option Addr} {n c : Nat} {v : List Int} (h : Vs w V a n c v) (hb : Below w.heap.size w w') (hV : ∀ x, x < w.heap.size → V x → V' x) : Vs w' V' a n c v := (h.wide hV).step fun x hx _ _ => hb.block x hx
set_option maxHeartbeats 1000000 in
theorem lset_ (x y : List UInt8) (w : World) (hx : x.length ≤ 1000) (hy : y.length ≤ 1000) :
    Calls Try.prog 38 #[.string ⟨x.toArray⟩, .string ⟨y.toArray⟩] w fun e w' => ∃ ka kc va vc, e = .returned (.agg #[.slice ka x.length kc, .slice va y.length vc, .bool false]) ∧ Vs w' (fun z => w.heap.size ≤ z) ka x.length kc (ofU x) ∧ Vs w' (fun z => w.heap.size ≤ z) va y.length vc (ofU y) ∧ Below w.heap.size w w' := by
  have B0 : Below w.heap.size w (w.alloc (.cells #[.slice none 0 0, .slice none 0 0, .bool false] 37)) := (Below.refl _ _).alloc (Nat.le_refl _) _
  have hnew := heap_alloc_new w (.cells #[.slice none 0 0, .slice none 0 0, .bool false] 37)
  have hs0 : (w.alloc (.cells #[.slice none 0 0, .slice none 0 0, .bool false] 37)).heap.size = w.heap.size + 1 := by simp
  obtain ⟨w1, c1, r1, v1, b1, s1⟩ := run_toB (w.alloc (.cells #[.slice none 0 0, .slice none 0 0, .bool false] 37)) x (by unfold maxLen; omega)
  obtain ⟨w2, c2, r2, v2, b2, s2⟩ := run_toB w1 y (by unfold maxLen; omega)
  rw [hs0] at r1 v1 s1
  rw [ofU_length] at v1 v2
  obtain ⟨s, HS⟩ : ∃ s : ByteArray, Hid ((⟨x.toArray⟩ : ByteArray) = s) := ⟨_, rfl⟩
  obtain ⟨u, HU⟩ : ∃ s : ByteArray, Hid ((⟨y.toArray⟩ : ByteArray) = s) := ⟨_, rfl⟩
  rw [HS.out] at r1 ⊢
  rw [HU.out] at r2 ⊢
  have hn2 : w2.heap[w.heap.size]? = some (.cells #[.slice none 0 0, .slice none 0 0, .bool false] 37 (0, 0)) := (b2.block _ (by omega)).trans ((b1.block _ (by rw [hs0]; omega)).trans hnew)
  have HB2 : Hid (Below w.heap.size w w2) := bel_bel (bel_bel B0 B0.size b1) (by have := b1.size; omega) b2
  have x0 : w2.cell? ⟨w.heap.size, 0, none⟩ = some (.slice none 0 0) := by rw [cell_of_row w2 w.heap.size 0 _ 37 (0, 0) hn2]; rfl
  have x1 : w2.cell? ⟨w.heap.size, 1, none⟩ = some (.slice none 0 0) := by rw [cell_of_row w2 w.heap.size 1 _ 37 (0, 0) hn2]; rfl
  have x2 : w2.cell? ⟨w.heap.size, 2, none⟩ = some (.bool false) := by rw [cell_of_row w2 w.heap.size 2 _ 37 (0, 0) hn2]; rfl
  have f0 : w2.frozen? ⟨w.heap.size, 0, none⟩ = false := by simp [World.frozen?, hn2]
  have f1 : w2.frozen? ⟨w.heap.size, 1, none⟩ = false := by simp [World.frozen?, hn2]
  have f2 : w2.frozen? ⟨w.heap.size, 2, none⟩ = false := by simp [World.frozen?, hn2]
  have HN := hid hn2
  have HV1 := hid (v1.lift (V' := fun z => w.heap.size < z) b2 (fun x _ e => by omega))
  have HV2 := hid (v2.wide (V' := fun z => w.heap.size < z) (fun x _ e => by omega))
  have HS1 := hid s1
  clear v1 v2 b1 b2 B0 hnew hs0 hn2 s2 s1
  obtain ⟨n, HNN⟩ : ∃ n, Hid (x.length = n) := ⟨_, rfl⟩
  obtain ⟨m, HMM⟩ : ∃ n, Hid (y.length = n) := ⟨_, rfl⟩
  rw [HNN.out] at r1 HV1 ⊢
  rw [HMM.out] at r2 HV2 ⊢
  obtain ⟨q, HQ⟩ : ∃ q, Hid (w1.heap.size = q) := ⟨_, rfl⟩
  rw [HQ.out] at r2 HV2
  go_enter Try.func38, Try.ntmps38
  go_wp2_with fail
  have HRW := hid (set3 (a := .slice (some ⟨w.heap.size + 1, 0, none⟩) n c1) (b := .slice (some ⟨q, 0, none⟩) m c2) (c := .bool false) HN.out)
  have HSO := fun j (h : j ≠ w.heap.size) => set3_other (w := w2) (a := .slice (some ⟨w.heap.size + 1, 0, none⟩) n c1) (b := .slice (some ⟨q, 0, none⟩) m c2) (c := .bool false) h
  refine bodyPost_ret (v := .agg #[.slice (some ⟨w.heap.size + 1, 0, none⟩) n c1, .slice (some ⟨q, 0, none⟩) m c2, .bool false]) ?_ rfl ?_
  · exact results_cell_row rfl _ _ w.heap.size 37 _ (0, 0) _ rfl HRW.out Try.underlying37 rfl sizeS
  clear x0 x1 x2 f0 f1 f2
  have hst : ∀ {a : Option Addr} {n' c : Nat} {z : List Int}, Vs w2 (fun z => w.heap.size < z) a n' c z → Vs (((w2.setCell ⟨w.heap.size, 0, none⟩ (.slice (some ⟨w.heap.size + 1, 0, none⟩) n c1)).setCell ⟨w.heap.size, 1, none⟩ (.slice (some ⟨q, 0, none⟩) m c2)).setCell ⟨w.heap.size, 2, none⟩ (.bool false)) (fun z => w.heap.size ≤ z) a n' c z := fun h => (h.step fun x _ hx _ => HSO x (by omega)).wide fun x _ hx => Nat.le_of_lt hx
  refine ⟨_, c1, _, c2, rfl, hst HV1.out, hst HV2.out, HB2.out.trans ⟨rfl, rfl, rfl, by simp, fun x hx => HSO x (by omega)⟩⟩
set_option maxHeartbeats 1000000 in
theorem lgone_ (x : List UInt8) (w : World) (hx : x.length ≤ 1000) :
    Calls Try.prog 39 #[.string ⟨x.toArray⟩] w fun e w' => ∃ ka kc, e = .returned (.agg #[.slice ka x.length kc, .slice none 0 0, .bool true]) ∧ Vs w' (fun z => w.heap.size ≤ z) ka x.length kc (ofU x) ∧ Below w.heap.size w w' := by
  have B0 : Below w.heap.size w (w.alloc (.cells #[.slice none 0 0, .slice none 0 0, .bool false] 37)) := (Below.refl _ _).alloc (Nat.le_refl _) _
  have hnew := heap_alloc_new w (.cells #[.slice none 0 0, .slice none 0 0, .bool false] 37)
  have hs0 : (w.alloc (.cells #[.slice none 0 0, .slice none 0 0, .bool false] 37)).heap.size = w.heap.size + 1 := by simp
  obtain ⟨w2, c1, r1, v1, b1, s1⟩ := run_toB (w.alloc (.cells #[.slice none 0 0, .slice none 0 0, .bool false] 37)) x (by unfold maxLen; omega)
  rw [hs0] at r1 v1 s1
  rw [ofU_length] at v1
  obtain ⟨s, HS⟩ : ∃ s : ByteArray, Hid ((⟨x.toArray⟩ : ByteArray) = s) := ⟨_, rfl⟩
  rw [HS.out] at r1 ⊢
  have hn2 : w2.heap[w.heap.size]? = some (.cells #[.slice none 0 0, .slice none 0 0, .bool false] 37 (0, 0)) := (b1.block _ (by rw [hs0]; omega)).trans hnew
  have HB2 : Hid (Below w.heap.size w w2) := bel_bel B0 B0.size b1
  have x0 : w2.cell? ⟨w.heap.size, 0, none⟩ = some (.slice none 0 0) := by rw [cell_of_row w2 w.heap.size 0 _ 37 (0, 0) hn2]; rfl
  have x1 : w2.cell? ⟨w.heap.size, 1, none⟩ = some (.slice none 0 0) := by rw [cell_of_row w2 w.heap.size 1 _ 37 (0, 0) hn2]; rfl
  have x2 : w2.cell? ⟨w.heap.size, 2, none⟩ = some (.bool false) := by rw [cell_of_row w2 w.heap.size 2 _ 37 (0, 0) hn2]; rfl
  have f0 : w2.frozen? ⟨w.heap.size, 0, none⟩ = false := by simp [World.frozen?, hn2]
  have f1 : w2.frozen? ⟨w.heap.size, 1, none⟩ = false := by simp [World.frozen?, hn2]
  have f2 : w2.frozen? ⟨w.heap.size, 2, none⟩ = false := by simp [World.frozen?, hn2]
  have HN := hid hn2
  have HV1 := hid (v1.wide (V' := fun z => w.heap.size < z) (fun x _ e => by omega))
  clear v1 b1 B0 hnew hs0 hn2 s1
  obtain ⟨n, HNN⟩ : ∃ n, Hid (x.length = n) := ⟨_, rfl⟩
  rw [HNN.out] at r1 HV1 ⊢
  go_enter Try.func39, Try.ntmps39
  go_wp2_with fail
  have HRW := hid (set3 (a := .slice (some ⟨w.heap.size + 1, 0, none⟩) n c1) (b := .slice none 0 0) (c := .bool true) HN.out)
  have HSO := fun j (h : j ≠ w.heap.size) => set3_other (w := w2) (a := .slice (some ⟨w.heap.size + 1, 0, none⟩) n c1) (b := .slice none 0 0) (c := .bool true) h
  refine bodyPost_ret (v := .agg #[.slice (some ⟨w.heap.size + 1, 0, none⟩) n c1, .slice none 0 0, .bool true]) ?_ rfl ?_
  · exact results_cell_row rfl _ _ w.heap.size 37 _ (0, 0) _ rfl HRW.out Try.underlying37 rfl sizeS
  clear x0 x1 x2 f0 f1 f2
  have hst : ∀ {a : Option Addr} {n' c : Nat} {z : List Int}, Vs w2 (fun z => w.heap.size < z) a n' c z → Vs (((w2.setCell ⟨w.heap.size, 0, none⟩ (.slice (some ⟨w.heap.size + 1, 0, none⟩) n c1)).setCell ⟨w.heap.size, 1, none⟩ (.slice none 0 0)).setCell ⟨w.heap.size, 2, none⟩ (.bool true)) (fun z => w.heap.size ≤ z) a n' c z := fun h => (h.step fun x _ hx _ => HSO x (by omega)).wide fun x _ hx => Nat.le_of_lt hx
  refine ⟨_, c1, rfl, hst HV1.out, HB2.out.trans ⟨rfl, rfl, rfl, by simp, fun x hx => HSO x (by omega)⟩⟩
end Go.Proofs.Ytghehfhkiknjhaa
