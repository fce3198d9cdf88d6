import Derived.Test.YteeapmcpbmjpmaaGreatZZf
import Derived.Test.YteeapmcpbmjpmaaGreatVC
namespace Go.Proofs.YteeapmcpbmjpmaaGreat
set_option maxRecDepth 100000
open Go.RowKit Go.Shelf Go.Maps
set_option linter.unusedVariables false

/-! Is an op short? -/
set_option maxHeartbeats 4000000 in
theorem oshort_ (U : Nat → Prop) (kd : Int) (sec : Bool) (ka va sa : Option Addr) (kn kc vn vc sn sc : Nat) (l : List Sx) (w : World) (hl : Sl w U sa sn l) (hk : kn ≤ maxLen) (hv : vn ≤ maxLen) (hn : sn ≤ 140737488355328) :
    Calls Tryz.prog 6 #[.agg #[.int .i64 kd, .bool sec, .slice ka kn kc, .slice va vn vc, .slice sa sn sc]] w fun e w' => e = .returned (.bool (decide (kn ≤ 2000) && decide (vn ≤ 2000) && shortS l)) ∧ Below w.heap.size w w' := by
  have hB : Below w.heap.size w (w.alloc (.cells #[.int .i64 kd, .bool sec, .slice ka kn kc, .slice va vn vc, .slice sa sn sc] 38)) := (Below.refl _ _).alloc (Nat.le_refl _) _
  have hnw := heap_alloc_new w (.cells #[.int .i64 kd, .bool sec, .slice ka kn kc, .slice va vn vc, .slice sa sn sc] 38)
  have o2 : (w.alloc (.cells #[.int .i64 kd, .bool sec, .slice ka kn kc, .slice va vn vc, .slice sa sn sc] 38)).cell? ⟨w.heap.size, 2, none⟩ = some (.slice ka kn kc) := (cell_of_row _ _ 2 _ _ (0, 0) hnw).trans rfl
  have o3 : (w.alloc (.cells #[.int .i64 kd, .bool sec, .slice ka kn kc, .slice va vn vc, .slice sa sn sc] 38)).cell? ⟨w.heap.size, 3, none⟩ = some (.slice va vn vc) := (cell_of_row _ _ 3 _ _ (0, 0) hnw).trans rfl
  have o4 : (w.alloc (.cells #[.int .i64 kd, .bool sec, .slice ka kn kc, .slice va vn vc, .slice sa sn sc] 38)).cell? ⟨w.heap.size, 4, none⟩ = some (.slice sa sn sc) := (cell_of_row _ _ 4 _ _ (0, 0) hnw).trans rfl
  have ks := short_ U sa sn sc l _ (hl.below hB) hn
  have HB := hid hB
  unfold maxLen at hk hv
  obtain ⟨q, HQ⟩ : ∃ q, Hid (shortS l = q) := ⟨_, rfl⟩
  rw [HQ.out] at ks ⊢
  clear hnw hB hl
  by_cases h1 : kn ≤ 2000
  · have i1 : (kn : Int) ≤ 2000 := by omega
    rw [decide_eq_true h1]
    by_cases h2 : vn ≤ 2000
    · have i2 : (vn : Int) ≤ 2000 := by omega
      rw [decide_eq_true h2]
      go_enter Tryz.func6, Tryz.ntmps6
      go_wp2_with fail
      refine ks.mono ?_
      rintro e w1 ⟨rfl, hB1⟩
      have HB1 := hid (bel_bel HB.out HB.out.size hB1)
      clear ks hB1 o2 o3 o4
      go_wp2_with fail
      go_ret
      exact ⟨by simp, HB1.out⟩
    · have i2 : ¬ (vn : Int) ≤ 2000 := by omega
      rw [decide_eq_false h2]
      go_enter Tryz.func6, Tryz.ntmps6
      go_wp2_with fail
      go_ret
      exact ⟨by simp, HB.out⟩
  · have i1 : ¬ (kn : Int) ≤ 2000 := by omega
    rw [decide_eq_false h1]
    go_enter Tryz.func6, Tryz.ntmps6
    go_wp2_with fail
    go_ret
    exact ⟨by simp, HB.out⟩
/-- A new pair: a new table, and a new one of the document. -/
theorem Pq.start {w w' : World} {t b r p : Nat} (ht : Tw w t b (fun _ => False) []) (hr : w.heap[r]? = some (.cells #[.slice none 0 0] 30 (0, 0))) (hp : w.heap[p]? = some (pobj t r (.pointer none) (.pointer none))) : Pq w (fun x => x = p ∨ x = t ∨ x = b ∨ x = r) p 0 := by
  obtain ⟨es, cl, hm⟩ := ht.mp.isMap
  have htl := ht.tbl
  unfold Tbl at htl
  unfold pobj at hp
  have e1 : t ≠ b := fun e => by rw [e, hm] at htl; cases htl
  have e2 : r ≠ b := fun e => by rw [e, hm] at hr; cases hr
  have e3 : p ≠ b := fun e => by rw [e, hm] at hp; cases hp
  have e4 : r ≠ t := fun e => by rw [e, htl] at hr; simp at hr
  have e5 : p ≠ t := fun e => by rw [e, htl] at hp; simp at hp
  have e6 : p ≠ r := fun e => by rw [e, hr] at hp; simp at hp
  refine ⟨fun x => x = t, t, b, r, _, _, [], [], Nat.le_refl _, ⟨hp, ⟨ht.wide fun x _ f => f.elim, ⟨none, 0, ⟨hr, ⟨rfl, .inl rfl⟩⟩, Nat.le_refl _, Nat.zero_le _⟩, rfl, fun e => e1 e.symm, e4, fun e => e2 e.symm⟩, e5, e3, e6, fun x e => .inr (.inl e), .inl rfl, .inr (.inr (.inl rfl)), .inr (.inr (.inr rfl)), fun x e => ?_, fun e he => by simp at he⟩, .inl ⟨rfl, rfl⟩⟩
  rcases e with rfl | rfl | rfl | rfl
  · exact (Array.getElem?_eq_some_iff.1 hp).1
  · exact (Array.getElem?_eq_some_iff.1 htl).1
  · exact (Array.getElem?_eq_some_iff.1 hm).1
  · exact (Array.getElem?_eq_some_iff.1 hr).1
end Go.Proofs.YteeapmcpbmjpmaaGreat
namespace Go.Proofs.YteeapmcpbmjpmaaGreat
set_option maxRecDepth 100000
open Go.RowKit Go.Shelf Go.Maps
set_option linter.unusedVariables false

/-! Two pairs beside one another. -/
structure Tt (w0 w : World) (pa pb : Nat) (F G : Nat → Prop) (N : Nat) : Prop where
  a : Pq w F pa N
  b : Pq w G pb N
  d : ∀ x, F x → ¬ G x
  fa : ∀ x, F x → w0.heap.size ≤ x
  fb : ∀ x, G x → w0.heap.size ≤ x
  bel : Below w0.heap.size w0 w
theorem Tt.swap {w0 w : World} {pa pb N : Nat} {F G : Nat → Prop} (h : Tt w0 w pa pb F G N) : Tt w0 w pb pa G F N := ⟨h.b, h.a, fun x hg hf => h.d x hf hg, h.fb, h.fa, h.bel⟩
theorem Tt.step {w0 w w' : World} {pa pb N N' : Nat} {F G : Nat → Prop} (h : Tt w0 w pa pb F G N) (s : Stp w w' F pa N') (hN : N ≤ N') : ∃ F', Tt w0 w' pa pb F' G N' := by
  obtain ⟨F', h1, h2, h3⟩ := s
  refine ⟨F', h1, (h.b.other h2 (fun x hg hf => h.d x hf hg)).more hN, fun x hf hg => ?_, fun x hf => ?_, h.fb, ?_⟩
  · rcases h3 x hf with hf | hf
    · exact h.d x hf hg
    · have := h.b.lt x hg; omega
  · rcases h3 x hf with hf | hf
    · exact h.fa x hf
    · have := h.bel.size; omega
  · have hb : Below w0.heap.size w w' := h2.below h.bel.size h.fa
    exact h.bel.trans hb
theorem Tt.more {w0 w : World} {pa pb N N' : Nat} {F G : Nat → Prop} (h : Tt w0 w pa pb F G N) (hN : N ≤ N') : Tt w0 w pa pb F G N' := ⟨h.a.more hN, h.b.more hN, h.d, h.fa, h.fb, h.bel⟩
theorem Tt.on {w0 w w' : World} {pa pb N : Nat} {F G : Nat → Prop} (h : Tt w0 w pa pb F G N) (hb : Below w.heap.size w w') : Tt w0 w' pa pb F G N := ⟨h.a.below hb, h.b.below hb, h.d, h.fa, h.fb, bel_bel h.bel h.bel.size hb⟩
/-- An op of the caller's, at a pair whose blocks are all new. -/
theorem Oi.on {w0 w : World} {F : Nat → Prop} {ka va sa : Option Addr} {kn kc vn vc sn : Nat} {k v : List Int} {l : List Sx} (h : Oi w0 (fun x => w0.heap.size ≤ x) ka va sa kn kc vn vc sn k v l) (hb : Below w0.heap.size w0 w) (hF : ∀ x, F x → w0.heap.size ≤ x) : Oi w F ka va sa kn kc vn vc sn k v l :=
  ⟨(h.qk.step fun x hx _ _ => hb.block x hx).wide fun x _ hx hf => hx (hF x hf), (h.qv.step fun x hx _ _ => hb.block x hx).wide fun x _ hx hf => hx (hF x hf), (h.ql.below hb).wide fun x _ hx hf => hx (hF x hf), h.lk, h.lv, h.ls, h.sh⟩
end Go.Proofs.YteeapmcpbmjpmaaGreat
namespace Go.Proofs.YteeapmcpbmjpmaaGreat
set_option maxRecDepth 100000
open Go.RowKit Go.Shelf Go.Maps
set_option linter.unusedVariables false

/-! TablePlays: the beginning, the script. -/
/-- An op, its cells' letters and what its lists read. -/
structure OpX where
  kd : Int
  sec : Bool
  ka : Option Addr
  kn : Nat
  kc : Nat
  va : Option Addr
  vn : Nat
  vc : Nat
  sa : Option Addr
  sn : Nat
  sc : Nat
  k : List Int
  v : List Int
  l : List Sx
/-- An op that came in lies so. -/
structure OpAt (w : World) (q off : Nat) (x : OpX) : Prop where
  c0 : w.cell? ⟨q, off, none⟩ = some (.int .i64 x.kd)
  c1 : w.cell? ⟨q, off + 1, none⟩ = some (.bool x.sec)
  c2 : w.cell? ⟨q, off + 2, none⟩ = some (.slice x.ka x.kn x.kc)
  c3 : w.cell? ⟨q, off + 3, none⟩ = some (.slice x.va x.vn x.vc)
  c4 : w.cell? ⟨q, off + 4, none⟩ = some (.slice x.sa x.sn x.sc)
  vk : Vs w (fun y => y < w.heap.size) x.ka x.kn x.kc x.k
  vv : Vs w (fun y => y < w.heap.size) x.va x.vn x.vc x.v
  vl : Sl w (fun y => y < w.heap.size) x.sa x.sn x.l
  ln : x.sn ≤ 140737488355328
def IsOps13 (w : World) (a : Option Addr) (n : Nat) (O : Nat → OpX) : Prop := n = 0 ∨ ∃ q off, a = some ⟨q, off, none⟩ ∧ ∀ i, i < n → OpAt w q (off + i * 5) (O i)
theorem OpAt.oi {w : World} {q off : Nat} {x : OpX} (h : OpAt w q off x) (hs : (decide (x.kn ≤ 2000) && decide (x.vn ≤ 2000) && shortS x.l) = true) : Oi w (fun y => w.heap.size ≤ y) x.ka x.va x.sa x.kn x.kc x.vn x.vc x.sn x.k x.v x.l := by
  rw [Bool.and_eq_true, Bool.and_eq_true] at hs
  obtain ⟨⟨h1, h2⟩, h3⟩ := hs
  unfold shortS at h3
  rw [Bool.and_eq_true] at h3
  refine ⟨h.vk.wide fun y _ hy => by omega, h.vv.wide fun y _ hy => by omega, h.vl.wide fun y _ hy => by omega, of_decide_eq_true h1, of_decide_eq_true h2, by rw [← h.vl.len]; exact of_decide_eq_true h3.1, fun s hs => ?_⟩
  have h4 := List.all_eq_true.1 h3.2 s hs
  unfold shortX at h4
  rw [Bool.and_eq_true] at h4
  exact ⟨of_decide_eq_true h4.1, of_decide_eq_true h4.2⟩
theorem Pq.made {w2 : World} {t b : Nat} (ht : Tw w2 t b (fun _ => False) []) : Pq ((w2.alloc (.cells #[.slice none 0 0] 30)).alloc (.cells #[.pointer (some ⟨t, 0, none⟩), .pointer none, .pointer (some ⟨w2.heap.size, 0, none⟩), .pointer none] 34)) (fun x => x = w2.heap.size + 1 ∨ x = t ∨ x = b ∨ x = w2.heap.size) (w2.heap.size + 1) 0 := by
  have hB1 : Below w2.heap.size w2 (w2.alloc (.cells #[.slice none 0 0] 30)) := (Below.refl _ _).alloc (Nat.le_refl _) _
  have hr := heap_alloc_new w2 (.cells #[.slice none 0 0] 30)
  have hs : (w2.alloc (.cells #[.slice none 0 0] 30)).heap.size = w2.heap.size + 1 := by simp
  have hp := heap_alloc_new (w2.alloc (.cells #[.slice none 0 0] 30)) (.cells #[.pointer (some ⟨t, 0, none⟩), .pointer none, .pointer (some ⟨w2.heap.size, 0, none⟩), .pointer none] 34)
  rw [hs] at hp
  refine Pq.start (w' := w2) ((ht.below hB1).below ((Below.refl _ _).alloc (Nat.le_refl _) _)) ?_ hp
  rw [Below.heap_alloc _ _ w2.heap.size (by rw [hs]; omega)]
  exact hr
end Go.Proofs.YteeapmcpbmjpmaaGreat
