import Derived.Test.YteeapmcpbmjpmaaGreatZZd
namespace Go.Proofs.YteeapmcpbmjpmaaGreat
set_option maxRecDepth 100000
open Go.RowKit Go.Shelf Go.Maps
set_option linter.unusedVariables false

/-! A pair, whole. -/
theorem Fz.wide {F F' : Nat → Prop} {w w' : World} (h : Fz F w w') (hF : ∀ x, F x → F' x) : Fz F' w w' := ⟨h.os, h.tape, h.output, h.size, fun x hx hn => h.same x hx (fun q => hn (hF x q))⟩
def pobj (t r : Nat) (x1 x3 : Value) : Obj := .cells #[.pointer (some ⟨t, 0, none⟩), x1, .pointer (some ⟨r, 0, none⟩), x3] 34 (0, 0)
structure Pc (w : World) (F Z : Nat → Prop) (p t b r : Nat) (x1 x3 : Value) (M : Tab) (K : List (List Int)) : Prop where
  obj : w.heap[p]? = some (pobj t r x1 x3)
  pt : Pt w Z t b r M M
  zp : ¬ Z p
  pb : p ≠ b
  pr : p ≠ r
  zF : ∀ x, Z x → F x
  Fp : F p
  Fb : F b
  Fr : F r
  lt : ∀ x, F x → x < w.heap.size
  key : ∀ e ∈ M, e.1 ∈ K
structure Pd (w : World) (F Z : Nat → Prop) (p b r o b1 b2 q s1 s2 : Nat) (I W : Tab) (K : List (List Int)) : Prop where
  po : Po w Z o b1 b2 q s1 s2 I W I
  F1 : F b1
  F2 : F s2
  n1 : b1 ≠ p ∧ b1 ≠ b ∧ b1 ≠ r
  n2 : s2 ≠ p ∧ s2 ≠ b ∧ s2 ≠ r
  ki : ∀ e ∈ I, e.1 ∈ K
  kw : ∀ e ∈ W, e.1 ∈ K
/-- The changes that are laid over it, if any are. -/
def Px (w : World) (F Z : Nat → Prop) (p b r : Nat) (x1 x3 : Value) (K : List (List Int)) : Prop := (x1 = .pointer none ∧ x3 = .pointer none) ∨ ∃ o b1 b2 q s1 s2 I W, x1 = .pointer (some ⟨o, 0, none⟩) ∧ x3 = .pointer (some ⟨q, 0, none⟩) ∧ Pd w F Z p b r o b1 b2 q s1 s2 I W K
/-- With a footprint F, of at most N keys. -/
def Pq (w : World) (F : Nat → Prop) (p N : Nat) : Prop := ∃ Z t b r x1 x3 M K, K.length ≤ N ∧ Pc w F Z p t b r x1 x3 M K ∧ Px w F Z p b r x1 x3 K
/-- What a step makes of it. -/
def Stp (w w' : World) (F : Nat → Prop) (p N : Nat) : Prop := ∃ F', Pq w' F' p N ∧ Fz F w w' ∧ ∀ x, F' x → F x ∨ w.heap.size ≤ x
theorem len_keys : ∀ {M : Tab} {K : List (List Int)}, Srt M → (∀ e ∈ M, e.1 ∈ K) → M.length ≤ K.length
  | [], K, _, _ => Nat.zero_le _
  | p :: M, K, hS, hK => by
    have h1 := len_keys (M := M) (K := K.erase p.1) (List.pairwise_cons.1 hS).2 (fun e he => by
      rw [List.mem_erase_of_ne (fun f => lx_ne ((List.pairwise_cons.1 hS).1 e he) f.symm)]
      exact hK e (List.mem_cons_of_mem _ he))
    have h2 := hK p (List.mem_cons_self ..)
    rw [List.length_erase_of_mem h2] at h1
    have h3 : 0 < K.length := List.length_pos_of_mem h2
    rw [List.length_cons]
    omega
theorem Pc.len {w : World} {F Z : Nat → Prop} {p t b r : Nat} {x1 x3 : Value} {M : Tab} {K : List (List Int)} (h : Pc w F Z p t b r x1 x3 M K) : M.length ≤ K.length := len_keys h.pt.tw.tok.srt h.key
/-- All that the pair has is as it was. -/
theorem Pd.keep {w w' : World} {F F' Z Z' : Nat → Prop} {p b r o b1 b2 q s1 s2 : Nat} {I W : Tab} {K K' : List (List Int)} (h : Pd w F Z p b r o b1 b2 q s1 s2 I W K) (hk : ∀ x, x < w.heap.size → Z x ∨ x = b1 ∨ x = s2 → w'.heap[x]? = w.heap[x]?) (hZ : ∀ x, x < w.heap.size → (Z' x ↔ Z x)) (hF : ∀ x, F x → F' x) (hK : ∀ k ∈ K, k ∈ K') {b' r' : Nat} (hb : b' = b ∨ w.heap.size ≤ b') (hr : r' = r ∨ w.heap.size ≤ r') : Pd w' F' Z' p b' r' o b1 b2 q s1 s2 I W K' := by
  have l1 := h.po.ov.is.lt
  have l2 := h.po.d2.lt
  have := h.n1
  have := h.n2
  exact ⟨h.po.keep hk (fun x hx hz => (hZ x hx).2 hz) (fun y => h.po.n1 ((hZ _ l1).1 y)) (fun y => h.po.n2 ((hZ _ l2).1 y)), hF _ h.F1, hF _ h.F2, by omega, by omega, fun e he => hK _ (h.ki e he), fun e he => hK _ (h.kw e he)⟩
theorem Px.keep {w w' : World} {F F' Z Z' : Nat → Prop} {p b r : Nat} {x1 x3 : Value} {K K' : List (List Int)} (h : Px w F Z p b r x1 x3 K) (hk : ∀ x, x < w.heap.size → F x → x ≠ p → x ≠ b → x ≠ r → w'.heap[x]? = w.heap[x]?) (hZ : ∀ x, x < w.heap.size → (Z' x ↔ Z x)) (hF : ∀ x, F x → F' x) (hK : ∀ k ∈ K, k ∈ K') (zF : ∀ x, Z x → F x) (zp : ¬ Z p) (zb : ¬ Z b) (zr : ¬ Z r) {b' r' : Nat} (hb : b' = b ∨ w.heap.size ≤ b') (hr : r' = r ∨ w.heap.size ≤ r') : Px w' F' Z' p b' r' x1 x3 K' := by
  rcases h with h | ⟨o, b1, b2, q, s1, s2, I, W, e1, e3, h⟩
  · exact .inl h
  · refine .inr ⟨o, b1, b2, q, s1, s2, I, W, e1, e3, h.keep (fun x hx hz => ?_) hZ hF hK hb hr⟩
    have n1 := h.n1
    have n2 := h.n2
    rcases hz with hz | rfl | rfl
    · exact hk x hx (zF x hz) (fun e => zp (e ▸ hz)) (fun e => zb (e ▸ hz)) (fun e => zr (e ▸ hz))
    · exact hk x hx h.F1 n1.1 n1.2.1 n1.2.2
    · exact hk x hx h.F2 n2.1 n2.2.1 n2.2.2
theorem Pq.below {w w' : World} {F : Nat → Prop} {p N : Nat} (h : Pq w F p N) (hb : Below w.heap.size w w') : Pq w' F p N := by
  obtain ⟨Z, t, b, r, x1, x3, M, K, hN, hc, hx⟩ := h
  exact ⟨Z, t, b, r, x1, x3, M, K, hN, ⟨(hb.block p (hc.lt p hc.Fp)).trans hc.obj, hc.pt.keep (fun x hx _ => hb.block x hx) (fun _ _ hz => hz) hc.pt.zb hc.pt.zr, hc.zp, hc.pb, hc.pr, hc.zF, hc.Fp, hc.Fb, hc.Fr, fun x hx => Nat.lt_of_lt_of_le (hc.lt x hx) hb.size, hc.key⟩,
    hx.keep (fun x hx _ _ _ _ => hb.block x hx) (fun _ _ => Iff.rfl) (fun _ h => h) (fun _ h => h) hc.zF hc.zp hc.pt.zb hc.pt.zr (.inl rfl) (.inl rfl)⟩
theorem Pq.more {w : World} {F : Nat → Prop} {p N N' : Nat} (h : Pq w F p N) (hn : N ≤ N') : Pq w F p N' := by
  obtain ⟨Z, t, b, r, x1, x3, M, K, hN, hc⟩ := h
  exact ⟨Z, t, b, r, x1, x3, M, K, Nat.le_trans hN hn, hc⟩
theorem Pq.stay {w w' : World} {F : Nat → Prop} {p N : Nat} (h : Pq w F p N) (hb : Below w.heap.size w w') : Stp w w' F p N := ⟨F, h.below hb, .ofBelow hb, fun x hx => .inl hx⟩
/-- Another pair's step leaves this one as it was. -/
theorem Pq.other {w w' : World} {F G : Nat → Prop} {p N : Nat} (h : Pq w F p N) (hz : Fz G w w') (hd : ∀ x, F x → ¬ G x) : Pq w' F p N := by
  obtain ⟨Z, t, b, r, x1, x3, M, K, hN, hc, hx⟩ := h
  have hk : ∀ x, x < w.heap.size → F x → w'.heap[x]? = w.heap[x]? := fun x hx hf => hz.same x hx (hd x hf)
  exact ⟨Z, t, b, r, x1, x3, M, K, hN, ⟨(hk p (hc.lt p hc.Fp) hc.Fp).trans hc.obj, hc.pt.keep (fun x hx h => hk x hx (by rcases h with h | rfl | rfl; exact hc.zF x h; exact hc.Fb; exact hc.Fr)) (fun _ _ hz => hz) hc.pt.zb hc.pt.zr, hc.zp, hc.pb, hc.pr, hc.zF, hc.Fp, hc.Fb, hc.Fr, fun x hx => Nat.lt_of_lt_of_le (hc.lt x hx) hz.size, hc.key⟩,
    hx.keep (fun x hx hf _ _ _ => hk x hx hf) (fun _ _ => Iff.rfl) (fun _ h => h) (fun _ h => h) hc.zF hc.zp hc.pt.zb hc.pt.zr (.inl rfl) (.inl rfl)⟩
theorem Pq.lt {w : World} {F : Nat → Prop} {p N : Nat} (h : Pq w F p N) : ∀ x, F x → x < w.heap.size := by
  obtain ⟨Z, t, b, r, x1, x3, M, K, hN, hc, hx⟩ := h
  exact hc.lt
/-- Behind a step at the tables. -/
theorem Pc.aft {w w' : World} {F Z : Nat → Prop} {p t b r N : Nat} {x1 x3 : Value} {M M' : Tab} {K K' : List (List Int)} (hc : Pc w F Z p t b r x1 x3 M K) (hx : Px w F Z p b r x1 x3 K) (ha : Aft w w' Z t b r M') (hK : ∀ k ∈ K, k ∈ K') (hM : ∀ e ∈ M', e.1 ∈ K') (hN : K'.length ≤ N) : Stp w w' F p N := by
  obtain ⟨Z', h1, h2, h3⟩ := ha
  have hbl := hc.pt.tw.mp.lt
  have hrl := hc.pt.dd.lt
  have hpl := hc.lt p hc.Fp
  refine ⟨fun x => F x ∨ (w.heap.size ≤ x ∧ x < w'.heap.size), ⟨fun x => Z' x ∧ x < w'.heap.size, t, b, r, x1, x3, M', K', hN, ⟨(h3.same p hpl (fun e => by rcases e with e | e; exact hc.pb e; exact hc.pr e)).trans hc.obj, h1.keep (fun _ _ _ => rfl) (fun x hx hz => ⟨hz, hx⟩) (fun y => h1.zb y.1) (fun y => h1.zr y.1), fun y => hc.zp ((h2 p hpl).1 y.1), hc.pb, hc.pr, fun x y => ?_, .inl hc.Fp, .inl hc.Fb, .inl hc.Fr, fun x y => ?_, hM⟩, ?_⟩, h3.wide ?_, fun x y => y.imp id (fun z => z.1)⟩
  · by_cases hl : x < w.heap.size
    · exact .inl (hc.zF x ((h2 x hl).1 y.1))
    · exact .inr ⟨by omega, y.2⟩
  · rcases y with y | y
    · exact Nat.lt_of_lt_of_le (hc.lt x y) h3.size
    · exact y.2
  · exact hx.keep (fun x hl _ _ nb nr => h3.same x hl (fun e => by rcases e with e | e; exact nb e; exact nr e)) (fun x hl => ⟨fun y => (h2 x hl).1 y.1, fun y => ⟨(h2 x hl).2 y, Nat.lt_of_lt_of_le hl h3.size⟩⟩) (fun _ y => .inl y) hK hc.zF hc.zp hc.pt.zb hc.pt.zr (.inl rfl) (.inl rfl)
  · intro x y
    rcases y with rfl | rfl
    · exact hc.Fb
    · exact hc.Fr
end Go.Proofs.YteeapmcpbmjpmaaGreat
namespace Go.Proofs.YteeapmcpbmjpmaaGreat
set_option maxRecDepth 100000
open Go.RowKit Go.Shelf Go.Maps
set_option linter.unusedVariables false

theorem key_doS {M : Tab} {s : Sx} {e : List Int × List Int} (h : e ∈ doS M s) : e.1 = s.k ∨ e ∈ M := by
  unfold doS at h
  split at h
  · exact .inr (mem_del h)
  · rcases mem_ins h with rfl | h
    · exact .inl rfl
    · exact .inr h
theorem key_doAll : ∀ {l : List Sx} {M : Tab} {e : List Int × List Int}, e ∈ doAll M l → (∃ s ∈ l, e.1 = s.k) ∨ e ∈ M
  | [], M, e, h => .inr h
  | s :: l, M, e, h => by
    rcases key_doAll (l := l) (M := doS M s) h with ⟨x, hx, ex⟩ | h
    · exact .inl ⟨x, List.mem_cons_of_mem _ hx, ex⟩
    · rcases key_doS h with h | h
      · exact .inl ⟨s, List.mem_cons_self .., h⟩
      · exact .inr h
theorem key_chg {W I : Tab} (hW : Srt W) {s : Sx} (h : s ∈ chg W I) : (∃ e ∈ W, e.1 = s.k) ∨ ∃ e ∈ I, e.1 = s.k := by
  rw [mem_chg hW] at h
  cases e : look W s.k with
  | some v => exact .inl ⟨_, look_mem e, rfl⟩
  | none => cases f : look I s.k with
    | some v => exact .inr ⟨_, look_mem f, rfl⟩
    | none => rw [e, f] at h; cases h
/-- Behind FromBytes: another table. -/
theorem Pc.new {w w' : World} {F Z : Nat → Prop} {p t b r t' b' N : Nat} {x1 x3 : Value} {M : Tab} {K : List (List Int)} (hc : Pc w F Z p t b r x1 x3 M K) (hx : Px w F Z p b r x1 x3 K) (hp : w'.heap[p]? = some (pobj t' r x1 x3)) (h1 : Pt w' (fun x => (Z x ∧ x < w.heap.size) ∨ (w.heap.size ≤ x ∧ x ≠ b')) t' b' r M M) (hb : w.heap.size ≤ b') (hz : Fz (fun x => x = p) w w') (hN : K.length ≤ N) : Stp w w' F p N := by
  have hpl := hc.lt p hc.Fp
  have hrl := hc.lt r hc.Fr
  refine ⟨fun x => F x ∨ (w.heap.size ≤ x ∧ x < w'.heap.size), ⟨fun x => ((Z x ∧ x < w.heap.size) ∨ (w.heap.size ≤ x ∧ x ≠ b')) ∧ x < w'.heap.size, t', b', r, x1, x3, M, K, hN, ⟨hp, h1.keep (fun _ _ _ => rfl) (fun x hx hz => ⟨hz, hx⟩) (fun y => h1.zb y.1) (fun y => h1.zr y.1), fun y => ?_, by omega, hc.pr, fun x y => ?_, .inl hc.Fp, .inr ⟨hb, h1.tw.mp.lt⟩, .inl hc.Fr, fun x y => ?_, hc.key⟩, ?_⟩, hz.wide (fun x e => by rw [e]; exact hc.Fp), fun x y => y.imp id (fun z => z.1)⟩
  · rcases y.1 with y | y
    · exact hc.zp y.1
    · omega
  · rcases y.1 with z | z
    · exact .inl (hc.zF x z.1)
    · exact .inr ⟨z.1, y.2⟩
  · rcases y with y | y
    · exact Nat.lt_of_lt_of_le (hc.lt x y) hz.size
    · exact y.2
  · exact hx.keep (fun x hl _ np _ _ => hz.same x hl np) (fun x hl => ⟨fun y => by rcases y.1 with y | y; exact y.1; omega, fun y => ⟨.inl ⟨y, hl⟩, Nat.lt_of_lt_of_le hl hz.size⟩⟩) (fun _ y => .inl y) (fun _ y => y) hc.zF hc.zp hc.pt.zb hc.pt.zr (.inr hb) (.inl rfl)
/-- Behind Over: other changes. -/
theorem Pc.over {w w' : World} {F Z : Nat → Prop} {p t b r o b1 b2 q s1 s2 N : Nat} {x1 x3 : Value} {M : Tab} {K : List (List Int)} (hc : Pc w F Z p t b r x1 x3 M K) (hp : w'.heap[p]? = some (pobj t r (.pointer (some ⟨o, 0, none⟩)) (.pointer (some ⟨q, 0, none⟩)))) (h1 : Pt w' (fun x => (Z x ∧ x < w.heap.size) ∨ (w.heap.size ≤ x ∧ x ≠ b1 ∧ x ≠ s2)) t b r M M) (h2 : Po w' (fun x => (Z x ∧ x < w.heap.size) ∨ (w.heap.size ≤ x ∧ x ≠ b1 ∧ x ≠ s2)) o b1 b2 q s1 s2 M M M) (hb : w.heap.size ≤ b1) (hs : w.heap.size ≤ s2) (hz : Fz (fun x => x = p) w w') (hN : K.length ≤ N) : Stp w w' F p N := by
  have hpl := hc.lt p hc.Fp
  have hrl := hc.lt r hc.Fr
  have hbl := hc.lt b hc.Fb
  refine ⟨fun x => F x ∨ (w.heap.size ≤ x ∧ x < w'.heap.size), ⟨fun x => ((Z x ∧ x < w.heap.size) ∨ (w.heap.size ≤ x ∧ x ≠ b1 ∧ x ≠ s2)) ∧ x < w'.heap.size, t, b, r, _, _, M, K, hN, ⟨hp, h1.keep (fun _ _ _ => rfl) (fun x hx hz => ⟨hz, hx⟩) (fun y => h1.zb y.1) (fun y => h1.zr y.1), fun y => ?_, hc.pb, hc.pr, fun x y => ?_, .inl hc.Fp, .inl hc.Fb, .inl hc.Fr, fun x y => ?_, hc.key⟩, .inr ⟨o, b1, b2, q, s1, s2, M, M, rfl, rfl, ⟨h2.keep (fun _ _ _ => rfl) (fun x hx hz => ⟨hz, hx⟩) (fun y => h2.n1 y.1) (fun y => h2.n2 y.1), .inr ⟨hb, h2.ov.is.lt⟩, .inr ⟨hs, h2.d2.lt⟩, by omega, by omega, hc.key, hc.key⟩⟩⟩, hz.wide (fun x e => by rw [e]; exact hc.Fp), fun x y => y.imp id (fun z => z.1)⟩
  · rcases y.1 with y | y
    · exact hc.zp y.1
    · omega
  · rcases y.1 with z | z
    · exact .inl (hc.zF x z.1)
    · exact .inr ⟨z.1, y.2⟩
  · rcases y with y | y
    · exact Nat.lt_of_lt_of_le (hc.lt x y) hz.size
    · exact y.2
/-- Behind a step at the changes. -/
theorem Pc.aftO {w w' : World} {F Z : Nat → Prop} {p t b r o b1 b2 q s1 s2 N : Nat} {M I I' W : Tab} {K K' : List (List Int)} (hc : Pc w F Z p t b r (.pointer (some ⟨o, 0, none⟩)) (.pointer (some ⟨q, 0, none⟩)) M K) (hd : Pd w F Z p b r o b1 b2 q s1 s2 I W K) (ha : AftO w w' Z o b1 b2 q s1 s2 I' W) (hK : ∀ k ∈ K, k ∈ K') (hI : ∀ e ∈ I', e.1 ∈ K') (hN : K'.length ≤ N) : Stp w w' F p N := by
  obtain ⟨Z', h1, h2, h3⟩ := ha
  have hpl := hc.lt p hc.Fp
  have hrl := hc.lt r hc.Fr
  have hbl := hc.lt b hc.Fb
  have n1 := hd.n1
  have n2 := hd.n2
  have hk : ∀ x, x < w.heap.size → Z x ∨ x = b ∨ x = r → w'.heap[x]? = w.heap[x]? := fun x hl hz => h3.same x hl (fun e => by
    rcases hz with hz | rfl | rfl
    · rcases e with rfl | rfl
      · exact hd.po.n1 hz
      · exact hd.po.n2 hz
    · omega
    · omega)
  refine ⟨fun x => F x ∨ (w.heap.size ≤ x ∧ x < w'.heap.size), ⟨fun x => Z' x ∧ x < w'.heap.size, t, b, r, _, _, M, K', hN, ⟨(h3.same p hpl (fun e => by omega)).trans hc.obj, hc.pt.keep hk (fun x hl hz => ⟨(h2 x hl).2 hz, Nat.lt_of_lt_of_le hl h3.size⟩) (fun y => hc.pt.zb ((h2 b hbl).1 y.1)) (fun y => hc.pt.zr ((h2 r hrl).1 y.1)), fun y => hc.zp ((h2 p hpl).1 y.1), hc.pb, hc.pr, fun x y => ?_, .inl hc.Fp, .inl hc.Fb, .inl hc.Fr, fun x y => ?_, fun e he => hK _ (hc.key e he)⟩, .inr ⟨o, b1, b2, q, s1, s2, I', W, rfl, rfl, ⟨h1.keep (fun _ _ _ => rfl) (fun x hx hz => ⟨hz, hx⟩) (fun y => h1.n1 y.1) (fun y => h1.n2 y.1), .inl hd.F1, .inl hd.F2, n1, n2, hI, fun e he => hK _ (hd.kw e he)⟩⟩⟩, h3.wide (fun x e => by rcases e with rfl | rfl; exact hd.F1; exact hd.F2), fun x y => y.imp id (fun z => z.1)⟩
  · by_cases hl : x < w.heap.size
    · exact .inl (hc.zF x ((h2 x hl).1 y.1))
    · exact .inr ⟨by omega, y.2⟩
  · rcases y with y | y
    · exact Nat.lt_of_lt_of_le (hc.lt x y) h3.size
    · exact y.2
/-- An op that came in. -/
structure Oi (w : World) (F : Nat → Prop) (ka va sa : Option Addr) (kn kc vn vc sn : Nat) (k v : List Int) (l : List Sx) : Prop where
  qk : Vs w (fun x => ¬ F x) ka kn kc k
  qv : Vs w (fun x => ¬ F x) va vn vc v
  ql : Sl w (fun x => ¬ F x) sa sn l
  lk : kn ≤ 2000
  lv : vn ≤ 2000
  ls : sn ≤ 2000
  sh : ∀ s ∈ l, s.k.length ≤ 2000 ∧ s.v.length ≤ 2000
theorem onTableA_ (F : Nat → Prop) (p N : Nat) (kd : Int) (sec : Bool) (ka va sa : Option Addr) (kn kc vn vc sn sc : Nat) (k v : List Int) (l : List Sx) (w : World) (h : Pq w F p N) (hN : N ≤ 690000) (o : Oi w F ka va sa kn kc vn vc sn k v l) :
    Calls Tryz.prog 7 #[.pointer (some ⟨p, 0, none⟩), .agg #[.int .i64 kd, .bool sec, .slice ka kn kc, .slice va vn vc, .slice sa sn sc]] w fun e w' => e = .returned (.bool true) ∧ Stp w w' F p (N + 2000) := by
  have h0 := h.more (Nat.le_add_right N 2000)
  obtain ⟨Z, t, b, r, x1, x3, M, K, hK, hc, hx⟩ := h
  have hML := hc.len
  have stay : ∀ (e : Ending) (w' : World), (e = .returned (.bool true) ∧ Below w.heap.size w w') → (e = .returned (.bool true) ∧ Stp w w' F p (N + 2000)) := fun e w' q => ⟨q.1, h0.stay q.2⟩
  by_cases k1 : kd = 1
  · subst k1
    exact (on1_ Z p t b r x1 x3 M sec ka va sa kn kc vn vc sn sc k w hc.obj hc.pt (by omega) o.qk.bs o.lk ⟨o.qk.nc, o.qk.cm⟩).mono stay
  by_cases k2 : kd = 2
  · subst k2
    exact (on2_ Z p t b r x1 x3 M sec ka va sa kn kc vn vc sn sc w hc.obj hc.pt (by omega)).mono stay
  by_cases k3 : kd = 3
  · subst k3
    exact (on3_ Z p t b r x1 x3 M sec ka va sa kn kc vn vc sn sc w hc.obj hc.pt (by omega)).mono stay
  by_cases k5 : kd = 5
  · subst k5
    exact (on5_ Z p t b r x1 x3 M sec ka va sa kn kc vn vc sn sc w hc.obj hc.pt (by omega)).mono stay
  by_cases k4 : kd = 4
  · subst k4
    refine (on4_ Z (fun x => ¬ F x ∧ x < w.heap.size) p t b r x1 x3 M sec ka va sa kn kc vn vc sn sc l w hc.obj hc.pt hc.pb hc.pr (o.ql.wide fun x hx hz => ⟨hz, hx⟩) (fun x hx => ⟨hx.2, fun e => hx.1 (by rw [e]; exact hc.Fb), fun e => hx.1 (by rw [e]; exact hc.Fr)⟩) o.sh (by have := o.ls; omega)).mono fun e w' q => ⟨q.1, hc.aft hx q.2 (K' := K ++ l.map (fun s => s.k)) (fun y hy => List.mem_append.2 (.inl hy)) (fun y hy => ?_) (by have h1 := o.ql.len; have := o.ls; simp; omega)⟩
    have key : y ∈ doAll M l ∨ y ∈ M := by
      split at hy
      · exact .inl hy
      · exact .inr hy
    rcases key with hy | hy
    · rcases key_doAll hy with ⟨s, hs, e⟩ | hy
      · exact List.mem_append.2 (.inr (by rw [e]; exact List.mem_map.2 ⟨s, hs, rfl⟩))
      · exact List.mem_append.2 (.inl (hc.key y hy))
    · exact List.mem_append.2 (.inl (hc.key y hy))
  by_cases k6 : kd = 6
  · subst k6
    refine (on6_ Z p t b r x1 x3 M sec ka va sa kn kc vn vc sn sc w hc.obj hc.pt hc.pb hc.pr hc.zp (by omega)).mono ?_
    rintro e w' ⟨rfl, o', b1, b2, q, s1, s2, h1, h2, h3, h4, h5, h6⟩
    exact ⟨rfl, hc.over h1 h2 h3 h4 h5 h6 (by omega)⟩
  by_cases k12 : kd = 12
  · subst k12
    refine (on12_ Z p t b r x1 x3 M sec ka va sa kn kc vn vc sn sc w hc.obj hc.pt hc.pr hc.zp (by omega)).mono ?_
    rintro e w' ⟨rfl, t', b', h1, h2, h3, h4⟩
    exact ⟨rfl, hc.new hx h1 h2 h3 h4 (by omega)⟩
  by_cases k11 : kd = 11
  · subst k11
    rcases id hx with ⟨e1, e3⟩ | ⟨o', b1, b2, q, s1, s2, I, W, e1, e3, hd⟩
    · subst e1 e3
      exact (on11n_ p _ _ _ sec ka va sa kn kc vn vc sn sc w hc.obj).mono stay
    · subst e1 e3
      have lI := len_keys hd.po.ov.tokI.srt hd.ki
      have lW := len_keys hd.po.ov.tokW.srt hd.kw
      refine (on11_ Z p t b r q s1 s2 _ M W I sec ka va sa kn kc vn vc sn sc w hc.obj hc.pt hc.pb hc.pr hd.po.qo hd.po.d1 hd.po.d2 hd.po.ov.tokW hd.po.ov.tokI (by omega) (by omega) (by omega)).mono fun e w' y => ⟨y.1, hc.aft hx y.2 (K' := K) (fun _ z => z) (fun z hz => ?_) (by omega)⟩
      rcases key_doAll hz with ⟨s, hs, ez⟩ | hz
      · rcases key_chg hd.po.ov.tokW.srt hs with ⟨f, hf, ef⟩ | ⟨f, hf, ef⟩
        · rw [ez, ← ef]; exact hd.kw f hf
        · rw [ez, ← ef]; exact hd.ki f hf
      · exact hc.key z hz
  exact (onN_ p kd sec ka va sa kn kc vn vc sn sc w ⟨k1, k2, k3, k4, k5, k6, k11, k12⟩).mono stay
theorem onOverA_ (F : Nat → Prop) (p N : Nat) (kd : Int) (sec : Bool) (ka va sa : Option Addr) (kn kc vn vc sn sc : Nat) (k v : List Int) (l : List Sx) (w : World) (h : Pq w F p N) (hN : N ≤ 690000) (o : Oi w F ka va sa kn kc vn vc sn k v l) :
    Calls Tryz.prog 8 #[.pointer (some ⟨p, 0, none⟩), .agg #[.int .i64 kd, .bool sec, .slice ka kn kc, .slice va vn vc, .slice sa sn sc]] w fun e w' => e = .returned (.bool true) ∧ Stp w w' F p (N + 1) := by
  have h0 := h.more (Nat.le_add_right N 1)
  obtain ⟨Z, t, b, r, x1, x3, M, K, hK, hc, hx⟩ := h
  have stay : ∀ (e : Ending) (w' : World), (e = .returned (.bool true) ∧ Below w.heap.size w w') → (e = .returned (.bool true) ∧ Stp w w' F p (N + 1)) := fun e w' q => ⟨q.1, h0.stay q.2⟩
  rcases id hx with ⟨e1, e3⟩ | ⟨o', b1, b2, q, s1, s2, I, W, e1, e3, hd⟩
  · subst e1 e3
    exact (onOn_ p _ _ _ (.bool true) kd sec ka va sa kn kc vn vc sn sc w hc.obj).mono stay
  subst e1 e3
  have lI := len_keys hd.po.ov.tokI.srt hd.ki
  have lW := len_keys hd.po.ov.tokW.srt hd.kw
  have hk : Vs w (fun x => x ≠ b1 ∧ x ≠ s2) ka kn kc k := o.qk.wide fun x _ hx => ⟨fun e => hx (by rw [e]; exact hd.F1), fun e => hx (by rw [e]; exact hd.F2)⟩
  have hv : Vs w (fun x => x ≠ b1 ∧ x ≠ s2) va vn vc v := o.qv.wide fun x _ hx => ⟨fun e => hx (by rw [e]; exact hd.F1), fun e => hx (by rw [e]; exact hd.F2)⟩
  by_cases k7 : kd = 7
  · subst k7
    exact (on7_ Z p t r o' b1 b2 q s1 s2 I W sec ka va sa kn kc vn vc sn sc k w hc.obj hd.po (by omega) o.qk.bs o.lk ⟨o.qk.nc, o.qk.cm⟩).mono stay
  by_cases k10 : kd = 10
  · subst k10
    exact (on10_ Z p t r o' b1 b2 q s1 s2 I W sec ka va sa kn kc vn vc sn sc w hc.obj hd.po (by omega) (by omega)).mono stay
  by_cases k9 : kd = 9
  · subst k9
    exact (on9_ Z p t r o' b1 b2 q s1 s2 I W sec ka va sa kn kc vn vc sn sc k w hc.obj hd.po (Ne.symm hd.n1.1) (Ne.symm hd.n2.1) (by omega) hk o.lk).mono fun e w' y => ⟨y.1, hc.aftO hd y.2 (K' := K) (fun _ z => z) (fun z hz => hd.ki z (mem_del hz)) (by omega)⟩
  by_cases k8 : kd = 8
  · subst k8
    cases hq : mayS ⟨k, v, false⟩ with
    | true => exact (on8_yes Z p t r o' b1 b2 q s1 s2 I W sec ka va sa kn kc vn vc sn sc k v w hc.obj hd.po (Ne.symm hd.n1.1) (Ne.symm hd.n2.1) (by omega) hk hv o.lk o.lv hq).mono fun e w' y => ⟨y.1, hc.aftO hd y.2 (K' := K ++ [k]) (fun _ z => List.mem_append.2 (.inl z)) (fun z hz => by
        rcases mem_ins hz with rfl | hz
        · exact List.mem_append.2 (.inr (List.mem_singleton.2 rfl))
        · exact List.mem_append.2 (.inl (hd.ki z hz))) (by simp; omega)⟩
    | false => exact (on8_no Z p t r o' b1 b2 q s1 s2 I W sec ka va sa kn kc vn vc sn sc k v w hc.obj hd.po (Ne.symm hd.n1.1) (Ne.symm hd.n2.1) (by omega) hk hv o.lk o.lv hq).mono fun e w' y => ⟨y.1, hc.aftO hd y.2 (K' := K) (fun _ z => z) hd.ki (by omega)⟩
  exact (onON_ p t r o' q kd sec ka va sa kn kc vn vc sn sc w hc.obj ⟨k7, k8, k9, k10⟩).mono stay
end Go.Proofs.YteeapmcpbmjpmaaGreat
