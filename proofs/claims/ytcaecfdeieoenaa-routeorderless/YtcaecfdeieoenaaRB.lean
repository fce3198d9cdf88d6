import Derived.Test.YtcaecfdeieoenaaRA
namespace Go.Proofs.Ytcaecfdeieoenaa
set_option maxRecDepth 100000
open Go.RowKit Go.Shelf
set_option linter.unusedVariables false
attribute [local go_sem] Oper.semAt_some

/-- The boxes of all, and the document's list. -/
def Sa (A k : Nat) (t s : Value) (w0 w : World) : Prop := (w.cell? ⟨A, 0, none⟩ = some t ∧ w.cell? ⟨A + 1, 0, none⟩ = some (.pointer (some ⟨k, 0, none⟩)) ∧ w.cell? ⟨k, 0, none⟩ = some s) ∧ Below w0.heap.size w0 w
theorem Sa.kept {A k : Nat} {t s : Value} {w0 w w' : World} (h : Sa A k t s w0 w) (hb : Below w.heap.size w w') : Sa A k t s w0 w' := by
  obtain ⟨⟨c0, c1, c2⟩, b⟩ := h
  exact ⟨⟨cell_be8 hb c0, cell_be8 hb c1, cell_be8 hb c2⟩, bel_bel b b.size hb⟩
theorem Sa.drew {A k : Nat} {t s : Value} {w0 w : World} (h : Sa A k t s w0 w) : Sa A k t s w0 { w with drawn := w.drawn + 1 } := h.kept ⟨rfl, rfl, rfl, Nat.le_refl _, fun _ _ => rfl⟩
def Sb (A k : Nat) (t s : Value) (w0 w1 w : World) : Prop := Sa A k t s w0 w ∧ Below w1.heap.size w1 w
theorem Sb.kept {A k : Nat} {t s : Value} {w0 w1 w w' : World} (h : Sb A k t s w0 w1 w) (hb : Below w.heap.size w w') : Sb A k t s w0 w1 w' := ⟨h.1.kept hb, bel_bel h.2 h.2.size hb⟩
theorem pm_own {B g : Nat} {X Y : World} {row : Option Nat} {F H L Bt : Int} (h : Pm X g F H L Bt) (hg : X.grownBy Y row) (hr : ∀ r, row = some r → B ≤ r ∧ ∃ o : Obj, X.heap[r]? = some o ∧ o.isCells = false) : Pm Y g F H L Bt :=
  h.at (hg.block g h.lt (fun e => by
    obtain ⟨_, o, ho, hc⟩ := hr g e.symm
    unfold Pm at h
    rw [h] at ho
    cases ho
    cases hc))
theorem ownFrom_size {β : Type} (B m : Nat) : OwnFrom B (fun (_ : β) (W : World) => m ≤ W.heap.size) := fun _ _ _ _ hs hg _ => Nat.le_trans hs hg.size
/-- What all's last statement holds to. -/
def SE (A I k D : Nat) (s : Value) (n : Int) (w0 w : World) : Prop :=
  (w.cell? ⟨I, 0, none⟩ = some (.int .i64 n) ∧ w.cell? ⟨A + 1, 0, none⟩ = some (.pointer (some ⟨k, 0, none⟩)) ∧ w.cell? ⟨k, 0, none⟩ = some s) ∧ ((∃ o, w.cell? ⟨A + 1 + 1, 0, none⟩ = some (.bool o)) ∧ w.frozen? ⟨A + 1 + 1, 0, none⟩ = false) ∧ w.heap[D]? = some (.deferred (some [])) ∧ Below w0.heap.size w0 w
theorem SE.drew {A I k D : Nat} {s : Value} {n : Int} {w0 w : World} (h : SE A I k D s n w0 w) : SE A I k D s n w0 { w with drawn := w.drawn + 1 } := ⟨h.1, h.2.1, h.2.2.1, h.2.2.2.trans ⟨rfl, rfl, rfl, Nat.le_refl _, fun _ _ => rfl⟩⟩
theorem SE.set {A I k D : Nat} {s : Value} {n : Int} {w0 w : World} (h : SE A I k D s n w0 w) (hA : w0.heap.size ≤ A) (hI : A + 1 + 1 < I) (hk : k < A) (b : Bool) :
    SE A I k D s n w0 (w.setCell ⟨A + 1 + 1, 0, none⟩ (.bool b)) ∧ (w.setCell ⟨A + 1 + 1, 0, none⟩ (.bool b)).cell? ⟨A + 1 + 1, 0, none⟩ = some (.bool b) := by
  obtain ⟨⟨a1, a2, a3⟩, ⟨⟨o, c1⟩, c2⟩, d, e⟩ := h
  have x := World.cell?_setCell_same' w ⟨A + 1 + 1, 0, none⟩ (.bool b) (by rw [c1]; rfl)
  refine ⟨⟨⟨?_, ?_, ?_⟩, ⟨⟨b, x⟩, by rw [World.frozen?_setCell]; exact c2⟩, (KeepsOthers.setCell w _ _).same D _ d rfl, e.setCell (p := ⟨A + 1 + 1, 0, none⟩) (by show w0.heap.size ≤ A + 1 + 1; omega) _⟩, x⟩
  · exact (World.cell?_setCell_far w ⟨A + 1 + 1, 0, none⟩ ⟨I, 0, none⟩ _ (by show A + 1 + 1 ≠ I; omega)).trans a1
  · exact (World.cell?_setCell_far w ⟨A + 1 + 1, 0, none⟩ ⟨A + 1, 0, none⟩ _ (by show A + 1 + 1 ≠ A + 1; omega)).trans a2
  · exact (World.cell?_setCell_far w ⟨A + 1 + 1, 0, none⟩ ⟨k, 0, none⟩ _ (by show A + 1 + 1 ≠ k; omega)).trans a3
theorem take_to8 {ops : Array Oper} {Q : Exit → Act → World → Prop} {md : Region.Mode} {S : World → Prop} {oi : Oper} {fuel : Nat} {listed : Array Bool} {a : Act} {w : World} (i d : Nat) (v : Value) (hi : ops[i]? = some oi) (hd : oi.dst = some d)
    (hs : Region.noSelect ops = true) (hf : Region.free md ops listed i = true) (hr : (Region.ready md ops listed).contains i = true)
    (hQ : ∀ c a w, Q (.panic c) (a.put oi.dst v) w → Q (.panic c) a w) (hy : YieldsIf Try.prog ops S oi v a) (hS : S w)
    (h : wpAnyH Try.prog md ops Q S fuel (listed.setIfInBounds i true) ⟨a.tmps.setIfInBounds d v, a.defers⟩ w) : wpAnyH Try.prog md ops Q S (fuel + 1) listed a w :=
  wpAnyH_take hi hs hf hr hQ hy hS (by rw [hd]; exact h)
theorem only8 {F : Fence} {n : Nat} {P : Program} {c : Code} {Q : Exit → Act → World → Prop} {a : Act} {w : World} (h : c.wpIn F n P (fun e a w => e = .normal ∧ Q e a w) a w) : c.wpIn F n P Q a w := wpIn_mono h (fun _ _ _ h => h.2)
/-- A prefix in a variable, the document's list, a place in it, and the way that stands there. -/
def S9 (Bp A k I q o : Nat) (s : Value) (x z : Wy) (j : Int) (w0 w : World) : Prop :=
  (w.cell? ⟨Bp, 0, none⟩ = some (.int .i64 x.F) ∧ w.cell? ⟨Bp, 1, none⟩ = some (.int .u64 x.H) ∧ w.cell? ⟨Bp, 2, none⟩ = some (.int .u64 x.L) ∧ w.cell? ⟨Bp, 3, none⟩ = some (.int .i64 x.B) ∧
    w.cell? ⟨A + 1, 0, none⟩ = some (.pointer (some ⟨k, 0, none⟩)) ∧ w.cell? ⟨k, 0, none⟩ = some s ∧ w.cell? ⟨I, 0, none⟩ = some (.int .i64 j) ∧
    w.cell? ⟨q, o, none⟩ = some (.int .i64 z.F) ∧ w.cell? ⟨q, o + 1, none⟩ = some (.int .u64 z.H) ∧ w.cell? ⟨q, o + 2, none⟩ = some (.int .u64 z.L) ∧ w.cell? ⟨q, o + 3, none⟩ = some (.int .i64 z.B)) ∧ Below w0.heap.size w0 w
theorem S9.kept {Bp A k I q o : Nat} {s : Value} {x z : Wy} {j : Int} {w0 w w' : World} (h : S9 Bp A k I q o s x z j w0 w) (hb : Below w.heap.size w w') : S9 Bp A k I q o s x z j w0 w' := by
  obtain ⟨⟨c0, c1, c2, c3, c4, c5, c6, c7, c8, c9, ca⟩, b⟩ := h
  exact ⟨⟨cell_be8 hb c0, cell_be8 hb c1, cell_be8 hb c2, cell_be8 hb c3, cell_be8 hb c4, cell_be8 hb c5, cell_be8 hb c6, cell_be8 hb c7, cell_be8 hb c8, cell_be8 hb c9, cell_be8 hb ca⟩, bel_bel b b.size hb⟩
theorem S9.drew {Bp A k I q o : Nat} {s : Value} {x z : Wy} {j : Int} {w0 w : World} (h : S9 Bp A k I q o s x z j w0 w) : S9 Bp A k I q o s x z j w0 { w with drawn := w.drawn + 1 } := h.kept ⟨rfl, rfl, rfl, Nat.le_refl _, fun _ _ => rfl⟩
theorem S9.set {Bp A k I q o : Nat} {s : Value} {x z : Wy} {j : Int} {w0 w : World} (h : S9 Bp A k I q o s x z j w0 w) {b : Nat} (v : Value) (hb : w0.heap.size ≤ b) (h1 : Bp ≠ b) (h2 : A + 1 ≠ b) (h3 : k ≠ b) (h4 : I ≠ b) (h5 : q ≠ b) : S9 Bp A k I q o s x z j w0 (w.setCell ⟨b, 0, none⟩ v) := by
  obtain ⟨⟨c0, c1, c2, c3, c4, c5, c6, c7, c8, c9, ca⟩, bb⟩ := h
  have f : ∀ {b' i : Nat} {u : Value}, w.cell? ⟨b', i, none⟩ = some u → b' ≠ b → (w.setCell ⟨b, 0, none⟩ v).cell? ⟨b', i, none⟩ = some u := fun hc hn => (World.cell?_setCell_far w ⟨b, 0, none⟩ ⟨_, _, none⟩ _ (fun e => hn e.symm)).trans hc
  exact ⟨⟨f c0 h1, f c1 h1, f c2 h1, f c3 h1, f c4 h2, f c5 h3, f c6 h4, f c7 h5, f c8 h5, f c9 h5, f ca h5⟩, bb.setCell (p := ⟨b, 0, none⟩) hb _⟩
/-- The same inside the inner loop: of what lay only two variables turn. -/
def SI (Bp A k I q o : Nat) (s : Value) (x z : Wy) (j : Int) (w0 : World) (Bs Sn : Nat) (V w : World) : Prop := S9 Bp A k I q o s x z j w0 w ∧ Gs (fun j => j = Bs ∨ j = Sn) V w
theorem SI.kept {Bp A k I q o : Nat} {s : Value} {x z : Wy} {j : Int} {w0 V w w' : World} {Bs Sn : Nat} (h : SI Bp A k I q o s x z j w0 Bs Sn V w) (hb : Below w.heap.size w w') : SI Bp A k I q o s x z j w0 Bs Sn V w' := ⟨h.1.kept hb, h.2.below hb⟩
theorem SI.drew {Bp A k I q o : Nat} {s : Value} {x z : Wy} {j : Int} {w0 V w : World} {Bs Sn : Nat} (h : SI Bp A k I q o s x z j w0 Bs Sn V w) : SI Bp A k I q o s x z j w0 Bs Sn V { w with drawn := w.drawn + 1 } := h.kept ⟨rfl, rfl, rfl, Nat.le_refl _, fun _ _ => rfl⟩
theorem SI.set {Bp A k I q o : Nat} {s : Value} {x z : Wy} {j : Int} {w0 V w : World} {Bs Sn : Nat} (h : SI Bp A k I q o s x z j w0 Bs Sn V w) (v : Value) (hb : w0.heap.size ≤ Bs) (h1 : Bp ≠ Bs) (h2 : A + 1 ≠ Bs) (h3 : k ≠ Bs) (h4 : I ≠ Bs) (h5 : q ≠ Bs) : SI Bp A k I q o s x z j w0 Bs Sn V (w.setCell ⟨Bs, 0, none⟩ v) := ⟨h.1.set v hb h1 h2 h3 h4 h5, h.2.set (.inl (.inl rfl)) v⟩
theorem pre_next {l pre : List Wy} {x z : Wy} (hp : pre <+: l) (hz : l[pre.length]? = some z) : pre ++ [x] <+: l ↔ x = z := by
  obtain ⟨t, rfl⟩ := hp
  rw [List.getElem?_append_right (Nat.le_refl _), Nat.sub_self] at hz
  cases t with
  | nil => simp at hz
  | cons y t =>
    obtain rfl : y = z := by simpa using hz
    rw [List.prefix_append_right_inj, List.cons_prefix_cons]
    simp
theorem wy_ext {x z : Wy} (hs : x.sm z = true) (hk : x.K = z.K) : x = z := by
  obtain ⟨e1, e2, e3, e4⟩ := (sm_iff _ _).1 hs
  cases x
  cases z
  simp only at e1 e2 e3 e4 hk
  subst e1 e2 e3 e4 hk
  rfl
theorem with_act {F : Fence} {n : Nat} {P : Program} {c : Code} {Q : Exit → Act → World → Prop} {a : Act} {w : World} (h : ∀ A, A = a → c.wpIn F n P Q A w) : c.wpIn F n P Q a w := h a rfl
theorem cell_new8 (W : World) (v : Value) (t : TypeId) : (W.alloc (.cells #[v] t)).cell? ⟨W.heap.size, 0, none⟩ = some v ∧ (W.alloc (.cells #[v] t)).frozen? ⟨W.heap.size, 0, none⟩ = false := by
  have h : (W.alloc (.cells #[v] t)).heap[W.heap.size]? = some (.cells #[v] t (0, 0)) := heap_alloc_new W _
  exact ⟨(cell_of_row _ _ 0 _ t (0, 0) h).trans rfl, by unfold World.frozen?; rw [h]; rfl⟩
theorem cell_al8 {W : World} {a : Addr} {v : Value} {o : Obj} (h : W.cell? a = some v) : (W.alloc o).cell? a = some v := cell_be8 ((Below.refl _ _).alloc (Nat.le_refl _) _) h
set_option maxHeartbeats 4000000 in
theorem all_ {Tr : World → Value → List Wy → Prop} (R : Rte Tr) (t r : Value) (l : List Wy) (w : World) (ht : Tr w t l) (hr : Rt w r l) (hlen : l.length ≤ 99999) :
    Calls Try.prog 11 #[t, r] w fun e w' => e = .returned (.bool true) ∧ Below w.heap.size w w' := by
  obtain ⟨k, s, rfl, hk, hs⟩ := hr
  obtain ⟨a, c, rfl, hn, hc, HW⟩ := hs.read
  obtain ⟨ta, rfl⟩ := R.ptr ht
  have HT := hid ht
  have HWh := hid HW
  have ck := Rt.cell hk
  unfold maxLen at hc
  have B0 : Below w.heap.size w (((w.alloc (.cells #[.pointer (some ta)] 40)).alloc (.cells #[.pointer (some ⟨k, 0, none⟩)] 41)).alloc (.cells #[.bool false] 4)) := (((Below.refl _ _).alloc (Nat.le_refl _) _).alloc (by simp) _).alloc (by simp; omega) _
  clear hk hs HW ht
  refine (callsIn_wide (n := 9)).1 ?_
  refine callsIn_of_wp_marks Try.func11 rfl trivial ?_ rfl
  simp only [Try.ntmps11, List.size_toArray, List.length_cons, List.length_nil, Nat.reduceAdd, Nat.reduceSub, Array.replicate_succ, Array.replicate_zero, List.push_toArray, List.append_toArray, List.nil_append, List.cons_append]
  gi_wp2
  have hmx : Try.prog.follows .mixedOrders = true := by kernel_rfl
  have d0 := cell_new8 w (.pointer (some ta)) 40
  have d1 := cell_new8 (w.alloc (.cells #[.pointer (some ta)] 40)) (.pointer (some ⟨k, 0, none⟩)) 41
  have d2 := cell_new8 ((w.alloc (.cells #[.pointer (some ta)] 40)).alloc (.cells #[.pointer (some ⟨k, 0, none⟩)] 41)) (.bool false) 4
  simp only [World.size_alloc] at d1 d2
  have S0 : Sa w.heap.size k (.pointer (some ta)) (.slice a l.length c) w (((w.alloc (.cells #[.pointer (some ta)] 40)).alloc (.cells #[.pointer (some ⟨k, 0, none⟩)] 41)).alloc (.cells #[.bool false] 4)) :=
    ⟨⟨cell_al8 (cell_al8 d0.1), cell_al8 d1.1, cell_be8 B0 ck⟩, B0⟩
  have bx := d2
  clear d0 d1 d2
  generalize ((w.alloc (.cells #[.pointer (some ta)] 40)).alloc (.cells #[.pointer (some ⟨k, 0, none⟩)] 41)).alloc (.cells #[.bool false] 4) = w1 at *
  have k1 : ∀ W, Sa w.heap.size k (.pointer (some ta)) (.slice a l.length c) w W → Calls Try.prog 17 #[.pointer (some ta)] W fun e w' => e = .returned (.int .i64 l.length) ∧ Below W.heap.size W w' := fun W hq => R.len_ W _ l (R.kept HT.out hq.2) hlen
  refine quiet_w (C := Sb w.heap.size k (.pointer (some ta)) (.slice a l.length c) w w1) hmx ?hq (by simp) (by kernel_rfl) ⟨S0.drew, ⟨rfl, rfl, rfl, Nat.le_refl _, fun _ _ => rfl⟩⟩ ?_
  case hq => rintro ⟨_, _, hh⟩; cases (show _ ∧ _ from hh).1
  repeat
    refine wpQuiet_step (fun K hK => ?_)
    go_simp
    first
      | (refine hK _ ?_; clear hK K)
      | (apply Exists.intro
         refine ⟨fun wq hq => ?_, hK _ ?_⟩
         · first
           | rfl
           | (go_at_call 17; exact (k1 _ hq.1).mono fun _ _ h => ⟨h.1, hq.kept h.2⟩)
           | (obtain ⟨⟨⟨q0, q1, q2⟩, _⟩, _⟩ := hq; go_simp; rfl)
         clear hK K)
  refine wpQuiet_nil ?_
  intro w2 s2
  obtain ⟨⟨⟨e0, e1, e2⟩, B2⟩, g2⟩ := s2
  have bx2 : w2.cell? ⟨w.heap.size + 1 + 1, 0, none⟩ = some (.bool false) := cell_be8 g2 bx.1
  have by2 : w2.frozen? ⟨w.heap.size + 1 + 1, 0, none⟩ = false := (World.frozen?_of_block (g2.block _ (World.block_lt_of_cell? _ _ bx.1))).trans bx.2
  clear k1 S0 B0 bx
  have hI := cell_new8 w2 (.int .i64 0) 3
  have hsz := B2.size
  have BI : Below w.heap.size w (w2.alloc (.cells #[.int .i64 0] 3)) := B2.alloc hsz _
  have f0 := cell_al8 (o := .cells #[.int .i64 0] 3) e0
  gi_wp2_with (refine ⟨trivial, ?_⟩; gi_at_call 13; refine (callsIn_wide.2 (R.all_ w _ _ l HT.out BI hlen)).mono ?_; rintro e w4 ⟨⟨gf, lb, rfl, eg, hseq⟩, g4⟩)
  have bI := Boxed.new w2 3 (.int .i64 0)
  have B24 : Below w2.heap.size w2 w4 := ((Below.refl _ _).alloc (Nat.le_refl _) _).trans (g4.mono (by simp))
  have hs4 : w2.heap.size + 1 ≤ w4.heap.size := by have := g4.size; rwa [World.size_alloc] at this
  have HW2 := hid (HWh.out.kept B2)
  have b4 : Boxed w4 w2.heap.size 3 (.int .i64 0) := bI.kept (grown_of_below g4) (fun e => by cases e)
  rw [World.size_alloc] at hseq
  clear HWh hI f0 BI g4 bI
  refine wpIn_rangeFunc_ownH rfl (by omega) (gf := gf) (lb := lb) rfl trivial eg (seq_wy (hseq 8 (by omega))) Kq.t (Kq.b (by omega) (Nat.le_refl _)) (Below.refl _ _) (fun _ => rfl)
    (fun pre W => (Boxed W w2.heap.size 3 (.int .i64 (pre.length : Int)) ∧ Below w2.heap.size w2 W) ∧ (w4.heap.size ≤ W.heap.size ∧ pre <+: l))
    (fun c pre W => c = .ret ∧ ¬ pre <+: l)
    (OwnFrom.and (OwnFrom.and (Own.from (boxed_own _ _ (fun pre : List Wy => Value.int .i64 (pre.length : Int))) _) (ownFrom_below (Nat.le_refl _) (by omega))) (OwnFrom.and (ownFrom_size _ _) (ownFrom_pure _ _)))
    (fun c => ownFrom_pure _ _)
    ⟨⟨b4, B24⟩, Nat.le_refl _, List.nil_prefix⟩
    (fun x a' W => ∃ Bp, w2.heap.size < Bp ∧ Pm W Bp x.F x.H x.L x.B ∧ a' = { tmps := #[.pointer (some ta), .pointer (some ⟨k, 0, none⟩), .pointer (some ⟨w.heap.size, 0, none⟩), .pointer (some ⟨w.heap.size + 1, 0, none⟩), .pointer (some ⟨w.heap.size + 1 + 1, 0, none⟩), .pointer (some ⟨w2.heap.size, 0, none⟩), .pointer (some ⟨Bp, 0, none⟩), .int .i64 x.K, undef, undef, undef, undef, .pointer (some ta), .int .i64 l.length, .pointer (some ⟨k, 0, none⟩), .pointer (some ⟨k, 0, none⟩), .pointer (some ⟨k, 0, none⟩), .slice a l.length c, .int .i64 l.length, .bool false, .pointer (some ta), .func (.func gf) #[] lb, .agg #[.int .i64 x.F, .int .u64 x.H, .int .u64 x.L, .int .i64 x.B], .int .i64 x.K, undef, undef, undef, undef, undef, undef, undef, undef, undef, undef, undef, undef, undef, undef, undef, undef, undef, undef, undef, undef, undef, undef, undef, undef, undef, undef, undef, undef, undef, undef, undef, undef, undef, undef, undef, undef, undef, undef, undef, undef, undef, undef, undef, undef, undef, undef, undef, undef, undef, undef, undef, undef, undef, undef, undef, undef, undef, undef, undef, undef, undef, undef, undef, undef, undef, undef, undef, undef, undef, undef, undef, undef, undef, undef, undef, undef, undef], defers := [] })
    (fun x a' _ X Y row hs hg hr => by obtain ⟨Bp, h1, h2, h3⟩ := hs; exact ⟨Bp, h1, pm_own h2 hg hr, h3⟩)
    ?assign ?body ?done ?stop
  case assign =>
    rintro lp pre x W K ⟨⟨bS1, hB1⟩, hz1, hp1⟩ hK
    unfold Wy.px
    gi_wp2
    exact hK _ _ ((KeepsOthers.alloc _ _).from _) (((Gs.refl (fun _ => False) W).alloc _).kq (fun _ h => h.elim) (by have := B2.size; omega) hz1 (fun _ h => h.elim)) ⟨⟨bS1.alloc _, hB1.alloc hB1.size _⟩, by simp; omega, hp1⟩ ⟨W.heap.size, bS1.lt, Pm.new W _ _ _ _, rfl⟩
  case body =>
    rintro lp pre x a' W hlp ⟨rec, hrec⟩ ⟨⟨bI, hB⟩, hz4, hpre⟩ ⟨Bp, hBp, mP, rfl⟩ hlt
    have HNW := hid (show Nr W w2.heap.size from Nr.boxed bI (by decide))
    have d0 := (hB.cell (World.block_lt_of_cell? _ _ e0)).trans e0
    have d1 := (hB.cell (World.block_lt_of_cell? _ _ e1)).trans e1
    have d2 := (hB.cell (World.block_lt_of_cell? _ _ e2)).trans e2
    have dI := bI.cell
    obtain ⟨z, hz⟩ : ∃ z, l[pre.length]? = some z := ⟨_, List.getElem?_eq_getElem hlt⟩
    obtain ⟨q, off, rfl, HQ⟩ : ∃ q off, a = some ⟨q, off, none⟩ ∧ Hid (∀ i x, l[i]? = some x → (w2.cell? ⟨q, off + i * 5, none⟩ = some (.int .i64 x.F) ∧ w2.cell? ⟨q, off + i * 5 + 1, none⟩ = some (.int .u64 x.H) ∧ w2.cell? ⟨q, off + i * 5 + 2, none⟩ = some (.int .u64 x.L) ∧ w2.cell? ⟨q, off + i * 5 + 3, none⟩ = some (.int .i64 x.B) ∧ w2.cell? ⟨q, off + i * 5 + 4, none⟩ = some (.int .i64 x.K))) := by
      rcases HW2.out.2 with h | ⟨q, off, e, h⟩
      · rw [h] at hlt
        simp at hlt
      · exact ⟨q, off, e, h⟩
    have hlI : (pre.length : Int) < (l.length : Int) := by omega
    gi_wp2
    refine quiet_r (C := fun w' => ∃ n, w' = W.drewN n) hmx ?hq (by simp) (by kernel_rfl) ⟨1, rfl⟩ ?_
    case hq => rintro ⟨_, _, hh⟩; exact hh
    repeat (go_big_quiet_step (fail))
    refine wpQuiet_nil ?_
    rintro _ ⟨nq, rfl⟩
    have hnl : ¬ l.length ≤ pre.length := by omega
    obtain ⟨n0, n1, n2, n3, n4⟩ := HQ.out _ z hz
    have S0 : S9 Bp w.heap.size k w2.heap.size q (off + pre.length * 5) (.slice (some ⟨q, off, none⟩) l.length c) x z pre.length W (W.drewN nq) := S9.kept ⟨⟨mP.c0, mP.c1, mP.c2, mP.c3, d1, d2, dI, (hB.cell (World.block_lt_of_cell? _ _ n0)).trans n0, (hB.cell (World.block_lt_of_cell? _ _ n1)).trans n1, (hB.cell (World.block_lt_of_cell? _ _ n2)).trans n2, (hB.cell (World.block_lt_of_cell? _ _ n3)).trans n3⟩, Below.refl _ _⟩ (bel_drawn (Below.refl _ _) _)
    have hq2 : q < w2.heap.size := World.block_lt_of_cell? _ _ n0
    have hk2 : k < w2.heap.size := World.block_lt_of_cell? _ _ e2
    clear n0 n1 n2 n3 n4 d0 d1 d2 dI
    generalize W.drewN nq = W1 at *
    gi_wp2
    have k1 := fun w => samePrefix_ x.F x.H x.L x.B z.F z.H z.L z.B w
    rw [spx_sm] at k1
    refine only8 ?_
    refine held_r (S := S9 Bp w.heap.size k w2.heap.size q (off + pre.length * 5) (.slice (some ⟨q, off, none⟩) l.length c) x z pre.length W) hmx (fun hh => by obtain ⟨_, _, hh⟩ := hh; cases hh.1) (by simp) S0.drew (fun hHeld => ?_)
    clear S0
    generalize ({ W1 with drawn := W1.drawn + 1 } : World) = w5 at *
    refine take_to8 0 31 (.agg #[.int .i64 x.F, .int .u64 x.H, .int .u64 x.L, .int .i64 x.B]) rfl rfl (by kernel_rfl) (by kernel_rfl) (by kernel_rfl) (fun _ _ _ h => by cases h.1) (Or.inl ⟨by rfl, fun w' h => ?_⟩) hHeld ?_
    · obtain ⟨⟨a0, a1, a2, a3, a4, a5, a6, a7, a8, a9, aa⟩, _⟩ := h
      go_simp
    try simp only [List.setIfInBounds_toArray, List.set_cons_zero, List.set_cons_succ]
    refine take_to8 1 32 (.pointer (some ⟨k, 0, none⟩)) rfl rfl (by kernel_rfl) (by kernel_rfl) (by kernel_rfl) (fun _ _ _ h => by cases h.1) (Or.inl ⟨by rfl, fun w' h => ?_⟩) hHeld ?_
    · obtain ⟨⟨a0, a1, a2, a3, a4, a5, a6, a7, a8, a9, aa⟩, _⟩ := h
      go_simp
    try simp only [List.setIfInBounds_toArray, List.set_cons_zero, List.set_cons_succ]
    refine take_to8 2 33 (.pointer (some ⟨k, 0, none⟩)) rfl rfl (by kernel_rfl) (by kernel_rfl) (by kernel_rfl) (fun _ _ _ h => by cases h.1) (Or.inl ⟨by rfl, fun w' h => ?_⟩) hHeld ?_
    · obtain ⟨⟨a0, a1, a2, a3, a4, a5, a6, a7, a8, a9, aa⟩, _⟩ := h
      go_simp
    try simp only [List.setIfInBounds_toArray, List.set_cons_zero, List.set_cons_succ]
    refine take_to8 3 34 (.pointer (some ⟨k, 0, none⟩)) rfl rfl (by kernel_rfl) (by kernel_rfl) (by kernel_rfl) (fun _ _ _ h => by cases h.1) (Or.inl ⟨by rfl, fun w' h => ?_⟩) hHeld ?_
    · obtain ⟨⟨a0, a1, a2, a3, a4, a5, a6, a7, a8, a9, aa⟩, _⟩ := h
      go_simp
    try simp only [List.setIfInBounds_toArray, List.set_cons_zero, List.set_cons_succ]
    refine take_to8 4 35 (.slice (some ⟨q, off, none⟩) l.length c) rfl rfl (by kernel_rfl) (by kernel_rfl) (by kernel_rfl) (fun _ _ _ h => by cases h.1) (Or.inl ⟨by rfl, fun w' h => ?_⟩) hHeld ?_
    · obtain ⟨⟨a0, a1, a2, a3, a4, a5, a6, a7, a8, a9, aa⟩, _⟩ := h
      go_simp
    try simp only [List.setIfInBounds_toArray, List.set_cons_zero, List.set_cons_succ]
    refine take_to8 5 36 (.int .i64 pre.length) rfl rfl (by kernel_rfl) (by kernel_rfl) (by kernel_rfl) (fun _ _ _ h => by cases h.1) (Or.inl ⟨by rfl, fun w' h => ?_⟩) hHeld ?_
    · obtain ⟨⟨a0, a1, a2, a3, a4, a5, a6, a7, a8, a9, aa⟩, _⟩ := h
      go_simp
    try simp only [List.setIfInBounds_toArray, List.set_cons_zero, List.set_cons_succ]
    refine take_to8 6 37 (.pointer (some ⟨q, off + pre.length * 5, none⟩)) rfl rfl (by kernel_rfl) (by kernel_rfl) (by kernel_rfl) (fun _ _ _ h => by cases h.1) (Or.inl ⟨by rfl, fun w' h => ?_⟩) hHeld ?_
    · obtain ⟨⟨a0, a1, a2, a3, a4, a5, a6, a7, a8, a9, aa⟩, _⟩ := h
      go_simp
    try simp only [List.setIfInBounds_toArray, List.set_cons_zero, List.set_cons_succ]
    refine take_to8 7 38 (.pointer (some ⟨q, off + pre.length * 5, none⟩)) rfl rfl (by kernel_rfl) (by kernel_rfl) (by kernel_rfl) (fun _ _ _ h => by cases h.1) (Or.inl ⟨by rfl, fun w' h => ?_⟩) hHeld ?_
    · obtain ⟨⟨a0, a1, a2, a3, a4, a5, a6, a7, a8, a9, aa⟩, _⟩ := h
      go_simp
    try simp only [List.setIfInBounds_toArray, List.set_cons_zero, List.set_cons_succ]
    refine take_to8 8 39 (.agg #[.int .i64 z.F, .int .u64 z.H, .int .u64 z.L, .int .i64 z.B]) rfl rfl (by kernel_rfl) (by kernel_rfl) (by kernel_rfl) (fun _ _ _ h => by cases h.1) (Or.inl ⟨by rfl, fun w' h => ?_⟩) hHeld ?_
    · obtain ⟨⟨a0, a1, a2, a3, a4, a5, a6, a7, a8, a9, aa⟩, _⟩ := h
      go_simp
    try simp only [List.setIfInBounds_toArray, List.set_cons_zero, List.set_cons_succ]
    have hlts : W.heap.size ≤ w5.heap.size := hHeld.2.size
    have hBpl := mP.lt
    have hIl := bI.lt
    refine wpAnyH_ready (rs := [9, 10]) (by kernel_rfl) (by simp) ?_
    refine AllReadyH.cons rfl (fun K' hK' => ?_) (AllReadyH.cons rfl (fun K' hK' => ?_) AllReadyH.nil)
    · rw [if_pos (by rfl)]
      go_wp2_with fail
      refine (k1 _).mono ?_
      rintro e w6 ⟨rfl, g6⟩
      have hS6 := hHeld.kept g6
      have hz6 := g6.size
      clear hHeld
      try go_wp2_with fail
      refine hK'.out _ _ hS6 (fun hHeld => ?_)
      clear hK' K' hS6
      try simp only [Act.put, List.setIfInBounds_toArray, List.set_cons_zero, List.set_cons_succ]
      refine wpAnyH_ready (rs := [10]) (by kernel_rfl) (by simp) ?_
      refine AllReadyH.cons rfl (fun K' hK' => ?_) AllReadyH.nil
      rw [if_pos (by rfl)]
      have bS := Boxed.new w6 4 (.bool false)
      have hS7 := hHeld.kept ((Below.refl _ _).alloc (Nat.le_refl _) (.cells #[.bool false] 4))
      clear hHeld
      go_wp2_with fail
      refine hK'.out _ _ hS7 (fun hHeld => ?_)
      clear hK' K' hS7
      try simp only [Act.put, List.setIfInBounds_toArray, List.set_cons_zero, List.set_cons_succ]
      generalize w6.alloc (.cells #[.bool false] 4) = w7 at *
      have hBs : W.heap.size ≤ w6.heap.size := by omega
      generalize w6.heap.size = Bs at *
      refine wpAnyH_ready (rs := [11]) (by kernel_rfl) (by simp) ?_
      refine AllReadyH.cons rfl (fun K' hK' => ?_) AllReadyH.nil
      rw [if_pos (by rfl)]
      have cS := bS.cell
      have fS := bS.frozen
      have hS8 := hHeld.set (.bool (x.sm z)) hBs (by omega) (by omega) (by omega) (by omega) (by omega)
      replace bS := bS.set (.bool (x.sm z))
      clear hHeld
      go_wp2_with fail
      refine hK'.out _ _ hS8 (fun hHeld => ?_)
      clear hK' K' hS8 cS fS
      try simp only [Act.put, List.setIfInBounds_toArray, List.set_cons_zero, List.set_cons_succ]
      generalize w7.setCell ⟨Bs, 0, none⟩ (.bool (x.sm z)) = w8 at *
      refine wpAnyH_done (by kernel_rfl) ?_ _
      refine ⟨rfl, ?_⟩
      have hW8 := hHeld.2
      obtain ⟨⟨_, _, _, _, c1, c2, cI, _, _, _, _⟩, _⟩ := id hHeld
      have cS := bS.cell
      have n4 := (HQ.out _ z hz).2.2.2.2
      have cK := cell_be8 hW8 ((hB.cell (World.block_lt_of_cell? _ _ n4)).trans n4)
      clear n4
      cases hsm : x.sm z with
      | false =>
        have HNX : Hid (¬ pre ++ [x] <+: l) := fun hh => by
          have := (pre_next hpre hz).1 hh
          subst this
          rw [sm_self] at hsm
          cases hsm
        rw [hsm] at cS
        clear hsm
        gi_wp2
        refine quiet_r (C := fun w' => ∃ n, w' = w8.drewN n) hmx ?hq (by simp) (by kernel_rfl) ⟨1, rfl⟩ ?_
        case hq => rintro ⟨_, _, hh⟩; exact hh
        repeat (go_big_quiet_step (fail))
        refine wpQuiet_nil ?_
        rintro _ ⟨nq, rfl⟩
        have KF : Gs (fun _ => False) W (w8.drewN nq) := ((Gs.refl _ W).below hHeld.2).below (bel_drawn (Below.refl _ _) _)
        have cr := (hHeld.2.cell (World.block_lt_of_cell? _ _ ((hB.cell (World.block_lt_of_cell? _ _ bx2)).trans bx2))).trans ((hB.cell (World.block_lt_of_cell? _ _ bx2)).trans bx2)
        have fr := (World.frozen?_of_block (hHeld.2.block _ (World.block_lt_of_cell? _ _ ((hB.cell (World.block_lt_of_cell? _ _ bx2)).trans bx2)))).trans ((World.frozen?_of_block (hB.block _ (World.block_lt_of_cell? _ _ bx2))).trans by2)
        gi_wp2
        exact ⟨(KF.keeps (fun _ h => h.elim)).trans ((KeepsOthers.setCell _ _ _).from _), rfl, HNX.out⟩
      | true =>
        by_cases hkk : x.K = z.K
        · obtain rfl := wy_ext hsm hkk
          rw [hsm] at cS bS
          have HPX := hid ((pre_next (x := x) hpre hz).2 rfl)
          have HZ := hid hz
          clear hsm hkk hz
          have hke : (x.K != x.K) = false := by simp
          gi_wp2
          refine quiet_r (C := fun w' => ∃ n, w' = w8.drewN n) hmx ?hq (by simp) (by kernel_rfl) ⟨1, rfl⟩ ?_
          case hq => rintro ⟨_, _, hh⟩; exact hh
          repeat (go_big_quiet_step (fail))
          refine wpQuiet_nil ?_
          rintro _ ⟨nq, rfl⟩
          have g9 : Below W.heap.size W (w8.drewN nq) := bel_drawn hW8 _
          have b9 : Boxed (w8.drewN nq) Bs 4 (.bool true) := bS
          clear hHeld cS cI c1 c2 cK hW8 bS
          generalize w8.drewN nq = w9 at *
          have bI9 := bI.kept (grown_of_below g9) (fun e => by cases e)
          have cI := bI9.cell
          have fI := bI9.frozen
          have c0 := cell_be8 g9 ((hB.cell (World.block_lt_of_cell? _ _ e0)).trans e0)
          have bIs := bI9.set (.int .i64 ((pre.length : Int) + 1))
          have Gx : Gs (fun j => j = w2.heap.size) W (w9.setCell ⟨w2.heap.size, 0, none⟩ (.int .i64 ((pre.length : Int) + 1))) := Gs.set (M := fun j => j = w2.heap.size) ((Gs.refl _ W).below g9) (.inl rfl) _
          have Bx : Below w2.heap.size w2 (w9.setCell ⟨w2.heap.size, 0, none⟩ (.int .i64 ((pre.length : Int) + 1))) := (hB.trans (g9.mono (by omega))).setCell (p := ⟨w2.heap.size, 0, none⟩) (Nat.le_refl _) _
          have bSs := b9.other (B' := w2.heap.size) (by omega) (.int .i64 ((pre.length : Int) + 1))
          have c0s := (World.cell?_setCell_far w9 ⟨w2.heap.size, 0, none⟩ ⟨w.heap.size, 0, none⟩ (.int .i64 ((pre.length : Int) + 1)) (fun e => by have := World.block_lt_of_cell? _ _ e0; simp only at this e; omega)).trans c0
          have hzs := Gx.1
          have Bc : Below w.heap.size w ((w9.setCell ⟨w2.heap.size, 0, none⟩ (.int .i64 ((pre.length : Int) + 1))).alloc (.cells #[.int .i64 0] 3)) := (B2.trans (Bx.mono B2.size)).alloc (by have := Bx.size; omega) _
          have c0a := cell_al8 (o := .cells #[.int .i64 0] 3) c0s
          have bIa := bIs.alloc (.cells #[.int .i64 0] 3)
          have bSa := bSs.alloc (.cells #[.int .i64 0] 3)
          have bNa := Boxed.new (w9.setCell ⟨w2.heap.size, 0, none⟩ (.int .i64 ((pre.length : Int) + 1))) 3 (.int .i64 0)
          have Ga := Gx.alloc (.cells #[.int .i64 0] 3)
          have Ba := Bx.alloc Bx.size (.cells #[.int .i64 0] 3)
          have hsn : (w9.setCell ⟨w2.heap.size, 0, none⟩ (.int .i64 ((pre.length : Int) + 1))).heap.size = w9.heap.size := by simp [World.setCell]
          rw [hsn] at bNa
          have hs9 := g9.size
          have hsc : ((w9.setCell ⟨w2.heap.size, 0, none⟩ (.int .i64 ((pre.length : Int) + 1))).alloc (.cells #[.int .i64 0] 3)).heap.size = w9.heap.size + 1 := by rw [World.size_alloc, hsn]
          clear Gx Bx bSs c0s bIs c0
          gi_wp2_with (refine ⟨trivial, ?_⟩; gi_at_call 13; refine (calls_r (R.all_ w _ _ l HT.out Bc hlen)).mono ?_; rintro e w11 ⟨⟨gf2, lb2, rfl, eg2, hseq2⟩, g11⟩)
          generalize (w9.setCell ⟨w2.heap.size, 0, none⟩ (.int .i64 ((pre.length : Int) + 1))).alloc (.cells #[.int .i64 0] 3) = wc at *
          have bI1 := bIa.kept (grown_of_below g11) (fun e => by cases e)
          have bS1 := bSa.kept (grown_of_below g11) (fun e => by cases e)
          have bN1 := bNa.kept (grown_of_below g11) (fun e => by cases e)
          have G1 := Ga.below g11
          have B1 : Below w2.heap.size w2 w11 := Ba.trans (g11.mono Ba.size)
          have hbs : Bs < w9.heap.size := b9.lt
          have hs11 := g11.size
          have hl1 : w11.heap[lp]? = some (.loop rec) := (G1.2 lp (Array.getElem?_eq_some_iff.1 hrec).1 (by omega)).trans hrec
          clear bIa bSa bNa Ga Ba g11 Bc c0a cI fI bI9 b9 hsn
          rw [hsc] at hseq2 hs11
          generalize w9.heap.size = Sn at *
          refine with_act (fun A hA => ?_)
          refine wpIn_rangeFunc_ownN (l₀ := lp) (r₀ := rec) rfl hl1 (by omega) (gf := gf2) (lb := lb2) (by rw [hA]; rfl) trivial eg2 ((seq_wy (hseq2 6 (by omega))).inRound lp) Kq.t (Kq.b (by have := B2.size; omega) (Nat.le_refl _)) (Below.refl _ _) (fun _ => rfl)
            (fun pre' V => ((Boxed V Sn 3 (.int .i64 (pre'.length : Int)) ∧ (∃ b, Boxed V Bs 4 (.bool b))) ∧ (Gs (fun j => j = Bs ∨ j = Sn) w11 V ∧ Below w2.heap.size w2 V)) ∧ pre' <+: l)
            (fun c pre' V => (c = .exit 2 ∧ Gs (fun j => j = Bs ∨ j = Sn) w11 V ∧ Below w2.heap.size w2 V) ∨ (c = .ret ∧ ¬ pre' <+: l))
            (OwnFrom.and (OwnFrom.and (OwnFrom.and (Own.from (boxed_own _ _ (fun pre : List Wy => Value.int .i64 (pre.length : Int))) _) (fun s X Y row hs hg hr => by
              obtain ⟨b, hb⟩ := hs
              exact ⟨b, boxed_own Bs 4 (fun (_ : Unit) => Value.bool b) () X Y row hb hg (fun r e => (hr r e).2)⟩)) (OwnFrom.and (ownFrom_gs (Nat.le_refl _)) (ownFrom_below (Nat.le_refl _) (by omega)))) (ownFrom_pure _ _))
            (fun c s X Y row hs hg hr => hs.imp (fun h => ⟨h.1, ownFrom_gs (β := Unit) (Nat.le_refl _) () X Y row h.2.1 hg hr, ownFrom_below (β := Unit) (Nat.le_refl _) (by omega) () X Y row h.2.2 hg hr⟩) id)
            ⟨⟨⟨bN1, true, bS1⟩, Gs.refl _ _, B1⟩, List.nil_prefix⟩
            (fun y a'' V => ∃ Bq, w11.heap.size ≤ Bq ∧ Pm V Bq y.F y.H y.L y.B ∧ a'' = { tmps := (((A.tmps.setIfInBounds 59 (.agg #[.int .i64 y.F, .int .u64 y.H, .int .u64 y.L, .int .i64 y.B])).setIfInBounds 60 (.int .i64 y.K)).setIfInBounds 10 (.pointer (some ⟨Bq, 0, none⟩))).setIfInBounds 11 (.int .i64 y.K), defers := [] })
            (fun y a'' _ X Y row hs hg hr => by obtain ⟨Bq, h1, h2, h3⟩ := hs; exact ⟨Bq, h1, pm_own h2 hg hr, h3⟩)
            ?assign2 ?body2 ?done2 ?stop2
          case assign2 =>
            subst hA
            rintro l2 pre' y V K ⟨⟨⟨bN2, bS2⟩, G2, B2'⟩, hp2⟩ hK
            unfold Wy.px
            gi_wp2
            refine hK _ _ ((KeepsOthers.alloc _ _).from _) (((Gs.refl (fun _ => False) V).alloc _).kq (fun _ h => h.elim) (by have := B2.size; have := G2.1; omega) G2.1 (fun _ h => h.elim)) ⟨⟨⟨bN2.alloc _, bS2.elim fun b hb => ⟨b, hb.alloc _⟩⟩, G2.alloc _, B2'.alloc B2'.size _⟩, hp2⟩ ⟨V.heap.size, G2.1, Pm.new V _ _ _ _, ?_⟩
            simp only [List.setIfInBounds_toArray, List.set_cons_zero, List.set_cons_succ]
          case body2 =>
            subst hA
            rintro l2 pre' y a'' V hl2 ⟨rec2, hrec2⟩ ⟨⟨⟨bN2, b0, bS2⟩, G2, B2'⟩, hp2⟩ ⟨Bq, hBq, mQ, ha⟩ hlt2
            have HNR := hid (show ∀ j, j = Bs ∨ j = Sn → Nr V j from fun j hj => by rcases hj with rfl | rfl; all_goals first | exact Nr.boxed bS2 (by decide) | exact Nr.boxed bN2 (by decide))
            simp only [List.setIfInBounds_toArray, List.set_cons_zero, List.set_cons_succ] at ha
            subst ha
            obtain ⟨z2, hz2⟩ : ∃ z, l[pre'.length]? = some z := ⟨_, List.getElem?_eq_getElem hlt2⟩
            have hlI2 : (pre'.length : Int) < (l.length : Int) := by omega
            obtain ⟨n0, n1, n2, n3, n4⟩ := HQ.out _ z2 hz2
            have hA1 := World.block_lt_of_cell? _ _ e1
            have hA2 := World.block_lt_of_cell? _ _ bx2
            simp only at hA1 hA2
            have hG2 := G2.1
            have S0 : SI Bq w.heap.size k Sn q (off + pre'.length * 5) (.slice (some ⟨q, off, none⟩) l.length c) y z2 pre'.length w2 Bs Sn V V := ⟨⟨⟨mQ.c0, mQ.c1, mQ.c2, mQ.c3, (B2'.cell (World.block_lt_of_cell? _ _ e1)).trans e1, (B2'.cell (World.block_lt_of_cell? _ _ e2)).trans e2, bN2.cell, (B2'.cell (World.block_lt_of_cell? _ _ n0)).trans n0, (B2'.cell (World.block_lt_of_cell? _ _ n1)).trans n1, (B2'.cell (World.block_lt_of_cell? _ _ n2)).trans n2, (B2'.cell (World.block_lt_of_cell? _ _ n3)).trans n3⟩, B2'⟩, Gs.refl _ _⟩
            clear n0 n1 n2 n3 n4
            have k2 := fun w => samePrefix_ y.F y.H y.L y.B z2.F z2.H z2.L z2.B w
            rw [spx_sm] at k2
            gi_wp2
            refine only8 ?_
            refine held_r (S := SI Bq w.heap.size k Sn q (off + pre'.length * 5) (.slice (some ⟨q, off, none⟩) l.length c) y z2 pre'.length w2 Bs Sn V) hmx (fun hh => by obtain ⟨_, _, hh⟩ := hh; cases hh.1) (by simp) S0.drew (fun hHeld => ?_)
            clear S0
            have bV : Boxed ({ V with drawn := V.drawn + 1 } : World) Bs 4 (.bool b0) := bS2
            have bM : Boxed ({ V with drawn := V.drawn + 1 } : World) Sn 3 (.int .i64 (pre'.length : Int)) := bN2
            generalize ({ V with drawn := V.drawn + 1 } : World) = v5 at *
            refine take_to8 0 61 (.agg #[.int .i64 y.F, .int .u64 y.H, .int .u64 y.L, .int .i64 y.B]) rfl rfl (by kernel_rfl) (by kernel_rfl) (by kernel_rfl) (fun _ _ _ h => by cases h.1) (Or.inl ⟨by rfl, fun w' h => ?_⟩) hHeld ?_
            · obtain ⟨⟨⟨a0, a1, a2, a3, a4, a5, a6, a7, a8, a9, aa⟩, _⟩, _⟩ := h
              go_simp
            try simp only [List.setIfInBounds_toArray, List.set_cons_zero, List.set_cons_succ]
            refine take_to8 1 62 (.pointer (some ⟨k, 0, none⟩)) rfl rfl (by kernel_rfl) (by kernel_rfl) (by kernel_rfl) (fun _ _ _ h => by cases h.1) (Or.inl ⟨by rfl, fun w' h => ?_⟩) hHeld ?_
            · obtain ⟨⟨⟨a0, a1, a2, a3, a4, a5, a6, a7, a8, a9, aa⟩, _⟩, _⟩ := h
              go_simp
            try simp only [List.setIfInBounds_toArray, List.set_cons_zero, List.set_cons_succ]
            refine take_to8 2 63 (.pointer (some ⟨k, 0, none⟩)) rfl rfl (by kernel_rfl) (by kernel_rfl) (by kernel_rfl) (fun _ _ _ h => by cases h.1) (Or.inl ⟨by rfl, fun w' h => ?_⟩) hHeld ?_
            · obtain ⟨⟨⟨a0, a1, a2, a3, a4, a5, a6, a7, a8, a9, aa⟩, _⟩, _⟩ := h
              go_simp
            try simp only [List.setIfInBounds_toArray, List.set_cons_zero, List.set_cons_succ]
            refine take_to8 3 64 (.pointer (some ⟨k, 0, none⟩)) rfl rfl (by kernel_rfl) (by kernel_rfl) (by kernel_rfl) (fun _ _ _ h => by cases h.1) (Or.inl ⟨by rfl, fun w' h => ?_⟩) hHeld ?_
            · obtain ⟨⟨⟨a0, a1, a2, a3, a4, a5, a6, a7, a8, a9, aa⟩, _⟩, _⟩ := h
              go_simp
            try simp only [List.setIfInBounds_toArray, List.set_cons_zero, List.set_cons_succ]
            refine take_to8 4 65 (.slice (some ⟨q, off, none⟩) l.length c) rfl rfl (by kernel_rfl) (by kernel_rfl) (by kernel_rfl) (fun _ _ _ h => by cases h.1) (Or.inl ⟨by rfl, fun w' h => ?_⟩) hHeld ?_
            · obtain ⟨⟨⟨a0, a1, a2, a3, a4, a5, a6, a7, a8, a9, aa⟩, _⟩, _⟩ := h
              go_simp
            try simp only [List.setIfInBounds_toArray, List.set_cons_zero, List.set_cons_succ]
            refine take_to8 5 66 (.int .i64 pre'.length) rfl rfl (by kernel_rfl) (by kernel_rfl) (by kernel_rfl) (fun _ _ _ h => by cases h.1) (Or.inl ⟨by rfl, fun w' h => ?_⟩) hHeld ?_
            · obtain ⟨⟨⟨a0, a1, a2, a3, a4, a5, a6, a7, a8, a9, aa⟩, _⟩, _⟩ := h
              go_simp
            try simp only [List.setIfInBounds_toArray, List.set_cons_zero, List.set_cons_succ]
            refine take_to8 6 67 (.pointer (some ⟨q, off + pre'.length * 5, none⟩)) rfl rfl (by kernel_rfl) (by kernel_rfl) (by kernel_rfl) (fun _ _ _ h => by cases h.1) (Or.inl ⟨by rfl, fun w' h => ?_⟩) hHeld ?_
            · obtain ⟨⟨⟨a0, a1, a2, a3, a4, a5, a6, a7, a8, a9, aa⟩, _⟩, _⟩ := h
              go_simp
            try simp only [List.setIfInBounds_toArray, List.set_cons_zero, List.set_cons_succ]
            refine take_to8 7 68 (.pointer (some ⟨q, off + pre'.length * 5, none⟩)) rfl rfl (by kernel_rfl) (by kernel_rfl) (by kernel_rfl) (fun _ _ _ h => by cases h.1) (Or.inl ⟨by rfl, fun w' h => ?_⟩) hHeld ?_
            · obtain ⟨⟨⟨a0, a1, a2, a3, a4, a5, a6, a7, a8, a9, aa⟩, _⟩, _⟩ := h
              go_simp
            try simp only [List.setIfInBounds_toArray, List.set_cons_zero, List.set_cons_succ]
            refine take_to8 8 69 (.agg #[.int .i64 z2.F, .int .u64 z2.H, .int .u64 z2.L, .int .i64 z2.B]) rfl rfl (by kernel_rfl) (by kernel_rfl) (by kernel_rfl) (fun _ _ _ h => by cases h.1) (Or.inl ⟨by rfl, fun w' h => ?_⟩) hHeld ?_
            · obtain ⟨⟨⟨a0, a1, a2, a3, a4, a5, a6, a7, a8, a9, aa⟩, _⟩, _⟩ := h
              go_simp
            try simp only [List.setIfInBounds_toArray, List.set_cons_zero, List.set_cons_succ]
            refine wpAnyH_ready (rs := [9]) (by kernel_rfl) (by simp) ?_
            refine AllReadyH.cons rfl (fun K' hK' => ?_) AllReadyH.nil
            rw [if_pos (by rfl)]
            go_wp2_with fail
            refine (k2 _).mono ?_
            rintro e v6 ⟨rfl, g6⟩
            have hS6 := hHeld.kept g6
            replace bV := bV.kept (grown_of_below g6) (fun e => by cases e)
            replace bM := bM.kept (grown_of_below g6) (fun e => by cases e)
            clear hHeld
            try go_wp2_with fail
            refine hK'.out _ _ hS6 (fun hHeld => ?_)
            clear hK' K' hS6
            try simp only [Act.put, List.setIfInBounds_toArray, List.set_cons_zero, List.set_cons_succ]
            refine wpAnyH_ready (rs := [10]) (by kernel_rfl) (by simp) ?_
            refine AllReadyH.cons rfl (fun K' hK' => ?_) AllReadyH.nil
            rw [if_pos (by rfl)]
            have cS := bV.cell
            have fS := bV.frozen
            have hS8 := hHeld.set (.bool (y.sm z2)) (by omega) (by omega) (by omega) (by omega) (by omega) (by omega)
            replace bV := bV.set (.bool (y.sm z2))
            replace bM := bM.other (B' := Bs) (by omega) (.bool (y.sm z2))
            clear hHeld
            go_wp2_with fail
            refine hK'.out _ _ hS8 (fun hHeld => ?_)
            clear hK' K' hS8 cS fS
            try simp only [Act.put, List.setIfInBounds_toArray, List.set_cons_zero, List.set_cons_succ]
            generalize v6.setCell ⟨Bs, 0, none⟩ (.bool (y.sm z2)) = v8 at *
            refine wpAnyH_done (by kernel_rfl) ?_ _
            refine ⟨rfl, ?_⟩
            obtain ⟨⟨⟨_, _, _, _, c1, c2, cN, _, _, _, _⟩, _⟩, _⟩ := id hHeld
            have cS := bV.cell
            have n4 := (HQ.out _ z2 hz2).2.2.2.2
            have cK := (hHeld.1.2.cell (World.block_lt_of_cell? _ _ n4)).trans n4
            clear n4
            cases hsm : y.sm z2 with
            | false =>
              have HNX : Hid (¬ pre' ++ [y] <+: l) := fun hh => by
                have := (pre_next hp2 hz2).1 hh
                subst this
                rw [sm_self] at hsm
                cases hsm
              rw [hsm] at cS
              clear hsm
              gi_wp2
              refine quiet_r (C := fun w' => ∃ n, w' = v8.drewN n) hmx ?hq (by simp) (by kernel_rfl) ⟨1, rfl⟩ ?_
              case hq => rintro ⟨_, _, hh⟩; exact hh
              repeat (go_big_quiet_step (fail))
              refine wpQuiet_nil ?_
              rintro _ ⟨nq2, rfl⟩
              have cr := (hHeld.1.2.cell (World.block_lt_of_cell? _ _ bx2)).trans bx2
              have fr := (World.frozen?_of_block (hHeld.1.2.block _ (World.block_lt_of_cell? _ _ bx2))).trans by2
              have KF : Gs (fun j => j = Bs ∨ j = Sn) V (v8.drewN nq2) := hHeld.2.below (bel_drawn (Below.refl _ _) _)
              gi_wp2
              exact ⟨(KF.keeps (fun j h => by omega)).trans ((KeepsOthers.setCell _ _ _).from _), .inr ⟨rfl, HNX.out⟩⟩
            | true =>
              by_cases hkk : y.K = z2.K
              · obtain rfl := wy_ext hsm hkk
                rw [hsm] at cS bV
                have HPY := hid ((pre_next (x := y) hp2 hz2).2 rfl)
                clear hsm hkk hz2
                have hke : (y.K != y.K) = false := by simp
                gi_wp2
                refine quiet_r (C := fun w' => ∃ n, w' = v8.drewN n) hmx ?hq (by simp) (by kernel_rfl) ⟨1, rfl⟩ ?_
                case hq => rintro ⟨_, _, hh⟩; exact hh
                repeat (go_big_quiet_step (fail))
                refine wpQuiet_nil ?_
                rintro _ ⟨nq2, rfl⟩
                have bM9 : Boxed (v8.drewN nq2) Sn 3 (.int .i64 (pre'.length : Int)) := bM
                have bV9 : Boxed (v8.drewN nq2) Bs 4 (.bool true) := bV
                have bI9 : Boxed (v8.drewN nq2) w2.heap.size 3 (.int .i64 ((pre.length : Int) + 1)) := hHeld.2.boxed (G2.boxed bI1 (by omega)) (by omega)
                have KF : Gs (fun j => j = Bs ∨ j = Sn) V (v8.drewN nq2) := hHeld.2.below (bel_drawn (Below.refl _ _) _)
                have BF : Below w2.heap.size w2 (v8.drewN nq2) := bel_drawn hHeld.1.2 _
                clear hHeld cS c1 c2 cN cK bM bV
                generalize v8.drewN nq2 = v9 at *
                have cM := bM9.cell
                have fM := bM9.frozen
                have bMs := bM9.set (.int .i64 ((pre'.length : Int) + 1))
                have bIs := bI9.other (B' := Sn) (by omega) (.int .i64 ((pre'.length : Int) + 1))
                have bVs := bV9.other (B' := Sn) (by omega) (.int .i64 ((pre'.length : Int) + 1))
                have KFs := KF.set (b := Sn) (.inl (.inr rfl)) (.int .i64 ((pre'.length : Int) + 1))
                have BFs := BF.setCell (p := ⟨Sn, 0, none⟩) (by show w2.heap.size ≤ Sn; omega) (.int .i64 ((pre'.length : Int) + 1))
                have cMs := bMs.cell
                have cIs := bIs.cell
                by_cases hge : pre.length ≤ pre'.length
                · have hgI : (pre.length : Int) + 1 ≤ (pre'.length : Int) + 1 := by omega
                  gi_wp2
                  exact ⟨KFs.keeps (fun j h => by omega), .inl ⟨rfl, G2.trans KFs, BFs⟩⟩
                · have hgI : ¬ (pre.length : Int) + 1 ≤ (pre'.length : Int) + 1 := by omega
                  by_cases hg3 : 2 ≤ pre'.length
                  · have h3I : (3 : Int) ≤ (pre'.length : Int) + 1 := by omega
                    gi_wp2
                    exact ⟨KFs.keeps (fun j h => by omega), .inl ⟨rfl, G2.trans KFs, BFs⟩⟩
                  · have h3I : ¬ (3 : Int) ≤ (pre'.length : Int) + 1 := by omega
                    gi_wp2
                    exact ⟨KFs.keeps (fun j h => by omega), KFs.kq (fun j hj => by have := B2.size; omega) (by have := B2.size; omega) hG2 HNR.out, ⟨⟨⟨by rw [List.length_append, List.length_singleton]; exact bMs, by first | exact ⟨true, bVs⟩ | exact .inr bVs⟩, G2.trans KFs, BFs⟩, HPY.out⟩⟩
              · have HNX : Hid (¬ pre' ++ [y] <+: l) := fun hh => hkk (by rw [(pre_next hp2 hz2).1 hh])
                rw [hsm] at cS
                clear hsm
                gi_wp2
                refine quiet_r (C := fun w' => ∃ n, w' = v8.drewN n) hmx ?hq (by simp) (by kernel_rfl) ⟨1, rfl⟩ ?_
                case hq => rintro ⟨_, _, hh⟩; exact hh
                repeat (go_big_quiet_step (fail))
                refine wpQuiet_nil ?_
                rintro _ ⟨nq2, rfl⟩
                have cr := (hHeld.1.2.cell (World.block_lt_of_cell? _ _ bx2)).trans bx2
                have fr := (World.frozen?_of_block (hHeld.1.2.block _ (World.block_lt_of_cell? _ _ bx2))).trans by2
                have KF : Gs (fun j => j = Bs ∨ j = Sn) V (v8.drewN nq2) := hHeld.2.below (bel_drawn (Below.refl _ _) _)
                gi_wp2
                exact ⟨(KF.keeps (fun j h => by omega)).trans ((KeepsOthers.setCell _ _ _).from _), .inr ⟨rfl, HNX.out⟩⟩
          case done2 =>
            subst hA
            rintro ys V rfl ⟨⟨⟨bN2, bS2⟩, G2, B2'⟩, _⟩
            have GV : Gs (fun j => j = w2.heap.size) W V := G1.then G2 (fun j hj => by omega)
            have bIV := G2.boxed bI1 (by omega)
            gi_wp2
            exact ⟨GV.keeps (fun j hj => by omega), GV.kq (fun j hj => by have := B2.size; omega) (by have := B2.size; omega) hz4 (fun j hj => by subst hj; exact HNW.out), ⟨⟨by rw [List.length_append, List.length_singleton]; exact bIV, B2'⟩, Nat.le_trans hz4 GV.1, HPX.out⟩⟩
          case stop2 =>
            subst hA
            rintro c pre' V hsp (⟨rfl, G2, B2'⟩ | ⟨rfl, h⟩)
            · have GV : Gs (fun j => j = w2.heap.size) W V := G1.then G2 (fun j hj => by omega)
              have bIV := G2.boxed bI1 (by omega)
              gi_wp2
              exact ⟨GV.keeps (fun j hj => by omega), GV.kq (fun j hj => by have := B2.size; omega) (by have := B2.size; omega) hz4 (fun j hj => by subst hj; exact HNW.out), ⟨⟨by rw [List.length_append, List.length_singleton]; exact bIV, B2'⟩, Nat.le_trans hz4 GV.1, HPX.out⟩⟩
            · exact (h hsp).elim
        · have HNX : Hid (¬ pre ++ [x] <+: l) := fun hh => hkk (by rw [(pre_next hpre hz).1 hh])
          rw [hsm] at cS
          clear hsm
          gi_wp2
          refine quiet_r (C := fun w' => ∃ n, w' = w8.drewN n) hmx ?hq (by simp) (by kernel_rfl) ⟨1, rfl⟩ ?_
          case hq => rintro ⟨_, _, hh⟩; exact hh
          repeat (go_big_quiet_step (fail))
          refine wpQuiet_nil ?_
          rintro _ ⟨nq, rfl⟩
          have KF : Gs (fun _ => False) W (w8.drewN nq) := ((Gs.refl _ W).below hHeld.2).below (bel_drawn (Below.refl _ _) _)
          have cr := (hHeld.2.cell (World.block_lt_of_cell? _ _ ((hB.cell (World.block_lt_of_cell? _ _ bx2)).trans bx2))).trans ((hB.cell (World.block_lt_of_cell? _ _ bx2)).trans bx2)
          have fr := (World.frozen?_of_block (hHeld.2.block _ (World.block_lt_of_cell? _ _ ((hB.cell (World.block_lt_of_cell? _ _ bx2)).trans bx2)))).trans ((World.frozen?_of_block (hB.block _ (World.block_lt_of_cell? _ _ bx2))).trans by2)
          gi_wp2
          exact ⟨(KF.keeps (fun _ h => h.elim)).trans ((KeepsOthers.setCell _ _ _).from _), rfl, HNX.out⟩
    · rw [if_pos (by rfl)]
      have bS := Boxed.new w5 4 (.bool false)
      have hS7 := hHeld.kept ((Below.refl _ _).alloc (Nat.le_refl _) (.cells #[.bool false] 4))
      clear hHeld
      go_wp2_with fail
      refine hK'.out _ _ hS7 (fun hHeld => ?_)
      clear hK' K' hS7
      try simp only [Act.put, List.setIfInBounds_toArray, List.set_cons_zero, List.set_cons_succ]
      generalize w5.alloc (.cells #[.bool false] 4) = w6 at *
      have hBs : W.heap.size ≤ w5.heap.size := by omega
      generalize w5.heap.size = Bs at *
      refine wpAnyH_ready (rs := [9]) (by kernel_rfl) (by simp) ?_
      refine AllReadyH.cons rfl (fun K' hK' => ?_) AllReadyH.nil
      rw [if_pos (by rfl)]
      go_wp2_with fail
      refine (k1 _).mono ?_
      rintro e w7 ⟨rfl, g6⟩
      have hS6 := hHeld.kept g6
      replace bS := bS.kept (grown_of_below g6) (fun e => by cases e)
      clear hHeld
      try go_wp2_with fail
      refine hK'.out _ _ hS6 (fun hHeld => ?_)
      clear hK' K' hS6
      try simp only [Act.put, List.setIfInBounds_toArray, List.set_cons_zero, List.set_cons_succ]
      refine wpAnyH_ready (rs := [11]) (by kernel_rfl) (by simp) ?_
      refine AllReadyH.cons rfl (fun K' hK' => ?_) AllReadyH.nil
      rw [if_pos (by rfl)]
      have cS := bS.cell
      have fS := bS.frozen
      have hS8 := hHeld.set (.bool (x.sm z)) hBs (by omega) (by omega) (by omega) (by omega) (by omega)
      replace bS := bS.set (.bool (x.sm z))
      clear hHeld
      go_wp2_with fail
      refine hK'.out _ _ hS8 (fun hHeld => ?_)
      clear hK' K' hS8 cS fS
      try simp only [Act.put, List.setIfInBounds_toArray, List.set_cons_zero, List.set_cons_succ]
      generalize w7.setCell ⟨Bs, 0, none⟩ (.bool (x.sm z)) = w8 at *
      refine wpAnyH_done (by kernel_rfl) ?_ _
      refine ⟨rfl, ?_⟩
      have hW8 := hHeld.2
      obtain ⟨⟨_, _, _, _, c1, c2, cI, _, _, _, _⟩, _⟩ := id hHeld
      have cS := bS.cell
      have n4 := (HQ.out _ z hz).2.2.2.2
      have cK := cell_be8 hW8 ((hB.cell (World.block_lt_of_cell? _ _ n4)).trans n4)
      clear n4
      cases hsm : x.sm z with
      | false =>
        have HNX : Hid (¬ pre ++ [x] <+: l) := fun hh => by
          have := (pre_next hpre hz).1 hh
          subst this
          rw [sm_self] at hsm
          cases hsm
        rw [hsm] at cS
        clear hsm
        gi_wp2
        refine quiet_r (C := fun w' => ∃ n, w' = w8.drewN n) hmx ?hq (by simp) (by kernel_rfl) ⟨1, rfl⟩ ?_
        case hq => rintro ⟨_, _, hh⟩; exact hh
        repeat (go_big_quiet_step (fail))
        refine wpQuiet_nil ?_
        rintro _ ⟨nq, rfl⟩
        have KF : Gs (fun _ => False) W (w8.drewN nq) := ((Gs.refl _ W).below hHeld.2).below (bel_drawn (Below.refl _ _) _)
        have cr := (hHeld.2.cell (World.block_lt_of_cell? _ _ ((hB.cell (World.block_lt_of_cell? _ _ bx2)).trans bx2))).trans ((hB.cell (World.block_lt_of_cell? _ _ bx2)).trans bx2)
        have fr := (World.frozen?_of_block (hHeld.2.block _ (World.block_lt_of_cell? _ _ ((hB.cell (World.block_lt_of_cell? _ _ bx2)).trans bx2)))).trans ((World.frozen?_of_block (hB.block _ (World.block_lt_of_cell? _ _ bx2))).trans by2)
        gi_wp2
        exact ⟨(KF.keeps (fun _ h => h.elim)).trans ((KeepsOthers.setCell _ _ _).from _), rfl, HNX.out⟩
      | true =>
        by_cases hkk : x.K = z.K
        · obtain rfl := wy_ext hsm hkk
          rw [hsm] at cS bS
          have HPX := hid ((pre_next (x := x) hpre hz).2 rfl)
          have HZ := hid hz
          clear hsm hkk hz
          have hke : (x.K != x.K) = false := by simp
          gi_wp2
          refine quiet_r (C := fun w' => ∃ n, w' = w8.drewN n) hmx ?hq (by simp) (by kernel_rfl) ⟨1, rfl⟩ ?_
          case hq => rintro ⟨_, _, hh⟩; exact hh
          repeat (go_big_quiet_step (fail))
          refine wpQuiet_nil ?_
          rintro _ ⟨nq, rfl⟩
          have g9 : Below W.heap.size W (w8.drewN nq) := bel_drawn hW8 _
          have b9 : Boxed (w8.drewN nq) Bs 4 (.bool true) := bS
          clear hHeld cS cI c1 c2 cK hW8 bS
          generalize w8.drewN nq = w9 at *
          have bI9 := bI.kept (grown_of_below g9) (fun e => by cases e)
          have cI := bI9.cell
          have fI := bI9.frozen
          have c0 := cell_be8 g9 ((hB.cell (World.block_lt_of_cell? _ _ e0)).trans e0)
          have bIs := bI9.set (.int .i64 ((pre.length : Int) + 1))
          have Gx : Gs (fun j => j = w2.heap.size) W (w9.setCell ⟨w2.heap.size, 0, none⟩ (.int .i64 ((pre.length : Int) + 1))) := Gs.set (M := fun j => j = w2.heap.size) ((Gs.refl _ W).below g9) (.inl rfl) _
          have Bx : Below w2.heap.size w2 (w9.setCell ⟨w2.heap.size, 0, none⟩ (.int .i64 ((pre.length : Int) + 1))) := (hB.trans (g9.mono (by omega))).setCell (p := ⟨w2.heap.size, 0, none⟩) (Nat.le_refl _) _
          have bSs := b9.other (B' := w2.heap.size) (by omega) (.int .i64 ((pre.length : Int) + 1))
          have c0s := (World.cell?_setCell_far w9 ⟨w2.heap.size, 0, none⟩ ⟨w.heap.size, 0, none⟩ (.int .i64 ((pre.length : Int) + 1)) (fun e => by have := World.block_lt_of_cell? _ _ e0; simp only at this e; omega)).trans c0
          have hzs := Gx.1
          have Bc : Below w.heap.size w ((w9.setCell ⟨w2.heap.size, 0, none⟩ (.int .i64 ((pre.length : Int) + 1))).alloc (.cells #[.int .i64 0] 3)) := (B2.trans (Bx.mono B2.size)).alloc (by have := Bx.size; omega) _
          have c0a := cell_al8 (o := .cells #[.int .i64 0] 3) c0s
          have bIa := bIs.alloc (.cells #[.int .i64 0] 3)
          have bSa := bSs.alloc (.cells #[.int .i64 0] 3)
          have bNa := Boxed.new (w9.setCell ⟨w2.heap.size, 0, none⟩ (.int .i64 ((pre.length : Int) + 1))) 3 (.int .i64 0)
          have Ga := Gx.alloc (.cells #[.int .i64 0] 3)
          have Ba := Bx.alloc Bx.size (.cells #[.int .i64 0] 3)
          have hsn : (w9.setCell ⟨w2.heap.size, 0, none⟩ (.int .i64 ((pre.length : Int) + 1))).heap.size = w9.heap.size := by simp [World.setCell]
          rw [hsn] at bNa
          have hs9 := g9.size
          have hsc : ((w9.setCell ⟨w2.heap.size, 0, none⟩ (.int .i64 ((pre.length : Int) + 1))).alloc (.cells #[.int .i64 0] 3)).heap.size = w9.heap.size + 1 := by rw [World.size_alloc, hsn]
          clear Gx Bx bSs c0s bIs c0
          gi_wp2_with (refine ⟨trivial, ?_⟩; gi_at_call 13; refine (calls_r (R.all_ w _ _ l HT.out Bc hlen)).mono ?_; rintro e w11 ⟨⟨gf2, lb2, rfl, eg2, hseq2⟩, g11⟩)
          generalize (w9.setCell ⟨w2.heap.size, 0, none⟩ (.int .i64 ((pre.length : Int) + 1))).alloc (.cells #[.int .i64 0] 3) = wc at *
          have bI1 := bIa.kept (grown_of_below g11) (fun e => by cases e)
          have bS1 := bSa.kept (grown_of_below g11) (fun e => by cases e)
          have bN1 := bNa.kept (grown_of_below g11) (fun e => by cases e)
          have G1 := Ga.below g11
          have B1 : Below w2.heap.size w2 w11 := Ba.trans (g11.mono Ba.size)
          have hbs : Bs < w9.heap.size := b9.lt
          have hs11 := g11.size
          have hl1 : w11.heap[lp]? = some (.loop rec) := (G1.2 lp (Array.getElem?_eq_some_iff.1 hrec).1 (by omega)).trans hrec
          clear bIa bSa bNa Ga Ba g11 Bc c0a cI fI bI9 b9 hsn
          rw [hsc] at hseq2 hs11
          generalize w9.heap.size = Sn at *
          refine with_act (fun A hA => ?_)
          refine wpIn_rangeFunc_ownN (l₀ := lp) (r₀ := rec) rfl hl1 (by omega) (gf := gf2) (lb := lb2) (by rw [hA]; rfl) trivial eg2 ((seq_wy (hseq2 6 (by omega))).inRound lp) Kq.t (Kq.b (by have := B2.size; omega) (Nat.le_refl _)) (Below.refl _ _) (fun _ => rfl)
            (fun pre' V => ((Boxed V Sn 3 (.int .i64 (pre'.length : Int)) ∧ (∃ b, Boxed V Bs 4 (.bool b))) ∧ (Gs (fun j => j = Bs ∨ j = Sn) w11 V ∧ Below w2.heap.size w2 V)) ∧ pre' <+: l)
            (fun c pre' V => (c = .exit 2 ∧ Gs (fun j => j = Bs ∨ j = Sn) w11 V ∧ Below w2.heap.size w2 V) ∨ (c = .ret ∧ ¬ pre' <+: l))
            (OwnFrom.and (OwnFrom.and (OwnFrom.and (Own.from (boxed_own _ _ (fun pre : List Wy => Value.int .i64 (pre.length : Int))) _) (fun s X Y row hs hg hr => by
              obtain ⟨b, hb⟩ := hs
              exact ⟨b, boxed_own Bs 4 (fun (_ : Unit) => Value.bool b) () X Y row hb hg (fun r e => (hr r e).2)⟩)) (OwnFrom.and (ownFrom_gs (Nat.le_refl _)) (ownFrom_below (Nat.le_refl _) (by omega)))) (ownFrom_pure _ _))
            (fun c s X Y row hs hg hr => hs.imp (fun h => ⟨h.1, ownFrom_gs (β := Unit) (Nat.le_refl _) () X Y row h.2.1 hg hr, ownFrom_below (β := Unit) (Nat.le_refl _) (by omega) () X Y row h.2.2 hg hr⟩) id)
            ⟨⟨⟨bN1, true, bS1⟩, Gs.refl _ _, B1⟩, List.nil_prefix⟩
            (fun y a'' V => ∃ Bq, w11.heap.size ≤ Bq ∧ Pm V Bq y.F y.H y.L y.B ∧ a'' = { tmps := (((A.tmps.setIfInBounds 59 (.agg #[.int .i64 y.F, .int .u64 y.H, .int .u64 y.L, .int .i64 y.B])).setIfInBounds 60 (.int .i64 y.K)).setIfInBounds 10 (.pointer (some ⟨Bq, 0, none⟩))).setIfInBounds 11 (.int .i64 y.K), defers := [] })
            (fun y a'' _ X Y row hs hg hr => by obtain ⟨Bq, h1, h2, h3⟩ := hs; exact ⟨Bq, h1, pm_own h2 hg hr, h3⟩)
            ?assign2 ?body2 ?done2 ?stop2
          case assign2 =>
            subst hA
            rintro l2 pre' y V K ⟨⟨⟨bN2, bS2⟩, G2, B2'⟩, hp2⟩ hK
            unfold Wy.px
            gi_wp2
            refine hK _ _ ((KeepsOthers.alloc _ _).from _) (((Gs.refl (fun _ => False) V).alloc _).kq (fun _ h => h.elim) (by have := B2.size; have := G2.1; omega) G2.1 (fun _ h => h.elim)) ⟨⟨⟨bN2.alloc _, bS2.elim fun b hb => ⟨b, hb.alloc _⟩⟩, G2.alloc _, B2'.alloc B2'.size _⟩, hp2⟩ ⟨V.heap.size, G2.1, Pm.new V _ _ _ _, ?_⟩
            simp only [List.setIfInBounds_toArray, List.set_cons_zero, List.set_cons_succ]
          case body2 =>
            subst hA
            rintro l2 pre' y a'' V hl2 ⟨rec2, hrec2⟩ ⟨⟨⟨bN2, b0, bS2⟩, G2, B2'⟩, hp2⟩ ⟨Bq, hBq, mQ, ha⟩ hlt2
            have HNR := hid (show ∀ j, j = Bs ∨ j = Sn → Nr V j from fun j hj => by rcases hj with rfl | rfl; all_goals first | exact Nr.boxed bS2 (by decide) | exact Nr.boxed bN2 (by decide))
            simp only [List.setIfInBounds_toArray, List.set_cons_zero, List.set_cons_succ] at ha
            subst ha
            obtain ⟨z2, hz2⟩ : ∃ z, l[pre'.length]? = some z := ⟨_, List.getElem?_eq_getElem hlt2⟩
            have hlI2 : (pre'.length : Int) < (l.length : Int) := by omega
            obtain ⟨n0, n1, n2, n3, n4⟩ := HQ.out _ z2 hz2
            have hA1 := World.block_lt_of_cell? _ _ e1
            have hA2 := World.block_lt_of_cell? _ _ bx2
            simp only at hA1 hA2
            have hG2 := G2.1
            have S0 : SI Bq w.heap.size k Sn q (off + pre'.length * 5) (.slice (some ⟨q, off, none⟩) l.length c) y z2 pre'.length w2 Bs Sn V V := ⟨⟨⟨mQ.c0, mQ.c1, mQ.c2, mQ.c3, (B2'.cell (World.block_lt_of_cell? _ _ e1)).trans e1, (B2'.cell (World.block_lt_of_cell? _ _ e2)).trans e2, bN2.cell, (B2'.cell (World.block_lt_of_cell? _ _ n0)).trans n0, (B2'.cell (World.block_lt_of_cell? _ _ n1)).trans n1, (B2'.cell (World.block_lt_of_cell? _ _ n2)).trans n2, (B2'.cell (World.block_lt_of_cell? _ _ n3)).trans n3⟩, B2'⟩, Gs.refl _ _⟩
            clear n0 n1 n2 n3 n4
            have k2 := fun w => samePrefix_ y.F y.H y.L y.B z2.F z2.H z2.L z2.B w
            rw [spx_sm] at k2
            gi_wp2
            refine only8 ?_
            refine held_r (S := SI Bq w.heap.size k Sn q (off + pre'.length * 5) (.slice (some ⟨q, off, none⟩) l.length c) y z2 pre'.length w2 Bs Sn V) hmx (fun hh => by obtain ⟨_, _, hh⟩ := hh; cases hh.1) (by simp) S0.drew (fun hHeld => ?_)
            clear S0
            have bV : Boxed ({ V with drawn := V.drawn + 1 } : World) Bs 4 (.bool b0) := bS2
            have bM : Boxed ({ V with drawn := V.drawn + 1 } : World) Sn 3 (.int .i64 (pre'.length : Int)) := bN2
            generalize ({ V with drawn := V.drawn + 1 } : World) = v5 at *
            refine take_to8 0 61 (.agg #[.int .i64 y.F, .int .u64 y.H, .int .u64 y.L, .int .i64 y.B]) rfl rfl (by kernel_rfl) (by kernel_rfl) (by kernel_rfl) (fun _ _ _ h => by cases h.1) (Or.inl ⟨by rfl, fun w' h => ?_⟩) hHeld ?_
            · obtain ⟨⟨⟨a0, a1, a2, a3, a4, a5, a6, a7, a8, a9, aa⟩, _⟩, _⟩ := h
              go_simp
            try simp only [List.setIfInBounds_toArray, List.set_cons_zero, List.set_cons_succ]
            refine take_to8 1 62 (.pointer (some ⟨k, 0, none⟩)) rfl rfl (by kernel_rfl) (by kernel_rfl) (by kernel_rfl) (fun _ _ _ h => by cases h.1) (Or.inl ⟨by rfl, fun w' h => ?_⟩) hHeld ?_
            · obtain ⟨⟨⟨a0, a1, a2, a3, a4, a5, a6, a7, a8, a9, aa⟩, _⟩, _⟩ := h
              go_simp
            try simp only [List.setIfInBounds_toArray, List.set_cons_zero, List.set_cons_succ]
            refine take_to8 2 63 (.pointer (some ⟨k, 0, none⟩)) rfl rfl (by kernel_rfl) (by kernel_rfl) (by kernel_rfl) (fun _ _ _ h => by cases h.1) (Or.inl ⟨by rfl, fun w' h => ?_⟩) hHeld ?_
            · obtain ⟨⟨⟨a0, a1, a2, a3, a4, a5, a6, a7, a8, a9, aa⟩, _⟩, _⟩ := h
              go_simp
            try simp only [List.setIfInBounds_toArray, List.set_cons_zero, List.set_cons_succ]
            refine take_to8 3 64 (.pointer (some ⟨k, 0, none⟩)) rfl rfl (by kernel_rfl) (by kernel_rfl) (by kernel_rfl) (fun _ _ _ h => by cases h.1) (Or.inl ⟨by rfl, fun w' h => ?_⟩) hHeld ?_
            · obtain ⟨⟨⟨a0, a1, a2, a3, a4, a5, a6, a7, a8, a9, aa⟩, _⟩, _⟩ := h
              go_simp
            try simp only [List.setIfInBounds_toArray, List.set_cons_zero, List.set_cons_succ]
            refine take_to8 4 65 (.slice (some ⟨q, off, none⟩) l.length c) rfl rfl (by kernel_rfl) (by kernel_rfl) (by kernel_rfl) (fun _ _ _ h => by cases h.1) (Or.inl ⟨by rfl, fun w' h => ?_⟩) hHeld ?_
            · obtain ⟨⟨⟨a0, a1, a2, a3, a4, a5, a6, a7, a8, a9, aa⟩, _⟩, _⟩ := h
              go_simp
            try simp only [List.setIfInBounds_toArray, List.set_cons_zero, List.set_cons_succ]
            refine take_to8 5 66 (.int .i64 pre'.length) rfl rfl (by kernel_rfl) (by kernel_rfl) (by kernel_rfl) (fun _ _ _ h => by cases h.1) (Or.inl ⟨by rfl, fun w' h => ?_⟩) hHeld ?_
            · obtain ⟨⟨⟨a0, a1, a2, a3, a4, a5, a6, a7, a8, a9, aa⟩, _⟩, _⟩ := h
              go_simp
            try simp only [List.setIfInBounds_toArray, List.set_cons_zero, List.set_cons_succ]
            refine take_to8 6 67 (.pointer (some ⟨q, off + pre'.length * 5, none⟩)) rfl rfl (by kernel_rfl) (by kernel_rfl) (by kernel_rfl) (fun _ _ _ h => by cases h.1) (Or.inl ⟨by rfl, fun w' h => ?_⟩) hHeld ?_
            · obtain ⟨⟨⟨a0, a1, a2, a3, a4, a5, a6, a7, a8, a9, aa⟩, _⟩, _⟩ := h
              go_simp
            try simp only [List.setIfInBounds_toArray, List.set_cons_zero, List.set_cons_succ]
            refine take_to8 7 68 (.pointer (some ⟨q, off + pre'.length * 5, none⟩)) rfl rfl (by kernel_rfl) (by kernel_rfl) (by kernel_rfl) (fun _ _ _ h => by cases h.1) (Or.inl ⟨by rfl, fun w' h => ?_⟩) hHeld ?_
            · obtain ⟨⟨⟨a0, a1, a2, a3, a4, a5, a6, a7, a8, a9, aa⟩, _⟩, _⟩ := h
              go_simp
            try simp only [List.setIfInBounds_toArray, List.set_cons_zero, List.set_cons_succ]
            refine take_to8 8 69 (.agg #[.int .i64 z2.F, .int .u64 z2.H, .int .u64 z2.L, .int .i64 z2.B]) rfl rfl (by kernel_rfl) (by kernel_rfl) (by kernel_rfl) (fun _ _ _ h => by cases h.1) (Or.inl ⟨by rfl, fun w' h => ?_⟩) hHeld ?_
            · obtain ⟨⟨⟨a0, a1, a2, a3, a4, a5, a6, a7, a8, a9, aa⟩, _⟩, _⟩ := h
              go_simp
            try simp only [List.setIfInBounds_toArray, List.set_cons_zero, List.set_cons_succ]
            refine wpAnyH_ready (rs := [9]) (by kernel_rfl) (by simp) ?_
            refine AllReadyH.cons rfl (fun K' hK' => ?_) AllReadyH.nil
            rw [if_pos (by rfl)]
            go_wp2_with fail
            refine (k2 _).mono ?_
            rintro e v6 ⟨rfl, g6⟩
            have hS6 := hHeld.kept g6
            replace bV := bV.kept (grown_of_below g6) (fun e => by cases e)
            replace bM := bM.kept (grown_of_below g6) (fun e => by cases e)
            clear hHeld
            try go_wp2_with fail
            refine hK'.out _ _ hS6 (fun hHeld => ?_)
            clear hK' K' hS6
            try simp only [Act.put, List.setIfInBounds_toArray, List.set_cons_zero, List.set_cons_succ]
            refine wpAnyH_ready (rs := [10]) (by kernel_rfl) (by simp) ?_
            refine AllReadyH.cons rfl (fun K' hK' => ?_) AllReadyH.nil
            rw [if_pos (by rfl)]
            have cS := bV.cell
            have fS := bV.frozen
            have hS8 := hHeld.set (.bool (y.sm z2)) (by omega) (by omega) (by omega) (by omega) (by omega) (by omega)
            replace bV := bV.set (.bool (y.sm z2))
            replace bM := bM.other (B' := Bs) (by omega) (.bool (y.sm z2))
            clear hHeld
            go_wp2_with fail
            refine hK'.out _ _ hS8 (fun hHeld => ?_)
            clear hK' K' hS8 cS fS
            try simp only [Act.put, List.setIfInBounds_toArray, List.set_cons_zero, List.set_cons_succ]
            generalize v6.setCell ⟨Bs, 0, none⟩ (.bool (y.sm z2)) = v8 at *
            refine wpAnyH_done (by kernel_rfl) ?_ _
            refine ⟨rfl, ?_⟩
            obtain ⟨⟨⟨_, _, _, _, c1, c2, cN, _, _, _, _⟩, _⟩, _⟩ := id hHeld
            have cS := bV.cell
            have n4 := (HQ.out _ z2 hz2).2.2.2.2
            have cK := (hHeld.1.2.cell (World.block_lt_of_cell? _ _ n4)).trans n4
            clear n4
            cases hsm : y.sm z2 with
            | false =>
              have HNX : Hid (¬ pre' ++ [y] <+: l) := fun hh => by
                have := (pre_next hp2 hz2).1 hh
                subst this
                rw [sm_self] at hsm
                cases hsm
              rw [hsm] at cS
              clear hsm
              gi_wp2
              refine quiet_r (C := fun w' => ∃ n, w' = v8.drewN n) hmx ?hq (by simp) (by kernel_rfl) ⟨1, rfl⟩ ?_
              case hq => rintro ⟨_, _, hh⟩; exact hh
              repeat (go_big_quiet_step (fail))
              refine wpQuiet_nil ?_
              rintro _ ⟨nq2, rfl⟩
              have cr := (hHeld.1.2.cell (World.block_lt_of_cell? _ _ bx2)).trans bx2
              have fr := (World.frozen?_of_block (hHeld.1.2.block _ (World.block_lt_of_cell? _ _ bx2))).trans by2
              have KF : Gs (fun j => j = Bs ∨ j = Sn) V (v8.drewN nq2) := hHeld.2.below (bel_drawn (Below.refl _ _) _)
              gi_wp2
              exact ⟨(KF.keeps (fun j h => by omega)).trans ((KeepsOthers.setCell _ _ _).from _), .inr ⟨rfl, HNX.out⟩⟩
            | true =>
              by_cases hkk : y.K = z2.K
              · obtain rfl := wy_ext hsm hkk
                rw [hsm] at cS bV
                have HPY := hid ((pre_next (x := y) hp2 hz2).2 rfl)
                clear hsm hkk hz2
                have hke : (y.K != y.K) = false := by simp
                gi_wp2
                refine quiet_r (C := fun w' => ∃ n, w' = v8.drewN n) hmx ?hq (by simp) (by kernel_rfl) ⟨1, rfl⟩ ?_
                case hq => rintro ⟨_, _, hh⟩; exact hh
                repeat (go_big_quiet_step (fail))
                refine wpQuiet_nil ?_
                rintro _ ⟨nq2, rfl⟩
                have bM9 : Boxed (v8.drewN nq2) Sn 3 (.int .i64 (pre'.length : Int)) := bM
                have bV9 : Boxed (v8.drewN nq2) Bs 4 (.bool true) := bV
                have bI9 : Boxed (v8.drewN nq2) w2.heap.size 3 (.int .i64 ((pre.length : Int) + 1)) := hHeld.2.boxed (G2.boxed bI1 (by omega)) (by omega)
                have KF : Gs (fun j => j = Bs ∨ j = Sn) V (v8.drewN nq2) := hHeld.2.below (bel_drawn (Below.refl _ _) _)
                have BF : Below w2.heap.size w2 (v8.drewN nq2) := bel_drawn hHeld.1.2 _
                clear hHeld cS c1 c2 cN cK bM bV
                generalize v8.drewN nq2 = v9 at *
                have cM := bM9.cell
                have fM := bM9.frozen
                have bMs := bM9.set (.int .i64 ((pre'.length : Int) + 1))
                have bIs := bI9.other (B' := Sn) (by omega) (.int .i64 ((pre'.length : Int) + 1))
                have bVs := bV9.other (B' := Sn) (by omega) (.int .i64 ((pre'.length : Int) + 1))
                have KFs := KF.set (b := Sn) (.inl (.inr rfl)) (.int .i64 ((pre'.length : Int) + 1))
                have BFs := BF.setCell (p := ⟨Sn, 0, none⟩) (by show w2.heap.size ≤ Sn; omega) (.int .i64 ((pre'.length : Int) + 1))
                have cMs := bMs.cell
                have cIs := bIs.cell
                by_cases hge : pre.length ≤ pre'.length
                · have hgI : (pre.length : Int) + 1 ≤ (pre'.length : Int) + 1 := by omega
                  gi_wp2
                  exact ⟨KFs.keeps (fun j h => by omega), .inl ⟨rfl, G2.trans KFs, BFs⟩⟩
                · have hgI : ¬ (pre.length : Int) + 1 ≤ (pre'.length : Int) + 1 := by omega
                  by_cases hg3 : 2 ≤ pre'.length
                  · have h3I : (3 : Int) ≤ (pre'.length : Int) + 1 := by omega
                    gi_wp2
                    exact ⟨KFs.keeps (fun j h => by omega), .inl ⟨rfl, G2.trans KFs, BFs⟩⟩
                  · have h3I : ¬ (3 : Int) ≤ (pre'.length : Int) + 1 := by omega
                    gi_wp2
                    exact ⟨KFs.keeps (fun j h => by omega), KFs.kq (fun j hj => by have := B2.size; omega) (by have := B2.size; omega) hG2 HNR.out, ⟨⟨⟨by rw [List.length_append, List.length_singleton]; exact bMs, by first | exact ⟨true, bVs⟩ | exact .inr bVs⟩, G2.trans KFs, BFs⟩, HPY.out⟩⟩
              · have HNX : Hid (¬ pre' ++ [y] <+: l) := fun hh => hkk (by rw [(pre_next hp2 hz2).1 hh])
                rw [hsm] at cS
                clear hsm
                gi_wp2
                refine quiet_r (C := fun w' => ∃ n, w' = v8.drewN n) hmx ?hq (by simp) (by kernel_rfl) ⟨1, rfl⟩ ?_
                case hq => rintro ⟨_, _, hh⟩; exact hh
                repeat (go_big_quiet_step (fail))
                refine wpQuiet_nil ?_
                rintro _ ⟨nq2, rfl⟩
                have cr := (hHeld.1.2.cell (World.block_lt_of_cell? _ _ bx2)).trans bx2
                have fr := (World.frozen?_of_block (hHeld.1.2.block _ (World.block_lt_of_cell? _ _ bx2))).trans by2
                have KF : Gs (fun j => j = Bs ∨ j = Sn) V (v8.drewN nq2) := hHeld.2.below (bel_drawn (Below.refl _ _) _)
                gi_wp2
                exact ⟨(KF.keeps (fun j h => by omega)).trans ((KeepsOthers.setCell _ _ _).from _), .inr ⟨rfl, HNX.out⟩⟩
          case done2 =>
            subst hA
            rintro ys V rfl ⟨⟨⟨bN2, bS2⟩, G2, B2'⟩, _⟩
            have GV : Gs (fun j => j = w2.heap.size) W V := G1.then G2 (fun j hj => by omega)
            have bIV := G2.boxed bI1 (by omega)
            gi_wp2
            exact ⟨GV.keeps (fun j hj => by omega), GV.kq (fun j hj => by have := B2.size; omega) (by have := B2.size; omega) hz4 (fun j hj => by subst hj; exact HNW.out), ⟨⟨by rw [List.length_append, List.length_singleton]; exact bIV, B2'⟩, Nat.le_trans hz4 GV.1, HPX.out⟩⟩
          case stop2 =>
            subst hA
            rintro c pre' V hsp (⟨rfl, G2, B2'⟩ | ⟨rfl, h⟩)
            · have GV : Gs (fun j => j = w2.heap.size) W V := G1.then G2 (fun j hj => by omega)
              have bIV := G2.boxed bI1 (by omega)
              gi_wp2
              exact ⟨GV.keeps (fun j hj => by omega), GV.kq (fun j hj => by have := B2.size; omega) (by have := B2.size; omega) hz4 (fun j hj => by subst hj; exact HNW.out), ⟨⟨by rw [List.length_append, List.length_singleton]; exact bIV, B2'⟩, Nat.le_trans hz4 GV.1, HPX.out⟩⟩
            · exact (h hsp).elim
        · have HNX : Hid (¬ pre ++ [x] <+: l) := fun hh => hkk (by rw [(pre_next hpre hz).1 hh])
          rw [hsm] at cS
          clear hsm
          gi_wp2
          refine quiet_r (C := fun w' => ∃ n, w' = w8.drewN n) hmx ?hq (by simp) (by kernel_rfl) ⟨1, rfl⟩ ?_
          case hq => rintro ⟨_, _, hh⟩; exact hh
          repeat (go_big_quiet_step (fail))
          refine wpQuiet_nil ?_
          rintro _ ⟨nq, rfl⟩
          have KF : Gs (fun _ => False) W (w8.drewN nq) := ((Gs.refl _ W).below hHeld.2).below (bel_drawn (Below.refl _ _) _)
          have cr := (hHeld.2.cell (World.block_lt_of_cell? _ _ ((hB.cell (World.block_lt_of_cell? _ _ bx2)).trans bx2))).trans ((hB.cell (World.block_lt_of_cell? _ _ bx2)).trans bx2)
          have fr := (World.frozen?_of_block (hHeld.2.block _ (World.block_lt_of_cell? _ _ ((hB.cell (World.block_lt_of_cell? _ _ bx2)).trans bx2)))).trans ((World.frozen?_of_block (hB.block _ (World.block_lt_of_cell? _ _ bx2))).trans by2)
          gi_wp2
          exact ⟨(KF.keeps (fun _ h => h.elim)).trans ((KeepsOthers.setCell _ _ _).from _), rfl, HNX.out⟩
  case done =>
    rintro D xs W hD rfl ⟨⟨bI, hB⟩, hz4, _⟩ hK
    have hA2 := World.block_lt_of_cell? _ _ bx2
    have hkk := World.block_lt_of_cell? _ _ ck
    simp only at hA2 hkk
    have S0 : SE w.heap.size w2.heap.size k D (.slice a xs.length c) xs.length w W := ⟨⟨bI.cell, (hB.cell (World.block_lt_of_cell? _ _ e1)).trans e1, (hB.cell (World.block_lt_of_cell? _ _ e2)).trans e2⟩, ⟨⟨false, (hB.cell (World.block_lt_of_cell? _ _ bx2)).trans bx2⟩, (World.frozen?_of_block (hB.block _ hA2)).trans by2⟩, hK, B2.trans (hB.mono B2.size)⟩
    clear bI hB hK bx2 by2 e0 e1 e2 b4
    gi_wp2
    refine only8 ?_
    refine held_w (S := SE w.heap.size w2.heap.size k D (.slice a xs.length c) xs.length w) hmx (fun hh => by obtain ⟨_, _, hh⟩ := hh; cases hh.1) (by simp) S0.drew (fun hHeld => ?_)
    clear S0
    generalize ({ W with drawn := W.drawn + 1 } : World) = w5 at *
    refine take_to8 0 94 (.int .i64 xs.length) rfl rfl (by kernel_rfl) (by kernel_rfl) (by kernel_rfl) (fun _ _ _ h => by cases h.1) (Or.inl ⟨by rfl, fun w' h => ?_⟩) hHeld ?_
    · obtain ⟨⟨a1, a2, a3⟩, _⟩ := h
      go_simp
    try simp only [List.setIfInBounds_toArray, List.set_cons_zero, List.set_cons_succ]
    refine take_to8 1 95 (.pointer (some ⟨k, 0, none⟩)) rfl rfl (by kernel_rfl) (by kernel_rfl) (by kernel_rfl) (fun _ _ _ h => by cases h.1) (Or.inl ⟨by rfl, fun w' h => ?_⟩) hHeld ?_
    · obtain ⟨⟨a1, a2, a3⟩, _⟩ := h
      go_simp
    try simp only [List.setIfInBounds_toArray, List.set_cons_zero, List.set_cons_succ]
    refine take_to8 2 96 (.pointer (some ⟨k, 0, none⟩)) rfl rfl (by kernel_rfl) (by kernel_rfl) (by kernel_rfl) (fun _ _ _ h => by cases h.1) (Or.inl ⟨by rfl, fun w' h => ?_⟩) hHeld ?_
    · obtain ⟨⟨a1, a2, a3⟩, _⟩ := h
      go_simp
    try simp only [List.setIfInBounds_toArray, List.set_cons_zero, List.set_cons_succ]
    refine take_to8 3 97 (.pointer (some ⟨k, 0, none⟩)) rfl rfl (by kernel_rfl) (by kernel_rfl) (by kernel_rfl) (fun _ _ _ h => by cases h.1) (Or.inl ⟨by rfl, fun w' h => ?_⟩) hHeld ?_
    · obtain ⟨⟨a1, a2, a3⟩, _⟩ := h
      go_simp
    try simp only [List.setIfInBounds_toArray, List.set_cons_zero, List.set_cons_succ]
    refine take_to8 4 98 (.slice a xs.length c) rfl rfl (by kernel_rfl) (by kernel_rfl) (by kernel_rfl) (fun _ _ _ h => by cases h.1) (Or.inl ⟨by rfl, fun w' h => ?_⟩) hHeld ?_
    · obtain ⟨⟨a1, a2, a3⟩, _⟩ := h
      go_simp
    try simp only [List.setIfInBounds_toArray, List.set_cons_zero, List.set_cons_succ]
    refine take_to8 5 99 (.int .i64 xs.length) rfl rfl (by kernel_rfl) (by kernel_rfl) (by kernel_rfl) (fun _ _ _ h => by cases h.1) (Or.inl ⟨by rfl, fun w' h => ?_⟩) hHeld ?_
    · obtain ⟨⟨a1, a2, a3⟩, _⟩ := h
      go_simp
    try simp only [List.setIfInBounds_toArray, List.set_cons_zero, List.set_cons_succ]
    refine take_to8 6 100 (.bool true) rfl rfl (by kernel_rfl) (by kernel_rfl) (by kernel_rfl) (fun _ _ _ h => by cases h.1) (Or.inl ⟨by rfl, fun w' h => ?_⟩) hHeld ?_
    · obtain ⟨⟨a1, a2, a3⟩, _⟩ := h
      go_simp
    try simp only [List.setIfInBounds_toArray, List.set_cons_zero, List.set_cons_succ]
    refine wpAnyH_ready (rs := [7]) (by kernel_rfl) (by simp) ?_
    refine AllReadyH.cons rfl (fun K' hK' => ?_) AllReadyH.nil
    rw [if_pos (by rfl)]
    obtain ⟨hS1, v4⟩ := hHeld.set (Nat.le_refl _) hA2 hkk true
    obtain ⟨_, ⟨⟨o, c1⟩, c2⟩, _, _⟩ := id hHeld
    go_wp2_with fail
    refine hK'.out _ _ hS1 (fun hHeld => ?_)
    clear hK' K' c1 c2 hS1
    try simp only [Act.put, List.setIfInBounds_toArray, List.set_cons_zero, List.set_cons_succ]
    generalize w5.setCell ⟨w.heap.size + 1 + 1, 0, none⟩ (.bool true) = w6 at *
    refine wpAnyH_done (by kernel_rfl) ?_ _
    refine ⟨rfl, ?_⟩
    obtain ⟨_, _, q4, b5⟩ := hHeld
    gi_wp2
    refine ⟨by simp, .inl ⟨_, _, rfl, run_takeDeferred q4, ?_⟩⟩
    have r4 := cell_kept v4 (grownBy_putObj' _ D (.deferred none)) (fun r e => by cases e; exact ⟨_, q4, rfl⟩)
    refine ⟨.bool true, ?_, rfl, b5.trans (belowK_b (w := w) (Nat.le_refl _) _ D _ _ (by have := B2.size; omega) q4 rfl rfl)⟩
    simp [results, Try.f11, go_sem, r4]
  case stop =>
    rintro D c pre W _ hsp ⟨_, h⟩ _
    exact (h hsp).elim
end Go.Proofs.Ytcaecfdeieoenaa
