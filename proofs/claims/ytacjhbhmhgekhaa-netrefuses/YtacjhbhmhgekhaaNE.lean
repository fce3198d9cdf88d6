import Derived.Test.YtacjhbhmhgekhaaNR
import Derived.Test.YtacjhbhmhgekhaaNC
namespace Go.Proofs.Ytacjhbhmhgekhaa
open Go.RowKit
set_option linter.unusedVariables false
set_option maxRecDepth 100000

attribute [local go_sem ↓] Go.wp_at_zero Go.wp_at_succ
/-! The document's net. -/
theorem take_to {ops : Array Oper} {Q : Exit → Act → World → Prop} {md : Region.Mode} {S : World → Prop} {oi : Oper} {fuel : Nat} {listed : Array Bool} {a : Act} {w : World} (i d : Nat) (v : Value) (hi : ops[i]? = some oi) (hd : oi.dst = some d)
    (hs : Region.noSelect ops = true) (hf : Region.free md ops listed i = true) (hr : (Region.ready md ops listed).contains i = true)
    (hQ : ∀ c a w, Q (.panic c) (a.put oi.dst v) w → Q (.panic c) a w) (hy : YieldsIf Try.prog ops S oi v a) (hS : S w)
    (h : wpAnyH Try.prog md ops Q S fuel (listed.setIfInBounds i true) ⟨a.tmps.setIfInBounds d v, a.defers⟩ w) : wpAnyH Try.prog md ops Q S (fuel + 1) listed a w :=
  wpAnyH_take hi hs hf hr hQ hy hS (by rw [hd]; exact h)
theorem step_appF {w : World} {ops : Array Oper} {o : Oper} {act : Act} {K : Act → World → Prop} {Q : Exit → Act → World → Prop} {E : Prop} (hgd : o.guard = none) (s x : Operand)
    (ho : o.op = .call { callee := .builtin .append, args := #[s, x], argTypes := #[41, 41] })
    (base : Nat) (v : Value) (ds : List FD) (hs : act.eval s = v) (hown : w.ownsRow base 49 3 v ds.length (fds ds)) (g : Nat) (d : FD) (hx : act.eval x = .slice (some ⟨g, 0, none⟩) 1 1)
    (hg : ∀ j u, (fdc d)[j]? = some u → w.cell? ⟨g, j, none⟩ = some u) (hlen : ds.length ≤ 1000000000) (hbase : base ≤ w.heap.size) (n' : Nat) (hn' : Hid (ds.length + 1 = n'))
    (h : ∀ g' cap w', Hid (w'.ownsRow base 49 3 (.slice (some ⟨g', 0, none⟩) n' cap) (ds ++ [d]).length (fds (ds ++ [d]))) → Hid (w.grownBy w' v.ownBlock) → Hid (v.ownBlock = some g' ∨ g' = w.heap.size) → K (act.put o.dst (.slice (some ⟨g', 0, none⟩) n' cap)) w') : if Region.wanted o (yielded ops act.tmps) = true then Oper.wp Try.prog o act w K Q else E := by
  obtain ⟨i, hi, hz0, hz1, hz2⟩ := info_parts infoF
  refine step_append_lies _ hgd s x 41 ho base 49 i _ 3 40 Try.underlying41 hi hz0 hz1 hz2 rfl (by decide) v ds.length (fds ds) hs hown ⟨g, 0, none⟩ 1 1 (fdc d) hx rfl ?c1 ?c2 (by decide) (by unfold maxLen; omega) (by omega) hbase _ rfl ?_
  case c1 =>
    intro j u hj
    rw [Addr.add_lit, Nat.zero_add]
    exact hg j u hj
  case c2 =>
    intro u hu
    exact fds_one [d] u (by simpa [fds] using hu)
  intro g' cap w' h1 h2 h3 _
  rw [hn'.out] at h1 ⊢
  refine h g' cap w' ?_ h2 h3
  show w'.ownsRow _ _ _ _ _ _
  rw [List.length_append, List.length_singleton, fds_app, hn'.out]
  simpa [fds] using h1
def RNet (w : World) (F : Nat → Prop) (r : Nat) (L : List Fl) (g : Int) : Prop := ∃ v ds, ds.map (·.f) = L ∧ Rn w F r v ds g
section
variable {w w' : World} {F Y : Nat → Prop} {r : Nat} {L : List Fl} {g : Int}
theorem RNet.fx (h : RNet w F r L g) (hf : Fx Y w w') (hd : ∀ k, F k → ¬ Y k) : RNet w' F r L g := by
  obtain ⟨v, ds, e, h⟩ := h
  exact ⟨v, ds, e, h.fx hf hd⟩
theorem RNet.on (h : RNet w F r L g) (hb : Below w.heap.size w w') : RNet w' F r L g := by
  obtain ⟨v, ds, e, h⟩ := h
  exact ⟨v, ds, e, h.on hb⟩
theorem RNet.wide (h : RNet w F r L g) (hF : ∀ k, F k → Y k) (hl : ∀ k, Y k → k < w.heap.size) : RNet w Y r L g := by
  obtain ⟨v, ds, e, h⟩ := h
  exact ⟨v, ds, e, h.wide hF hl⟩
theorem RNet.gr (h : RNet w' F r L g) (hF : ∀ k, F k → k < w.heap.size) (hs : w.heap.size ≤ w'.heap.size) : RNet w' (Gr F w w') r L g :=
  h.wide (fun k e => ⟨.inl e, Nat.lt_of_lt_of_le (hF k e) hs⟩) fun k e => e.2
theorem RNet.ok (h : RNet w F r L g) : NOk L g := by
  obtain ⟨v, ds, rfl, h⟩ := h
  exact h.ok
theorem RNet.lt (h : RNet w F r L g) : ∀ k, F k → k < w.heap.size := by
  obtain ⟨v, ds, e, h⟩ := h
  exact h.lt
end
theorem Rn.next {w w' : World} {F : Nat → Prop} {r : Nat} {v v' : Value} {ds ds' : List FD} {g g' : Int} (h : Rn w F r v ds g) (hk : ∀ k, k < w.heap.size → k ≠ r → v.ownBlock ≠ some k → w'.heap[k]? = w.heap[k]?) (hs : w.heap.size ≤ w'.heap.size) (hb : Rb w' r v' g') (hr : w'.ownsRow 0 49 3 v' ds'.length (fds ds'))
    (hv : ∀ k, v'.ownBlock = some k → v.ownBlock = some k ∨ w.heap.size ≤ k) (hx : ∀ x ∈ ds', x ∈ ds ∨ Fv w' (fun k => w.heap.size ≤ k ∧ v'.ownBlock ≠ some k) x) (hok : NOk (ds'.map (·.f)) g') : Rn w' (Gr F w w') r v' ds' g' := by
  refine ⟨hb, hr, fun x hxm => ?_, ⟨.inl h.fr, hb.lt⟩, fun k e => ⟨?_, (hr.lt k e).2⟩, fun k e => e.2, hok⟩
  · rcases hx x hxm with hx | hx
    · have h1 := h.val x hx
      have h2 : Fv w (fun k => (F k ∧ k ≠ r ∧ v.ownBlock ≠ some k) ∧ k < w.heap.size) x := ⟨h1.bs, h1.nc, h1.cm, h1.nil, fun ad e hn => ⟨h1.lies ad e hn, (h1.bs.at_block e hn).1⟩⟩
      have h3 : Fv w' (fun k => (F k ∧ k ≠ r ∧ v.ownBlock ≠ some k) ∧ k < w.heap.size) x := Vs.step h2 fun k hk' e _ => hk k hk' e.1.2.1 e.1.2.2
      refine Vs.wide h3 fun k hk' e => ⟨⟨.inl e.1.1, hk'⟩, e.1.2.1, fun q => ?_⟩
      rcases hv k q with q | q
      · exact e.1.2.2 q
      · omega
    · refine Vs.wide hx fun k hk' e => ⟨⟨.inr e.1, hk'⟩, fun q => ?_, e.2⟩
      have := h.blk.lt
      have := e.1
      omega
  · rcases hv k e with q | q
    · exact .inl (h.fo k q)
    · exact .inr q
set_option maxHeartbeats 1000000 in
theorem rnew_ (w : World) : Calls Try.prog 28 #[] w fun e w' => ∃ r, e = .returned (.pointer (some ⟨r, 0, none⟩)) ∧ RNet w' (fun k => w.heap.size ≤ k ∧ k < w'.heap.size) r [] 0 ∧ w.heap.size ≤ r ∧ Below w.heap.size w w' := by
  go_enter Try.func28, Try.ntmps28
  go_wp2_with fail
  go_ret
  have hb : Below w.heap.size w (w.alloc (.cells #[.slice none 0 0, .int .i64 0] 70)) := (Below.refl w.heap.size w).alloc (Nat.le_refl _) _
  exact ⟨w.heap.size, rfl, ⟨.slice none 0 0, [], rfl, ⟨heap_alloc_new w _, World.ownsRow_nil _ _ _ _, fun x hx => by simp at hx, ⟨Nat.le_refl _, by simp⟩, fun k e => by simp [Value.ownBlock] at e, fun k e => e.2, nok_nil⟩⟩, Nat.le_refl _, hb⟩
section
variable {w : World} {F : Nat → Prop} {r : Nat} {L : List Fl} {g : Int}
set_option maxHeartbeats 1000000 in
theorem rsend_no (to : Int) (a : Option Addr) (n c : Nat) (h : RNet w F r L g) (hl : ¬ L.length < 1024) :
    Calls Try.prog 39 #[.pointer (some ⟨r, 0, none⟩), .int .i64 to, .slice a n c] w fun e w' => e = .returned (.int .i64 0) ∧ w' = w := by
  obtain ⟨v, ds, rfl, h⟩ := h
  obtain ⟨av, cv, hv, _⟩ := h.form
  have c0 := h.blk.c0
  subst hv
  have hs : (1024 : Int) ≤ (ds.length : Int) := by rw [List.length_map] at hl; omega
  clear h hl
  go_enter Try.func39, Try.ntmps39
  go_wp2_with fail
  go_ret
  exact ⟨rfl, rfl⟩
set_option maxHeartbeats 4000000 in
theorem rsend_yes (to : Int) (a : Option Addr) (n c : Nat) (d : List Int) (h : RNet w F r L g) (hl : L.length < 1024) (hd : Bs w a n d) (hr : ∀ ad, a = some ad → 0 < n → ad.block ≠ r) (hn : n ≤ 65536) (hto : i64r to) (hg : g ≤ 1000000000) :
    Calls Try.prog 39 #[.pointer (some ⟨r, 0, none⟩), .int .i64 to, .slice a n c] w fun e w' => e = .returned (.int .i64 (g + 1)) ∧ RNet w' (Gr F w w') r (L ++ [⟨g + 1, to, d⟩]) (g + 1) ∧ Fx F w w' := by
  obtain ⟨v, ds, rfl, h⟩ := h
  have HH := hid h
  obtain ⟨av, cv, hv, hf1, hf2, hf3, hf4⟩ := h.form
  have c0 := h.blk.c0
  have c1 := h.blk.c1
  have fz := h.blk.fz 1
  have g0 := h.ok.g0
  subst hv
  obtain ⟨m, HM⟩ : ∃ m, Hid (ds.length = m) := ⟨_, rfl⟩
  rw [HM.out] at c0 HH
  have hs : ¬ (1024 : Int) ≤ (m : Int) := by have := HM.out; rw [List.length_map] at hl; omega
  have HL := hid hl
  have HTO := hid hto
  have HOK : Hid (Okb d) := hd.2.1
  have HR1 := hid (HH.out.blk.s1 (g + 1))
  have HFX1 : Hid (Fx (fun k => k = r) w (w.setCell ⟨r, 1, none⟩ (.int .i64 (g + 1)))) := (Fx.refl (fun k => k = r) w).set (g := r) rfl _
  have HBS : Hid (Bs (w.setCell ⟨r, 1, none⟩ (.int .i64 (g + 1))) a n d) := hd.same_block fun ad e hn => HFX1.out.block _ (hd.at_block e hn).1 (hr ad e hn)
  clear h hl hd hr hf1 hf2 hf3 hf4
  go_enter Try.func39, Try.ntmps39
  go_wp2_with fail
  obtain ⟨w1, HW1⟩ : ∃ z, Hid (w.setCell ⟨r, 1, none⟩ (.int .i64 (g + 1)) = z) := ⟨_, rfl⟩
  have HS1 : Hid ((w.setCell ⟨r, 1, none⟩ (.int .i64 (g + 1))).heap.size = w.heap.size) := by show _ = _; simp [World.setCell]
  rw [HW1.out] at HR1 HFX1 HBS HS1 ⊢
  refine (refBytes a n c d w1 HBS.out (by omega)).mono ?_
  rintro e w2 ⟨v2, rfl, o2, g2⟩
  obtain ⟨a2, c2, e2, _⟩ := own_addr o2
  subst e2
  have HO2 := hid o2
  have HG2 := hid g2
  have HR2 : Hid (Rb w2 r (.slice av m cv) (g + 1)) := (g2.block r HR1.out.lt).trans HR1.out
  have d0 := HR2.out.c0
  have d1 := HR2.out.c1
  have f0 := HR2.out.fz 0
  have hlt2 := HR2.out.lt
  have HOW : Hid (w2.ownsRow 0 49 3 (.slice av m cv) ds.length (fds ds)) := row_same HH.out.row fun k e => by
    have hkl := (HH.out.row.lt k e).2
    exact (g2.block k (by rw [HS1.out]; exact hkl)).trans (HFX1.out.block k hkl (fun q => HH.out.ne (by rw [← q]; exact e)))
  obtain ⟨n', HN'⟩ : ∃ z, Hid (ds.length + 1 = z) := ⟨_, rfl⟩
  have HDN : Hid (d.length = n) := own_len o2
  have HBA : Hid (Below w2.heap.size w2 (w2.alloc (.cells #[.int .i64 (g + 1), .int .i64 to, .slice a2 n c2] 49)).drew) := ((Below.refl _ _).alloc (Nat.le_refl _) _).trans ⟨rfl, rfl, rfl, Nat.le_refl _, fun _ _ => rfl⟩
  have HKK : Hid (∀ w6, (w2.alloc (.cells #[.int .i64 (g + 1), .int .i64 to, .slice a2 n c2] 49)).drew.grownBy w6 (Value.slice av m cv).ownBlock → w6.heap[r]? = w2.heap[r]?) := fun w6 hg6 => (hg6.block r (Nat.lt_of_lt_of_le hlt2 HBA.out.size) (fun e => HH.out.ne e.symm)).trans (HBA.out.block r hlt2)
  have HOW2 : Hid ((w2.alloc (.cells #[.int .i64 (g + 1), .int .i64 to, .slice a2 n c2] 49)).drew.ownsRow 0 49 3 (.slice av m cv) ds.length (fds ds)) := own_bel HOW.out HBA.out
  have HNW : Hid (∀ j u, (fdc ⟨⟨g + 1, to, d⟩, a2, c2⟩)[j]? = some u → (w2.alloc (.cells #[.int .i64 (g + 1), .int .i64 to, .slice a2 n c2] 49)).drew.cell? ⟨w2.heap.size, j, none⟩ = some u) := fun j u hj => by
    simp only [fdc, fv, HDN.out] at hj
    exact (cell_of_row (w2.alloc _) w2.heap.size j _ 49 (0, 0) (heap_alloc_new w2 _)).trans (by simpa using hj)
  have HEND : ∀ w6 g6 cap6, Hid (w6.ownsRow 0 49 3 (.slice (some ⟨g6, 0, none⟩) n' cap6) (ds ++ [(⟨⟨g + 1, to, d⟩, a2, c2⟩ : FD)]).length (fds (ds ++ [⟨⟨g + 1, to, d⟩, a2, c2⟩]))) → Hid ((w2.alloc (.cells #[.int .i64 (g + 1), .int .i64 to, .slice a2 n c2] 49)).drew.grownBy w6 (Value.slice av m cv).ownBlock) → Hid ((Value.slice av m cv).ownBlock = some g6 ∨ g6 = (w2.alloc (.cells #[.int .i64 (g + 1), .int .i64 to, .slice a2 n c2] 49)).drew.heap.size) → Hid (Rb w6 r (.slice av m cv) (g + 1)) →
      Hid (RNet (w6.setCell ⟨r, 0, none⟩ (.slice (some ⟨g6, 0, none⟩) n' cap6)) (Gr F w (w6.setCell ⟨r, 0, none⟩ (.slice (some ⟨g6, 0, none⟩) n' cap6))) r (ds.map (·.f) ++ [⟨g + 1, to, d⟩]) (g + 1) ∧ Fx F w (w6.setCell ⟨r, 0, none⟩ (.slice (some ⟨g6, 0, none⟩) n' cap6))) := by
    intro w6 g6 cap6 HO6 HG6 HL6 HB6
    have hz1 := HS1.out
    have hz2 := HG2.out.size
    have hz3 := HBA.out.size
    have hz4 := HG6.out.size
    have hw3 : w2.heap.size < (w2.alloc (.cells #[.int .i64 (g + 1), .int .i64 to, .slice a2 n c2] 49)).drew.heap.size := by show _ < (w2.alloc _).heap.size; simp
    have hg6 : g6 ≠ r := fun e => by
      rcases HL6.out with q | q
      · exact HH.out.ne (by rw [← e]; exact q)
      · omega
    have hblk : ∀ k, k < w2.heap.size → k ≠ r → (Value.slice av m cv).ownBlock ≠ some k → (w6.setCell ⟨r, 0, none⟩ (.slice (some ⟨g6, 0, none⟩) n' cap6)).heap[k]? = w2.heap[k]? := fun k hk h1 h2 =>
      (Below.heap_setCell _ _ _ _ h1).trans ((HG6.out.block k (by omega) (fun e => h2 e.symm)).trans (HBA.out.block k hk))
    have hblk0 : ∀ k, k < w.heap.size → k ≠ r → (Value.slice av m cv).ownBlock ≠ some k → (w6.setCell ⟨r, 0, none⟩ (.slice (some ⟨g6, 0, none⟩) n' cap6)).heap[k]? = w.heap[k]? := fun k hk h1 h2 =>
      (hblk k (by omega) h1 h2).trans ((HG2.out.block k (by omega)).trans (HFX1.out.block k hk h1))
    have hsz : w.heap.size ≤ (w6.setCell ⟨r, 0, none⟩ (.slice (some ⟨g6, 0, none⟩) n' cap6)).heap.size := by simp [World.setCell]; omega
    have hfx : Fx F w (w6.setCell ⟨r, 0, none⟩ (.slice (some ⟨g6, 0, none⟩) n' cap6)) := ⟨HG6.out.os.trans (HBA.out.os.trans (HG2.out.os.trans HFX1.out.os)), HG6.out.tape.trans (HBA.out.tape.trans (HG2.out.tape.trans HFX1.out.tape)), HG6.out.output.trans (HBA.out.output.trans (HG2.out.output.trans HFX1.out.output)), hsz, fun k hk hF => hblk0 k hk (fun e => hF (by rw [e]; exact HH.out.fr)) (fun e => hF (HH.out.fo k e))⟩
    have hNL : (ds ++ [(⟨⟨g + 1, to, d⟩, a2, c2⟩ : FD)]).length = n' := by rw [← HN'.out]; simp
    have hrow : (w6.setCell ⟨r, 0, none⟩ (.slice (some ⟨g6, 0, none⟩) n' cap6)).ownsRow 0 49 3 (.slice (some ⟨g6, 0, none⟩) n' cap6) (ds ++ [(⟨⟨g + 1, to, d⟩, a2, c2⟩ : FD)]).length (fds (ds ++ [⟨⟨g + 1, to, d⟩, a2, c2⟩])) :=
      row_same HO6.out fun k e => Below.heap_setCell _ _ _ _ (fun q => hg6 (by have : some g6 = some k := e; rw [Option.some.inj this, q]))
    refine ⟨⟨_, ds ++ [⟨⟨g + 1, to, d⟩, a2, c2⟩], by simp, HH.out.next hblk0 hsz (HB6.out.s0 _) hrow (fun k e => ?_) (fun x hx => ?_) ?_⟩, hfx⟩
    · have e : some g6 = some k := e
      rcases HL6.out with q | q
      · left; rw [q]; exact e
      · right; have := Option.some.inj e; omega
    · rcases List.mem_append.1 hx with hx | hx
      · exact .inl hx
      · rw [List.mem_singleton] at hx
        subst hx
        right
        obtain ⟨a5, c5, e5, hv5⟩ := Vs.ofOwn HO2.out HOK.out
        obtain ⟨rfl, rfl⟩ : a2 = a5 ∧ c2 = c5 := by simpa using e5
        show Vs _ _ a2 d.length c2 d
        rw [HDN.out]
        have hv6 : Vs w2 (fun k => w1.heap.size ≤ k ∧ k < w2.heap.size) a2 n c2 d := ⟨hv5.bs, hv5.nc, hv5.cm, hv5.nil, fun ad e hn => ⟨hv5.lies ad e hn, (hv5.bs.at_block e hn).1⟩⟩
        have hr1 := HH.out.blk.lt
        have hown : ∀ k, w1.heap.size ≤ k → (Value.slice av m cv).ownBlock ≠ some k := fun k hk e => by have := (HH.out.row.lt k e).2; omega
        have hv7 := hv6.step (w' := w6.setCell ⟨r, 0, none⟩ (.slice (some ⟨g6, 0, none⟩) n' cap6)) fun k hk hV _ => hblk k hk (by omega) (hown k hV.1)
        refine hv7.wide fun k _ hV => ⟨by omega, fun e => ?_⟩
        have e : some g6 = some k := e
        have e := Option.some.inj e
        rcases HL6.out with q | q
        · exact hown k hV.1 (by rw [q, e])
        · omega
    · rw [List.map_append]
      exact HH.out.ok.send HL.out HOK.out (by rw [HDN.out]; exact hn) HTO.out
  clear c0 c1 fz o2 g2 HBS
  have q0 : w2.drew.cell? ⟨r, 0, none⟩ = some (.slice av m cv) := d0
  have q1 : w2.drew.cell? ⟨r, 1, none⟩ = some (.int .i64 (g + 1)) := d1
  have p0 : (w2.alloc (.cells #[.int .i64 (g + 1), .int .i64 to, .slice a2 n c2] 49)).drew.cell? ⟨r, 0, none⟩ = some (.slice av m cv) := (HBA.out.cell (p := ⟨r, 0, none⟩) hlt2).trans d0
  have p1 : (w2.alloc (.cells #[.int .i64 (g + 1), .int .i64 to, .slice a2 n c2] 49)).drew.cell? ⟨r, 1, none⟩ = some (.int .i64 (g + 1)) := (HBA.out.cell (p := ⟨r, 1, none⟩) hlt2).trans d1
  go_wp2_with fail
  refine wp_region_held_drew (S := fun wx => wx.cell? ⟨r, 1, none⟩ = some (.int .i64 (g + 1))) (by kernel_rfl) q1 (fun hHeld => ?_)
  refine take_to 0 23 ?v1 rfl rfl (by kernel_rfl) (by kernel_rfl) (by kernel_rfl) (fun _ _ _ h => h) (Or.inl ⟨by kernel_rfl, fun w' h => ?hy1⟩) hHeld ?rest1
  case hy1 => (go_simp; try with_reducible rfl)
  try simp only [List.setIfInBounds_toArray, List.set_cons_zero, List.set_cons_succ]
  refine take_to 1 24 ?v2 rfl rfl (by kernel_rfl) (by kernel_rfl) (by kernel_rfl) (fun _ _ _ h => h) (Or.inl ⟨by kernel_rfl, fun w' h => ?hy2⟩) hHeld ?rest2
  case hy2 => (go_simp; try with_reducible rfl)
  try simp only [List.setIfInBounds_toArray, List.set_cons_zero, List.set_cons_succ]
  refine take_to 2 25 ?v3 rfl rfl (by kernel_rfl) (by kernel_rfl) (by kernel_rfl) (fun _ _ _ h => h) (Or.inl ⟨by kernel_rfl, fun w' h => ?hy3⟩) hHeld ?rest3
  case hy3 => (go_simp; try with_reducible rfl)
  try simp only [List.setIfInBounds_toArray, List.set_cons_zero, List.set_cons_succ]
  refine take_to 3 26 ?v4 rfl rfl (by kernel_rfl) (by kernel_rfl) (by kernel_rfl) (fun _ _ _ h => h) (Or.inl ⟨by kernel_rfl, fun w' h => ?hy4⟩) hHeld ?rest4
  case hy4 => (go_simp; try with_reducible rfl)
  try simp only [List.setIfInBounds_toArray, List.set_cons_zero, List.set_cons_succ]
  refine take_to 5 28 ?v5 rfl rfl (by kernel_rfl) (by kernel_rfl) (by kernel_rfl) (fun _ _ _ h => h) (Or.inl ⟨by kernel_rfl, fun w' h => ?hy5⟩) hHeld ?rest5
  case hy5 => (go_simp; try with_reducible rfl)
  try simp only [List.setIfInBounds_toArray, List.set_cons_zero, List.set_cons_succ]
  refine take_to 6 29 ?v6 rfl rfl (by kernel_rfl) (by kernel_rfl) (by kernel_rfl) (fun _ _ _ h => h) (Or.inl ⟨by kernel_rfl, fun w' h => ?hy6⟩) hHeld ?rest6
  case hy6 => (go_simp; try with_reducible rfl)
  try simp only [List.setIfInBounds_toArray, List.set_cons_zero, List.set_cons_succ]
  refine take_to 7 30 ?v7 rfl rfl (by kernel_rfl) (by kernel_rfl) (by kernel_rfl) (fun _ _ _ h => h) (Or.inl ⟨by kernel_rfl, fun w' h => ?hy7⟩) hHeld ?rest7
  case hy7 => (go_simp; try with_reducible rfl)
  try simp only [List.setIfInBounds_toArray, List.set_cons_zero, List.set_cons_succ]
  refine take_to 8 31 ?v8 rfl rfl (by kernel_rfl) (by kernel_rfl) (by kernel_rfl) (fun _ _ _ h => h) (Or.inl ⟨by kernel_rfl, fun w' h => ?hy8⟩) hHeld ?rest8
  case hy8 => (go_simp; try with_reducible rfl)
  try simp only [List.setIfInBounds_toArray, List.set_cons_zero, List.set_cons_succ]
  refine take_to 9 32 ?v9 rfl rfl (by kernel_rfl) (by kernel_rfl) (by kernel_rfl) (fun _ _ _ h => h) (Or.inl ⟨by kernel_rfl, fun w' h => ?hy9⟩) hHeld ?rest9
  case hy9 => (go_simp; try with_reducible rfl)
  try simp only [List.setIfInBounds_toArray, List.set_cons_zero, List.set_cons_succ]
  refine take_to 10 33 ?v10 rfl rfl (by kernel_rfl) (by kernel_rfl) (by kernel_rfl) (fun _ _ _ h => h) (Or.inl ⟨by kernel_rfl, fun w' h => ?hy10⟩) hHeld ?rest10
  case hy10 => (go_simp; try with_reducible rfl)
  try simp only [List.setIfInBounds_toArray, List.set_cons_zero, List.set_cons_succ]
  refine take_to 11 34 ?v11 rfl rfl (by kernel_rfl) (by kernel_rfl) (by kernel_rfl) (fun _ _ _ h => h) (Or.inl ⟨by kernel_rfl, fun w' h => ?hy11⟩) hHeld ?rest11
  case hy11 => (go_simp; try with_reducible rfl)
  try simp only [List.setIfInBounds_toArray, List.set_cons_zero, List.set_cons_succ]
  refine wpAnyH_ready (rs := [4, 12]) (by kernel_rfl) (by simp) ?_
  refine AllReadyH.cons rfl (fun K' hK' => ?_) (AllReadyH.cons rfl (fun K' hK' => ?_) AllReadyH.nil)
  · rw [if_pos (by kernel_rfl)]
    go_wp2_with fail
    clear hHeld
    refine hK'.out _ _ q1 (fun hHeld => ?_)
    clear hK' K'
    try simp only [Act.put, List.setIfInBounds_toArray, List.set_cons_zero, List.set_cons_succ]
    refine wpAnyH_ready (rs := [12]) (by kernel_rfl) (by simp) ?_
    refine AllReadyH.cons rfl (fun K' hK' => ?_) AllReadyH.nil
    rw [if_pos (by kernel_rfl)]
    go_wp2_with fail
    clear hHeld
    refine hK'.out _ _ p1 (fun hHeld => ?_)
    clear hK' K'
    try simp only [Act.put, List.setIfInBounds_toArray, List.set_cons_zero, List.set_cons_succ]
    refine wpAnyH_ready (rs := [13]) (by kernel_rfl) (by simp) ?_
    refine AllReadyH.cons rfl (fun K' hK' => ?_) AllReadyH.nil
    refine step_appF (by rfl) (.tmp 27) (.tmp 35) (by rfl) 0 (.slice av m cv) ds (by rfl) (by exact HOW2.out) w2.heap.size ⟨⟨g + 1, to, d⟩, a2, c2⟩ (by rfl) (by exact HNW.out) (by have := HM.out; omega) (Nat.zero_le _) n' HN' ?_
    intro g6 cap6 w6 HO6 HG6 HL6
    have HB6 : Hid (Rb w6 r (.slice av m cv) (g + 1)) := (HKK.out w6 HG6.out).trans HR2.out
    have i0 := HB6.out.c0
    have i1 := HB6.out.c1
    have i2 := HB6.out.fz 0
    have HB7 := hid (HB6.out.s0 (.slice (some ⟨g6, 0, none⟩) n' cap6))
    clear hHeld
    refine hK'.out _ _ i1 (fun hHeld => ?_)
    clear hK' K'
    try simp only [Act.put, List.setIfInBounds_toArray]
    refine take_to 14 37 ?v12 rfl rfl (by kernel_rfl) (by kernel_rfl) (by kernel_rfl) (fun _ _ _ h => h) (Or.inl ⟨by kernel_rfl, fun w' h => ?hy12⟩) hHeld ?rest12
    case hy12 => (go_simp; try with_reducible rfl)
    try simp only [List.setIfInBounds_toArray, List.set_cons_zero, List.set_cons_succ]
    refine take_to 15 38 ?v13 rfl rfl (by kernel_rfl) (by kernel_rfl) (by kernel_rfl) (fun _ _ _ h => h) (Or.inl ⟨by kernel_rfl, fun w' h => ?hy13⟩) hHeld ?rest13
    case hy13 => (go_simp; try with_reducible rfl)
    refine wpAnyH_ready (rs := [16]) (by kernel_rfl) (by simp) ?_
    refine AllReadyH.cons rfl (fun K' hK' => ?_) AllReadyH.nil
    rw [if_pos (by kernel_rfl)]
    go_wp2_with fail
    clear hHeld
    refine hK'.out _ _ HB7.out.c1 (fun hHeld => ?_)
    clear hK' K'
    try simp only [Act.put, List.setIfInBounds_toArray, List.set_cons_zero, List.set_cons_succ]
    refine wpAnyH_done (by kernel_rfl) ?_ _
    have HFIN := HEND w6 g6 cap6 HO6 HG6 HL6 HB6
    have j1 := HB7.out.c1
    clear i0 i1 i2 hHeld HEND HO6 HG6 HL6 HB6 HB7
    go_wp2_with fail
    go_ret
    exact ⟨rfl, HFIN.out⟩
  · rw [if_pos (by kernel_rfl)]
    go_wp2_with fail
    clear hHeld
    refine hK'.out _ _ p1 (fun hHeld => ?_)
    clear hK' K'
    try simp only [Act.put, List.setIfInBounds_toArray, List.set_cons_zero, List.set_cons_succ]
    refine wpAnyH_ready (rs := [4]) (by kernel_rfl) (by simp) ?_
    refine AllReadyH.cons rfl (fun K' hK' => ?_) AllReadyH.nil
    rw [if_pos (by kernel_rfl)]
    go_wp2_with fail
    clear hHeld
    refine hK'.out _ _ p1 (fun hHeld => ?_)
    clear hK' K'
    try simp only [Act.put, List.setIfInBounds_toArray, List.set_cons_zero, List.set_cons_succ]
    refine wpAnyH_ready (rs := [13]) (by kernel_rfl) (by simp) ?_
    refine AllReadyH.cons rfl (fun K' hK' => ?_) AllReadyH.nil
    refine step_appF (by rfl) (.tmp 27) (.tmp 35) (by rfl) 0 (.slice av m cv) ds (by rfl) (by exact HOW2.out) w2.heap.size ⟨⟨g + 1, to, d⟩, a2, c2⟩ (by rfl) (by exact HNW.out) (by have := HM.out; omega) (Nat.zero_le _) n' HN' ?_
    intro g6 cap6 w6 HO6 HG6 HL6
    have HB6 : Hid (Rb w6 r (.slice av m cv) (g + 1)) := (HKK.out w6 HG6.out).trans HR2.out
    have i0 := HB6.out.c0
    have i1 := HB6.out.c1
    have i2 := HB6.out.fz 0
    have HB7 := hid (HB6.out.s0 (.slice (some ⟨g6, 0, none⟩) n' cap6))
    clear hHeld
    refine hK'.out _ _ i1 (fun hHeld => ?_)
    clear hK' K'
    try simp only [Act.put, List.setIfInBounds_toArray]
    refine take_to 14 37 ?v14 rfl rfl (by kernel_rfl) (by kernel_rfl) (by kernel_rfl) (fun _ _ _ h => h) (Or.inl ⟨by kernel_rfl, fun w' h => ?hy14⟩) hHeld ?rest14
    case hy14 => (go_simp; try with_reducible rfl)
    try simp only [List.setIfInBounds_toArray, List.set_cons_zero, List.set_cons_succ]
    refine take_to 15 38 ?v15 rfl rfl (by kernel_rfl) (by kernel_rfl) (by kernel_rfl) (fun _ _ _ h => h) (Or.inl ⟨by kernel_rfl, fun w' h => ?hy15⟩) hHeld ?rest15
    case hy15 => (go_simp; try with_reducible rfl)
    refine wpAnyH_ready (rs := [16]) (by kernel_rfl) (by simp) ?_
    refine AllReadyH.cons rfl (fun K' hK' => ?_) AllReadyH.nil
    rw [if_pos (by kernel_rfl)]
    go_wp2_with fail
    clear hHeld
    refine hK'.out _ _ HB7.out.c1 (fun hHeld => ?_)
    clear hK' K'
    try simp only [Act.put, List.setIfInBounds_toArray, List.set_cons_zero, List.set_cons_succ]
    refine wpAnyH_done (by kernel_rfl) ?_ _
    have HFIN := HEND w6 g6 cap6 HO6 HG6 HL6 HB6
    have j1 := HB7.out.c1
    clear i0 i1 i2 hHeld HEND HO6 HG6 HL6 HB6 HB7
    go_wp2_with fail
    go_ret
    exact ⟨rfl, HFIN.out⟩
end
end Go.Proofs.Ytacjhbhmhgekhaa
