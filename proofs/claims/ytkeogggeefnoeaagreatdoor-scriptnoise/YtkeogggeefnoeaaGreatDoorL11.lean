import Derived.Test.YtkeogggeefnoeaaGreatDoorLR
namespace Go.Proofs.YtkeogggeefnoeaaGreatDoor
set_option linter.unusedSimpArgs false
set_option maxRecDepth 100000
open Go.RowKit Go.Shelf
set_option linter.unusedVariables false
attribute [local go_sem] Oper.semAt_some

theorem parts1_stops (n : Nat) (hn : 1 ≤ n) (bt bs n₀ c : Nat) (hc : c < 256) (l : List Nat) (hy : ∀ z ∈ l, z < 256) (hl : l.length ≤ 140737488355328) (xs : List Pt) (hx : xs.map (·.1) = cu c l) (w : World) (hbt : bt < n₀) (hbs : bs < n₀) (hn₀ : n₀ ≤ w.heap.size)
    (hct : w.cell? ⟨bt, 0, none⟩ = some (.string (sb l))) (hcs : w.cell? ⟨bs, 0, none⟩ = some (.string ⟨#[UInt8.ofNat c]⟩)) :
    SeqStopsK Fence.wide n Tryz.prog 177 #[.pointer (some ⟨bt, 0, none⟩), .pointer (some ⟨bs, 0, none⟩)] (fun x : Pt => #[Value.string (sb x.1)]) (Below n₀) (fun ys => ys = xs) (fun pre => pre <+: xs) xs.length w := fun lp J Jx W hW hJ hJx hY h0 =>
  parts1_in n hn lp bt bs n₀ c hc l hy hl xs hx J Jx (fun pre W k h => hJ pre W (W.drewN k) none h (grown_drewN W k none) (fun r e => by cases e)) hY W hbt hbs ((hW.cell (p := ⟨bt, 0, none⟩) (by show bt < _; omega)).trans hct) ((hW.cell (p := ⟨bs, 0, none⟩) (by show bs < _; omega)).trans hcs) h0
set_option maxHeartbeats 400000 in
theorem parts_ (S D : ByteArray) (w : World) : Calls Tryz.prog 169 #[.string S, .string D] w fun e w' => e = .returned (.func (.func 177) #[] #[.pointer (some ⟨w.heap.size, 0, none⟩), .pointer (some ⟨w.heap.size + 1, 0, none⟩)]) ∧ w' = (w.alloc (.cells #[.string S] 9)).alloc (.cells #[.string D] 9) := by
  have hmf : ∀ fn first cap w, (Instr.makeFunc fn first cap).run Tryz.prog w = .ok (.func fn first cap) w := fun _ _ _ _ => rfl
  go_enter Tryz.func169, Tryz.ntmps169
  go_wp2_with fail
  go_ret
  exact ⟨rfl, rfl⟩
theorem cell_new1 (W : World) (v : Value) (t : TypeId) : (W.alloc (.cells #[v] t)).cell? ⟨W.heap.size, 0, none⟩ = some v ∧ (W.alloc (.cells #[v] t)).frozen? ⟨W.heap.size, 0, none⟩ = false := by
  have h : (W.alloc (.cells #[v] t)).heap[W.heap.size]? = some (.cells #[v] t (0, 0)) := heap_alloc_new W _
  exact ⟨(cell_of_row _ _ 0 _ t (0, 0) h).trans rfl, by unfold World.frozen?; rw [h]; rfl⟩
theorem cell_al {W : World} {a : Addr} {v : Value} {o : Obj} (h : W.cell? a = some v) : (W.alloc o).cell? a = some v := cell_kept h (World.grownBy_alloc W o none) (fun r e => by cases e)
theorem frozen_al {W : World} {a : Addr} {v : Value} {o : Obj} (h : W.cell? a = some v) (hf : W.frozen? a = false) : (W.alloc o).frozen? a = false := (frozen_kept h (World.grownBy_alloc W o none) (fun r e => by cases e)).trans hf
/-- Numbers of so many signs laid one behind the other, of two words. -/
def fv (p : Int) (vs : List Nat) : Int := vs.foldl (fun (A : Int) (v : Nat) => (A * p + (v : Int)) % 340282366920938463463374607431768211456) 0
theorem fv_snoc (p : Int) (vs : List Nat) (v : Nat) : fv p (vs ++ [v]) = (fv p vs * p + v) % 340282366920938463463374607431768211456 := by simp [fv]
/-- What gather answers. -/
def GaR (q : List Nat → Option Nat) (p : Int) (ls : List (List Nat)) (e : Ending) : Prop :=
  (∃ (H L : Int) (vs : List Nat), InU H ∧ InU L ∧ ls.map q = vs.map some ∧ ad H L = fv p vs ∧ e = .returned (.tuple #[.int .u64 H, .int .u64 L, .bool true])) ∨
  ((∃ x ∈ ls, q x = none) ∧ e = .returned (.tuple #[.int .u64 0, .int .u64 0, .bool false]))
theorem cell_be {W W' : World} {a : Addr} {v : Value} (hb : Below W.heap.size W W') (h : W.cell? a = some v) : W'.cell? a = some v := cell_kept h (grown_of_below hb) (fun r e => by cases e)
theorem frozen_be {W W' : World} {a : Addr} {v : Value} (hb : Below W.heap.size W W') (h : W.cell? a = some v) (hf : W.frozen? a = false) : W'.frozen? a = false := (frozen_kept h (grown_of_below hb) (fun r e => by cases e)).trans hf
theorem keeps_be {W W' : World} (hb : Below W.heap.size W W') : KeepsOthers W W' := KeepsOthers.of_grownBy (grown_of_below hb) (fun r o e => by cases e)
theorem orP8 (x z : Int) (x0 : 0 ≤ x) (x1 : x < 72057594037927936) (z0 : 0 ≤ z) (z1 : z < 256) : bits BinOp.or IntKind.u64 (x * 256) z = x * 256 + z := by
  obtain ⟨a, rfl⟩ := Int.eq_ofNat_of_zero_le x0
  obtain ⟨b, rfl⟩ := Int.eq_ofNat_of_zero_le z0
  have h := bits_or_u64_nat (a * 256) b (by omega) (by omega)
  have e : a * 256 ||| b = a * 256 + b := by
    have := Nat.shiftLeft_add_eq_or_of_lt (a := a) (b := b) (i := 8) (by omega)
    rw [Nat.shiftLeft_eq] at this
    exact this.symm
  rw [e] at h
  rw [show ((a : Int) * 256) = ((a * 256 : Nat) : Int) from by omega, h]
  omega
theorem wrP8 (x : Int) (h : InU x) : IntKind.u64.wrap (x * 256) = x % 72057594037927936 * 256 := by
  unfold InU at h
  rw [IntKind.wrap_u64]
  omega
/-- One number more behind the others. -/
theorem step8 {H L u : Int} (hH : InU H) (hL : InU L) (u0 : 0 ≤ u) (u1 : u < 256) :
    InU (bits BinOp.or IntKind.u64 (IntKind.u64.wrap (H * 256)) (L / 72057594037927936)) ∧ InU (bits BinOp.or IntKind.u64 (IntKind.u64.wrap (L * 256)) u) ∧
    ad (bits BinOp.or IntKind.u64 (IntKind.u64.wrap (H * 256)) (L / 72057594037927936)) (bits BinOp.or IntKind.u64 (IntKind.u64.wrap (L * 256)) u) = (ad H L * 256 + u) % 340282366920938463463374607431768211456 := by
  rw [wrP8 H hH, wrP8 L hL]
  unfold InU at hH hL
  rw [orP8 (H % 72057594037927936) (L / 72057594037927936) (by omega) (by omega) (by omega) (by omega), orP8 (L % 72057594037927936) u (by omega) (by omega) u0 u1]
  unfold InU ad
  omega
theorem orP16 (x z : Int) (x0 : 0 ≤ x) (x1 : x < 281474976710656) (z0 : 0 ≤ z) (z1 : z < 65536) : bits BinOp.or IntKind.u64 (x * 65536) z = x * 65536 + z := by
  obtain ⟨a, rfl⟩ := Int.eq_ofNat_of_zero_le x0
  obtain ⟨b, rfl⟩ := Int.eq_ofNat_of_zero_le z0
  have h := bits_or_u64_nat (a * 65536) b (by omega) (by omega)
  have e : a * 65536 ||| b = a * 65536 + b := by
    have := Nat.shiftLeft_add_eq_or_of_lt (a := a) (b := b) (i := 16) (by omega)
    rw [Nat.shiftLeft_eq] at this
    exact this.symm
  rw [e] at h
  rw [show ((a : Int) * 65536) = ((a * 65536 : Nat) : Int) from by omega, h]
  omega
theorem wrP16 (x : Int) (h : InU x) : IntKind.u64.wrap (x * 65536) = x % 281474976710656 * 65536 := by
  unfold InU at h
  rw [IntKind.wrap_u64]
  omega
/-- One number more behind the others. -/
theorem step16 {H L u : Int} (hH : InU H) (hL : InU L) (u0 : 0 ≤ u) (u1 : u < 65536) :
    InU (bits BinOp.or IntKind.u64 (IntKind.u64.wrap (H * 65536)) (L / 281474976710656)) ∧ InU (bits BinOp.or IntKind.u64 (IntKind.u64.wrap (L * 65536)) u) ∧
    ad (bits BinOp.or IntKind.u64 (IntKind.u64.wrap (H * 65536)) (L / 281474976710656)) (bits BinOp.or IntKind.u64 (IntKind.u64.wrap (L * 65536)) u) = (ad H L * 65536 + u) % 340282366920938463463374607431768211456 := by
  rw [wrP16 H hH, wrP16 L hL]
  unfold InU at hH hL
  rw [orP16 (H % 281474976710656) (L / 281474976710656) (by omega) (by omega) (by omega) (by omega), orP16 (L % 281474976710656) u (by omega) (by omega) u0 u1]
  unfold InU ad
  omega
theorem q10_lt {l : List Nat} {u : Nat} (h : q10 l = some u) : u < 256 := by
  unfold q10 at h
  cases hq : Lib.parseUintB 8 (l.map UInt8.ofNat) with
  | ok v =>
    rw [hq] at h
    have h : some v = some u := h
    obtain rfl := Option.some.inj h
    unfold Lib.parseUintB at hq
    split at hq
    · cases hq
    · have key : ∀ (l : List UInt8) (acc v : Nat), acc ≤ 255 → Lib.parseUintM 255 acc l = .ok v → v ≤ 255 := by
        intro l
        induction l with
        | nil => intro acc v h0 h; simp only [Lib.parseUintM] at h; cases h; exact h0
        | cons c r ih =>
          intro acc v h0 h
          rw [Lib.parseUintM] at h
          split at h
          · split at h
            · cases h
            · split at h
              · cases h
              · exact ih _ _ (by omega) h
          · cases h
      have := key _ 0 v (by omega) hq
      omega
  | «syntax» => rw [hq] at h; cases h
  | range => rw [hq] at h; cases h
theorem q16_lt {l : List Nat} {u : Nat} (h : q16 l = some u) : u < 65536 := by
  unfold q16 at h
  split at h
  · cases h
  · have key : ∀ (l : List Nat) (acc v : Nat), acc ≤ 65535 → ph acc l = some v → v ≤ 65535 := by
      intro l
      induction l with
      | nil => intro acc v h0 h; simp only [ph] at h; cases h; exact h0
      | cons c r ih =>
        intro acc v h0 h
        rw [ph] at h
        cases hc : hv c with
        | none => rw [hc] at h; cases h
        | some d =>
          rw [hc] at h
          simp only at h
          split at h
          · cases h
          · exact ih _ _ (by omega) h
    have := key _ 0 u (by omega) h
    omega
/-- What gather's last statement holds to. -/
def SG (w0 : World) (D : Nat) (H L : Int) (w : World) : Prop :=
  (w.cell? ⟨w0.heap.size + 1 + 1, 0, none⟩ = some (.int .u64 H) ∧ w.frozen? ⟨w0.heap.size + 1 + 1, 0, none⟩ = false) ∧ (w.cell? ⟨w0.heap.size + 1 + 1 + 1, 0, none⟩ = some (.int .u64 L) ∧ w.frozen? ⟨w0.heap.size + 1 + 1 + 1, 0, none⟩ = false) ∧ ((∃ o, w.cell? ⟨w0.heap.size + 1 + 1 + 1 + 1, 0, none⟩ = some (.bool o)) ∧ w.frozen? ⟨w0.heap.size + 1 + 1 + 1 + 1, 0, none⟩ = false) ∧ w.heap[D]? = some (.deferred (some [])) ∧ Below w0.heap.size w0 w
theorem SG.set2 {w0 w : World} {D : Nat} {H L : Int} (h : SG w0 D H L w) : SG w0 D H L (w.setCell ⟨w0.heap.size + 1 + 1, 0, none⟩ (.int .u64 H)) := by
  obtain ⟨⟨a1, a2⟩, ⟨b1, b2⟩, ⟨⟨o, c1⟩, c2⟩, d, e⟩ := h
  exact ⟨⟨World.cell?_setCell_same' w _ _ (by rw [a1]; rfl), by rw [World.frozen?_setCell]; exact a2⟩, ⟨(World.cell?_setCell_far w ⟨w0.heap.size + 1 + 1, 0, none⟩ ⟨w0.heap.size + 1 + 1 + 1, 0, none⟩ _ (by show w0.heap.size + 1 + 1 ≠ w0.heap.size + 1 + 1 + 1; omega)).trans b1, by rw [World.frozen?_setCell]; exact b2⟩, ⟨⟨o, (World.cell?_setCell_far w ⟨w0.heap.size + 1 + 1, 0, none⟩ ⟨w0.heap.size + 1 + 1 + 1 + 1, 0, none⟩ _ (by show w0.heap.size + 1 + 1 ≠ w0.heap.size + 1 + 1 + 1 + 1; omega)).trans c1⟩, by rw [World.frozen?_setCell]; exact c2⟩, (KeepsOthers.setCell w _ _).same D _ d rfl, e.setCell (p := ⟨w0.heap.size + 1 + 1, 0, none⟩) (by show w0.heap.size ≤ w0.heap.size + 1 + 1; omega) _⟩
theorem SG.set3 {w0 w : World} {D : Nat} {H L : Int} (h : SG w0 D H L w) : SG w0 D H L (w.setCell ⟨w0.heap.size + 1 + 1 + 1, 0, none⟩ (.int .u64 L)) := by
  obtain ⟨⟨a1, a2⟩, ⟨b1, b2⟩, ⟨⟨o, c1⟩, c2⟩, d, e⟩ := h
  exact ⟨⟨(World.cell?_setCell_far w ⟨w0.heap.size + 1 + 1 + 1, 0, none⟩ ⟨w0.heap.size + 1 + 1, 0, none⟩ _ (by show w0.heap.size + 1 + 1 + 1 ≠ w0.heap.size + 1 + 1; omega)).trans a1, by rw [World.frozen?_setCell]; exact a2⟩, ⟨World.cell?_setCell_same' w _ _ (by rw [b1]; rfl), by rw [World.frozen?_setCell]; exact b2⟩, ⟨⟨o, (World.cell?_setCell_far w ⟨w0.heap.size + 1 + 1 + 1, 0, none⟩ ⟨w0.heap.size + 1 + 1 + 1 + 1, 0, none⟩ _ (by show w0.heap.size + 1 + 1 + 1 ≠ w0.heap.size + 1 + 1 + 1 + 1; omega)).trans c1⟩, by rw [World.frozen?_setCell]; exact c2⟩, (KeepsOthers.setCell w _ _).same D _ d rfl, e.setCell (p := ⟨w0.heap.size + 1 + 1 + 1, 0, none⟩) (by show w0.heap.size ≤ w0.heap.size + 1 + 1 + 1; omega) _⟩
theorem SG.set4 {w0 w : World} {D : Nat} {H L : Int} (h : SG w0 D H L w) : SG w0 D H L (w.setCell ⟨w0.heap.size + 1 + 1 + 1 + 1, 0, none⟩ (.bool true)) ∧ (w.setCell ⟨w0.heap.size + 1 + 1 + 1 + 1, 0, none⟩ (.bool true)).cell? ⟨w0.heap.size + 1 + 1 + 1 + 1, 0, none⟩ = some (.bool true) := by
  obtain ⟨⟨a1, a2⟩, ⟨b1, b2⟩, ⟨⟨o, c1⟩, c2⟩, d, e⟩ := h
  have x := World.cell?_setCell_same' w ⟨w0.heap.size + 1 + 1 + 1 + 1, 0, none⟩ (.bool true) (by rw [c1]; rfl)
  exact ⟨⟨⟨(World.cell?_setCell_far w ⟨w0.heap.size + 1 + 1 + 1 + 1, 0, none⟩ ⟨w0.heap.size + 1 + 1, 0, none⟩ _ (by show w0.heap.size + 1 + 1 + 1 + 1 ≠ w0.heap.size + 1 + 1; omega)).trans a1, by rw [World.frozen?_setCell]; exact a2⟩, ⟨(World.cell?_setCell_far w ⟨w0.heap.size + 1 + 1 + 1 + 1, 0, none⟩ ⟨w0.heap.size + 1 + 1 + 1, 0, none⟩ _ (by show w0.heap.size + 1 + 1 + 1 + 1 ≠ w0.heap.size + 1 + 1 + 1; omega)).trans b1, by rw [World.frozen?_setCell]; exact b2⟩, ⟨⟨true, x⟩, by rw [World.frozen?_setCell]; exact c2⟩, (KeepsOthers.setCell w _ _).same D _ d rfl, e.setCell (p := ⟨w0.heap.size + 1 + 1 + 1 + 1, 0, none⟩) (by show w0.heap.size ≤ w0.heap.size + 1 + 1 + 1 + 1; omega) _⟩, x⟩
theorem wpIn_only {F : Fence} {n : Nat} {P : Program} {c : Code} {Q : Exit → Act → World → Prop} {a : Act} {w : World} (h : c.wpIn F n P (fun e a w => e = .normal ∧ Q e a w) a w) : c.wpIn F n P Q a w := wpIn_mono h (fun _ _ _ h => h.2)

set_option maxHeartbeats 4000000 in
theorem gather8_ (bt bs c : Nat) (hc : c < 256) (l : List Nat) (hy : ∀ z ∈ l, z < 256) (hl : l.length ≤ 140737488355328) (xs : List Pt) (hx : xs.map (·.1) = cu c l) (w : World) (hT : Tb w) (hbt : bt < w.heap.size) (hbs : bs < w.heap.size)
    (hct : w.cell? ⟨bt, 0, none⟩ = some (.string (sb l))) (hcs : w.cell? ⟨bs, 0, none⟩ = some (.string ⟨#[UInt8.ofNat c]⟩)) :
    Calls Tryz.prog 168 #[.func (.func 177) #[] #[.pointer (some ⟨bt, 0, none⟩), .pointer (some ⟨bs, 0, none⟩)], .int .i64 10, .int .i64 8] w fun e w' => GaR q10 256 (cu c l) e ∧ Below w.heap.size w w' := by
  have kp : ∀ (x : List Nat) (w : World), (∀ z ∈ x, z < 256) → x.length ≤ 140737488355328 → Tb w → Calls Tryz.prog 85 #[.string (sb x), .int .i64 10, .int .i64 8] w fun e w' => PuP (q10 x) e ∧ Below w.heap.size w w' := fun x w hy hl hT => pu10_ x w hl hT
  have B0 : Below w.heap.size w (((((w.alloc (.cells #[.int .i64 10] 3)).alloc (.cells #[.int .i64 8] 3)).alloc (.cells #[.int .u64 0] 64)).alloc (.cells #[.int .u64 0] 64)).alloc (.cells #[.bool false] 4)) := ((((((Below.refl _ w).alloc (Nat.le_refl _) _).alloc (by simp) _).alloc (by simp; omega) _).alloc (by simp; omega) _).alloc (by simp; omega) _)
  have c0 := cell_new1 w (.int .i64 10) 3
  have c1 := cell_new1 (w.alloc (.cells #[.int .i64 10] 3)) (.int .i64 8) 3
  have c2 := cell_new1 ((w.alloc (.cells #[.int .i64 10] 3)).alloc (.cells #[.int .i64 8] 3)) (.int .u64 0) 64
  have c3 := cell_new1 (((w.alloc (.cells #[.int .i64 10] 3)).alloc (.cells #[.int .i64 8] 3)).alloc (.cells #[.int .u64 0] 64)) (.int .u64 0) 64
  have c4 := cell_new1 ((((w.alloc (.cells #[.int .i64 10] 3)).alloc (.cells #[.int .i64 8] 3)).alloc (.cells #[.int .u64 0] 64)).alloc (.cells #[.int .u64 0] 64)) (.bool false) 4
  simp only [World.size_alloc] at c1 c2 c3 c4
  have hstop := parts1_stops 2 (by omega) bt bs w.heap.size c hc l hy hl xs hx (((((w.alloc (.cells #[.int .i64 10] 3)).alloc (.cells #[.int .i64 8] 3)).alloc (.cells #[.int .u64 0] 64)).alloc (.cells #[.int .u64 0] 64)).alloc (.cells #[.bool false] 4)) hbt hbs (by simp; omega) ((B0.cell (p := ⟨bt, 0, none⟩) hbt).trans hct) ((B0.cell (p := ⟨bs, 0, none⟩) hbs).trans hcs)
  refine (callsIn_wide (n := 3)).1 ?_
  refine callsIn_of_wp_marks Tryz.func168 rfl trivial ?_ rfl
  simp only [Tryz.ntmps168, List.size_toArray, List.length_cons, List.length_nil, Nat.reduceAdd, Nat.reduceSub, Array.replicate_succ, Array.replicate_zero, List.push_toArray, List.append_toArray, List.nil_append, List.cons_append]
  gi_wp2
  refine wpIn_rangeFunc_ownF rfl (by omega) (gf := 177) (lb := #[.pointer (some ⟨bt, 0, none⟩), .pointer (some ⟨bs, 0, none⟩)]) rfl trivial (enters_of Tryz.func177 (by kernel_rfl) rfl)
    hstop belowK_t (belowK_b (by simp; omega)) (Below.refl _ _) (fun _ => rfl)
    (fun pre W => (∃ (H L : Int) (vs : List Nat), InU H ∧ InU L ∧ W.cell? ⟨w.heap.size, 0, none⟩ = some (.int .i64 10) ∧ W.cell? ⟨w.heap.size + 1, 0, none⟩ = some (.int .i64 8) ∧ (W.cell? ⟨w.heap.size + 1 + 1, 0, none⟩ = some (.int .u64 H) ∧ W.frozen? ⟨w.heap.size + 1 + 1, 0, none⟩ = false) ∧ (W.cell? ⟨w.heap.size + 1 + 1 + 1, 0, none⟩ = some (.int .u64 L) ∧ W.frozen? ⟨w.heap.size + 1 + 1 + 1, 0, none⟩ = false) ∧ (W.cell? ⟨w.heap.size + 1 + 1 + 1 + 1, 0, none⟩ = some (.bool false) ∧ W.frozen? ⟨w.heap.size + 1 + 1 + 1 + 1, 0, none⟩ = false) ∧ Hid (pre.map (fun x => q10 x.1) = vs.map some ∧ ad H L = fv 256 vs)) ∧ Below w.heap.size w W)
    (fun c pre W => (c = .ret ∧ (∃ x ∈ pre, q10 x.1 = none) ∧ W.cell? ⟨w.heap.size + 1 + 1, 0, none⟩ = some (.int .u64 0) ∧ W.cell? ⟨w.heap.size + 1 + 1 + 1, 0, none⟩ = some (.int .u64 0) ∧ W.cell? ⟨w.heap.size + 1 + 1 + 1 + 1, 0, none⟩ = some (.bool false)) ∧ Below w.heap.size w W)
    (OwnFrom.and (Own.from (fun s A B row hs hg hr => by
      obtain ⟨H, L, vs, h1, h2, h3, h4, h5, h6, h7, h8⟩ := hs
      exact ⟨H, L, vs, h1, h2, cell_kept h3 hg hr, cell_kept h4 hg hr, ⟨cell_kept h5.1 hg hr, (frozen_kept h5.1 hg hr).trans h5.2⟩, ⟨cell_kept h6.1 hg hr, (frozen_kept h6.1 hg hr).trans h6.2⟩, ⟨cell_kept h7.1 hg hr, (frozen_kept h7.1 hg hr).trans h7.2⟩, h8⟩) _) (ownFrom_below (Nat.le_refl _) (by simp; omega)))
    (fun c => OwnFrom.and (Own.from (fun s A B row hs hg hr => ⟨hs.1, hs.2.1, cell_kept hs.2.2.1 hg hr, cell_kept hs.2.2.2.1 hg hr, cell_kept hs.2.2.2.2 hg hr⟩) _) (ownFrom_below (Nat.le_refl _) (by simp; omega)))
    ⟨⟨0, 0, [], by unfold InU; omega, by unfold InU; omega, cell_al (cell_al (cell_al (cell_al c0.1))), cell_al (cell_al (cell_al c1.1)), ⟨cell_al (cell_al c2.1), frozen_al (cell_al c2.1) (frozen_al c2.1 c2.2)⟩, ⟨cell_al c3.1, frozen_al c3.1 c3.2⟩, c4, ⟨rfl, rfl⟩⟩, B0⟩
    (fun x => { tmps := #[.func (.func 177) #[] #[.pointer (some ⟨bt, 0, none⟩), .pointer (some ⟨bs, 0, none⟩)], .int .i64 10, .int .i64 8, undef, .pointer (some ⟨w.heap.size, 0, none⟩), .pointer (some ⟨w.heap.size + 1, 0, none⟩), .pointer (some ⟨w.heap.size + 1 + 1, 0, none⟩), .pointer (some ⟨w.heap.size + 1 + 1 + 1, 0, none⟩), .pointer (some ⟨w.heap.size + 1 + 1 + 1 + 1, 0, none⟩), .string (sb x.1), undef, undef, .func (.func 177) #[] #[.pointer (some ⟨bt, 0, none⟩), .pointer (some ⟨bs, 0, none⟩)], .string (sb x.1), undef, undef, undef, undef, undef, undef, undef, undef, undef, undef, undef, undef, undef, undef, undef, undef, undef, undef, undef, undef, undef, undef, undef, undef], defers := [] }) ?assign ?body ?done ?stop
  case assign =>
    intro l x W K hK
    gi_wp2
    exact hK
  case body =>
    clear hstop c0 c1 c2 c3 c4 B0 hct hcs
    rintro lp pre x W ⟨⟨H, L, vs, hH, hL, d0, d1, ⟨d2, f2⟩, ⟨d3, f3⟩, ⟨d4, f4⟩, HH⟩, hB⟩ _
    have hTW := hT.kept hB
    have kx := kp x.1 W x.2.1 x.2.2 hTW
    have HX : Hid (sb x.1 = sb x.1) := rfl
    clear kp
    cases hq : q10 x.1 with
    | none =>
      rw [hq] at kx
      have HQ := hid hq
      clear hq
      generalize sb x.1 = X at *
      gi_wp2_with fail
      refine ⟨trivial, ?_⟩
      refine (CallsIn.inRound lp (callsIn_wide.2 kx)).mono ?_
      rintro e w1 ⟨⟨u, tt, p, rfl⟩, g⟩
      have k0 := keeps_be g
      have hB1 := bel_bel hB hB.size g
      replace f2 := frozen_be g d2 f2
      replace f3 := frozen_be g d3 f3
      replace f4 := frozen_be g d4 f4
      replace d2 := cell_be g d2
      replace d3 := cell_be g d3
      replace d4 := cell_be g d4
      clear kx d0 d1 hTW g
      gi_wp2
      have x2 := World.cell?_setCell_same' w1 ⟨w.heap.size + 1 + 1, 0, none⟩ (.int .u64 0) (by rw [d2]; rfl)
      have y3 := (World.cell?_setCell_far w1 ⟨w.heap.size + 1 + 1, 0, none⟩ ⟨w.heap.size + 1 + 1 + 1, 0, none⟩ (.int .u64 0) (by show w.heap.size + 1 + 1 ≠ w.heap.size + 1 + 1 + 1; omega)).trans d3
      have y4 := (World.cell?_setCell_far w1 ⟨w.heap.size + 1 + 1, 0, none⟩ ⟨w.heap.size + 1 + 1 + 1 + 1, 0, none⟩ (.int .u64 0) (by show w.heap.size + 1 + 1 ≠ w.heap.size + 1 + 1 + 1 + 1; omega)).trans d4
      generalize hw2 : w1.setCell ⟨w.heap.size + 1 + 1, 0, none⟩ (.int .u64 0) = w2 at *
      have x3 := World.cell?_setCell_same' w2 ⟨w.heap.size + 1 + 1 + 1, 0, none⟩ (.int .u64 0) (by rw [y3]; rfl)
      have z2 := (World.cell?_setCell_far w2 ⟨w.heap.size + 1 + 1 + 1, 0, none⟩ ⟨w.heap.size + 1 + 1, 0, none⟩ (.int .u64 0) (by show w.heap.size + 1 + 1 + 1 ≠ w.heap.size + 1 + 1; omega)).trans x2
      have z4 := (World.cell?_setCell_far w2 ⟨w.heap.size + 1 + 1 + 1, 0, none⟩ ⟨w.heap.size + 1 + 1 + 1 + 1, 0, none⟩ (.int .u64 0) (by show w.heap.size + 1 + 1 + 1 ≠ w.heap.size + 1 + 1 + 1 + 1; omega)).trans y4
      generalize hw3 : w2.setCell ⟨w.heap.size + 1 + 1 + 1, 0, none⟩ (.int .u64 0) = w3 at *
      have v4 := World.cell?_setCell_same' w3 ⟨w.heap.size + 1 + 1 + 1 + 1, 0, none⟩ (.bool false) (by rw [z4]; rfl)
      have v2 := (World.cell?_setCell_far w3 ⟨w.heap.size + 1 + 1 + 1 + 1, 0, none⟩ ⟨w.heap.size + 1 + 1, 0, none⟩ (.bool false) (by show w.heap.size + 1 + 1 + 1 + 1 ≠ w.heap.size + 1 + 1; omega)).trans z2
      have v3 := (World.cell?_setCell_far w3 ⟨w.heap.size + 1 + 1 + 1 + 1, 0, none⟩ ⟨w.heap.size + 1 + 1 + 1, 0, none⟩ (.bool false) (by show w.heap.size + 1 + 1 + 1 + 1 ≠ w.heap.size + 1 + 1 + 1; omega)).trans x3
      have q3 : KeepsOthers W w3 := by rw [← hw3, ← hw2]; exact (k0.trans (KeepsOthers.setCell _ _ _)).trans (KeepsOthers.setCell _ _ _)
      have b3 : Below w.heap.size w w3 := by rw [← hw3, ← hw2]; exact (hB1.setCell (p := ⟨w.heap.size + 1 + 1, 0, none⟩) (by show w.heap.size ≤ w.heap.size + 1 + 1; omega) _).setCell (p := ⟨w.heap.size + 1 + 1 + 1, 0, none⟩) (by show w.heap.size ≤ w.heap.size + 1 + 1 + 1; omega) _
      exact ⟨q3.trans (KeepsOthers.setCell _ _ _), ⟨rfl, ⟨x, by simp, HQ.out⟩, v2, v3, v4⟩, b3.setCell (p := ⟨w.heap.size + 1 + 1 + 1 + 1, 0, none⟩) (by show w.heap.size ≤ w.heap.size + 1 + 1 + 1 + 1; omega) _⟩
    | some u =>
      rw [hq] at kx
      have HQ := hid hq
      clear hq
      generalize sb x.1 = X at *
      gi_wp2_with fail
      refine ⟨trivial, ?_⟩
      refine (CallsIn.inRound lp (callsIn_wide.2 kx)).mono ?_
      rintro e w1 ⟨he, g⟩
      obtain rfl : e = _ := he
      have k0 := keeps_be g
      have hB1 := bel_bel hB hB.size g
      replace f2 := frozen_be g d2 f2
      replace f3 := frozen_be g d3 f3
      replace f4 := frozen_be g d4 f4
      replace d0 := cell_be g d0
      replace d1 := cell_be g d1
      replace d2 := cell_be g d2
      replace d3 := cell_be g d3
      replace d4 := cell_be g d4
      clear kx hTW
      gi_wp2
      have hmx : Tryz.prog.follows .mixedOrders = true := by kernel_rfl
      obtain ⟨hH0, hH1⟩ := hH
      obtain ⟨hL0, hL1⟩ := hL
      have ew : IntKind.i64.wrap 56 = 56 := by rw [IntKind.wrap_i64]; decide
      refine region_round 8 hmx ?hq (by simp) (by kernel_rfl) ?_
      case hq => rintro ⟨_, _, hh⟩; exact hh
      simp only [List.take_succ_cons, List.take_zero, List.drop_succ_cons, List.drop_zero]
      repeat still_step
      try refine wpStill_nil ?_
      have hu : (0 : Int) ≤ (u : Int) ∧ (u : Int) < 256 := by have := q10_lt HQ.out; omega
      obtain ⟨s1, s2, s3⟩ := step8 ⟨hH0, hH1⟩ ⟨hL0, hL1⟩ hu.1 hu.2
      have HS3 := hid s3
      have HI1 := hid s1
      have HI2 := hid s2
      clear s1 s2 s3 hu hmx
      generalize hN : bits BinOp.or IntKind.u64 (IntKind.u64.wrap (H * 256)) (L / 72057594037927936) = N at *
      have HN := hid hN
      clear hN
      have e0 : ({ w1 with drawn := w1.drawn + 1 } : World).cell? ⟨w.heap.size, 0, none⟩ = some (.int .i64 10) := d0
      have e1 : ({ w1 with drawn := w1.drawn + 1 } : World).cell? ⟨w.heap.size + 1, 0, none⟩ = some (.int .i64 8) := d1
      have e2 : ({ w1 with drawn := w1.drawn + 1 } : World).cell? ⟨w.heap.size + 1 + 1, 0, none⟩ = some (.int .u64 H) := d2
      have e3 : ({ w1 with drawn := w1.drawn + 1 } : World).cell? ⟨w.heap.size + 1 + 1 + 1, 0, none⟩ = some (.int .u64 L) := d3
      have e4 : ({ w1 with drawn := w1.drawn + 1 } : World).cell? ⟨w.heap.size + 1 + 1 + 1 + 1, 0, none⟩ = some (.bool false) := d4
      have k2 : ({ w1 with drawn := w1.drawn + 1 } : World).frozen? ⟨w.heap.size + 1 + 1, 0, none⟩ = false := f2
      have k3 : ({ w1 with drawn := w1.drawn + 1 } : World).frozen? ⟨w.heap.size + 1 + 1 + 1, 0, none⟩ = false := f3
      have k4 : ({ w1 with drawn := w1.drawn + 1 } : World).frozen? ⟨w.heap.size + 1 + 1 + 1 + 1, 0, none⟩ = false := f4
      have k1 : KeepsOthers W ({ w1 with drawn := w1.drawn + 1 } : World) := k0.trans (KeepsOthers.drew w1)
      have hB2 : Below w.heap.size w ({ w1 with drawn := w1.drawn + 1 } : World) := bel_drew1 hB1
      have hBW : Below W.heap.size W ({ w1 with drawn := w1.drawn + 1 } : World) := bel_drew1 g
      clear d0 d1 d2 d3 d4 f2 f3 f4 k0 hB1 g
      generalize ({ w1 with drawn := w1.drawn + 1 } : World) = w2 at *
      have x2 := World.cell?_setCell_same' w2 ⟨w.heap.size + 1 + 1, 0, none⟩ (.int .u64 N) (by rw [e2]; rfl)
      have x0 := (World.cell?_setCell_far w2 ⟨w.heap.size + 1 + 1, 0, none⟩ ⟨w.heap.size, 0, none⟩ (.int .u64 N) (by show w.heap.size + 1 + 1 ≠ w.heap.size; omega)).trans e0
      have x1 := (World.cell?_setCell_far w2 ⟨w.heap.size + 1 + 1, 0, none⟩ ⟨w.heap.size + 1, 0, none⟩ (.int .u64 N) (by show w.heap.size + 1 + 1 ≠ w.heap.size + 1; omega)).trans e1
      have x3 := (World.cell?_setCell_far w2 ⟨w.heap.size + 1 + 1, 0, none⟩ ⟨w.heap.size + 1 + 1 + 1, 0, none⟩ (.int .u64 N) (by show w.heap.size + 1 + 1 ≠ w.heap.size + 1 + 1 + 1; omega)).trans e3
      have x4 := (World.cell?_setCell_far w2 ⟨w.heap.size + 1 + 1, 0, none⟩ ⟨w.heap.size + 1 + 1 + 1 + 1, 0, none⟩ (.int .u64 N) (by show w.heap.size + 1 + 1 ≠ w.heap.size + 1 + 1 + 1 + 1; omega)).trans e4
      go_wp2_with fail
      have k3' : (w2.setCell ⟨w.heap.size + 1 + 1, 0, none⟩ (.int .u64 N)).frozen? ⟨w.heap.size + 1 + 1 + 1, 0, none⟩ = false := by rw [World.frozen?_setCell]; exact k3
      have k2' : (w2.setCell ⟨w.heap.size + 1 + 1, 0, none⟩ (.int .u64 N)).frozen? ⟨w.heap.size + 1 + 1, 0, none⟩ = false := by rw [World.frozen?_setCell]; exact k2
      have k4' : (w2.setCell ⟨w.heap.size + 1 + 1, 0, none⟩ (.int .u64 N)).frozen? ⟨w.heap.size + 1 + 1 + 1 + 1, 0, none⟩ = false := by rw [World.frozen?_setCell]; exact k4
      have q1 : KeepsOthers W (w2.setCell ⟨w.heap.size + 1 + 1, 0, none⟩ (.int .u64 N)) := k1.trans (KeepsOthers.setCell _ _ _)
      have b1 : Below w.heap.size w (w2.setCell ⟨w.heap.size + 1 + 1, 0, none⟩ (.int .u64 N)) := hB2.setCell (p := ⟨w.heap.size + 1 + 1, 0, none⟩) (by show w.heap.size ≤ w.heap.size + 1 + 1; omega) _
      have bW : Below w.heap.size W (w2.setCell ⟨w.heap.size + 1 + 1, 0, none⟩ (.int .u64 N)) := (hBW.mono hB.size).setCell (p := ⟨w.heap.size + 1 + 1, 0, none⟩) (by show w.heap.size ≤ w.heap.size + 1 + 1; omega) _
      clear e0 e1 e2 e3 e4 k2 k3 k4 k1 hB2 hBW
      generalize w2.setCell ⟨w.heap.size + 1 + 1, 0, none⟩ (.int .u64 N) = w3 at *
      generalize hM : bits BinOp.or IntKind.u64 (IntKind.u64.wrap (L * 256)) (u : Int) = M at *
      have HMM := hid hM
      clear hM
      gi_wp2
      have y3 := World.cell?_setCell_same' w3 ⟨w.heap.size + 1 + 1 + 1, 0, none⟩ (.int .u64 M) (by rw [x3]; rfl)
      have y0 := (World.cell?_setCell_far w3 ⟨w.heap.size + 1 + 1 + 1, 0, none⟩ ⟨w.heap.size, 0, none⟩ (.int .u64 M) (by show w.heap.size + 1 + 1 + 1 ≠ w.heap.size; omega)).trans x0
      have y1 := (World.cell?_setCell_far w3 ⟨w.heap.size + 1 + 1 + 1, 0, none⟩ ⟨w.heap.size + 1, 0, none⟩ (.int .u64 M) (by show w.heap.size + 1 + 1 + 1 ≠ w.heap.size + 1; omega)).trans x1
      have y2 := (World.cell?_setCell_far w3 ⟨w.heap.size + 1 + 1 + 1, 0, none⟩ ⟨w.heap.size + 1 + 1, 0, none⟩ (.int .u64 M) (by show w.heap.size + 1 + 1 + 1 ≠ w.heap.size + 1 + 1; omega)).trans x2
      have y4 := (World.cell?_setCell_far w3 ⟨w.heap.size + 1 + 1 + 1, 0, none⟩ ⟨w.heap.size + 1 + 1 + 1 + 1, 0, none⟩ (.int .u64 M) (by show w.heap.size + 1 + 1 + 1 ≠ w.heap.size + 1 + 1 + 1 + 1; omega)).trans x4
      have hfin : Hid ((pre ++ [x]).map (fun x => q10 x.1) = (vs ++ [u]).map some ∧ ad N M = fv 256 (vs ++ [u])) := by
        refine ⟨?_, ?_⟩
        · rw [List.map_append, List.map_append, HH.out.1, List.map_cons, HQ.out]
          rfl
        · rw [fv_snoc, ← HH.out.2]
          exact HS3.out
      rw [HMM.out]
      exact ⟨q1.trans (KeepsOthers.setCell _ _ _), bW.setCell (p := ⟨w.heap.size + 1 + 1 + 1, 0, none⟩) (by show w.heap.size ≤ w.heap.size + 1 + 1 + 1; omega) _, ⟨N, M, vs ++ [u], HI1.out, HI2.out, y0, y1, ⟨y2, by rw [World.frozen?_setCell]; exact k2'⟩, ⟨y3, by rw [World.frozen?_setCell]; exact k3'⟩, ⟨y4, by rw [World.frozen?_setCell]; exact k4'⟩, hfin⟩, b1.setCell (p := ⟨w.heap.size + 1 + 1 + 1, 0, none⟩) (by show w.heap.size ≤ w.heap.size + 1 + 1 + 1; omega) _⟩
  case done =>
    clear hstop c0 c1 c2 c3 c4 B0 hct hcs kp
    rintro D ys W hD rfl ⟨⟨H, L, vs, hH, hL, d0, d1, ⟨d2, f2⟩, ⟨d3, f3⟩, ⟨d4, f4⟩, HH⟩, hB⟩ hK
    gi_wp2
    refine wpIn_only ?_
    refine wpIn_wide.2 ?_
    refine wp_region_held_drew (S := SG w D H L) (by kernel_rfl) ⟨⟨d2, f2⟩, ⟨d3, f3⟩, ⟨⟨_, d4⟩, f4⟩, hK, bel_drew1 hB⟩ (fun hHeld => ?_)
    clear d0 d1 d2 d3 d4 f2 f3 f4 hK hB
    generalize W.drew = w2 at *
    refine take_to 0 36 (.int .u64 H) rfl rfl (by kernel_rfl) (by kernel_rfl) (by kernel_rfl) (fun _ _ _ h => by cases h.1) (Or.inl ⟨by rfl, fun w' h => ?_⟩) hHeld ?_
    · have x0 := h.1.1
      go_simp
    try simp only [List.setIfInBounds_toArray, List.set_cons_zero, List.set_cons_succ]
    refine take_to 1 37 (.int .u64 L) rfl rfl (by kernel_rfl) (by kernel_rfl) (by kernel_rfl) (fun _ _ _ h => by cases h.1) (Or.inl ⟨by rfl, fun w' h => ?_⟩) hHeld ?_
    · have x0 := h.2.1.1
      go_simp
    try simp only [List.setIfInBounds_toArray, List.set_cons_zero, List.set_cons_succ]
    refine wpAnyH_ready (rs := [2]) (by kernel_rfl) (by simp) ?_
    refine AllReadyH.cons rfl (fun K' hK' => ?_) AllReadyH.nil
    rw [if_pos (by rfl)]
    obtain ⟨⟨a1, a2⟩, ⟨b1, b2⟩, ⟨⟨o, c1⟩, c2⟩, _, _⟩ := id hHeld
    go_wp2_with fail
    refine hK'.out _ _ hHeld.set2 (fun hHeld => ?_)
    clear hK' K' a1 a2 b1 b2 c1 c2
    try simp only [Act.put, List.setIfInBounds_toArray, List.set_cons_zero, List.set_cons_succ]
    generalize w2.setCell ⟨w.heap.size + 1 + 1, 0, none⟩ (.int .u64 H) = w3 at *
    refine wpAnyH_ready (rs := [3]) (by kernel_rfl) (by simp) ?_
    refine AllReadyH.cons rfl (fun K' hK' => ?_) AllReadyH.nil
    rw [if_pos (by rfl)]
    obtain ⟨⟨a1, a2⟩, ⟨b1, b2⟩, ⟨⟨o, c1⟩, c2⟩, _, _⟩ := id hHeld
    go_wp2_with fail
    refine hK'.out _ _ hHeld.set3 (fun hHeld => ?_)
    clear hK' K' a1 a2 b1 b2 c1 c2
    try simp only [Act.put, List.setIfInBounds_toArray, List.set_cons_zero, List.set_cons_succ]
    generalize w3.setCell ⟨w.heap.size + 1 + 1 + 1, 0, none⟩ (.int .u64 L) = w4 at *
    have v4 := hHeld.set4.2
    refine wpAnyH_ready (rs := [4]) (by kernel_rfl) (by simp) ?_
    refine AllReadyH.cons rfl (fun K' hK' => ?_) AllReadyH.nil
    rw [if_pos (by rfl)]
    obtain ⟨⟨a1, a2⟩, ⟨b1, b2⟩, ⟨⟨o, c1⟩, c2⟩, _, _⟩ := id hHeld
    go_wp2_with fail
    refine hK'.out _ _ hHeld.set4.1 (fun hHeld => ?_)
    clear hK' K' a1 a2 b1 b2 c1 c2
    try simp only [Act.put, List.setIfInBounds_toArray, List.set_cons_zero, List.set_cons_succ]
    generalize w4.setCell ⟨w.heap.size + 1 + 1 + 1 + 1, 0, none⟩ (.bool true) = w5 at *
    refine wpAnyH_done (by kernel_rfl) ?_ _
    refine ⟨rfl, ?_⟩
    obtain ⟨⟨v2, _⟩, ⟨v3, _⟩, _, q4, b4⟩ := hHeld
    go_wp2_with fail
    gi_wp2
    refine ⟨by simp, .inl ⟨_, _, rfl, run_takeDeferred q4, ?_⟩⟩
    have r2 := cell_kept v2 (grownBy_putObj' _ D (.deferred none)) (fun r e => by cases e; exact ⟨_, q4, rfl⟩)
    have r3 := cell_kept v3 (grownBy_putObj' _ D (.deferred none)) (fun r e => by cases e; exact ⟨_, q4, rfl⟩)
    have r4 := cell_kept v4 (grownBy_putObj' _ D (.deferred none)) (fun r e => by cases e; exact ⟨_, q4, rfl⟩)
    refine ⟨.tuple #[.int .u64 H, .int .u64 L, .bool true], ?_, .inl ⟨H, L, vs, hH, hL, ?_, HH.out.2, rfl⟩, b4.trans (belowK_b (w := w) (Nat.le_refl _) _ D _ _ (by simp at hD; omega) q4 rfl rfl)⟩
    · simp [results, Tryz.f168, go_sem, r2, r3, r4]
    · rw [← hx, List.map_map]
      exact HH.out.1
  case stop =>
    clear hstop c0 c1 c2 c3 c4 B0 hct hcs kp
    rintro D cc pre W hD hpre ⟨⟨rfl, ⟨x, hxm, hxq⟩, d2, d3, d4⟩, hB⟩ hK
    gi_wp2
    refine ⟨by simp, .inl ⟨_, _, rfl, run_takeDeferred hK, ?_⟩⟩
    have r2 := cell_kept d2 (grownBy_putObj' _ D (.deferred none)) (fun r e => by cases e; exact ⟨_, hK, rfl⟩)
    have r3 := cell_kept d3 (grownBy_putObj' _ D (.deferred none)) (fun r e => by cases e; exact ⟨_, hK, rfl⟩)
    have r4 := cell_kept d4 (grownBy_putObj' _ D (.deferred none)) (fun r e => by cases e; exact ⟨_, hK, rfl⟩)
    refine ⟨.tuple #[.int .u64 0, .int .u64 0, .bool false], ?_, .inr ⟨⟨x.1, ?_, hxq⟩, rfl⟩, hB.trans (belowK_b (w := w) (Nat.le_refl _) _ D _ _ (by simp at hD; omega) hK rfl rfl)⟩
    · simp [results, Tryz.f168, go_sem, r2, r3, r4]
    · rw [← hx]
      exact List.mem_map.2 ⟨x, hpre.subset hxm, rfl⟩

set_option maxHeartbeats 4000000 in
theorem gather16_ (bt bs c : Nat) (hc : c < 256) (l : List Nat) (hy : ∀ z ∈ l, z < 256) (hl : l.length ≤ 140737488355328) (xs : List Pt) (hx : xs.map (·.1) = cu c l) (w : World) (hT : Tb w) (hbt : bt < w.heap.size) (hbs : bs < w.heap.size)
    (hct : w.cell? ⟨bt, 0, none⟩ = some (.string (sb l))) (hcs : w.cell? ⟨bs, 0, none⟩ = some (.string ⟨#[UInt8.ofNat c]⟩)) :
    Calls Tryz.prog 168 #[.func (.func 177) #[] #[.pointer (some ⟨bt, 0, none⟩), .pointer (some ⟨bs, 0, none⟩)], .int .i64 16, .int .i64 16] w fun e w' => GaR q16 65536 (cu c l) e ∧ Below w.heap.size w w' := by
  have kp : ∀ (x : List Nat) (w : World), (∀ z ∈ x, z < 256) → x.length ≤ 140737488355328 → Tb w → Calls Tryz.prog 85 #[.string (sb x), .int .i64 16, .int .i64 16] w fun e w' => PuP (q16 x) e ∧ Below w.heap.size w w' := fun x w hy hl hT => pu16_ x w hy hl hT
  have B0 : Below w.heap.size w (((((w.alloc (.cells #[.int .i64 16] 3)).alloc (.cells #[.int .i64 16] 3)).alloc (.cells #[.int .u64 0] 64)).alloc (.cells #[.int .u64 0] 64)).alloc (.cells #[.bool false] 4)) := ((((((Below.refl _ w).alloc (Nat.le_refl _) _).alloc (by simp) _).alloc (by simp; omega) _).alloc (by simp; omega) _).alloc (by simp; omega) _)
  have c0 := cell_new1 w (.int .i64 16) 3
  have c1 := cell_new1 (w.alloc (.cells #[.int .i64 16] 3)) (.int .i64 16) 3
  have c2 := cell_new1 ((w.alloc (.cells #[.int .i64 16] 3)).alloc (.cells #[.int .i64 16] 3)) (.int .u64 0) 64
  have c3 := cell_new1 (((w.alloc (.cells #[.int .i64 16] 3)).alloc (.cells #[.int .i64 16] 3)).alloc (.cells #[.int .u64 0] 64)) (.int .u64 0) 64
  have c4 := cell_new1 ((((w.alloc (.cells #[.int .i64 16] 3)).alloc (.cells #[.int .i64 16] 3)).alloc (.cells #[.int .u64 0] 64)).alloc (.cells #[.int .u64 0] 64)) (.bool false) 4
  simp only [World.size_alloc] at c1 c2 c3 c4
  have hstop := parts1_stops 2 (by omega) bt bs w.heap.size c hc l hy hl xs hx (((((w.alloc (.cells #[.int .i64 16] 3)).alloc (.cells #[.int .i64 16] 3)).alloc (.cells #[.int .u64 0] 64)).alloc (.cells #[.int .u64 0] 64)).alloc (.cells #[.bool false] 4)) hbt hbs (by simp; omega) ((B0.cell (p := ⟨bt, 0, none⟩) hbt).trans hct) ((B0.cell (p := ⟨bs, 0, none⟩) hbs).trans hcs)
  refine (callsIn_wide (n := 3)).1 ?_
  refine callsIn_of_wp_marks Tryz.func168 rfl trivial ?_ rfl
  simp only [Tryz.ntmps168, List.size_toArray, List.length_cons, List.length_nil, Nat.reduceAdd, Nat.reduceSub, Array.replicate_succ, Array.replicate_zero, List.push_toArray, List.append_toArray, List.nil_append, List.cons_append]
  gi_wp2
  refine wpIn_rangeFunc_ownF rfl (by omega) (gf := 177) (lb := #[.pointer (some ⟨bt, 0, none⟩), .pointer (some ⟨bs, 0, none⟩)]) rfl trivial (enters_of Tryz.func177 (by kernel_rfl) rfl)
    hstop belowK_t (belowK_b (by simp; omega)) (Below.refl _ _) (fun _ => rfl)
    (fun pre W => (∃ (H L : Int) (vs : List Nat), InU H ∧ InU L ∧ W.cell? ⟨w.heap.size, 0, none⟩ = some (.int .i64 16) ∧ W.cell? ⟨w.heap.size + 1, 0, none⟩ = some (.int .i64 16) ∧ (W.cell? ⟨w.heap.size + 1 + 1, 0, none⟩ = some (.int .u64 H) ∧ W.frozen? ⟨w.heap.size + 1 + 1, 0, none⟩ = false) ∧ (W.cell? ⟨w.heap.size + 1 + 1 + 1, 0, none⟩ = some (.int .u64 L) ∧ W.frozen? ⟨w.heap.size + 1 + 1 + 1, 0, none⟩ = false) ∧ (W.cell? ⟨w.heap.size + 1 + 1 + 1 + 1, 0, none⟩ = some (.bool false) ∧ W.frozen? ⟨w.heap.size + 1 + 1 + 1 + 1, 0, none⟩ = false) ∧ Hid (pre.map (fun x => q16 x.1) = vs.map some ∧ ad H L = fv 65536 vs)) ∧ Below w.heap.size w W)
    (fun c pre W => (c = .ret ∧ (∃ x ∈ pre, q16 x.1 = none) ∧ W.cell? ⟨w.heap.size + 1 + 1, 0, none⟩ = some (.int .u64 0) ∧ W.cell? ⟨w.heap.size + 1 + 1 + 1, 0, none⟩ = some (.int .u64 0) ∧ W.cell? ⟨w.heap.size + 1 + 1 + 1 + 1, 0, none⟩ = some (.bool false)) ∧ Below w.heap.size w W)
    (OwnFrom.and (Own.from (fun s A B row hs hg hr => by
      obtain ⟨H, L, vs, h1, h2, h3, h4, h5, h6, h7, h8⟩ := hs
      exact ⟨H, L, vs, h1, h2, cell_kept h3 hg hr, cell_kept h4 hg hr, ⟨cell_kept h5.1 hg hr, (frozen_kept h5.1 hg hr).trans h5.2⟩, ⟨cell_kept h6.1 hg hr, (frozen_kept h6.1 hg hr).trans h6.2⟩, ⟨cell_kept h7.1 hg hr, (frozen_kept h7.1 hg hr).trans h7.2⟩, h8⟩) _) (ownFrom_below (Nat.le_refl _) (by simp; omega)))
    (fun c => OwnFrom.and (Own.from (fun s A B row hs hg hr => ⟨hs.1, hs.2.1, cell_kept hs.2.2.1 hg hr, cell_kept hs.2.2.2.1 hg hr, cell_kept hs.2.2.2.2 hg hr⟩) _) (ownFrom_below (Nat.le_refl _) (by simp; omega)))
    ⟨⟨0, 0, [], by unfold InU; omega, by unfold InU; omega, cell_al (cell_al (cell_al (cell_al c0.1))), cell_al (cell_al (cell_al c1.1)), ⟨cell_al (cell_al c2.1), frozen_al (cell_al c2.1) (frozen_al c2.1 c2.2)⟩, ⟨cell_al c3.1, frozen_al c3.1 c3.2⟩, c4, ⟨rfl, rfl⟩⟩, B0⟩
    (fun x => { tmps := #[.func (.func 177) #[] #[.pointer (some ⟨bt, 0, none⟩), .pointer (some ⟨bs, 0, none⟩)], .int .i64 16, .int .i64 16, undef, .pointer (some ⟨w.heap.size, 0, none⟩), .pointer (some ⟨w.heap.size + 1, 0, none⟩), .pointer (some ⟨w.heap.size + 1 + 1, 0, none⟩), .pointer (some ⟨w.heap.size + 1 + 1 + 1, 0, none⟩), .pointer (some ⟨w.heap.size + 1 + 1 + 1 + 1, 0, none⟩), .string (sb x.1), undef, undef, .func (.func 177) #[] #[.pointer (some ⟨bt, 0, none⟩), .pointer (some ⟨bs, 0, none⟩)], .string (sb x.1), undef, undef, undef, undef, undef, undef, undef, undef, undef, undef, undef, undef, undef, undef, undef, undef, undef, undef, undef, undef, undef, undef, undef, undef], defers := [] }) ?assign ?body ?done ?stop
  case assign =>
    intro l x W K hK
    gi_wp2
    exact hK
  case body =>
    clear hstop c0 c1 c2 c3 c4 B0 hct hcs
    rintro lp pre x W ⟨⟨H, L, vs, hH, hL, d0, d1, ⟨d2, f2⟩, ⟨d3, f3⟩, ⟨d4, f4⟩, HH⟩, hB⟩ _
    have hTW := hT.kept hB
    have kx := kp x.1 W x.2.1 x.2.2 hTW
    have HX : Hid (sb x.1 = sb x.1) := rfl
    clear kp
    cases hq : q16 x.1 with
    | none =>
      rw [hq] at kx
      have HQ := hid hq
      clear hq
      generalize sb x.1 = X at *
      gi_wp2_with fail
      refine ⟨trivial, ?_⟩
      refine (CallsIn.inRound lp (callsIn_wide.2 kx)).mono ?_
      rintro e w1 ⟨⟨u, tt, p, rfl⟩, g⟩
      have k0 := keeps_be g
      have hB1 := bel_bel hB hB.size g
      replace f2 := frozen_be g d2 f2
      replace f3 := frozen_be g d3 f3
      replace f4 := frozen_be g d4 f4
      replace d2 := cell_be g d2
      replace d3 := cell_be g d3
      replace d4 := cell_be g d4
      clear kx d0 d1 hTW g
      gi_wp2
      have x2 := World.cell?_setCell_same' w1 ⟨w.heap.size + 1 + 1, 0, none⟩ (.int .u64 0) (by rw [d2]; rfl)
      have y3 := (World.cell?_setCell_far w1 ⟨w.heap.size + 1 + 1, 0, none⟩ ⟨w.heap.size + 1 + 1 + 1, 0, none⟩ (.int .u64 0) (by show w.heap.size + 1 + 1 ≠ w.heap.size + 1 + 1 + 1; omega)).trans d3
      have y4 := (World.cell?_setCell_far w1 ⟨w.heap.size + 1 + 1, 0, none⟩ ⟨w.heap.size + 1 + 1 + 1 + 1, 0, none⟩ (.int .u64 0) (by show w.heap.size + 1 + 1 ≠ w.heap.size + 1 + 1 + 1 + 1; omega)).trans d4
      generalize hw2 : w1.setCell ⟨w.heap.size + 1 + 1, 0, none⟩ (.int .u64 0) = w2 at *
      have x3 := World.cell?_setCell_same' w2 ⟨w.heap.size + 1 + 1 + 1, 0, none⟩ (.int .u64 0) (by rw [y3]; rfl)
      have z2 := (World.cell?_setCell_far w2 ⟨w.heap.size + 1 + 1 + 1, 0, none⟩ ⟨w.heap.size + 1 + 1, 0, none⟩ (.int .u64 0) (by show w.heap.size + 1 + 1 + 1 ≠ w.heap.size + 1 + 1; omega)).trans x2
      have z4 := (World.cell?_setCell_far w2 ⟨w.heap.size + 1 + 1 + 1, 0, none⟩ ⟨w.heap.size + 1 + 1 + 1 + 1, 0, none⟩ (.int .u64 0) (by show w.heap.size + 1 + 1 + 1 ≠ w.heap.size + 1 + 1 + 1 + 1; omega)).trans y4
      generalize hw3 : w2.setCell ⟨w.heap.size + 1 + 1 + 1, 0, none⟩ (.int .u64 0) = w3 at *
      have v4 := World.cell?_setCell_same' w3 ⟨w.heap.size + 1 + 1 + 1 + 1, 0, none⟩ (.bool false) (by rw [z4]; rfl)
      have v2 := (World.cell?_setCell_far w3 ⟨w.heap.size + 1 + 1 + 1 + 1, 0, none⟩ ⟨w.heap.size + 1 + 1, 0, none⟩ (.bool false) (by show w.heap.size + 1 + 1 + 1 + 1 ≠ w.heap.size + 1 + 1; omega)).trans z2
      have v3 := (World.cell?_setCell_far w3 ⟨w.heap.size + 1 + 1 + 1 + 1, 0, none⟩ ⟨w.heap.size + 1 + 1 + 1, 0, none⟩ (.bool false) (by show w.heap.size + 1 + 1 + 1 + 1 ≠ w.heap.size + 1 + 1 + 1; omega)).trans x3
      have q3 : KeepsOthers W w3 := by rw [← hw3, ← hw2]; exact (k0.trans (KeepsOthers.setCell _ _ _)).trans (KeepsOthers.setCell _ _ _)
      have b3 : Below w.heap.size w w3 := by rw [← hw3, ← hw2]; exact (hB1.setCell (p := ⟨w.heap.size + 1 + 1, 0, none⟩) (by show w.heap.size ≤ w.heap.size + 1 + 1; omega) _).setCell (p := ⟨w.heap.size + 1 + 1 + 1, 0, none⟩) (by show w.heap.size ≤ w.heap.size + 1 + 1 + 1; omega) _
      exact ⟨q3.trans (KeepsOthers.setCell _ _ _), ⟨rfl, ⟨x, by simp, HQ.out⟩, v2, v3, v4⟩, b3.setCell (p := ⟨w.heap.size + 1 + 1 + 1 + 1, 0, none⟩) (by show w.heap.size ≤ w.heap.size + 1 + 1 + 1 + 1; omega) _⟩
    | some u =>
      rw [hq] at kx
      have HQ := hid hq
      clear hq
      generalize sb x.1 = X at *
      gi_wp2_with fail
      refine ⟨trivial, ?_⟩
      refine (CallsIn.inRound lp (callsIn_wide.2 kx)).mono ?_
      rintro e w1 ⟨he, g⟩
      obtain rfl : e = _ := he
      have k0 := keeps_be g
      have hB1 := bel_bel hB hB.size g
      replace f2 := frozen_be g d2 f2
      replace f3 := frozen_be g d3 f3
      replace f4 := frozen_be g d4 f4
      replace d0 := cell_be g d0
      replace d1 := cell_be g d1
      replace d2 := cell_be g d2
      replace d3 := cell_be g d3
      replace d4 := cell_be g d4
      clear kx hTW
      gi_wp2
      have hmx : Tryz.prog.follows .mixedOrders = true := by kernel_rfl
      obtain ⟨hH0, hH1⟩ := hH
      obtain ⟨hL0, hL1⟩ := hL
      have ew : IntKind.i64.wrap 48 = 48 := by rw [IntKind.wrap_i64]; decide
      refine region_round 8 hmx ?hq (by simp) (by kernel_rfl) ?_
      case hq => rintro ⟨_, _, hh⟩; exact hh
      simp only [List.take_succ_cons, List.take_zero, List.drop_succ_cons, List.drop_zero]
      repeat still_step
      try refine wpStill_nil ?_
      have hu : (0 : Int) ≤ (u : Int) ∧ (u : Int) < 65536 := by have := q16_lt HQ.out; omega
      obtain ⟨s1, s2, s3⟩ := step16 ⟨hH0, hH1⟩ ⟨hL0, hL1⟩ hu.1 hu.2
      have HS3 := hid s3
      have HI1 := hid s1
      have HI2 := hid s2
      clear s1 s2 s3 hu hmx
      generalize hN : bits BinOp.or IntKind.u64 (IntKind.u64.wrap (H * 65536)) (L / 281474976710656) = N at *
      have HN := hid hN
      clear hN
      have e0 : ({ w1 with drawn := w1.drawn + 1 } : World).cell? ⟨w.heap.size, 0, none⟩ = some (.int .i64 16) := d0
      have e1 : ({ w1 with drawn := w1.drawn + 1 } : World).cell? ⟨w.heap.size + 1, 0, none⟩ = some (.int .i64 16) := d1
      have e2 : ({ w1 with drawn := w1.drawn + 1 } : World).cell? ⟨w.heap.size + 1 + 1, 0, none⟩ = some (.int .u64 H) := d2
      have e3 : ({ w1 with drawn := w1.drawn + 1 } : World).cell? ⟨w.heap.size + 1 + 1 + 1, 0, none⟩ = some (.int .u64 L) := d3
      have e4 : ({ w1 with drawn := w1.drawn + 1 } : World).cell? ⟨w.heap.size + 1 + 1 + 1 + 1, 0, none⟩ = some (.bool false) := d4
      have k2 : ({ w1 with drawn := w1.drawn + 1 } : World).frozen? ⟨w.heap.size + 1 + 1, 0, none⟩ = false := f2
      have k3 : ({ w1 with drawn := w1.drawn + 1 } : World).frozen? ⟨w.heap.size + 1 + 1 + 1, 0, none⟩ = false := f3
      have k4 : ({ w1 with drawn := w1.drawn + 1 } : World).frozen? ⟨w.heap.size + 1 + 1 + 1 + 1, 0, none⟩ = false := f4
      have k1 : KeepsOthers W ({ w1 with drawn := w1.drawn + 1 } : World) := k0.trans (KeepsOthers.drew w1)
      have hB2 : Below w.heap.size w ({ w1 with drawn := w1.drawn + 1 } : World) := bel_drew1 hB1
      have hBW : Below W.heap.size W ({ w1 with drawn := w1.drawn + 1 } : World) := bel_drew1 g
      clear d0 d1 d2 d3 d4 f2 f3 f4 k0 hB1 g
      generalize ({ w1 with drawn := w1.drawn + 1 } : World) = w2 at *
      have x2 := World.cell?_setCell_same' w2 ⟨w.heap.size + 1 + 1, 0, none⟩ (.int .u64 N) (by rw [e2]; rfl)
      have x0 := (World.cell?_setCell_far w2 ⟨w.heap.size + 1 + 1, 0, none⟩ ⟨w.heap.size, 0, none⟩ (.int .u64 N) (by show w.heap.size + 1 + 1 ≠ w.heap.size; omega)).trans e0
      have x1 := (World.cell?_setCell_far w2 ⟨w.heap.size + 1 + 1, 0, none⟩ ⟨w.heap.size + 1, 0, none⟩ (.int .u64 N) (by show w.heap.size + 1 + 1 ≠ w.heap.size + 1; omega)).trans e1
      have x3 := (World.cell?_setCell_far w2 ⟨w.heap.size + 1 + 1, 0, none⟩ ⟨w.heap.size + 1 + 1 + 1, 0, none⟩ (.int .u64 N) (by show w.heap.size + 1 + 1 ≠ w.heap.size + 1 + 1 + 1; omega)).trans e3
      have x4 := (World.cell?_setCell_far w2 ⟨w.heap.size + 1 + 1, 0, none⟩ ⟨w.heap.size + 1 + 1 + 1 + 1, 0, none⟩ (.int .u64 N) (by show w.heap.size + 1 + 1 ≠ w.heap.size + 1 + 1 + 1 + 1; omega)).trans e4
      go_wp2_with fail
      have k3' : (w2.setCell ⟨w.heap.size + 1 + 1, 0, none⟩ (.int .u64 N)).frozen? ⟨w.heap.size + 1 + 1 + 1, 0, none⟩ = false := by rw [World.frozen?_setCell]; exact k3
      have k2' : (w2.setCell ⟨w.heap.size + 1 + 1, 0, none⟩ (.int .u64 N)).frozen? ⟨w.heap.size + 1 + 1, 0, none⟩ = false := by rw [World.frozen?_setCell]; exact k2
      have k4' : (w2.setCell ⟨w.heap.size + 1 + 1, 0, none⟩ (.int .u64 N)).frozen? ⟨w.heap.size + 1 + 1 + 1 + 1, 0, none⟩ = false := by rw [World.frozen?_setCell]; exact k4
      have q1 : KeepsOthers W (w2.setCell ⟨w.heap.size + 1 + 1, 0, none⟩ (.int .u64 N)) := k1.trans (KeepsOthers.setCell _ _ _)
      have b1 : Below w.heap.size w (w2.setCell ⟨w.heap.size + 1 + 1, 0, none⟩ (.int .u64 N)) := hB2.setCell (p := ⟨w.heap.size + 1 + 1, 0, none⟩) (by show w.heap.size ≤ w.heap.size + 1 + 1; omega) _
      have bW : Below w.heap.size W (w2.setCell ⟨w.heap.size + 1 + 1, 0, none⟩ (.int .u64 N)) := (hBW.mono hB.size).setCell (p := ⟨w.heap.size + 1 + 1, 0, none⟩) (by show w.heap.size ≤ w.heap.size + 1 + 1; omega) _
      clear e0 e1 e2 e3 e4 k2 k3 k4 k1 hB2 hBW
      generalize w2.setCell ⟨w.heap.size + 1 + 1, 0, none⟩ (.int .u64 N) = w3 at *
      generalize hM : bits BinOp.or IntKind.u64 (IntKind.u64.wrap (L * 65536)) (u : Int) = M at *
      have HMM := hid hM
      clear hM
      gi_wp2
      have y3 := World.cell?_setCell_same' w3 ⟨w.heap.size + 1 + 1 + 1, 0, none⟩ (.int .u64 M) (by rw [x3]; rfl)
      have y0 := (World.cell?_setCell_far w3 ⟨w.heap.size + 1 + 1 + 1, 0, none⟩ ⟨w.heap.size, 0, none⟩ (.int .u64 M) (by show w.heap.size + 1 + 1 + 1 ≠ w.heap.size; omega)).trans x0
      have y1 := (World.cell?_setCell_far w3 ⟨w.heap.size + 1 + 1 + 1, 0, none⟩ ⟨w.heap.size + 1, 0, none⟩ (.int .u64 M) (by show w.heap.size + 1 + 1 + 1 ≠ w.heap.size + 1; omega)).trans x1
      have y2 := (World.cell?_setCell_far w3 ⟨w.heap.size + 1 + 1 + 1, 0, none⟩ ⟨w.heap.size + 1 + 1, 0, none⟩ (.int .u64 M) (by show w.heap.size + 1 + 1 + 1 ≠ w.heap.size + 1 + 1; omega)).trans x2
      have y4 := (World.cell?_setCell_far w3 ⟨w.heap.size + 1 + 1 + 1, 0, none⟩ ⟨w.heap.size + 1 + 1 + 1 + 1, 0, none⟩ (.int .u64 M) (by show w.heap.size + 1 + 1 + 1 ≠ w.heap.size + 1 + 1 + 1 + 1; omega)).trans x4
      have hfin : Hid ((pre ++ [x]).map (fun x => q16 x.1) = (vs ++ [u]).map some ∧ ad N M = fv 65536 (vs ++ [u])) := by
        refine ⟨?_, ?_⟩
        · rw [List.map_append, List.map_append, HH.out.1, List.map_cons, HQ.out]
          rfl
        · rw [fv_snoc, ← HH.out.2]
          exact HS3.out
      rw [HMM.out]
      exact ⟨q1.trans (KeepsOthers.setCell _ _ _), bW.setCell (p := ⟨w.heap.size + 1 + 1 + 1, 0, none⟩) (by show w.heap.size ≤ w.heap.size + 1 + 1 + 1; omega) _, ⟨N, M, vs ++ [u], HI1.out, HI2.out, y0, y1, ⟨y2, by rw [World.frozen?_setCell]; exact k2'⟩, ⟨y3, by rw [World.frozen?_setCell]; exact k3'⟩, ⟨y4, by rw [World.frozen?_setCell]; exact k4'⟩, hfin⟩, b1.setCell (p := ⟨w.heap.size + 1 + 1 + 1, 0, none⟩) (by show w.heap.size ≤ w.heap.size + 1 + 1 + 1; omega) _⟩
  case done =>
    clear hstop c0 c1 c2 c3 c4 B0 hct hcs kp
    rintro D ys W hD rfl ⟨⟨H, L, vs, hH, hL, d0, d1, ⟨d2, f2⟩, ⟨d3, f3⟩, ⟨d4, f4⟩, HH⟩, hB⟩ hK
    gi_wp2
    refine wpIn_only ?_
    refine wpIn_wide.2 ?_
    refine wp_region_held_drew (S := SG w D H L) (by kernel_rfl) ⟨⟨d2, f2⟩, ⟨d3, f3⟩, ⟨⟨_, d4⟩, f4⟩, hK, bel_drew1 hB⟩ (fun hHeld => ?_)
    clear d0 d1 d2 d3 d4 f2 f3 f4 hK hB
    generalize W.drew = w2 at *
    refine take_to 0 36 (.int .u64 H) rfl rfl (by kernel_rfl) (by kernel_rfl) (by kernel_rfl) (fun _ _ _ h => by cases h.1) (Or.inl ⟨by rfl, fun w' h => ?_⟩) hHeld ?_
    · have x0 := h.1.1
      go_simp
    try simp only [List.setIfInBounds_toArray, List.set_cons_zero, List.set_cons_succ]
    refine take_to 1 37 (.int .u64 L) rfl rfl (by kernel_rfl) (by kernel_rfl) (by kernel_rfl) (fun _ _ _ h => by cases h.1) (Or.inl ⟨by rfl, fun w' h => ?_⟩) hHeld ?_
    · have x0 := h.2.1.1
      go_simp
    try simp only [List.setIfInBounds_toArray, List.set_cons_zero, List.set_cons_succ]
    refine wpAnyH_ready (rs := [2]) (by kernel_rfl) (by simp) ?_
    refine AllReadyH.cons rfl (fun K' hK' => ?_) AllReadyH.nil
    rw [if_pos (by rfl)]
    obtain ⟨⟨a1, a2⟩, ⟨b1, b2⟩, ⟨⟨o, c1⟩, c2⟩, _, _⟩ := id hHeld
    go_wp2_with fail
    refine hK'.out _ _ hHeld.set2 (fun hHeld => ?_)
    clear hK' K' a1 a2 b1 b2 c1 c2
    try simp only [Act.put, List.setIfInBounds_toArray, List.set_cons_zero, List.set_cons_succ]
    generalize w2.setCell ⟨w.heap.size + 1 + 1, 0, none⟩ (.int .u64 H) = w3 at *
    refine wpAnyH_ready (rs := [3]) (by kernel_rfl) (by simp) ?_
    refine AllReadyH.cons rfl (fun K' hK' => ?_) AllReadyH.nil
    rw [if_pos (by rfl)]
    obtain ⟨⟨a1, a2⟩, ⟨b1, b2⟩, ⟨⟨o, c1⟩, c2⟩, _, _⟩ := id hHeld
    go_wp2_with fail
    refine hK'.out _ _ hHeld.set3 (fun hHeld => ?_)
    clear hK' K' a1 a2 b1 b2 c1 c2
    try simp only [Act.put, List.setIfInBounds_toArray, List.set_cons_zero, List.set_cons_succ]
    generalize w3.setCell ⟨w.heap.size + 1 + 1 + 1, 0, none⟩ (.int .u64 L) = w4 at *
    have v4 := hHeld.set4.2
    refine wpAnyH_ready (rs := [4]) (by kernel_rfl) (by simp) ?_
    refine AllReadyH.cons rfl (fun K' hK' => ?_) AllReadyH.nil
    rw [if_pos (by rfl)]
    obtain ⟨⟨a1, a2⟩, ⟨b1, b2⟩, ⟨⟨o, c1⟩, c2⟩, _, _⟩ := id hHeld
    go_wp2_with fail
    refine hK'.out _ _ hHeld.set4.1 (fun hHeld => ?_)
    clear hK' K' a1 a2 b1 b2 c1 c2
    try simp only [Act.put, List.setIfInBounds_toArray, List.set_cons_zero, List.set_cons_succ]
    generalize w4.setCell ⟨w.heap.size + 1 + 1 + 1 + 1, 0, none⟩ (.bool true) = w5 at *
    refine wpAnyH_done (by kernel_rfl) ?_ _
    refine ⟨rfl, ?_⟩
    obtain ⟨⟨v2, _⟩, ⟨v3, _⟩, _, q4, b4⟩ := hHeld
    go_wp2_with fail
    gi_wp2
    refine ⟨by simp, .inl ⟨_, _, rfl, run_takeDeferred q4, ?_⟩⟩
    have r2 := cell_kept v2 (grownBy_putObj' _ D (.deferred none)) (fun r e => by cases e; exact ⟨_, q4, rfl⟩)
    have r3 := cell_kept v3 (grownBy_putObj' _ D (.deferred none)) (fun r e => by cases e; exact ⟨_, q4, rfl⟩)
    have r4 := cell_kept v4 (grownBy_putObj' _ D (.deferred none)) (fun r e => by cases e; exact ⟨_, q4, rfl⟩)
    refine ⟨.tuple #[.int .u64 H, .int .u64 L, .bool true], ?_, .inl ⟨H, L, vs, hH, hL, ?_, HH.out.2, rfl⟩, b4.trans (belowK_b (w := w) (Nat.le_refl _) _ D _ _ (by simp at hD; omega) q4 rfl rfl)⟩
    · simp [results, Tryz.f168, go_sem, r2, r3, r4]
    · rw [← hx, List.map_map]
      exact HH.out.1
  case stop =>
    clear hstop c0 c1 c2 c3 c4 B0 hct hcs kp
    rintro D cc pre W hD hpre ⟨⟨rfl, ⟨x, hxm, hxq⟩, d2, d3, d4⟩, hB⟩ hK
    gi_wp2
    refine ⟨by simp, .inl ⟨_, _, rfl, run_takeDeferred hK, ?_⟩⟩
    have r2 := cell_kept d2 (grownBy_putObj' _ D (.deferred none)) (fun r e => by cases e; exact ⟨_, hK, rfl⟩)
    have r3 := cell_kept d3 (grownBy_putObj' _ D (.deferred none)) (fun r e => by cases e; exact ⟨_, hK, rfl⟩)
    have r4 := cell_kept d4 (grownBy_putObj' _ D (.deferred none)) (fun r e => by cases e; exact ⟨_, hK, rfl⟩)
    refine ⟨.tuple #[.int .u64 0, .int .u64 0, .bool false], ?_, .inr ⟨⟨x.1, ?_, hxq⟩, rfl⟩, hB.trans (belowK_b (w := w) (Nat.le_refl _) _ D _ _ (by simp at hD; omega) hK rfl rfl)⟩
    · simp [results, Tryz.f168, go_sem, r2, r3, r4]
    · rw [← hx]
      exact List.mem_map.2 ⟨x, hpre.subset hxm, rfl⟩
end Go.Proofs.YtkeogggeefnoeaaGreatDoor
