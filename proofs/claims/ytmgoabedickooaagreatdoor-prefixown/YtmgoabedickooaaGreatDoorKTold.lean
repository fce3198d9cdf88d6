import Derived.Test.YtmgoabedickooaaGreatDoorBookAll
namespace Go.Proofs.YtmgoabedickooaaGreatDoor.Kp
set_option maxRecDepth 100000
open Go.RowKit
set_option linter.unusedVariables false

set_option maxHeartbeats 400000 in
theorem wasOf_ (k : Nat) (ps : Int) (v2 v3 v4 : Value) (w : World) (h : Bk w k ps v2 v3 v4) :
    Calls Tryz.prog 68 #[.pointer (some ⟨k, 0, none⟩)] w fun en w' => en = .returned (.bool true) ∧ w' = w := by
  have c1 := h.nils 17 (by omega) (by omega)
  have c2 := h.nils 23 (by omega) (by omega)
  have c3 := h.nils 26 (by omega) (by omega)
  have c4 := h.nils 29 (by omega) (by omega)
  have c5 := h.nils 32 (by omega) (by omega)
  have c6 := h.nils 38 (by omega) (by omega)
  clear h
  go_enter Tryz.func68, Tryz.ntmps68
  go_wp2
  go_loop [3] (fun i => i = .int .i64 0) (fun _ => 0)
  case atStart => exact rfl
  case round =>
    obtain rfl := hrel
    go_wp2
    go_loop [4] (fun i => i = .int .i64 0) (fun _ => 0)
    case atStart => exact rfl
    case round =>
      obtain rfl := hrel
      go_wp2
      go_loop [5] (fun i => i = .int .i64 0) (fun _ => 0)
      case atStart => exact rfl
      case round =>
        obtain rfl := hrel
        go_wp2
        go_loop [6] (fun i => i = .int .i64 0) (fun _ => 0)
        case atStart => exact rfl
        case round =>
          obtain rfl := hrel
          go_wp2
          go_loop [7] (fun i => i = .int .i64 0) (fun _ => 0)
          case atStart => exact rfl
          case round =>
            obtain rfl := hrel
            go_wp2
            go_loop [8] (fun i => i = .int .i64 0) (fun _ => 0)
            case atStart => exact rfl
            case round =>
              obtain rfl := hrel
              go_wp2
              go_ret
              exact ⟨rfl, rfl⟩

set_option maxHeartbeats 400000 in
theorem wasToo_ (k : Nat) (ps : Int) (v2 v3 v4 : Value) (w : World) (h : Bk w k ps v2 v3 v4) :
    Calls Tryz.prog 69 #[.pointer (some ⟨k, 0, none⟩)] w fun en w' => en = .returned (.bool true) ∧ w' = w := by
  have c1 := h.nils 35 (by omega) (by omega)
  have c2 := h.nils 41 (by omega) (by omega)
  have c3 := h.nils 44 (by omega) (by omega)
  have c4 := h.nils 47 (by omega) (by omega)
  have c5 := h.nils 50 (by omega) (by omega)
  clear h
  go_enter Tryz.func69, Tryz.ntmps69
  go_wp2
  go_loop [3] (fun i => i = .int .i64 0) (fun _ => 0)
  case atStart => exact rfl
  case round =>
    obtain rfl := hrel
    go_wp2
    go_loop [4] (fun i => i = .int .i64 0) (fun _ => 0)
    case atStart => exact rfl
    case round =>
      obtain rfl := hrel
      go_wp2
      go_loop [5] (fun i => i = .int .i64 0) (fun _ => 0)
      case atStart => exact rfl
      case round =>
        obtain rfl := hrel
        go_wp2
        go_loop [6] (fun i => i = .int .i64 0) (fun _ => 0)
        case atStart => exact rfl
        case round =>
          obtain rfl := hrel
          go_wp2
          go_loop [7] (fun i => i = .int .i64 0) (fun _ => 0)
          case atStart => exact rfl
          case round =>
            obtain rfl := hrel
            go_wp2
            go_ret
            exact ⟨rfl, rfl⟩

/-- A list and the copy that was taken of it show the same bytes. -/
def SameE (w : World) (e f : Ent) : Prop := ∃ zs, Bs w e.a e.n zs ∧ Bs w f.a f.n zs ∧ e.n ≤ 100000 ∧ f.n ≤ 100000

set_option maxRecDepth 100000 in
set_option maxHeartbeats 1000000 in
theorem was_ (k base m : Nat) (ps : Int) (E G : Nat → Ent) (v2 v3 v4 : Value) (w : World) (h : Bk w k ps v2 v3 v4) (ht : w.ownsRow base 44 1 v2 m (vals m E)) (hu : w.ownsRow base 44 1 v3 m (vals m G)) (hs : ∀ i, i < m → SameE w (E i) (G i)) (hm : m ≤ 1000) :
    Calls Tryz.prog 67 #[.pointer (some ⟨k, 0, none⟩)] w fun en w' => en = .returned (.bool true) ∧ Drawn w w' := by
  obtain ⟨a2, c2, rfl, hg⟩ := tab_at ht
  obtain ⟨a3, c3, rfl, hg3⟩ := tab_at hu
  have n1 := h.nils 5 (by omega) (by omega)
  have n2 := h.nils 8 (by omega) (by omega)
  have n3 := h.nils 11 (by omega) (by omega)
  have n4 := h.nils 14 (by omega) (by omega)
  have n5 := h.nils 20 (by omega) (by omega)
  have d2 := h.c2
  have d3 := h.c3
  clear h ht hu
  go_enter Tryz.func67, Tryz.ntmps67
  go_wp2
  go_loopw [3] (fun i wr => ∃ x nq : Nat, x ≤ m ∧ i = .int .i64 x ∧ wr = w.drewN nq) (fun i _ => m - (intOf i).toNat)
  case atStart => exact ⟨0, 0, by omega, rfl, rfl⟩
  case round =>
    obtain ⟨x, nq, hx, rfl, rfl⟩ := hrel
    by_cases hlt : x < m
    · rcases hg with hg | ⟨g, rfl, _, hcell⟩
      · omega
      rcases hg3 with hg3 | ⟨g3, rfl, _, hcell3⟩
      · omega
      have q1 : w.cell? ⟨g, x, none⟩ = some (.slice (E x).a (E x).n (E x).c) := hcell x hlt
      have q3 : w.cell? ⟨g3, x, none⟩ = some (.slice (G x).a (G x).n (G x).c) := hcell3 x hlt
      have i1 : (x : Int) < (m : Int) := by omega
      have hS : Hid (∀ n, SameE (w.drewN (nq + n)) (E x) (G x)) := fun n => by
        obtain ⟨zs, s1, s2, s3, s4⟩ := hs x hlt
        exact ⟨zs, s1.drawn (drawnN w _), s2.drawn (drawnN w _), s3, s4⟩
      clear hcell hcell3 hs
      generalize E x = ex at *
      generalize G x = gx at *
      have HC : Hid (∀ n, Calls Tryz.prog 11 #[.slice ex.a ex.n ex.c, .slice gx.a gx.n gx.c] (w.drewN (nq + n)) fun e w' => e = .returned (.bool true) ∧ ∃ nx, w' = w.drewN (nq + nx)) := fun n => by
        obtain ⟨zs, s1, s2, s3, s4⟩ := hS.out n
        refine (same _ _ _ _ _ _ zs zs _ s1 s2 (by unfold maxLen; omega) (by unfold maxLen; omega)).mono ?_
        rintro e w' ⟨rfl, hw⟩
        obtain ⟨q, rfl⟩ := hw
        exact ⟨ret_bool (by simp [sameB]), n + q, by rw [World.drewN_drewN, Nat.add_assoc]⟩
      clear hS
      go_wp2
      go_quiet ((go_at_call 11; exact HC.out _))
      go_wp2
      go_roundw
      case rel => exact ⟨x + 1, _, by omega, by go_num, rfl⟩
      case measure => simp [intOf]; omega
    · have HD : Hid (Drawn w (w.drewN nq)) := drawnN w nq
      clear hs hg hg3
      go_wp2
      go_loop [4] (fun i => i = .int .i64 0) (fun _ => 0)
      case atStart => exact rfl
      case round =>
        obtain rfl := hrel
        go_wp2
        go_loop [5] (fun i => i = .int .i64 0) (fun _ => 0)
        case atStart => exact rfl
        case round =>
          obtain rfl := hrel
          go_wp2
          go_loop [6] (fun i => i = .int .i64 0) (fun _ => 0)
          case atStart => exact rfl
          case round =>
            obtain rfl := hrel
            go_wp2
            go_loop [8] (fun i => i = .int .i64 0) (fun _ => 0)
            case atStart => exact rfl
            case round =>
              obtain rfl := hrel
              go_wp2
              go_loop [10] (fun i => i = .int .i64 0) (fun _ => 0)
              case atStart => exact rfl
              case round =>
                obtain rfl := hrel
                go_wp2
                go_ret
                exact ⟨rfl, HD.out⟩

set_option maxHeartbeats 400000 in
theorem untouched_ (k base m : Nat) (ps : Int) (E G : Nat → Ent) (v2 v3 v4 : Value) (w : World) (h : Bk w k ps v2 v3 v4) (ht : w.ownsRow base 44 1 v2 m (vals m E)) (hu : w.ownsRow base 44 1 v3 m (vals m G)) (hs : ∀ i, i < m → SameE w (E i) (G i)) (hm : m ≤ 1000) :
    Calls Tryz.prog 32 #[.pointer (some ⟨k, 0, none⟩)] w fun en w' => en = .returned (.bool true) ∧ Drawn w w' := by
  go_enter Tryz.func32, Tryz.ntmps32
  go_wp2_with fail
  refine (was_ k base m ps E G v2 v3 v4 w h ht hu hs hm).mono ?_
  rintro en w1 ⟨rfl, hd⟩
  have h1 : Bk w1 k ps v2 v3 v4 := h.at (by rw [hd.heap])
  clear h ht hu hs
  go_wp2_with fail
  refine (wasOf_ k ps v2 v3 v4 w1 h1).mono ?_
  rintro en w' ⟨rfl, hw⟩
  obtain rfl := hw.symm
  clear hw
  go_wp2_with fail
  refine (wasToo_ k ps v2 v3 v4 w1 h1).mono ?_
  rintro en w' ⟨rfl, hw⟩
  obtain rfl := hw.symm
  clear hw
  go_wp2_with fail
  go_ret
  exact ⟨rfl, hd⟩
end Go.Proofs.YtmgoabedickooaaGreatDoor.Kp
namespace Go.Proofs.YtmgoabedickooaaGreatDoor.Kp
set_option maxRecDepth 100000
open Go.RowKit
set_option linter.unusedVariables false

theorem own_nil (w : World) (base : Nat) (F : Nat → Ent) : w.ownsRow base 44 1 (.slice none 0 0) 0 (vals 0 F) := ⟨by simp [vals], .inl ⟨rfl, rfl⟩⟩
theorem Wz.ofDrawn {p : Nat → Nat → Prop} {w w' : World} (h : Drawn w w') : Wz p w w' := .ofWk (.ofDrawn h)
theorem Wz.bkset {p : Nat → Nat → Prop} {w : World} {k : Nat} {ps : Int} {v2 v3 v4 : Value} (h : Bk w k ps v2 v3 v4) (i : Nat) (v : Value) : Wz p w (w.setCell ⟨k, i, none⟩ v) :=
  .ofGrown ((Only.refl k w).set i v).grown fun b hb _ => by
    obtain rfl := Option.some.inj hb
    exact .inr ⟨_, _, h⟩
theorem own_set {w : World} {base k m : Nat} {ps : Int} {v2 v3 v4 v : Value} {xs : List Value} (hk : Bk w k ps v2 v3 v4) (h : w.ownsRow base 44 1 v m xs) (i : Nat) (z : Value) : (w.setCell ⟨k, i, none⟩ z).ownsRow base 44 1 v m xs :=
  own_at h fun q hq => Below.heap_setCell w _ _ q fun e => by
    obtain ⟨cur, hc⟩ := own_blk h hq
    have e' : q = k := e
    unfold Bk at hk
    rw [e', hk] at hc
    simp at hc
theorem els_ins {w : World} {m : Nat} {E : Nat → Ent} (hok : ∀ i, i < m → (E i).Ok w) (b i : Nat) (h : Els m E b i) : Ins m E b i := by
  obtain ⟨q, hq, he⟩ := h
  exact ⟨q, hq, he.mem (hok q hq).1⟩
theorem els_blk {w : World} {m : Nat} {E : Nat → Ent} (hok : ∀ i, i < m → (E i).Ok w) (b i : Nat) (h : Els m E b i) : ∃ cur, w.heap[b]? = some (.cells cur 5 (0, 0)) := by
  obtain ⟨q, hq, he⟩ := h
  exact he.blk (hok q hq)

theorem els_low {w : World} {base m : Nat} {E : Nat → Ent} (h : ∀ l, l < m → ∀ b x, (E l).In b x → base ≤ b) (hok : ∀ i, i < m → (E i).Ok w) (b : Nat) (hb : b < base) (i : Nat) : ¬ Els m E b i := fun he => by
  obtain ⟨q, hq, hi⟩ := els_ins hok b i he
  have := h q hq b i hi; omega

set_option maxHeartbeats 1000000 in
theorem finish_ (k base m : Nat) (E G : Nat → Ent) (v2 v3 : Value) (w : World) (h : Bk w k 0 v2 v3 (.slice none 0 0)) (ht : w.ownsRow base 44 1 v2 m (vals m E)) (hu : w.ownsRow base 44 1 v3 m (vals m G)) (hs : ∀ i, i < m → SameE w (E i) (G i)) (hok : ∀ i, i < m → (E i).Ok w ∧ (E i).n ≤ 5000) (hdj : Dj m E) (hm : m ≤ 1000) (hlow : base ≤ k ∧ base ≤ w.heap.size ∧ ∀ l, l < m → ∀ b x, (E l).In b x → base ≤ b) :
    Calls Tryz.prog 13 #[.pointer (some ⟨k, 0, none⟩)] w fun en w' => en = .returned (.bool true) ∧ Wz (Ins m E) w w' ∧ ∀ b, b < base → w'.heap[b]? = w.heap[b]? := by
  have sz : ∀ i, i < m → (E i).n ≤ 1000000 := fun i hi => by have := (hok i hi).2; omega
  go_enter Tryz.func13, Tryz.ntmps13
  go_wp2_with fail
  refine (untouched_ k base m 0 E G v2 v3 _ w h ht hu hs hm).mono ?_
  rintro en w1 ⟨rfl, hd⟩
  have z1 : Wz (Ins m E) w w1 := .ofDrawn hd
  have h1 : Bk w1 k 0 v2 v3 (.slice none 0 0) := h.at (by rw [hd.heap])
  have b1 : ∀ b, b < base → w1.heap[b]? = w.heap[b]? := fun b _ => by rw [hd.heap]
  have t1 : w1.ownsRow base 44 1 v2 m (vals m E) := own_at ht fun q _ => by rw [hd.heap]
  have ok1 : ∀ i, i < m → (E i).Ok w1 := fun i hi => (hok i hi).1.wz z1
  clear h ht hu hs hd
  go_wp2_with fail
  refine (write_ k base m 0 E v2 v3 _ w1 h1 t1 ok1 hdj hm).mono ?_
  rintro en w2 ⟨rfl, hW, hS⟩
  have h2 := bk_wk h1 hW (els_blk ok1)
  have t2 := tab_wk t1 hW (els_blk ok1)
  have b2 : ∀ b, b < base → w2.heap[b]? = w.heap[b]? := fun b hb => (hW.same b (by have := hlow.2.1; have := z1.size; omega) (els_low hlow.2.2 ok1 b hb)).trans (b1 b hb)
  have z2 : Wz (Ins m E) w w2 := z1.trans (.ofWk (hW.weak (els_ins ok1)))
  clear h1 t1 ok1 hW z1
  go_wp2_with fail
  refine (holds_ k base m 0 0 E E v2 v3 _ w2 h2 t2 (own_nil w2 base E) (.inl rfl) (fun i hi => ⟨sz i hi, hS i hi⟩) (fun i hi => by omega) hm).mono ?_
  rintro en w' ⟨rfl, hw⟩
  obtain rfl := hw.symm
  clear hw hS
  have c1 := h2.c1
  have f1 := h2.fz 1
  have h3 := h2.set1 1
  have t3 := own_set h2 t2 1 (.int .i64 1)
  have b3 : ∀ b, b < base → (w2.setCell ⟨k, 1, none⟩ (.int .i64 1)).heap[b]? = w.heap[b]? := fun b hb => (Below.heap_setCell w2 _ _ b (fun e => by have e' : b = k := e; have := hlow.1; omega)).trans (b2 b hb)
  have z3 : Wz (Ins m E) w (w2.setCell ⟨k, 1, none⟩ (.int .i64 1)) := z2.trans (Wz.bkset h2 1 _)
  clear h2 t2 z2
  go_wp2_with fail
  generalize w2.setCell ⟨k, 1, none⟩ (.int .i64 1) = w3 at *
  clear c1 f1
  have ok3 : ∀ i, i < m → (E i).Ok w3 := fun i hi => (hok i hi).1.wz z3
  refine (write_ k base m 1 E v2 v3 _ w3 h3 t3 ok3 hdj hm).mono ?_
  rintro en w4 ⟨rfl, hW, hS⟩
  have h4 := bk_wk h3 hW (els_blk ok3)
  have t4 := tab_wk t3 hW (els_blk ok3)
  have b4 : ∀ b, b < base → w4.heap[b]? = w.heap[b]? := fun b hb => (hW.same b (by have := hlow.2.1; have := z3.size; omega) (els_low hlow.2.2 ok3 b hb)).trans (b3 b hb)
  have z4 : Wz (Ins m E) w w4 := z3.trans (.ofWk (hW.weak (els_ins ok3)))
  have ok4 : ∀ i, i < m → (E i).Ok w4 := fun i hi => (hok i hi).1.wz z4
  clear h3 t3 ok3 hW z3
  go_wp2_with fail
  refine (holds_ k base m 0 1 E E v2 v3 _ w4 h4 t4 (own_nil w4 base E) (.inl rfl) (fun i hi => ⟨sz i hi, hS i hi⟩) (fun i hi => by omega) hm).mono ?_
  rintro en w' ⟨rfl, hw⟩
  obtain rfl := hw.symm
  clear hw
  have st : St w4 w4 k base m 0 1 (fun _ => 1) E E v2 v3 (.slice none 0 0) :=
    ⟨h4, t4, own_nil w4 base E, fun q _ hq => by simp [Value.ownBlock] at hq, fun i hi => ⟨ok4 i hi, hS i hi⟩, fun i hi => by omega, fun i j hi => by omega, .refl _ _, ⟨hlow.1, Nat.le_trans hlow.2.1 z4.size, hlow.2.2⟩, fun _ _ => rfl⟩
  clear h4 t4 hS
  go_wp2_with fail
  refine (grow_ k base m 1 E E v2 v3 _ w4 st (fun i hi => ⟨ok4 i hi, (hok i hi).2⟩) hdj hm (Nat.le_trans hlow.2.1 z4.size)).mono ?_
  rintro en w5 ⟨rfl, F, v4', s5⟩
  clear st
  go_wp2_with fail
  refine (holds_ k base m m 1 E F v2 v3 v4' w5 s5.bk s5.t2 s5.t4 (.inr rfl) (fun i hi => ⟨sz i hi, (s5.e i hi).2⟩) (fun i hi => ⟨by have := (s5.f i hi).2.2.1; have := (hok i hi).2; omega, (s5.f i hi).2.1⟩) hm).mono ?_
  rintro en w' ⟨rfl, hw⟩
  obtain rfl := hw.symm
  clear hw
  go_wp2_with fail
  go_ret
  exact ⟨rfl, z4.trans s5.z, fun b hb => (s5.bl b hb).trans (b4 b hb)⟩
end Go.Proofs.YtmgoabedickooaaGreatDoor.Kp
namespace Go.Proofs.YtmgoabedickooaaGreatDoor.Kp
set_option maxRecDepth 100000
open Go.RowKit
set_option linter.unusedVariables false

theorem bs_wz {p : Nat → Nat → Prop} {w w' : World} {e : Ent} {zs : List Int} (h : Bs w e.a e.n zs) (ho : e.Ok w) (hw : Wz p w w') (hp : ∀ b i, e.El b i → ¬ p b i) : Bs w' e.a e.n zs := by
  obtain ⟨h1, h2, h3⟩ := h
  exact ⟨h1, h2, Ent.Sh.wz (f := fun j => zs.getD j 0) h3 ho hw hp⟩
theorem SameE.wz {w w' : World} {e f : Ent} (h : SameE w e f) (he : e.Ok w) (hf : f.Ok w) (hw : Wz (fun _ _ => False) w w') : SameE w' e f := by
  obtain ⟨zs, h1, h2, h3⟩ := h
  exact ⟨zs, bs_wz h1 he hw fun _ _ _ h => h, bs_wz h2 hf hw fun _ _ _ h => h, h3⟩
theorem bel_of_drew {w w' : World} (h : Below w.drew.heap.size w.drew w') : Below w.heap.size w w' := ⟨h.os, h.tape, h.output, h.size, h.block⟩
/-- A row of one's own, as a list. -/
theorem own_ent {w : World} {base n : Nat} {v : Value} {zs : List Int} (h : w.ownsRow base 5 1 v n (cells zs)) (hb : ∀ z ∈ zs, 0 ≤ z ∧ z ≤ 255) (hn : n ≤ 100000) :
    ∃ a c, v = .slice a n c ∧ Ent.Ok w ⟨a, n, c⟩ ∧ Bs w a n zs ∧ ∀ b x, Ent.In ⟨a, n, c⟩ b x → base ≤ b := by
  obtain ⟨a, cap, rfl, hB, h1, h2, h3⟩ := own_form h hb
  refine ⟨a, cap, rfl, ⟨h1, h2, hn, h3, ?_⟩, hB, ?_⟩
  · obtain ⟨_, q⟩ := h
    rcases q with ⟨e1, e2⟩ | ⟨g, cap', cur, e1, hb', hg, k1, k2, k3, k4⟩
    · simp at e1; exact .inl e1.2.2
    · simp at e1
      obtain ⟨rfl, rfl⟩ := e1
      exact .inr ⟨g, 0, cur, rfl, hg, by rw [k3]; simp⟩
  · rintro b x ⟨off, e1, _, _⟩
    obtain ⟨_, q⟩ := h
    rcases q with ⟨e2, _⟩ | ⟨g, cap', cur, e2, hb', _⟩
    · simp at e2; simp [e2.1] at e1
    · simp at e2
      obtain ⟨rfl, _⟩ := e2
      simp at e1
      omega

/-- A book that was told of m lists, and has taken a copy of mg. -/
structure Bo (w : World) (k base m mg : Nat) (E G : Nat → Ent) (v2 v3 : Value) : Prop where
  bk : Bk w k 0 v2 v3 (.slice none 0 0)
  t2 : w.ownsRow base 44 1 v2 m (vals m E)
  t3 : w.ownsRow base 44 1 v3 mg (vals mg G)
  sep : ∀ q, v2.ownBlock = some q → v3.ownBlock ≠ some q
  e : ∀ i, i < m → (E i).Ok w ∧ (E i).n ≤ 5000
  g : ∀ i, i < mg → (G i).Ok w ∧ SameE w (E i) (G i)
  d : Dj m E
theorem Bo.below {w w' : World} {k base m mg : Nat} {E G : Nat → Ent} {v2 v3 : Value} (h : Bo w k base m mg E G v2 v3) (hmg : mg ≤ m) (hb : Below w.heap.size w w') : Bo w' k base m mg E G v2 v3 := by
  have z : Wz (fun _ _ => False) w w' := .ofWk (.ofBelow hb)
  have kq : ∀ {v : Value} {n : Nat} {xs : List Value}, w.ownsRow base 44 1 v n xs → ∀ q, v.ownBlock = some q → w'.heap[q]? = w.heap[q]? := fun ho q hq => by
    obtain ⟨cur, hc⟩ := own_blk ho hq
    exact hb.block q (Array.getElem?_eq_some_iff.1 hc).1
  exact ⟨h.bk.at (hb.block k h.bk.lt), own_at h.t2 (kq h.t2), own_at h.t3 (kq h.t3), h.sep, fun i hi => ⟨(h.e i hi).1.wz z, (h.e i hi).2⟩, fun i hi => ⟨(h.g i hi).1.wz z, (h.g i hi).2.wz (h.e i (by omega)).1 (h.g i hi).1 z⟩, h.d⟩
/-- Another world, where nothing but a table and the book have turned. -/
theorem bo_grown {w w2 : World} {k base m : Nat} {v0 v2 v3 v4 : Value} {ps : Int} {n : Nat} {xs : List Value} (hbk : Bk w k ps v2 v3 v4) (h : w.ownsRow base 44 1 v0 n xs) (hg : w.grownBy w2 v0.ownBlock) :
    Bk w2 k ps v2 v3 v4 ∧ Wz (fun _ _ => False) w w2 := by
  have nk : some k ≠ v0.ownBlock := fun e => by
    obtain ⟨cur, hc⟩ := own_blk h e.symm
    have hb := hbk
    unfold Bk at hb; rw [hb] at hc; simp at hc
  exact ⟨hbk.at (hg.block k hbk.lt nk), .ofGrown hg fun b hb _ => by obtain ⟨cur, hc⟩ := own_blk h hb; exact .inl ⟨cur, _, hc⟩⟩
theorem bo_push2 {w w2 : World} {k base m g cap H : Nat} {E G : Nat → Ent} {v2 v3 : Value} {e : Ent} (h : Bo w k base m m E G v2 v3)
    (hown : w2.ownsRow base 44 1 (.slice (some ⟨g, 0, none⟩) (m + 1) cap) (m + 1) (vals m E ++ [e.val])) (hg : w.grownBy w2 v2.ownBlock) (hat : v2.ownBlock = some g ∨ g = H) (hH : w.heap.size = H)
    (ho : e.Ok w) (hn : e.n ≤ 5000) (hd : ∀ i, i < m → ∀ b x, (E i).In b x → ¬ e.In b x) :
    Bo (w2.setCell ⟨k, 2, none⟩ (.slice (some ⟨g, 0, none⟩) (m + 1) cap)) k base (m + 1) m (upd E m e) G (.slice (some ⟨g, 0, none⟩) (m + 1) cap) v3 ∧ Wz (fun _ _ => False) w (w2.setCell ⟨k, 2, none⟩ (.slice (some ⟨g, 0, none⟩) (m + 1) cap)) := by
  obtain ⟨b2, z1⟩ := bo_grown (m := m) h.bk h.t2 hg
  have z12 : Wz (fun _ _ => False) w (w2.setCell ⟨k, 2, none⟩ (.slice (some ⟨g, 0, none⟩) (m + 1) cap)) := z1.trans (Wz.bkset b2 2 _)
  have t3' : w2.ownsRow base 44 1 v3 m (vals m G) := own_at h.t3 fun q hq => by
    obtain ⟨cur, hc⟩ := own_blk h.t3 hq
    exact hg.block q (Array.getElem?_eq_some_iff.1 hc).1 fun e => h.sep q e.symm hq
  rw [vals_push] at hown
  refine ⟨⟨b2.set2 _, own_set b2 hown 2 _, own_set b2 t3' 2 _, ?_, fun l hl => ?_, fun l hl => ?_, ?_⟩, z12⟩
  · intro q hq e
    simp [Value.ownBlock] at hq
    subst hq
    rcases hat with hat | hat
    · exact h.sep _ hat e
    · obtain ⟨cur, hc⟩ := own_blk h.t3 e
      have := (Array.getElem?_eq_some_iff.1 hc).1
      omega
  · by_cases el : l = m
    · subst el; rw [upd_same]; exact ⟨ho.wz z12, hn⟩
    · rw [upd_other e el]; exact ⟨(h.e l (by omega)).1.wz z12, (h.e l (by omega)).2⟩
  · rw [upd_other e (by omega)]
    exact ⟨(h.g l hl).1.wz z12, (h.g l hl).2.wz (h.e l hl).1 (h.g l hl).1 z12⟩
  · intro x y hx hy hxy b c hbx hby
    by_cases ex : x = m
    · subst ex
      rw [upd_same] at hbx
      rw [upd_other e (fun q => hxy q.symm)] at hby
      exact hd y (by omega) b c hby hbx
    · rw [upd_other e ex] at hbx
      by_cases ey : y = m
      · subst ey; rw [upd_same] at hby; exact hd x (by omega) b c hbx hby
      · rw [upd_other e ey] at hby; exact h.d x y (by omega) (by omega) hxy b c hbx hby
theorem bo_push3 {w w2 : World} {k base m g cap H : Nat} {E G : Nat → Ent} {v2 v3 : Value} {f : Ent} (h : Bo w k base (m + 1) m E G v2 v3)
    (hown : w2.ownsRow base 44 1 (.slice (some ⟨g, 0, none⟩) (m + 1) cap) (m + 1) (vals m G ++ [f.val])) (hg : w.grownBy w2 v3.ownBlock) (hat : v3.ownBlock = some g ∨ g = H) (hH : w.heap.size = H)
    (ho : f.Ok w) (hs : SameE w (E m) f) :
    Bo (w2.setCell ⟨k, 3, none⟩ (.slice (some ⟨g, 0, none⟩) (m + 1) cap)) k base (m + 1) (m + 1) E (upd G m f) v2 (.slice (some ⟨g, 0, none⟩) (m + 1) cap) ∧ Wz (fun _ _ => False) w (w2.setCell ⟨k, 3, none⟩ (.slice (some ⟨g, 0, none⟩) (m + 1) cap)) := by
  obtain ⟨b2, z1⟩ := bo_grown (m := m) h.bk h.t3 hg
  have z12 : Wz (fun _ _ => False) w (w2.setCell ⟨k, 3, none⟩ (.slice (some ⟨g, 0, none⟩) (m + 1) cap)) := z1.trans (Wz.bkset b2 3 _)
  have t2' : w2.ownsRow base 44 1 v2 (m + 1) (vals (m + 1) E) := own_at h.t2 fun q hq => by
    obtain ⟨cur, hc⟩ := own_blk h.t2 hq
    exact hg.block q (Array.getElem?_eq_some_iff.1 hc).1 fun e => h.sep q hq e.symm
  rw [vals_push] at hown
  refine ⟨⟨b2.set3 _, own_set b2 t2' 3 _, own_set b2 hown 3 _, ?_, fun l hl => ⟨(h.e l hl).1.wz z12, (h.e l hl).2⟩, fun l hl => ?_, h.d⟩, z12⟩
  · intro q hq e
    simp [Value.ownBlock] at e
    subst e
    rcases hat with hat | hat
    · exact h.sep _ hq hat
    · obtain ⟨cur, hc⟩ := own_blk h.t2 hq
      have := (Array.getElem?_eq_some_iff.1 hc).1
      omega
  · by_cases el : l = m
    · subst el; rw [upd_same]; exact ⟨ho.wz z12, hs.wz (h.e l hl).1 ho z12⟩
    · rw [upd_other f el]
      have hl' : l < m := by omega
      exact ⟨(h.g l hl').1.wz z12, (h.g l hl').2.wz (h.e l hl).1 (h.g l hl').1 z12⟩

theorem low_set {w : World} {base k : Nat} (hk : base ≤ k) (b : Nat) (hb : b < base) (i : Nat) (v : Value) : (w.setCell ⟨k, i, none⟩ v).heap[b]? = w.heap[b]? :=
  Below.heap_setCell w _ _ b fun e => by have e' : b = k := e; omega
theorem low_grown {w w2 : World} {base n : Nat} {v : Value} {xs : List Value} (h : w.ownsRow base 44 1 v n xs) (hg : w.grownBy w2 v.ownBlock) (hs : base ≤ w.heap.size) (b : Nat) (hb : b < base) : w2.heap[b]? = w.heap[b]? :=
  hg.block b (by omega) fun e => by have := own_base h e.symm; omega

set_option maxHeartbeats 1000000 in
theorem bookBytes_ (k base m : Nat) (E G : Nat → Ent) (v2 v3 : Value) (e : Ent) (zs : List Int) (w : World) (h : Bo w k base m m E G v2 v3) (ho : e.Ok w) (hn : e.n ≤ 5000) (hb : Bs w e.a e.n zs) (hd : ∀ i, i < m → ∀ b x, (E i).In b x → ¬ e.In b x) (hm : m ≤ 999) (hbase : base ≤ w.heap.size) (hk : base ≤ k) :
    Calls Tryz.prog 12 #[.pointer (some ⟨k, 0, none⟩), e.val] w fun en w' => en = .returned (.tuple #[]) ∧ (∃ G' v2' v3', Bo w' k base (m + 1) (m + 1) (upd E m e) G' v2' v3') ∧ Wz (fun _ _ => False) w w' ∧ ∀ b, b < base → w'.heap[b]? = w.heap[b]? := by
  obtain ⟨i22, hi, hz0, hz1, hz2⟩ := info_parts info22
  obtain ⟨ea, en, ec⟩ := e
  show Calls _ _ #[_, .slice ea en ec] _ _
  obtain ⟨a2, c2, rfl, _⟩ := tab_at h.t2
  obtain ⟨a3, c3, rfl, _⟩ := tab_at h.t3
  have d2 := h.bk.c2
  have HA : Hid (Bo (w.alloc (.cells #[.slice ea en ec] 44)) k base m m E G (.slice a2 m c2) (.slice a3 m c3)) := h.below (Nat.le_refl _) (Below.refl _ _ |>.alloc (Nat.le_refl _) _)
  have ZA : Hid (Wz (fun _ _ => False) w (w.alloc (.cells #[.slice ea en ec] 44))) := .ofWk (.ofBelow (Below.refl _ _ |>.alloc (Nat.le_refl _) _))
  have HO : Hid (Ent.Ok w ⟨ea, en, ec⟩) := ho
  have HBs := hid hb
  have hn' : en ≤ 5000 := hn
  clear h ho hb hn
  go_enter Tryz.func12, Tryz.ntmps12
  go_wp2_with (at_builtin; refine wpList_append_lies _ rfl _ _ 25 rfl base 44 i22 (.slice none 0 0) 1 24 Tryz.underlying25 hi hz0 hz1 hz2 rfl (by decide) (.slice a2 m c2) m (vals m E) rfl HA.out.t2 ⟨w.heap.size, 0, none⟩ 1 1 [.slice ea en ec] rfl rfl (fun j u hj => by
          match j, hj with
          | 0, hj => simp at hj; subst hj; simp [Addr.add]) (by intro u hu; simp at hu; subst hu; rfl) (by omega) (by unfold maxLen; omega) (by omega) (by simp; omega) _ rfl ?_)
  intro g cap w1 hown hgrow hat hltg
  have y := (bo_grown (m := m) HA.out.bk HA.out.t2 hgrow).1
  have y2 := y.c2
  have f2 := y.fz 2
  have HP := hid (bo_push2 (e := ⟨ea, en, ec⟩) HA.out hown hgrow hat (by simp) (HO.out.wz ZA.out) hn' hd)
  have HW := hid (ZA.out.trans HP.out.2)
  have L1 : Hid (∀ b, b < base → (w1.setCell ⟨k, 2, none⟩ (.slice (some ⟨g, 0, none⟩) (m + 1) cap)).heap[b]? = w.heap[b]?) := fun b hb =>
    ((low_set hk b hb _ _).trans (low_grown HA.out.t2 hgrow (by simp; omega) b hb)).trans (Below.heap_alloc w _ b (by omega))
  clear y hown hgrow hat hltg d2
  go_wp2_with fail
  generalize hwv : w1.setCell ⟨k, 2, none⟩ (.slice (some ⟨g, 0, none⟩) (m + 1) cap) = wv at *
  clear hwv y2 f2
  have HQ := hid HP.out.1
  clear HP
  have B0 : Hid (Bs wv ea en zs) := bs_wz (e := ⟨ea, en, ec⟩) HBs.out HO.out HW.out fun _ _ _ h => h
  have B1 : Hid (Bs wv.drew ea en zs) := B0.out
  have p3 := HQ.out.bk.c3
  go_region_law (first
    | (go_simp; go_at_call 31; refine (refBytes ea en ec zs _ B1.out (by omega)).mono ?_; rintro en' w2 ⟨v, rfl, hv, hbl⟩; replace hbl := bel_of_drew hbl; obtain ⟨fa, fc, rfl, hfok, hfb, hfr⟩ := own_ent hv B1.out.2.1 (by omega)
       have ZB : Wz (fun _ _ => False) wv w2 := .ofWk (.ofBelow hbl)
       have HQ2 := hid (Bo.below HQ.out (Nat.le_succ m) hbl)
       have q3 := HQ2.out.bk.c3
       have HD : Hid (Bo (w2.alloc (.cells #[.slice fa en fc] 44)) k base (m + 1) m (upd E m ⟨ea, en, ec⟩) G (.slice (some ⟨g, 0, none⟩) (m + 1) cap) (.slice a3 m c3)) := HQ2.out.below (Nat.le_succ m) (Below.refl _ _ |>.alloc (Nat.le_refl _) _)
       have q3a := HD.out.bk.c3
       have ZD : Hid (Wz (fun _ _ => False) w2 (w2.alloc (.cells #[.slice fa en fc] 44))) := .ofWk (.ofBelow (Below.refl _ _ |>.alloc (Nat.le_refl _) _))
       have HF : Hid (Ent.Ok w2 ⟨fa, en, fc⟩ ∧ SameE w2 ⟨ea, en, ec⟩ ⟨fa, en, fc⟩) := ⟨hfok, zs, bs_wz (e := ⟨ea, en, ec⟩) B0.out (HO.out.wz HW.out) ZB (fun _ _ _ h => h), hfb, by show en ≤ 100000; omega, by show en ≤ 100000; omega⟩
       have hbs2 : base ≤ w2.heap.size := Nat.le_trans hbase (Nat.le_trans HW.out.size ZB.size)
       have HZ := hid (HW.out.trans ZB)
       have L2 : Hid (∀ b, b < base → (w2.alloc (.cells #[.slice fa en fc] 44)).heap[b]? = w.heap[b]?) := fun b hb => ((Below.heap_alloc w2 _ b (by omega)).trans (hbl.block b (Nat.lt_of_lt_of_le hb (Nat.le_trans hbase HW.out.size)))).trans (L1.out b hb)
       clear hfok hfb hfr hv hbl ZB)
    | (refine step_append_lies _ rfl (.tmp 18) (.tmp 21) 25 rfl base 44 i22 (.slice none 0 0) 1 24 Tryz.underlying25 hi hz0 hz1 hz2 rfl (by decide) (.slice a3 m c3) m (vals m G) rfl HD.out.t3 ⟨w2.heap.size, 0, none⟩ 1 1 [.slice fa en fc] rfl rfl (fun j u hj => by
          match j, hj with
          | 0, hj => simp at hj; subst hj; simp [Addr.add]) (by intro u hu; simp at hu; subst hu; rfl) (by omega) (by unfold maxLen; omega) (by omega) (by simp; omega) _ rfl ?_; intro g3 cap3 w3 hown hgrow hat hltg; have y := (bo_grown (m := m) HD.out.bk HD.out.t3 hgrow).1; have y3 := y.c3; have f3 := y.fz 3; clear y))
  all_goals
    have HR := hid (bo_push3 (f := ⟨fa, en, fc⟩) HD.out hown hgrow hat (by simp) (HF.out.1.wz ZD.out) (by rw [upd_same]; exact HF.out.2.wz (HO.out.wz HZ.out) HF.out.1 ZD.out))
    have L3 : Hid (∀ b, b < base → (w3.setCell ⟨k, 3, none⟩ (.slice (some ⟨g3, 0, none⟩) (m + 1) cap3)).heap[b]? = w.heap[b]?) := fun b hb =>
      ((low_set hk b hb _ _).trans (low_grown HD.out.t3 hgrow (by simp; omega) b hb)).trans (L2.out b hb)
    clear hown hgrow hat hltg y3 f3
    go_wp2_with fail
    go_end0
    exact ⟨rfl, ⟨_, _, _, HR.out.1⟩, HZ.out.trans (ZD.out.trans HR.out.2), L3.out⟩
end Go.Proofs.YtmgoabedickooaaGreatDoor.Kp
namespace Go.Proofs.YtmgoabedickooaaGreatDoor.Kp
set_option maxRecDepth 100000
open Go.RowKit
set_option linter.unusedVariables false

set_option maxHeartbeats 1000000 in
theorem bookBytes5_ (k base m : Nat) (E G : Nat → Ent) (v2 v3 : Value) (e : Ent) (zs : List Int) (w : World) (h : Bo w k base m m E G v2 v3) (ho : e.Ok w) (hn : e.n ≤ 5000) (hb : Bs w e.a e.n zs) (hd : ∀ i, i < m → ∀ b x, (E i).In b x → ¬ e.In b x) (hm : m ≤ 999) (hbase : base ≤ w.heap.size) (hk : base ≤ k) :
    Calls Tryz.prog 12 #[.pointer (some ⟨k, 0, none⟩), e.val] w fun en w' => en = .returned (.tuple #[]) ∧ (∃ f v2' v3', Bo w' k base (m + 1) (m + 1) (upd E m e) (upd G m f) v2' v3' ∧ ∀ b x, f.In b x → w.heap.size ≤ b) ∧ Wz (fun _ _ => False) w w' ∧ ∀ b, b < base → w'.heap[b]? = w.heap[b]? := by
  obtain ⟨i22, hi, hz0, hz1, hz2⟩ := info_parts info22
  obtain ⟨ea, en, ec⟩ := e
  show Calls _ _ #[_, .slice ea en ec] _ _
  obtain ⟨a2, c2, rfl, _⟩ := tab_at h.t2
  obtain ⟨a3, c3, rfl, _⟩ := tab_at h.t3
  have d2 := h.bk.c2
  have HA : Hid (Bo (w.alloc (.cells #[.slice ea en ec] 44)) k base m m E G (.slice a2 m c2) (.slice a3 m c3)) := h.below (Nat.le_refl _) (Below.refl _ _ |>.alloc (Nat.le_refl _) _)
  have ZA : Hid (Wz (fun _ _ => False) w (w.alloc (.cells #[.slice ea en ec] 44))) := .ofWk (.ofBelow (Below.refl _ _ |>.alloc (Nat.le_refl _) _))
  have HO : Hid (Ent.Ok w ⟨ea, en, ec⟩) := ho
  have HBs := hid hb
  have hn' : en ≤ 5000 := hn
  clear h ho hb hn
  go_enter Tryz.func12, Tryz.ntmps12
  go_wp2_with (at_builtin; refine wpList_append_lies _ rfl _ _ 25 rfl base 44 i22 (.slice none 0 0) 1 24 Tryz.underlying25 hi hz0 hz1 hz2 rfl (by decide) (.slice a2 m c2) m (vals m E) rfl HA.out.t2 ⟨w.heap.size, 0, none⟩ 1 1 [.slice ea en ec] rfl rfl (fun j u hj => by
          match j, hj with
          | 0, hj => simp at hj; subst hj; simp [Addr.add]) (by intro u hu; simp at hu; subst hu; rfl) (by omega) (by unfold maxLen; omega) (by omega) (by simp; omega) _ rfl ?_)
  intro g cap w1 hown hgrow hat hltg
  have y := (bo_grown (m := m) HA.out.bk HA.out.t2 hgrow).1
  have y2 := y.c2
  have f2 := y.fz 2
  have HP := hid (bo_push2 (e := ⟨ea, en, ec⟩) HA.out hown hgrow hat (by simp) (HO.out.wz ZA.out) hn' hd)
  have HW := hid (ZA.out.trans HP.out.2)
  have L1 : Hid (∀ b, b < base → (w1.setCell ⟨k, 2, none⟩ (.slice (some ⟨g, 0, none⟩) (m + 1) cap)).heap[b]? = w.heap[b]?) := fun b hb =>
    ((low_set hk b hb _ _).trans (low_grown HA.out.t2 hgrow (by simp; omega) b hb)).trans (Below.heap_alloc w _ b (by omega))
  clear y hown hgrow hat hltg d2
  go_wp2_with fail
  generalize hwv : w1.setCell ⟨k, 2, none⟩ (.slice (some ⟨g, 0, none⟩) (m + 1) cap) = wv at *
  clear hwv y2 f2
  have HQ := hid HP.out.1
  clear HP
  have B0 : Hid (Bs wv ea en zs) := bs_wz (e := ⟨ea, en, ec⟩) HBs.out HO.out HW.out fun _ _ _ h => h
  have B1 : Hid (Bs wv.drew ea en zs) := B0.out
  have p3 := HQ.out.bk.c3
  go_region_law (first
    | (go_simp; go_at_call 31; refine (refBytes ea en ec zs _ B1.out (by omega)).mono ?_; rintro en' w2 ⟨v, rfl, hv, hbl⟩; replace hbl := bel_of_drew hbl; obtain ⟨fa, fc, rfl, hfok, hfb, hfr⟩ := own_ent hv B1.out.2.1 (by omega)
       have ZB : Wz (fun _ _ => False) wv w2 := .ofWk (.ofBelow hbl)
       have HQ2 := hid (Bo.below HQ.out (Nat.le_succ m) hbl)
       have q3 := HQ2.out.bk.c3
       have HD : Hid (Bo (w2.alloc (.cells #[.slice fa en fc] 44)) k base (m + 1) m (upd E m ⟨ea, en, ec⟩) G (.slice (some ⟨g, 0, none⟩) (m + 1) cap) (.slice a3 m c3)) := HQ2.out.below (Nat.le_succ m) (Below.refl _ _ |>.alloc (Nat.le_refl _) _)
       have q3a := HD.out.bk.c3
       have ZD : Hid (Wz (fun _ _ => False) w2 (w2.alloc (.cells #[.slice fa en fc] 44))) := .ofWk (.ofBelow (Below.refl _ _ |>.alloc (Nat.le_refl _) _))
       have HF : Hid (Ent.Ok w2 ⟨fa, en, fc⟩ ∧ SameE w2 ⟨ea, en, ec⟩ ⟨fa, en, fc⟩) := ⟨hfok, zs, bs_wz (e := ⟨ea, en, ec⟩) B0.out (HO.out.wz HW.out) ZB (fun _ _ _ h => h), hfb, by show en ≤ 100000; omega, by show en ≤ 100000; omega⟩
       have hbs2 : base ≤ w2.heap.size := Nat.le_trans hbase (Nat.le_trans HW.out.size ZB.size)
       have HZ := hid (HW.out.trans ZB)
       have L2 : Hid (∀ b, b < base → (w2.alloc (.cells #[.slice fa en fc] 44)).heap[b]? = w.heap[b]?) := fun b hb => ((Below.heap_alloc w2 _ b (by omega)).trans (hbl.block b (Nat.lt_of_lt_of_le hb (Nat.le_trans hbase HW.out.size)))).trans (L1.out b hb)
       have HFR : Hid (∀ b x, Ent.In ⟨fa, en, fc⟩ b x → w.heap.size ≤ b) := fun b x hx => Nat.le_trans HW.out.size (hfr b x hx)
       clear hfok hfb hfr hv hbl ZB)
    | (refine step_append_lies _ rfl (.tmp 18) (.tmp 21) 25 rfl base 44 i22 (.slice none 0 0) 1 24 Tryz.underlying25 hi hz0 hz1 hz2 rfl (by decide) (.slice a3 m c3) m (vals m G) rfl HD.out.t3 ⟨w2.heap.size, 0, none⟩ 1 1 [.slice fa en fc] rfl rfl (fun j u hj => by
          match j, hj with
          | 0, hj => simp at hj; subst hj; simp [Addr.add]) (by intro u hu; simp at hu; subst hu; rfl) (by omega) (by unfold maxLen; omega) (by omega) (by simp; omega) _ rfl ?_; intro g3 cap3 w3 hown hgrow hat hltg; have y := (bo_grown (m := m) HD.out.bk HD.out.t3 hgrow).1; have y3 := y.c3; have f3 := y.fz 3; clear y))
  all_goals
    have HR := hid (bo_push3 (f := ⟨fa, en, fc⟩) HD.out hown hgrow hat (by simp) (HF.out.1.wz ZD.out) (by rw [upd_same]; exact HF.out.2.wz (HO.out.wz HZ.out) HF.out.1 ZD.out))
    have L3 : Hid (∀ b, b < base → (w3.setCell ⟨k, 3, none⟩ (.slice (some ⟨g3, 0, none⟩) (m + 1) cap3)).heap[b]? = w.heap[b]?) := fun b hb =>
      ((low_set hk b hb _ _).trans (low_grown HD.out.t3 hgrow (by simp; omega) b hb)).trans (L2.out b hb)
    clear hown hgrow hat hltg y3 f3
    go_wp2_with fail
    go_end0
    exact ⟨rfl, ⟨_, _, _, HR.out.1, HFR.out⟩, HZ.out.trans (ZD.out.trans HR.out.2), L3.out⟩
set_option maxHeartbeats 1000000 in
theorem finish5_ (k base m : Nat) (E G : Nat → Ent) (v2 v3 : Value) (w : World) (h : Bk w k 0 v2 v3 (.slice none 0 0)) (ht : w.ownsRow base 44 1 v2 m (vals m E)) (hu : w.ownsRow base 44 1 v3 m (vals m G)) (hs : ∀ i, i < m → SameE w (E i) (G i)) (hok : ∀ i, i < m → (E i).Ok w ∧ (E i).n ≤ 5000) (hdj : Dj m E) (hm : m ≤ 1000) (hlow : base ≤ k ∧ base ≤ w.heap.size ∧ ∀ l, l < m → ∀ b x, (E l).In b x → base ≤ b) :
    Calls Tryz.prog 13 #[.pointer (some ⟨k, 0, none⟩)] w fun en w' => en = .returned (.bool true) ∧ Wz (Ins m E) w w' ∧ (∀ b, b < base → w'.heap[b]? = w.heap[b]?) ∧ ∃ w4 F v4', w.heap.size ≤ w4.heap.size ∧ St w4 w' k base m m 1 (fun _ => 70) E F v2 v3 v4' := by
  have sz : ∀ i, i < m → (E i).n ≤ 1000000 := fun i hi => by have := (hok i hi).2; omega
  go_enter Tryz.func13, Tryz.ntmps13
  go_wp2_with fail
  refine (untouched_ k base m 0 E G v2 v3 _ w h ht hu hs hm).mono ?_
  rintro en w1 ⟨rfl, hd⟩
  have z1 : Wz (Ins m E) w w1 := .ofDrawn hd
  have h1 : Bk w1 k 0 v2 v3 (.slice none 0 0) := h.at (by rw [hd.heap])
  have b1 : ∀ b, b < base → w1.heap[b]? = w.heap[b]? := fun b _ => by rw [hd.heap]
  have t1 : w1.ownsRow base 44 1 v2 m (vals m E) := own_at ht fun q _ => by rw [hd.heap]
  have ok1 : ∀ i, i < m → (E i).Ok w1 := fun i hi => (hok i hi).1.wz z1
  clear h ht hu hs hd
  go_wp2_with fail
  refine (write_ k base m 0 E v2 v3 _ w1 h1 t1 ok1 hdj hm).mono ?_
  rintro en w2 ⟨rfl, hW, hS⟩
  have h2 := bk_wk h1 hW (els_blk ok1)
  have t2 := tab_wk t1 hW (els_blk ok1)
  have b2 : ∀ b, b < base → w2.heap[b]? = w.heap[b]? := fun b hb => (hW.same b (by have := hlow.2.1; have := z1.size; omega) (els_low hlow.2.2 ok1 b hb)).trans (b1 b hb)
  have z2 : Wz (Ins m E) w w2 := z1.trans (.ofWk (hW.weak (els_ins ok1)))
  clear h1 t1 ok1 hW z1
  go_wp2_with fail
  refine (holds_ k base m 0 0 E E v2 v3 _ w2 h2 t2 (own_nil w2 base E) (.inl rfl) (fun i hi => ⟨sz i hi, hS i hi⟩) (fun i hi => by omega) hm).mono ?_
  rintro en w' ⟨rfl, hw⟩
  obtain rfl := hw.symm
  clear hw hS
  have c1 := h2.c1
  have f1 := h2.fz 1
  have h3 := h2.set1 1
  have t3 := own_set h2 t2 1 (.int .i64 1)
  have b3 : ∀ b, b < base → (w2.setCell ⟨k, 1, none⟩ (.int .i64 1)).heap[b]? = w.heap[b]? := fun b hb => (Below.heap_setCell w2 _ _ b (fun e => by have e' : b = k := e; have := hlow.1; omega)).trans (b2 b hb)
  have z3 : Wz (Ins m E) w (w2.setCell ⟨k, 1, none⟩ (.int .i64 1)) := z2.trans (Wz.bkset h2 1 _)
  clear h2 t2 z2
  go_wp2_with fail
  generalize w2.setCell ⟨k, 1, none⟩ (.int .i64 1) = w3 at *
  clear c1 f1
  have ok3 : ∀ i, i < m → (E i).Ok w3 := fun i hi => (hok i hi).1.wz z3
  refine (write_ k base m 1 E v2 v3 _ w3 h3 t3 ok3 hdj hm).mono ?_
  rintro en w4 ⟨rfl, hW, hS⟩
  have h4 := bk_wk h3 hW (els_blk ok3)
  have t4 := tab_wk t3 hW (els_blk ok3)
  have b4 : ∀ b, b < base → w4.heap[b]? = w.heap[b]? := fun b hb => (hW.same b (by have := hlow.2.1; have := z3.size; omega) (els_low hlow.2.2 ok3 b hb)).trans (b3 b hb)
  have z4 : Wz (Ins m E) w w4 := z3.trans (.ofWk (hW.weak (els_ins ok3)))
  have ok4 : ∀ i, i < m → (E i).Ok w4 := fun i hi => (hok i hi).1.wz z4
  clear h3 t3 ok3 hW z3
  go_wp2_with fail
  refine (holds_ k base m 0 1 E E v2 v3 _ w4 h4 t4 (own_nil w4 base E) (.inl rfl) (fun i hi => ⟨sz i hi, hS i hi⟩) (fun i hi => by omega) hm).mono ?_
  rintro en w' ⟨rfl, hw⟩
  obtain rfl := hw.symm
  clear hw
  have st : St w4 w4 k base m 0 1 (fun _ => 1) E E v2 v3 (.slice none 0 0) :=
    ⟨h4, t4, own_nil w4 base E, fun q _ hq => by simp [Value.ownBlock] at hq, fun i hi => ⟨ok4 i hi, hS i hi⟩, fun i hi => by omega, fun i j hi => by omega, .refl _ _, ⟨hlow.1, Nat.le_trans hlow.2.1 z4.size, hlow.2.2⟩, fun _ _ => rfl⟩
  clear h4 t4 hS
  go_wp2_with fail
  refine (grow_ k base m 1 E E v2 v3 _ w4 st (fun i hi => ⟨ok4 i hi, (hok i hi).2⟩) hdj hm (Nat.le_trans hlow.2.1 z4.size)).mono ?_
  rintro en w5 ⟨rfl, F, v4', s5⟩
  clear st
  go_wp2_with fail
  refine (holds_ k base m m 1 E F v2 v3 v4' w5 s5.bk s5.t2 s5.t4 (.inr rfl) (fun i hi => ⟨sz i hi, (s5.e i hi).2⟩) (fun i hi => ⟨by have := (s5.f i hi).2.2.1; have := (hok i hi).2; omega, (s5.f i hi).2.1⟩) hm).mono ?_
  rintro en w' ⟨rfl, hw⟩
  obtain rfl := hw.symm
  clear hw
  go_wp2_with fail
  go_ret
  exact ⟨rfl, z4.trans s5.z, fun b hb => (s5.bl b hb).trans (b4 b hb), w4, F, v4', z4.size, s5⟩
end Go.Proofs.YtmgoabedickooaaGreatDoor.Kp
