import Derived.Test.YtbdkmjjjafbaoaaKO
import Derived.Deep.RegionWith
import Derived.Deep.CutRange
namespace Go.Proofs.Ytbdkmjjjafbaoaa
open Go.RowKit
set_option linter.unusedVariables false
set_option maxRecDepth 100000

/-- Two pairs beside one another. -/
structure Ab (w0 w : World) (q : Nat) (F : Int) (m : Nat) (f : Bool) (q' : Nat) (F' : Int) (m' : Nat) (f' : Bool) (N : Nat) : Prop where
  ex : ∃ X Y, Pz w0 w X q F m f N ∧ Pz w0 w Y q' F' m' f' N ∧ ∀ k, X k → ¬ Y k
section
variable {w0 w w' : World} {q : Nat} {F : Int} {m : Nat} {f : Bool} {q' : Nat} {F' : Int} {m' : Nat} {f' : Bool} {N : Nat}
theorem Ab.swap (h : Ab w0 w q F m f q' F' m' f' N) : Ab w0 w q' F' m' f' q F m f N := by
  obtain ⟨X, Y, h1, h2, h3⟩ := h.ex
  exact ⟨Y, X, h2, h1, fun k a b => h3 k b a⟩
theorem Ab.bel (h : Ab w0 w q F m f q' F' m' f' N) : Below w0.heap.size w0 w := by
  obtain ⟨X, Y, h1, h2, h3⟩ := h.ex
  exact h1.bel
theorem Ab.more (h : Ab w0 w q F m f q' F' m' f' N) : Ab w0 w q F m f q' F' m' f' (N + 1) := by
  obtain ⟨X, Y, h1, h2, h3⟩ := h.ex
  exact ⟨X, Y, h1.more (by omega), h2.more (by omega), h3⟩
theorem Pz.drawn {X : Nat → Prop} (h : Pz w0 w X q F m f N) (nq : Nat) : Pz w0 (w.drewN nq) X q F m f N := h.fx (Y := fun _ => False) ((Fx.refl _ _).drawn (drawnN _ _)) (fun _ _ e => e) (fun _ e => e.elim)
theorem Ab.drawn (h : Ab w0 w q F m f q' F' m' f' N) (nq : Nat) : Ab w0 (w.drewN nq) q F m f q' F' m' f' N := by
  obtain ⟨X, Y, h1, h2, h3⟩ := h.ex
  exact ⟨X, Y, h1.drawn nq, h2.drawn nq, h3⟩
theorem Ab.c0 (h : Ab w0 w q F m true q' F' m' f' N) : ∃ p, w.cell? ⟨q, 0, none⟩ = some (.pointer (some ⟨p, 0, none⟩)) := by
  obtain ⟨X, Y, h1, h2, h3⟩ := h.ex
  exact h1.c0
theorem Ab.n0 (h : Ab w0 w q F m false q' F' m' f' N) : w.cell? ⟨q, 0, none⟩ = some (.pointer none) := by
  obtain ⟨X, Y, h1, h2, h3⟩ := h.ex
  exact (h1.no rfl).c0
theorem Ab.plays (h : Ab w0 w q F m true q' F' m' f' N) (hN : N ≤ 99999) (kd : Int) {c : Int} (hc : u64r c) :
    Calls Try.prog 11 #[.pointer (some ⟨q, 0, none⟩), .int .i64 kd, .int .u64 c] w fun e w' => e = .returned (.bool true) ∧ Ab w0 w' q F m true q' F' m' f' (N + 1) := by
  obtain ⟨X, Y, h1, h2, h3⟩ := h.ex
  refine (h1.plays hN kd hc).mono ?_
  rintro e w1 ⟨rfl, X', h4, h5, h6⟩
  refine ⟨rfl, X', Y, h4, (h2.fx h5 (fun k a b => h3 k b a) (fun k e => (h1.lo k e).1)).more (by omega), fun k a b => ?_⟩
  rcases h6 k a with e | e
  · exact h3 k e b
  · have := (h2.lo k b).2; omega
theorem Ab.of {X Y : Nat → Prop} (h : Pz w0 w X q F m f N) (k : Pz w0 w' Y q' F' m' f' N) (hb : Below w.heap.size w w') (hY : ∀ k, Y k → w.heap.size ≤ k) : Ab w0 w' q F m f q' F' m' f' N :=
  ⟨X, Y, h.fx (Y := fun _ => False) (Fx.of _ hb) (fun _ _ e => e) (fun _ e => e.elim), k, fun z a b => by have h1 := (h.lo z a).2; have h2 := hY z b; omega⟩
end
theorem begin_any (w0 : World) (F width : Int) (hF : u64r F) (hw : i64r width) : ∃ m fit, ∀ w, Below w0.heap.size w0 w → Calls Try.prog 10 #[.int .u64 F, .int .i64 width] w (BgP w0 w F m fit) := by
  by_cases h : fitP width
  · obtain ⟨m, h1, h2, h3⟩ := fit_of h
    exact ⟨m, true, fun w hb => begin_yes w0 F width m w hb hF h1 h2 h3⟩
  · exact ⟨0, false, fun w hb => begin_no w0 F width 0 w hb hw h⟩
set_option maxHeartbeats 8000000 in
/-- WindowPlays. -/
theorem windowPlays_ (F F' width wide : Int) (a : Option Addr) (n cp : Nat) (l : List Wop) (w : World) (hF : u64r F) (hF' : u64r F') (hw : i64r width) (hw' : i64r wide) (hl : Opl w a n l) :
    Calls Try.prog 3 #[.int .u64 F, .int .u64 F', .int .i64 width, .int .i64 wide, .slice a n cp] w fun e w' => e = .returned (.bool true) ∧ Below w.heap.size w w' := by
  have HL := hid hl
  obtain ⟨m, f, kb⟩ := begin_any w F width hF hw
  obtain ⟨m', f', kb'⟩ := begin_any w F' wide hF' hw'
  have HKB := hid kb
  have HKB' := hid kb'
  clear hl kb kb'
  go_enter Try.func3, Try.ntmps3
  go_wp2_with fail
  refine (known_ w).mono ?_
  rintro e w1 ⟨rfl, g1⟩
  have k1 := HKB.out w1 g1
  clear g1
  go_wp2_with fail
  refine k1.mono ?_
  rintro e w2 ⟨q, X, rfl, h2, b2, x2⟩
  have H2 := hid h2
  have k2 := HKB'.out w2 h2.bel
  clear k1 h2 b2 x2
  go_wp2_with fail
  refine k2.mono ?_
  rintro e w3 ⟨q', Y, rfl, h3, b3, y3⟩
  have H3 := hid (Ab.of H2.out h3 b3 y3)
  clear k2 h3 b3 y3 H2
  go_wp2_with fail
  go_loopw [15] (fun i wr => ∃ j : Nat, j ≤ n ∧ (j : Int) ≤ 2000 ∧ i = .int .i64 j ∧ Hid (Ab w wr q F m f q' F' m' f' j)) (fun i _ => n - (intOf i).toNat)
  case atStart => exact ⟨0, by omega, by omega, rfl, H3⟩
  case round =>
    clear H3
    obtain ⟨j, hj, hj2, rfl, HT⟩ := hrel
    have HBL := hid HT.out.bel
    by_cases hlt : j < n ∧ (j : Int) < 2000
    case neg =>
      have hor : (j : Int) < n ∧ ¬ (j : Int) < 2000 ∨ ¬ (j : Int) < n := by omega
      clear hlt
      rcases hor with ⟨hjI, h20⟩ | hjI
      all_goals
        go_wp2_with fail
        go_ret
        exact ⟨rfl, HBL.out⟩
    case pos =>
      obtain ⟨hlt, h20⟩ := hlt
      have hjI : (j : Int) < n := by omega
      have HJ : Hid (j ≤ 99999) := by show _ ≤ _; omega
      obtain ⟨b, off, x, rfl, hkr, hcr, hat⟩ := HL.out.get hlt
      have hx := hat wr HT.out.bel
      obtain ⟨kd, sc, c⟩ := x
      simp only at hkr hcr
      have o0 := hx.o0
      have o1 := hx.o1
      have o2 := hx.o2
      simp only at o0 o1 o2
      have HC := hid hcr
      clear hat hx hkr hcr
      cases sc with
      | false =>
        cases f with
        | false =>
          have n0 := HT.out.n0
          go_wp2_with fail
          go_roundw
          case rel => exact ⟨j + 1, by omega, by omega, by go_num, HT.out.more⟩
          case measure => simp [intOf]; omega
        | true =>
          obtain ⟨p, n0⟩ := HT.out.c0
          have HK := hid fun nq => (HT.out.drawn nq).plays HJ.out kd HC.out
          go_wp2_with fail
          go_region_with (go_at_call 11; refine (HK.out _).mono ?_; rintro e w4 ⟨rfl, h4⟩; have H4 := hid h4; clear h4)
          all_goals
            clear HK HT n0 o0 o1 o2
            go_wp2_with fail
            go_roundw
            case rel => exact ⟨j + 1, by omega, by omega, by go_num, H4⟩
            case measure => simp [intOf]; omega
      | true =>
        cases f' with
        | false =>
          have n0 := HT.out.swap.n0
          go_wp2_with fail
          go_roundw
          case rel => exact ⟨j + 1, by omega, by omega, by go_num, HT.out.more⟩
          case measure => simp [intOf]; omega
        | true =>
          obtain ⟨p, n0⟩ := HT.out.swap.c0
          have HK := hid fun nq => (HT.out.swap.drawn nq).plays HJ.out kd HC.out
          go_wp2_with fail
          go_region_with (go_at_call 11; refine (HK.out _).mono ?_; rintro e w4 ⟨rfl, h4⟩; have H4 := hid h4.swap; clear h4)
          all_goals
            clear HK HT n0 o0 o1 o2
            go_wp2_with fail
            go_roundw
            case rel => exact ⟨j + 1, by omega, by omega, by go_num, H4⟩
            case measure => simp [intOf]; omega
end Go.Proofs.Ytbdkmjjjafbaoaa
