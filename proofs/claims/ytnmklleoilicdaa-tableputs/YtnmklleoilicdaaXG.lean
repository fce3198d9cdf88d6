import Derived.Test.YtnmklleoilicdaaXF
import Derived.Test.YtnmklleoilicdaaXB
namespace Go.Proofs.Ytnmklleoilicdaa
set_option maxRecDepth 100000
open Go.RowKit Go.Shelf Go.Maps
set_option linter.unusedVariables false

def okE (l : List Sx) : Int := if okS l then 0 else 114
def okB (l : List Sx) : List Int := if okS l then enc l else []
theorem okB_len (l : List Sx) (n : Nat) (h : l.length ≤ n) : (okB l).length ≤ 524 * n := by
  unfold okB
  split
  · rename_i e
    have := enc_len_of l (okFrom_may e)
    exact Nat.le_trans this (Nat.mul_le_mul_left _ h)
  · simp
theorem s_putA {w0 w : World} {V : Nat → Prop} (a : Option Addr) (n c m : Nat) (l : List Sx) (zs : List Int) (E : Int) (B : Below w0.heap.size w0 w) (h : Sl w V a n l) (hn : n ≤ 100000) (hz : okB l = zs) (hm : zs.length = m) (hE : okE l = E) :
    Calls Try.prog 9 #[.slice a n c] w fun e w' => ∃ a' c', e = .returned (.tuple #[.slice a' m c', .int .i64 E]) ∧ Vs w' (fun x => w.heap.size ≤ x) a' m c' zs ∧ Below w0.heap.size w0 w' ∧ Below w.heap.size w w' := by
  refine (putSets_ V a n c l w h (by omega)).mono ?_
  subst hE hz hm
  unfold okE okB
  rintro e w1 (⟨hok, v, rfl, ow, g⟩ | ⟨hok, rfl, g⟩)
  · rw [if_pos hok, if_pos hok]
    obtain ⟨a', c', rfl, vs⟩ := Vs.ofOwn ow (enc_byte h.okS)
    exact ⟨a', c', rfl, vs, bel_bel B B.size g, g⟩
  · rw [if_neg (by rw [hok]; decide), if_neg (by rw [hok]; decide)]
    exact ⟨none, 0, rfl, vs_none _ _, bel_bel B B.size g, g⟩
theorem s_rputA {w0 w : World} {V : Nat → Prop} (a : Option Addr) (n c m : Nat) (l : List Sx) (zs : List Int) (E : Int) (B : Below w0.heap.size w0 w) (h : Sl w V a n l) (hn : n ≤ 2000) (hsh : ∀ s ∈ l, s.k.length ≤ 2000 ∧ s.v.length ≤ 2000) (hz : okB l = zs) (hm : zs.length = m) (hE : okE l = E) :
    Calls Try.prog 11 #[.slice a n c] w fun e w' => ∃ a' c', e = .returned (.tuple #[.slice a' m c', .int .i64 E]) ∧ Vs w' (fun x => w.heap.size ≤ x) a' m c' zs ∧ Below w0.heap.size w0 w' ∧ Below w.heap.size w w' := by
  refine (rput_ a n c l w (h.wide fun x hx _ => hx) (by omega) (fun s hs => by have := hsh s hs; omega)).mono ?_
  subst hE hz hm
  unfold okE okB
  rintro e w1 (⟨hok, v, rfl, ow, g⟩ | ⟨hok, rfl, g⟩)
  · rw [if_pos hok, if_pos hok]
    obtain ⟨a', c', rfl, vs⟩ := Vs.ofOwn ow (enc_byte h.okS)
    exact ⟨a', c', rfl, vs, bel_bel B B.size g, g⟩
  · rw [if_neg (by rw [hok]; decide), if_neg (by rw [hok]; decide)]
    exact ⟨none, 0, rfl, vs_none _ _, bel_bel B B.size g, g⟩
theorem short_all {l : List Sx} (h : shortS l = true) : l.length ≤ 2000 ∧ ∀ s ∈ l, s.k.length ≤ 2000 ∧ s.v.length ≤ 2000 := by
  unfold shortS at h
  rw [Bool.and_eq_true] at h
  refine ⟨of_decide_eq_true h.1, fun s hs => ?_⟩
  have := List.all_eq_true.1 h.2 s hs
  unfold shortX at this
  rw [Bool.and_eq_true] at this
  exact ⟨of_decide_eq_true this.1, of_decide_eq_true this.2⟩
end Go.Proofs.Ytnmklleoilicdaa
