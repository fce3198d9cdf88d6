import Derived.Test.YthflghjmpellpaaLT8
import Derived.Deep.RegionHeldLaw
namespace Go.Proofs.Ythflghjmpellpaa
open Go.RowKit
set_option linter.unusedVariables false
set_option maxRecDepth 100000

/-- Is the flight of that number here? -/
def Thr (B : List Fl) (H : List Bool) (m : Nat) (no atv : Int) (th : Bool) : Prop :=
  (th = true ∧ ∃ i : Nat, i < m ∧ atv = i ∧ no = (i : Int) + 1 ∧ H.getD i false = true) ∨ (th = false ∧ fnd (her B H) no = none)
theorem thr_dec {B : List Fl} {H : List Bool} {m : Nat} {no : Int} (hm : B.length = m) (hH : B.length = H.length) (hs : Nos 0 B) (hno : i64r no) (hm2 : m ≤ 1000) :
    ∃ th atv, IntKind.i64.wrap (no - 1) = atv ∧ Thr B H m no atv th ∧ ((∃ i : Nat, i < m ∧ atv = i ∧ H.getD i false = th) ∨ (th = false ∧ ¬ (0 : Int) ≤ atv) ∨ (th = false ∧ (0 : Int) ≤ atv ∧ ¬ atv < (m : Int))) := by
  unfold i64r at hno
  by_cases h0 : no = -9223372036854775808
  · refine ⟨false, 9223372036854775807, ?_, .inr ⟨rfl, fnd_lo (fun x hx => her_lo B H 0 hs x hx) (by omega)⟩, .inr (.inr ⟨rfl, by omega, by omega⟩)⟩
    subst h0; decide
  · have hw : IntKind.i64.wrap (no - 1) = no - 1 := by rw [IntKind.wrap_i64]; omega
    by_cases h1 : no ≤ 0
    · exact ⟨false, no - 1, hw, .inr ⟨rfl, fnd_lo (fun x hx => her_lo B H 0 hs x hx) h1⟩, .inr (.inl ⟨rfl, by omega⟩)⟩
    · by_cases h2 : (m : Int) < no
      · exact ⟨false, no - 1, hw, .inr ⟨rfl, fnd_hi B H 0 no hs (by omega)⟩, .inr (.inr ⟨rfl, by omega, by omega⟩)⟩
      · have e : ∃ i : Nat, no = (i : Int) + 1 := ⟨(no - 1).toNat, by omega⟩
        obtain ⟨i, rfl⟩ := e
        have hf := fnd_her B H 0 i hs hH (by omega)
        rw [show (0 : Int) + 1 + i = (i : Int) + 1 from by omega] at hf
        refine ⟨H.getD i false, (i : Int), by rw [hw]; omega, ?_, .inl ⟨i, by omega, rfl, rfl⟩⟩
        cases hg : H.getD i false
        · rw [hg] at hf
          exact .inr ⟨rfl, by rw [hf]; rfl⟩
        · exact .inl ⟨rfl, i, by omega, rfl, rfl, hg⟩
theorem Thr.fnd {B : List Fl} {H : List Bool} {m i : Nat} (hm : B.length = m) (hH : B.length = H.length) (hs : Nos 0 B) (hi : i < m) (hg : H.getD i false = true) : fnd (her B H) ((i : Int) + 1) = some (B.getD i fl0) := by
  have hf := fnd_her B H 0 i hs hH (by omega)
  rw [show (0 : Int) + 1 + i = (i : Int) + 1 from by omega] at hf
  rw [hf, hg]
  rfl
theorem step_appF {w : World} {ops : Array Oper} {o : Oper} {act : Act} {K : Act → World → Prop} {Q : Exit → Act → World → Prop} {E : Prop} (hgd : o.guard = none) (s x : Operand)
    (ho : o.op = .call { callee := .builtin .append, args := #[s, x], argTypes := #[26, 26] })
    (base : Nat) (v : Value) (ds : List FD) (hs : act.eval s = v) (hown : w.ownsRow base 34 3 v ds.length (fds ds)) (g : Nat) (d : FD) (hx : act.eval x = .slice (some ⟨g, 0, none⟩) 1 1)
    (hg : ∀ j u, (fdc d)[j]? = some u → w.cell? ⟨g, j, none⟩ = some u) (hlen : ds.length ≤ 1000000000) (hbase : base ≤ w.heap.size) (n' : Nat) (hn' : Hid (ds.length + 1 = n'))
    (h : ∀ g' cap w', Hid (w'.ownsRow base 34 3 (.slice (some ⟨g', 0, none⟩) n' cap) (ds ++ [d]).length (fds (ds ++ [d]))) → Hid (w.grownBy w' v.ownBlock) → Hid (v.ownBlock = some g' ∨ g' = w.heap.size) → K (act.put o.dst (.slice (some ⟨g', 0, none⟩) n' cap)) w') : if Region.wanted o (yielded ops act.tmps) = true then Oper.wp Try.prog o act w K Q else E := by
  obtain ⟨i, hi, hz0, hz1, hz2⟩ := info_parts infoF
  refine step_append_lies _ hgd s x 26 ho base 34 i _ 3 40 Try.underlying26 hi hz0 hz1 hz2 rfl (by decide) v ds.length (fds ds) hs hown ⟨g, 0, none⟩ 1 1 (fdc d) hx rfl ?c1 ?c2 (by decide) (by unfold maxLen; omega) (by omega) hbase _ rfl ?_
  case c1 =>
    intro j u hj
    rw [Addr.add_lit, Nat.zero_add]
    exact hg j u hj
  case c2 =>
    intro u hu
    exact fds_one [d] u (by simpa [fds] using hu)
  intro g' cap w' h1 h2 h3 _
  rw [hn'.out] at h1 ⊢
  refine h g' cap w' ?_ h2 h3
  show w'.ownsRow _ _ _ _ _ _
  rw [List.length_append, List.length_singleton, fds_app, hn'.out]
  simpa [fds] using h1
end Go.Proofs.Ythflghjmpellpaa
