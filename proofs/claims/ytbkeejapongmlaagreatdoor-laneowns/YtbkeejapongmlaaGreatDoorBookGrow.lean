import Derived.Test.YtbkeejapongmlaaGreatDoorBookState
import Derived.Deep.RegionLaw
namespace Go.Proofs.YtbkeejapongmlaaGreatDoor.Kp
set_option maxRecDepth 100000
open Go.RowKit
set_option linter.unusedVariables false

theorem st_T {w0 w : World} {k base m mg : Nat} {ps : Int} {T T' : Nat → Nat} {E F : Nat → Ent} {v2 v3 v4 : Value} (h : St w0 w k base m mg ps T E F v2 v3 v4) (ht : ∀ j, j < mg → T j = T' j) : St w0 w k base m mg ps T' E F v2 v3 v4 :=
  ⟨h.bk, h.t2, h.t4, h.sep, h.e, fun i hi => by have := h.f i hi; rw [← ht i hi]; exact this, h.d2, h.z, h.low, h.bl⟩
theorem st_drew {w0 w : World} {k base m mg : Nat} {ps : Int} {T : Nat → Nat} {E F : Nat → Ent} {v2 v3 v4 : Value} (h : St w0 w k base m mg ps T E F v2 v3 v4) : St w0 w.drew k base m mg ps T E F v2 v3 v4 :=
  ⟨h.bk, h.t2, h.t4, h.sep, h.e, h.f, h.d2, ⟨h.z.os, h.z.tape, h.z.output, h.z.size, h.z.same, h.z.blk⟩, h.low, h.bl⟩
theorem st_alloc {w0 w : World} {k base m mg : Nat} {ps : Int} {T : Nat → Nat} {E F : Nat → Ent} {v2 v3 v4 : Value} (h : St w0 w k base m mg ps T E F v2 v3 v4) (o : Obj) : St w0 (w.alloc o) k base m mg ps T E F v2 v3 v4 := by
  have hz : Wz (fun _ _ => False) w (w.alloc o) := .ofWk (.ofBelow ((Below.refl _ w).alloc (Nat.le_refl _) o))
  exact ⟨h.bk.at (Below.heap_alloc w o k h.bk.lt), h.t2.alloc o, h.t4.alloc o, h.sep, fun i hi => ⟨(h.e i hi).1.wz hz, (h.e i hi).2.wz (h.e i hi).1 hz fun _ _ _ h => h⟩,
    fun i hi => ⟨(h.f i hi).1.wz hz, (h.f i hi).2.1.wz (h.f i hi).1 hz (fun _ _ _ h => h), (h.f i hi).2.2⟩, h.d2, h.z.go hz (fun _ _ _ h => h.elim), h.low, fun b hb => (Below.heap_alloc w o b (by have := h.low.2.1; have := h.z.size; omega)).trans (h.bl b hb)⟩

theorem grew_same {w w1 : World} {e e' : Ent} {z : Int} (ho : e.Ok w) (hG : Grew w w1 e e' z) {b : Nat} {cur : Array Value} {t : TypeId} (hb : w.heap[b]? = some (.cells cur t (0, 0))) (ht : t ≠ 5) : w1.heap[b]? = w.heap[b]? := by
  have hl := (Array.getElem?_eq_some_iff.1 hb).1
  rcases hG.how with ⟨_, _, b', off, ha, hlt, hwk⟩ | ⟨hbl, _⟩
  · refine hwk.same b hl fun i hi => ?_
    obtain ⟨c, hc⟩ := ok_in ho (b := b') (x := off + e.n) ⟨off, ha, by omega, by omega⟩
    rw [← hi.1, hb] at hc
    have hc2 : t = 5 := by simp at hc; first | exact hc.2 | exact hc.2.1
    exact ht hc2
  · exact hbl.block b hl
theorem grew_bk {w w1 : World} {e e' : Ent} {z : Int} {k : Nat} {ps : Int} {v2 v3 v4 : Value} (h : Bk w k ps v2 v3 v4) (ho : e.Ok w) (hG : Grew w w1 e e' z) : Bk w1 k ps v2 v3 v4 := h.at (grew_same ho hG h (by decide))
theorem grew_tab {w w1 : World} {e e' : Ent} {z : Int} {base m g cap : Nat} {F : Nat → Ent} (h : w.ownsRow base 22 1 (.slice (some ⟨g, 0, none⟩) m cap) m (vals m F)) (ho : e.Ok w) (hG : Grew w w1 e e' z) (x : Nat) (hx : x < m) :
    w1.cell? ⟨g, x, none⟩ = some (F x).val ∧ w1.frozen? ⟨g, x, none⟩ = false := by
  obtain ⟨cur, hc⟩ := own_blk h (q := g) rfl
  have h1 := grew_same ho hG hc (by decide)
  rw [hc] at h1
  obtain ⟨a, c, e1, hh⟩ := tab_at (own_at (w' := w1) h fun q hq => by
    simp [Value.ownBlock] at hq; subst hq; rw [h1, hc])
  simp at e1
  obtain ⟨rfl, rfl⟩ := e1
  rcases hh with hh | ⟨g', e2, _, hcell⟩
  · omega
  · simp at e2; subst e2
    exact ⟨hcell x hx, by simp [World.frozen?, h1]⟩

set_option maxRecDepth 100000 in
set_option maxHeartbeats 2000000 in
theorem bytesGrow_ (w0 : World) (k base m t : Nat) (ps : Int) (T : Nat → Nat) (E F0 : Nat → Ent) (v2 v3 v4 : Value) (w : World) (h : St w0 w k base m m ps T E F0 v2 v3 v4) (hE0 : ∀ l, l < m → (E l).Ok w0 ∧ (E l).n ≤ 5000) (hdj : Dj m E) (hm : m ≤ 1000) (ht : 0 < t) (hT : ∀ l, T l ≤ 200) :
    Calls Tryz.prog 81 #[.pointer (some ⟨k, 0, none⟩), .int .i64 0, .int .i64 t] w fun en w' => en = .returned (.int .i64 m) ∧ ∃ F, St w0 w' k base m m ps (fun j => T j + 1) E F v2 v3 v4 := by
  obtain ⟨a2, c2, rfl, hg2⟩ := tab_at h.t2
  obtain ⟨a4, c4, rfl, hg4⟩ := tab_at h.t4
  have tne : ((t : Int) == 0) = false := by rw [beq_eq_false_iff_ne]; omega
  go_enter Tryz.func81, Tryz.ntmps81
  go_wp2
  go_loopw [1, 7] (fun q i wr => ∃ x : Nat, ∃ F, x ≤ m ∧ q = .int .i64 x ∧ i = .int .i64 x ∧ St w0 wr k base m m ps (fun j => if j < x then T j + 1 else T j) E F (.slice a2 m c2) v3 (.slice a4 m c4)) (fun _ i _ => m - (intOf i).toNat)
  case atStart => exact ⟨0, F0, by omega, rfl, rfl, st_T h fun j hj => by simp⟩
  case round =>
    obtain ⟨x, F, hx, rfl, rfl, hS⟩ := hrel
    have d2 := hS.bk.c2
    have d4 := hS.bk.c4
    by_cases hlt : x < m
    · have hF := hS.f x hlt
      obtain ⟨_, _, e4, hcell⟩ := tab_at hS.t4
      simp at e4
      obtain ⟨rfl, rfl⟩ := e4
      rcases hcell with hcell | ⟨g, rfl, _, hcell⟩
      · omega
      have dg : wr.cell? ⟨g, x, none⟩ = some (.slice (F x).a (F x).n (F x).c) := hcell x hlt
      have hnb : (F x).n ≤ 9000 := by have := hF.2.2.1; have := (hE0 x hlt).2; have := hT x; have q : (if x < x then T x + 1 else T x) = T x := if_neg (by omega); omega
      have i1 : (x : Int) < (m : Int) := by omega
      have HB := hid (byteMark_ k ps ((x : Int) + 1) (F x).n (.slice a2 m c2) v3 (.slice (some ⟨g, 0, none⟩) m c4) wr hS.bk (by omega) (by omega) (by omega) (by omega))
      have HS := hid hS
      have HO := hid hF.1
      have mb := mk_byte ps ((x : Int) + 1) (F x).n
      clear hcell hF hS hg4 h
      generalize hfx : F x = e at *
      have HX := hid hfx
      clear hfx
      obtain ⟨ea, en, ec⟩ := e
      simp only at dg hnb HB mb
      generalize hz : mk ps ((x : Int) + 1) en = zz at *
      have HZ := hid hz
      clear hz
      go_wp2_with fail
      refine HB.out.mono ?_
      rintro e w' ⟨rfl, hw⟩
      obtain rfl := hw.symm
      clear hw
      have HSd : Hid (St w0 (wr.alloc (.cells #[.int .u8 zz] 5)).drew k base m m ps (fun j => if j < x then T j + 1 else T j) E F (.slice a2 m c2) v3 (.slice (some ⟨g, 0, none⟩) m c4)) := st_drew (st_alloc HS.out _)
      have HOd : Hid (Ent.Ok (wr.alloc (.cells #[.int .u8 zz] 5)).drew ⟨ea, en, ec⟩) := by have := (HSd.out.f x hlt).1; rwa [HX.out] at this
      have Hzz : Hid ((wr.alloc (.cells #[.int .u8 zz] 5)).drew.cell? ⟨wr.heap.size, 0, none⟩ = some (.int .u8 zz)) := by
        show (wr.alloc (.cells #[.int .u8 zz] 5)).cell? _ = _
        rw [cell_of_row _ wr.heap.size 0 _ 5 (0, 0) (heap_alloc_new wr _)]; rfl
      have za4 : (wr.alloc (.cells #[.int .u8 zz] 5)).cell? ⟨k, 4, none⟩ = some (.slice (some ⟨g, 0, none⟩) m c4) := HSd.out.bk.c4
      have zag : (wr.alloc (.cells #[.int .u8 zz] 5)).cell? ⟨g, x, none⟩ = some (.slice ea en ec) := by
        rw [World.cell?_of_block (w := wr) (Below.heap_alloc wr _ g (World.block_lt_of_cell? wr _ dg))]; exact dg
      go_wp2_with fail
      go_region_law (refine step_append_ent rfl (.tmp 60) (.tmp 62) rfl ⟨ea, en, ec⟩ zz wr.heap.size rfl rfl HOd.out (by simp only; omega) Hzz.out ?_; intro e' w3 hG; obtain ⟨ea', en', ec'⟩ := e'; have y4 := (grew_bk HSd.out.bk HOd.out hG).c4; obtain ⟨yg, yf⟩ := grew_tab HSd.out.t4 HOd.out hG x hlt)
      all_goals
        have HF : Hid (∃ F', St w0 (w3.setCell ⟨g, x, none⟩ (.slice ea' en' ec')) k base m m ps (fun j => if j < x + 1 then T j + 1 else T j) E F' (.slice a2 m c2) v3 (.slice (some ⟨g, 0, none⟩) m c4)) := by
          refine ⟨_, st_T (st_grow (e' := ⟨ea', en', ec'⟩) HSd.out hlt (Nat.le_refl _) (by rw [HX.out]; simp only; rw [HZ.out]; exact hG) (by rw [HX.out]; simp only; omega) hdj fun l hl => (hE0 l hl).1) fun j hj => ?_⟩
          by_cases e1 : j = x
          · subst e1; simp
          · rw [if_neg e1]
            by_cases e2 : j < x
            · rw [if_pos e2, if_pos (by omega)]
            · rw [if_neg e2, if_neg (by omega)]
        clear hG y4 yg yf za4 zag HSd HOd Hzz HS HO dg d4 d2
        go_wp2_with fail
        go_roundw
        case rel =>
          obtain ⟨F', hF'⟩ := HF.out
          exact ⟨x + 1, F', by omega, by go_num, by go_num, hF'⟩
        case measure => simp [intOf]; omega
    · obtain rfl : m = x := by omega
      go_wp2_with fail
      go_ret
      exact ⟨rfl, F, st_T hS fun j hj => by simp [hj]⟩
end Go.Proofs.YtbkeejapongmlaaGreatDoor.Kp
