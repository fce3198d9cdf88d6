import Derived.Test.YteeapmcpbmjpmaaGreatBTake
import Derived.Laws.Bits64b
namespace Go.Proofs.YteeapmcpbmjpmaaGreat
set_option maxRecDepth 100000
open Go.RowKit
set_option linter.unusedVariables false

set_option maxHeartbeats 400000 in
theorem clone_nil (w : World) :
    Calls Tryz.prog 90 #[.slice none 0 0] w fun en w' => en = .returned (.slice none 0 0) ∧ w' = w := by
  have heq := Go.Lib.run_eql_slice_nil (P := Tryz.prog) w 35 5 none 0 0 0 0 Tryz.underlying35
  simp only [Option.isNone] at heq
  go_enter Tryz.func90, Tryz.ntmps90
  go_wp2
  go_ret
  exact ⟨rfl, rfl⟩

theorem grown_past {w w1 : World} {o : Obj} (h : (w.alloc o).grownBy w1 (some w.heap.size)) : w.grownBy w1 none :=
  ⟨h.os, h.tape, h.output, by have := h.size; simp at this; omega, fun k hk _ => by
    rw [h.block k (by simp; omega) (by simp; omega)]; exact Below.heap_alloc w o k hk⟩

set_option maxHeartbeats 400000 in
theorem clone_some (x : Addr) (n c : Nat) (zs : List Int) (w : World) (hb : Bs w (some x) n zs) (hn : n ≤ 400000000) :
    Calls Tryz.prog 90 #[.slice (some x) n c] w fun en w' => ∃ g cap cur, en = .returned (.slice (some ⟨g, 0, none⟩) n cap) ∧ w.heap.size ≤ g ∧ w'.heap[g]? = some (.cells cur 5 (0, 0)) ∧ n ≤ cap ∧ cap ≤ maxLen ∧ cur.size = cap ∧ cur.toList.take n = cells zs ∧ w.grownBy w' none := by
  obtain ⟨i, hi, hz0, hz1, hz2⟩ := info_parts info5
  have heq := Go.Lib.run_eql_slice_nil (P := Tryz.prog) w 35 5 (some x) n c 0 0 Tryz.underlying35
  simp only [Option.isNone] at heq
  go_enter Tryz.func90, Tryz.ntmps90
  go_wp2_with (at_builtin; (refine wpList_append_own _ rfl (.tmp 5) (.tmp 6) 35 rfl w.heap.size 5 i (.int .u8 0) 1 1 Tryz.underlying35 hi hz0 hz1 hz2 rfl (by decide) _ 0 [] rfl (World.ownsRow_made w _ 0 (Nat.le_refl _) (by unfold maxLen; omega) (by simp)) x n c (cells zs) rfl (by rw [cells_length, hb.1, Nat.mul_one]) (hb.src1 (World.grownBy_alloc w _ _)) (cells_one zs) (by unfold maxLen; omega) (by omega) (by simp) ?_); intro v' w1 hown hg hv)
  have hg' : (w.alloc (.cells #[] 5)).grownBy w1 (some w.heap.size) := hg
  have hv' : ¬ v' = .slice none 0 0 := fun e => by have hq : Value.slice (some ⟨w.heap.size, 0, none⟩) 0 0 = .slice none 0 0 := (hv.1 e).1; simp at hq
  obtain ⟨h1, h2⟩ := hown
  rcases h2 with ⟨e, _⟩ | ⟨g, cap, cur, rfl, hbg, hgg, hnc, hcm, hcs, ht⟩
  · exact absurd e hv'
  simp only [Nat.zero_add, Nat.mul_one, List.nil_append] at ht hcs hnc ⊢
  clear hv hv' hg h1
  go_ret
  exact ⟨g, cap, cur, rfl, hbg, hgg, hnc, hcm, hcs, ht, grown_past hg'⟩

set_option maxHeartbeats 400000 in
theorem newReader_nil (w : World) :
    Calls Tryz.prog 73 #[.slice none 0 0] w fun en w' => en = .returned (.pointer (some ⟨w.heap.size, 0, none⟩)) ∧ w' = w.alloc (.cells #[.slice none 0 0, .int .i64 0, .int .i64 0] 131) := by
  go_enter Tryz.func73, Tryz.ntmps73
  go_wp2_with (go_at_call 90; refine (clone_nil _).mono ?_; rintro e w' ⟨rfl, hw⟩; obtain rfl := hw.symm)
  go_ret
  exact ⟨rfl, rfl⟩

set_option maxHeartbeats 400000 in
theorem newReader_some (x : Addr) (n c : Nat) (zs : List Int) (w : World) (hb : Bs w (some x) n zs) (hn : n ≤ 400000000) :
    Calls Tryz.prog 73 #[.slice (some x) n c] w fun en w' => ∃ g cap cur w1, en = .returned (.pointer (some ⟨w1.heap.size, 0, none⟩)) ∧ w.heap.size ≤ g ∧ w1.heap[g]? = some (.cells cur 5 (0, 0)) ∧ n ≤ cap ∧ cap ≤ maxLen ∧ cur.size = cap ∧ cur.toList.take n = cells zs ∧ w.grownBy w1 none ∧
      w' = w1.alloc (.cells #[.slice (some ⟨g, 0, none⟩) n cap, .int .i64 0, .int .i64 0] 131) := by
  go_enter Tryz.func73, Tryz.ntmps73
  go_wp2_with (go_at_call 90; refine (clone_some x n c zs _ hb hn).mono ?_; rintro e w1 ⟨g, cap, cur, rfl, h1, h2, h3, h4, h5, h6, h7⟩; have H2 := hid h2; have H5 := hid h5; have H6 := hid h6; clear h2 h5 h6)
  go_ret
  exact ⟨g, cap, cur, w1, rfl, h1, H2.out, h3, h4, H5.out, H6.out, h7, rfl⟩

/-- A new reader of these bytes, all its memory new. -/
theorem newReader (a : Option Addr) (n c : Nat) (zs : List Int) (w : World) (hb : Bs w a n zs) (ha : a = none → c = 0) (hn : n ≤ 400000000) (hnc : n ≤ c) :
    Calls Tryz.prog 73 #[.slice a n c] w fun en w' => ∃ r g, en = .returned (.pointer (some ⟨r, 0, none⟩)) ∧ Rd w' r g zs 0 ∧ w.heap.size ≤ r ∧ w.heap.size ≤ g ∧ (a ≠ none → g < w'.heap.size) ∧ w.grownBy w' none := by
  cases a with
  | none =>
    obtain rfl : c = 0 := ha rfl
    obtain rfl : n = 0 := by omega
    obtain rfl : zs = [] := List.eq_nil_of_length_eq_zero hb.1
    refine (newReader_nil w).mono ?_
    rintro en w' ⟨rfl, rfl⟩
    refine ⟨w.heap.size, w.heap.size + 1, rfl, ⟨by omega, none, 0, 0, heap_alloc_new w _, rfl, Nat.le_refl _, by unfold maxLen; omega, by simp, .inl ⟨rfl, rfl, rfl⟩⟩, Nat.le_refl _, by omega, fun h => absurd rfl h, World.grownBy_alloc w _ _⟩
  | some x =>
    refine (newReader_some x n c zs w hb hn).mono ?_
    rintro en w' ⟨g, cap, cur, w1, rfl, hbg, hgg, hnc', hcm, hcs, ht, hg, rfl⟩
    have hs := hg.size
    have hlt : g < w1.heap.size := (Array.getElem?_eq_some_iff.1 hgg).1
    refine ⟨w1.heap.size, g, rfl, ⟨by omega, some ⟨g, 0, none⟩, n, cap, heap_alloc_new w1 _, hb.1, hnc', hcm, hb.2.1, .inr ⟨0, cur, rfl, ?_, by omega, ?_⟩⟩, hs, hbg, fun _ => by simp; omega, ?_⟩
    · rw [Below.heap_alloc w1 _ g hlt]; exact hgg
    · simpa using ht
    · exact ⟨hg.os, hg.tape, hg.output, by simp; omega, fun k hk hr => by rw [Below.heap_alloc w1 _ k (by omega)]; exact hg.block k hk hr⟩

end Go.Proofs.YteeapmcpbmjpmaaGreat
namespace Go.Proofs.YteeapmcpbmjpmaaGreat
set_option maxRecDepth 100000
open Go.RowKit
set_option linter.unusedVariables false

set_option maxHeartbeats 400000 in
theorem left_ (r n c : Nat) (a : Option Addr) (p e : Int) (w : World) (h : Rdr w r a n c p e) :
    Calls Tryz.prog 74 #[.pointer (some ⟨r, 0, none⟩)] w fun en w' => en = .returned (.int .i64 n) ∧ w' = w := by
  have h0 := h.c0
  clear h
  go_enter Tryz.func74, Tryz.ntmps74
  go_wp2
  go_ret
  exact ⟨rfl, rfl⟩

theorem left_whole (r g : Nat) (zs : List Int) (p : Int) (w : World) (h : Rd w r g zs p) :
    Calls Tryz.prog 74 #[.pointer (some ⟨r, 0, none⟩)] w fun en w' => en = .returned (.int .i64 zs.length) ∧ w' = w := by
  obtain ⟨_, a, n, c, h1, h2⟩ := h
  rw [h2.1]
  exact left_ r n c a p 0 w h1
theorem left_broken (r : Nat) (p e : Int) (w : World) (h : Rb w r p e) :
    Calls Tryz.prog 74 #[.pointer (some ⟨r, 0, none⟩)] w fun en w' => en = .returned (.int .i64 0) ∧ w' = w := left_ r 0 0 none p e w h.1
theorem bytes_whole (r g m : Nat) (zs : List Int) (p : Int) (w : World) (h : Rd w r g zs p) (hm : m ≤ zs.length) (hn : zs.length ≤ 1000000000) (hp : 0 ≤ p) (hp1 : p ≤ 1000000000) :
    Calls Tryz.prog 93 #[.pointer (some ⟨r, 0, none⟩), .int .i64 m] w fun en w' => ∃ a, en = .returned (.slice a m m) ∧ Lies w' g a m m (zs.take m) ∧ Rd w' r g (zs.drop m) (p + m) ∧ Only r w w' := by
  go_enter Tryz.func93, Tryz.ntmps93
  go_wp2_with (go_at_call 100; refine (take_whole r g m zs p _ h hm hn hp hp1).mono ?_; rintro e w1 ⟨a, rfl, h1, h2, h3⟩)
  go_ret
  exact ⟨a, rfl, h1, h2, h3⟩
set_option maxHeartbeats 400000 in
theorem bytes_breaks (r g : Nat) (m : Int) (zs : List Int) (p : Int) (w : World) (h : Rd w r g zs p) (q : Int) (hm : Brk m zs.length q) :
    Calls Tryz.prog 93 #[.pointer (some ⟨r, 0, none⟩), .int .i64 m] w fun en w' => en = .returned (.slice none 0 0) ∧ Rb w' r p q ∧ Only r w w' := by
  go_enter Tryz.func93, Tryz.ntmps93
  go_wp2_with (go_at_call 100; refine (take_breaks r g m q zs p _ h hm).mono ?_; rintro e w1 ⟨rfl, h1, h2⟩)
  go_ret
  exact ⟨rfl, h1, h2⟩
set_option maxHeartbeats 400000 in
theorem bytes_broken (r : Nat) (m p e : Int) (w : World) (h : Rb w r p e) :
    Calls Tryz.prog 93 #[.pointer (some ⟨r, 0, none⟩), .int .i64 m] w fun en w' => en = .returned (.slice none 0 0) ∧ w' = w := by
  go_enter Tryz.func93, Tryz.ntmps93
  go_wp2_with (go_at_call 100; refine (take_broken r 0 0 none p e m _ h.1 h.2).mono ?_; rintro e w1 ⟨rfl, hw⟩; obtain rfl := hw.symm)
  go_ret
  exact ⟨rfl, rfl⟩

end Go.Proofs.YteeapmcpbmjpmaaGreat
namespace Go.Proofs.YteeapmcpbmjpmaaGreat
set_option maxRecDepth 100000
open Go.RowKit

/-- What Get holds behind k rounds. -/
def vk (zs : List Int) (W k : Nat) : Int := val ((zs.take W).take k)
theorem vk_zero (zs : List Int) (W : Nat) : vk zs W 0 = 0 := by simp [vk, val]
theorem vk_all (zs : List Int) (W : Nat) (h : W ≤ zs.length) : vk zs W W = val (zs.take W) := by
  unfold vk; rw [List.take_of_length_le (by simp; omega)]
theorem vk_step (zs : List Int) (W k : Nat) (h : k < (zs.take W).length) : vk zs W (k + 1) = vk zs W k * 256 + (zs.take W).getD k 0 := by
  unfold vk
  rw [List.take_succ_eq_append_getElem h, val_snoc]
  simp only [List.getD, List.getElem?_eq_getElem h, Option.getD_some]
theorem vk_bound (zs : List Int) (W k : Nat) (hk : k ≤ (zs.take W).length) (hb : ∀ z ∈ zs.take W, 0 ≤ z ∧ z ≤ 255) : 0 ≤ vk zs W k ∧ vk zs W k < 256 ^ k := by
  have := val_bound ((zs.take W).take k) fun z hz => hb z (List.mem_of_mem_take hz)
  rwa [List.length_take, Nat.min_eq_left hk] at this
theorem vk_small (zs : List Int) (W k : Nat) (hk : k < (zs.take W).length) (h8 : k < 8) (hb : ∀ z ∈ zs.take W, 0 ≤ z ∧ z ≤ 255) : 0 ≤ vk zs W k ∧ vk zs W k < 72057594037927936 := by
  have h := vk_bound zs W k (by omega) hb
  refine ⟨h.1, Int.lt_of_lt_of_le h.2 ?_⟩
  have e : k = 0 ∨ k = 1 ∨ k = 2 ∨ k = 3 ∨ k = 4 ∨ k = 5 ∨ k = 6 ∨ k = 7 := by omega
  rcases e with rfl | rfl | rfl | rfl | rfl | rfl | rfl | rfl <;> decide
theorem getD_byteP (l : List Int) (k : Nat) (h : k < l.length) (hb : ∀ z ∈ l, 0 ≤ z ∧ z ≤ 255) : 0 ≤ l.getD k 0 ∧ l.getD k 0 ≤ 255 := by
  simp only [List.getD, List.getElem?_eq_getElem h, Option.getD_some]
  exact hb _ (List.getElem_mem h)
theorem val_w {zs : List Int} {W : Nat} (hW : W ≤ zs.length) (hb : ∀ z ∈ zs.take W, 0 ≤ z ∧ z ≤ 255) : 0 ≤ val (zs.take W) ∧ val (zs.take W) < 256 ^ W := by
  have := val_bound (zs.take W) hb
  rwa [List.length_take, Nat.min_eq_left hW] at this

end Go.Proofs.YteeapmcpbmjpmaaGreat
namespace Go.Proofs.YteeapmcpbmjpmaaGreat
set_option maxRecDepth 100000
open Go.RowKit
set_option linter.unusedVariables false

theorem valLt8 {zs : List Int} (hW : 1 ≤ zs.length) (hb : ∀ z ∈ zs.take 1, 0 ≤ z ∧ z ≤ 255) : 0 ≤ val (zs.take 1) ∧ val (zs.take 1) < 256 := val_w hW hb

set_option maxHeartbeats 400000 in
theorem get8_whole (r g : Nat) (zs : List Int) (p : Int) (w : World) (h : Rd w r g zs p) (hm : 1 ≤ zs.length) (hn : zs.length ≤ 1000000000) (hp : 0 ≤ p) (hp1 : p ≤ 1000000000) :
    Calls Tryz.prog 91 #[.pointer (some ⟨r, 0, none⟩)] w fun en w' => en = .returned (.int .u8 (val (zs.take 1))) ∧ Rd w' r g (zs.drop 1) (p + 1) ∧ Only r w w' := by
  go_enter Tryz.func91, Tryz.ntmps91
  go_wp2_with (first
    | (go_at_call 88; refine (width8 _).mono ?_; rintro e w' ⟨rfl, hw⟩; obtain rfl := hw.symm; clear hw)
    | (go_at_call 100; refine (take_whole r g 1 zs p _ h hm hn hp hp1).mono ?_; rintro e w1 ⟨a, rfl, h1, h2, h3⟩))
  have H2 := hid h2
  clear h2
  obtain ⟨e1, e2, e3⟩ := h1.bs
  clear h1
  go_loop [3, 5, 10] (fun x _ i => ∃ k : Nat, k ≤ 1 ∧ x = .int .u64 (vk zs 1 k) ∧ i = .int .i64 k) (fun _ _ i => 1 - (intOf i).toNat)
  case atStart => exact ⟨0, by omega, by rw [vk_zero], rfl⟩
  case round =>
    obtain ⟨k, hk, rfl, rfl⟩ := hrel
    by_cases hlt : k < 1
    · rcases e3 with e3 | ⟨b, off, rfl, hc⟩
      · omega
      have hck := hc k hlt
      have hzb := getD_byteP (zs.take 1) k (by omega) e2
      have hst := hid (vk_step zs 1 k (by omega))
      have hv := vk_small zs 1 k (by omega) (by omega) e2
      clear hc e1 e2
      generalize (zs.take 1).getD k 0 = z at *
      have hor := or8 (vk zs 1 k) z hv.1 hv.2 hzb.1 hzb.2
      obtain ⟨z0, z1⟩ := hzb
      obtain ⟨v0, v1⟩ := hv
      go_wp2
      go_round
      case rel => exact ⟨k + 1, by omega, by rw [hst.out], by go_num⟩
      case measure => simp [intOf]; omega
    · obtain rfl : k = 1 := by omega
      have hval := valLt8 hm e2
      rw [vk_all zs 1 hm]
      generalize hgv : val (zs.take 1) = v at *
      have HV := hid hgv
      clear hgv
      obtain ⟨v0, v1⟩ := hval
      clear e1 e2 e3
      go_wp2
      go_ret
      exact ⟨congrArg (fun q => Ending.returned (.int .u8 q)) HV.out.symm, (by first | exact H2.out | simpa using H2.out), h3⟩

set_option maxHeartbeats 400000 in
theorem get8_short (r g : Nat) (zs : List Int) (p : Int) (w : World) (h : Rd w r g zs p) (hm : zs.length < 1) :
    Calls Tryz.prog 91 #[.pointer (some ⟨r, 0, none⟩)] w fun en w' => en = .returned (.int .u8 0) ∧ Rb w' r p 10 ∧ Only r w w' := by
  have hB : Brk 1 zs.length 10 := .inr ⟨by omega, by omega, rfl⟩
  go_enter Tryz.func91, Tryz.ntmps91
  go_wp2_with (first
    | (go_at_call 88; refine (width8 _).mono ?_; rintro e w' ⟨rfl, hw⟩; obtain rfl := hw.symm; clear hw)
    | (go_at_call 100; refine (take_breaks r g 1 10 zs p _ h hB).mono ?_; rintro e w1 ⟨rfl, h1, h2⟩))
  go_loop [3, 5, 10] (fun x _ i => x = .int .u64 0 ∧ i = .int .i64 0) (fun _ _ i => 0)
  case atStart => exact ⟨rfl, rfl⟩
  case round =>
    obtain ⟨rfl, rfl⟩ := hrel
    go_wp2
    go_ret
    exact ⟨rfl, h1, h2⟩

set_option maxHeartbeats 400000 in
theorem get8_broken (r : Nat) (p e : Int) (w : World) (h : Rb w r p e) :
    Calls Tryz.prog 91 #[.pointer (some ⟨r, 0, none⟩)] w fun en w' => en = .returned (.int .u8 0) ∧ w' = w := by
  go_enter Tryz.func91, Tryz.ntmps91
  go_wp2_with (first
    | (go_at_call 88; refine (width8 _).mono ?_; rintro e w' ⟨rfl, hw⟩; obtain rfl := hw.symm; clear hw)
    | (go_at_call 100; refine (take_broken r 0 0 none p e 1 _ h.1 h.2).mono ?_; rintro e w1 ⟨rfl, hw⟩; obtain rfl := hw.symm; clear hw))
  go_loop [3, 5, 10] (fun x _ i => x = .int .u64 0 ∧ i = .int .i64 0) (fun _ _ i => 0)
  case atStart => exact ⟨rfl, rfl⟩
  case round =>
    obtain ⟨rfl, rfl⟩ := hrel
    go_wp2
    go_ret
    exact ⟨rfl, rfl⟩

theorem valLt16 {zs : List Int} (hW : 2 ≤ zs.length) (hb : ∀ z ∈ zs.take 2, 0 ≤ z ∧ z ≤ 255) : 0 ≤ val (zs.take 2) ∧ val (zs.take 2) < 65536 := val_w hW hb

set_option maxHeartbeats 400000 in
theorem get16_whole (r g : Nat) (zs : List Int) (p : Int) (w : World) (h : Rd w r g zs p) (hm : 2 ≤ zs.length) (hn : zs.length ≤ 1000000000) (hp : 0 ≤ p) (hp1 : p ≤ 1000000000) :
    Calls Tryz.prog 92 #[.pointer (some ⟨r, 0, none⟩)] w fun en w' => en = .returned (.int .u16 (val (zs.take 2))) ∧ Rd w' r g (zs.drop 2) (p + 2) ∧ Only r w w' := by
  go_enter Tryz.func92, Tryz.ntmps92
  go_wp2_with (first
    | (go_at_call 89; refine (width16 _).mono ?_; rintro e w' ⟨rfl, hw⟩; obtain rfl := hw.symm; clear hw)
    | (go_at_call 100; refine (take_whole r g 2 zs p _ h hm hn hp hp1).mono ?_; rintro e w1 ⟨a, rfl, h1, h2, h3⟩))
  have H2 := hid h2
  clear h2
  obtain ⟨e1, e2, e3⟩ := h1.bs
  clear h1
  go_loop [3, 5, 10] (fun x _ i => ∃ k : Nat, k ≤ 2 ∧ x = .int .u64 (vk zs 2 k) ∧ i = .int .i64 k) (fun _ _ i => 2 - (intOf i).toNat)
  case atStart => exact ⟨0, by omega, by rw [vk_zero], rfl⟩
  case round =>
    obtain ⟨k, hk, rfl, rfl⟩ := hrel
    by_cases hlt : k < 2
    · rcases e3 with e3 | ⟨b, off, rfl, hc⟩
      · omega
      have hck := hc k hlt
      have hzb := getD_byteP (zs.take 2) k (by omega) e2
      have hst := hid (vk_step zs 2 k (by omega))
      have hv := vk_small zs 2 k (by omega) (by omega) e2
      clear hc e1 e2
      generalize (zs.take 2).getD k 0 = z at *
      have hor := or8 (vk zs 2 k) z hv.1 hv.2 hzb.1 hzb.2
      obtain ⟨z0, z1⟩ := hzb
      obtain ⟨v0, v1⟩ := hv
      go_wp2
      go_round
      case rel => exact ⟨k + 1, by omega, by rw [hst.out], by go_num⟩
      case measure => simp [intOf]; omega
    · obtain rfl : k = 2 := by omega
      have hval := valLt16 hm e2
      rw [vk_all zs 2 hm]
      generalize hgv : val (zs.take 2) = v at *
      have HV := hid hgv
      clear hgv
      obtain ⟨v0, v1⟩ := hval
      clear e1 e2 e3
      go_wp2
      go_ret
      exact ⟨congrArg (fun q => Ending.returned (.int .u16 q)) HV.out.symm, (by first | exact H2.out | simpa using H2.out), h3⟩

set_option maxHeartbeats 400000 in
theorem get16_short (r g : Nat) (zs : List Int) (p : Int) (w : World) (h : Rd w r g zs p) (hm : zs.length < 2) :
    Calls Tryz.prog 92 #[.pointer (some ⟨r, 0, none⟩)] w fun en w' => en = .returned (.int .u16 0) ∧ Rb w' r p 10 ∧ Only r w w' := by
  have hB : Brk 2 zs.length 10 := .inr ⟨by omega, by omega, rfl⟩
  go_enter Tryz.func92, Tryz.ntmps92
  go_wp2_with (first
    | (go_at_call 89; refine (width16 _).mono ?_; rintro e w' ⟨rfl, hw⟩; obtain rfl := hw.symm; clear hw)
    | (go_at_call 100; refine (take_breaks r g 2 10 zs p _ h hB).mono ?_; rintro e w1 ⟨rfl, h1, h2⟩))
  go_loop [3, 5, 10] (fun x _ i => x = .int .u64 0 ∧ i = .int .i64 0) (fun _ _ i => 0)
  case atStart => exact ⟨rfl, rfl⟩
  case round =>
    obtain ⟨rfl, rfl⟩ := hrel
    go_wp2
    go_ret
    exact ⟨rfl, h1, h2⟩

set_option maxHeartbeats 400000 in
theorem get16_broken (r : Nat) (p e : Int) (w : World) (h : Rb w r p e) :
    Calls Tryz.prog 92 #[.pointer (some ⟨r, 0, none⟩)] w fun en w' => en = .returned (.int .u16 0) ∧ w' = w := by
  go_enter Tryz.func92, Tryz.ntmps92
  go_wp2_with (first
    | (go_at_call 89; refine (width16 _).mono ?_; rintro e w' ⟨rfl, hw⟩; obtain rfl := hw.symm; clear hw)
    | (go_at_call 100; refine (take_broken r 0 0 none p e 2 _ h.1 h.2).mono ?_; rintro e w1 ⟨rfl, hw⟩; obtain rfl := hw.symm; clear hw))
  go_loop [3, 5, 10] (fun x _ i => x = .int .u64 0 ∧ i = .int .i64 0) (fun _ _ i => 0)
  case atStart => exact ⟨rfl, rfl⟩
  case round =>
    obtain ⟨rfl, rfl⟩ := hrel
    go_wp2
    go_ret
    exact ⟨rfl, rfl⟩


end Go.Proofs.YteeapmcpbmjpmaaGreat
