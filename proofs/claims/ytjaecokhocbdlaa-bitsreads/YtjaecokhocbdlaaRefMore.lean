import Derived.Test.YtjaecokhocbdlaaRefRd
namespace Go.Proofs.Ytjaecokhocbdlaa
open Go.RowKit
set_option linter.unusedVariables false

set_option maxHeartbeats 400000 in
theorem fits_broken (r n c : Nat) (a : Option Addr) (p e m : Int) (w : World) (h : Rfc w r a n c p e) (he : (e != 0) = true) :
    Calls Try.prog 49 #[.pointer (some ⟨r, 0, none⟩), .int .i64 m] w fun en w' => en = .returned (.bool false) ∧ w' = w := by
  have h2 := h.c2
  clear h
  go_enter Try.func49, Try.ntmps49
  go_wp2
  go_ret
  exact ⟨rfl, rfl⟩

set_option maxHeartbeats 400000 in
theorem fits_no (r n c p : Nat) (a : Option Addr) (m q : Int) (w : World) (h : Rfc w r a n c p 0) (hpn : p ≤ n) (hn : n ≤ 1000000) (hm : Brk m (n - p) q) :
    Calls Try.prog 49 #[.pointer (some ⟨r, 0, none⟩), .int .i64 m] w fun en w' => en = .returned (.bool false) ∧ Rfc w' r a n c p q ∧ Only r w w' := by
  have h0 := h.c0
  have h1 := h.c1
  have h2 := h.c2
  have f2 := h.fz 2
  rcases hm with ⟨hm, rfl⟩ | ⟨hm, hs, rfl⟩
  · have HR := hid (h.set2 11)
    have HO := hid ((Only.refl r w).set 2 (.int .i64 11))
    clear h
    go_enter Try.func49, Try.ntmps49
    go_wp2
    go_ret
    exact ⟨rfl, HR.out, HO.out⟩
  · have hwr : IntKind.i64.wrap ((n : Int) - (p : Int)) = (n : Int) - (p : Int) := by rw [IntKind.wrap_i64]; omega
    have i1 : (n : Int) - (p : Int) < m := by omega
    have HR : Hid (∀ nq, Rfc ((w.drewN nq).setCell ⟨r, 2, none⟩ (.int .i64 10)) r a n c p 10) := fun nq => Rfc.set2 (h.at rfl) 10
    have HO : Hid (∀ nq, Only r w ((w.drewN nq).setCell ⟨r, 2, none⟩ (.int .i64 10))) := fun nq => ((Only.refl r w).drewN nq).set 2 _
    clear h hs
    go_enter Try.func49, Try.ntmps49
    go_wp2
    go_quiet (fail)
    go_wp2
    go_ret
    exact ⟨rfl, HR.out _, HO.out _⟩

set_option maxHeartbeats 400000 in
theorem fits_yes (r n c p m : Nat) (a : Option Addr) (w : World) (h : Rfc w r a n c p 0) (hn : n ≤ 1000000) (hm : p + m ≤ n) :
    Calls Try.prog 49 #[.pointer (some ⟨r, 0, none⟩), .int .i64 m] w fun en w' => en = .returned (.bool true) ∧ Drawn w w' := by
  have h0 := h.c0
  have h1 := h.c1
  have h2 := h.c2
  have hwr : IntKind.i64.wrap ((n : Int) - (p : Int)) = (n : Int) - (p : Int) := by rw [IntKind.wrap_i64]; omega
  have i1 : ¬ (n : Int) - (p : Int) < (m : Int) := by omega
  clear h
  go_enter Try.func49, Try.ntmps49
  go_wp2
  go_quiet (fail)
  go_wp2
  go_ret
  exact ⟨rfl, drawnN w _⟩

set_option maxHeartbeats 400000 in
theorem rleft_broken (r n c : Nat) (a : Option Addr) (p e : Int) (w : World) (h : Rfc w r a n c p e) (he : (e != 0) = true) :
    Calls Try.prog 39 #[.pointer (some ⟨r, 0, none⟩)] w fun en w' => en = .returned (.int .i64 0) ∧ w' = w := by
  have h2 := h.c2
  clear h
  go_enter Try.func39, Try.ntmps39
  go_wp2
  go_ret
  exact ⟨rfl, rfl⟩

set_option maxHeartbeats 400000 in
theorem rleft_whole (r n c p L : Nat) (a : Option Addr) (w : World) (h : Rfc w r a n c p 0) (hpn : p ≤ n) (hn : n ≤ 1000000) (hL : p + L = n) :
    Calls Try.prog 39 #[.pointer (some ⟨r, 0, none⟩)] w fun en w' => en = .returned (.int .i64 L) ∧ Drawn w w' := by
  have h0 := h.c0
  have h1 := h.c1
  have h2 := h.c2
  have hwr : IntKind.i64.wrap ((n : Int) - (p : Int)) = (L : Int) := by rw [IntKind.wrap_i64]; omega
  clear h hL
  go_enter Try.func39, Try.ntmps39
  go_wp2
  go_quiet (fail)
  go_wp2
  go_ret
  exact ⟨rfl, drawnN w _⟩

set_option maxHeartbeats 400000 in
theorem rbytes_broken (r n c : Nat) (a : Option Addr) (p e m : Int) (w : World) (h : Rfc w r a n c p e) (he : (e != 0) = true) :
    Calls Try.prog 37 #[.pointer (some ⟨r, 0, none⟩), .int .i64 m] w fun en w' => en = .returned (.slice none 0 0) ∧ w' = w := by
  go_enter Try.func37, Try.ntmps37
  go_wp2_with (go_at_call 49; refine (fits_broken r n c a p e m _ h he).mono ?_; rintro en w' ⟨rfl, hw⟩; obtain rfl := hw.symm; clear hw)
  go_ret
  exact ⟨rfl, rfl⟩

set_option maxHeartbeats 400000 in
theorem rbytes_no (r n c p : Nat) (a : Option Addr) (m q : Int) (w : World) (h : Rfc w r a n c p 0) (hpn : p ≤ n) (hn : n ≤ 1000000) (hm : Brk m (n - p) q) :
    Calls Try.prog 37 #[.pointer (some ⟨r, 0, none⟩), .int .i64 m] w fun en w' => en = .returned (.slice none 0 0) ∧ Rfc w' r a n c p q ∧ Only r w w' := by
  go_enter Try.func37, Try.ntmps37
  go_wp2_with (go_at_call 49; refine (fits_no r n c p a m q _ h hpn hn hm).mono ?_; rintro en w1 ⟨rfl, h1, h2⟩)
  go_ret
  exact ⟨rfl, h1, h2⟩

set_option maxHeartbeats 400000 in
theorem rzeros_broken (r n c : Nat) (a : Option Addr) (p e m : Int) (w : World) (h : Rfc w r a n c p e) (he : (e != 0) = true) :
    Calls Try.prog 38 #[.pointer (some ⟨r, 0, none⟩), .int .i64 m] w fun en w' => en = .returned (.tuple #[]) ∧ w' = w := by
  go_enter Try.func38, Try.ntmps38
  go_wp2_with (go_at_call 49; refine (fits_broken r n c a p e m _ h he).mono ?_; rintro en w' ⟨rfl, hw⟩; obtain rfl := hw.symm; clear hw)
  try simp only [Exit.inBlock, Exit.then]
  refine bodyPost_ret (results_none rfl _ _ _) rfl ?_
  exact ⟨rfl, rfl⟩

set_option maxHeartbeats 400000 in
theorem rzeros_no (r n c p : Nat) (a : Option Addr) (m q : Int) (w : World) (h : Rfc w r a n c p 0) (hpn : p ≤ n) (hn : n ≤ 1000000) (hm : Brk m (n - p) q) :
    Calls Try.prog 38 #[.pointer (some ⟨r, 0, none⟩), .int .i64 m] w fun en w' => en = .returned (.tuple #[]) ∧ Rfc w' r a n c p q ∧ Only r w w' := by
  go_enter Try.func38, Try.ntmps38
  go_wp2_with (go_at_call 49; refine (fits_no r n c p a m q _ h hpn hn hm).mono ?_; rintro en w1 ⟨rfl, h1, h2⟩)
  try simp only [Exit.inBlock, Exit.then]
  refine bodyPost_ret (results_none rfl _ _ _) rfl ?_
  exact ⟨rfl, h1, h2⟩

theorem Drawn.only {w w' : World} (h : Drawn w w') (r : Nat) : Only r w w' := ⟨h.os, h.tape, h.output, by rw [h.heap], fun k _ => h.at k⟩
theorem Drawn.cell {w w' : World} (h : Drawn w w') (x : Addr) : w'.cell? x = w.cell? x := World.cell?_of_block (h.at x.block)

set_option maxHeartbeats 400000 in
theorem rzeros_whole (r n c p m : Nat) (a : Option Addr) (bs : List Int) (w : World) (h : Rfc w r a n c p 0) (hb : Bs w a n bs) (hn : n ≤ 1000000) (hm : p + m ≤ n) (hz : Zs (bs.drop p) m) :
    Calls Try.prog 38 #[.pointer (some ⟨r, 0, none⟩), .int .i64 m] w fun en w' => en = .returned (.tuple #[]) ∧ Rfc w' r a n c (p + m) 0 ∧ Only r w w' := by
  obtain ⟨b1, b2, b3⟩ := hb
  have hzz : ∀ k, k < m → bs.getD (p + k) 0 = 0 := fun k hk => by have := hz k hk; simpa only [List.getD, List.getElem?_drop] using this
  clear hz b2
  go_enter Try.func38, Try.ntmps38
  go_wp2_with (go_at_call 49; refine (fits_yes r n c p m a _ h hn hm).mono ?_; rintro en w1 ⟨rfl, hd⟩)
  have hR := h.at (hd.at r)
  have hO := hd.only r
  have h0 := hR.c0
  have h1 := hR.c1
  have h2 := hR.c2
  have f1 := hR.fz 1
  have HR : Hid (∀ nq, Rfc ((w1.drewN nq).setCell ⟨r, 1, none⟩ (.int .i64 ((p : Int) + m))) r a n c ((p : Int) + m) 0) := fun nq => Rfc.set1 (hR.at rfl) _
  have HO : Hid (∀ nq v, Only r w ((w1.drewN nq).setCell ⟨r, 1, none⟩ v)) := fun nq v => (hO.drewN nq).set 1 _
  go_loopw [5] (fun i wr => ∃ k nq : Nat, k ≤ m ∧ i = .int .i64 k ∧ wr = w1.drewN nq) (fun i _ => m - (intOf i).toNat)
  case atStart => exact ⟨0, 0, by omega, rfl, rfl⟩
  case round =>
    obtain ⟨k, nq, hk, rfl, rfl⟩ := hrel
    by_cases hlt : k < m
    · rcases b3 with b3 | ⟨b, off, rfl, hc⟩
      · omega
      have hck := (hd.cell _).trans (hc (p + k) (by omega))
      rw [hzz k hlt] at hck
      have hw1 : IntKind.i64.wrap ((p : Int) + (k : Int)) = (p : Int) + (k : Int) := by rw [IntKind.wrap_i64]; omega
      have i2 : (0 : Int) ≤ (p : Int) + (k : Int) := by omega
      have i3 : (p : Int) + (k : Int) < (n : Int) := by omega
      have i4 : ((p : Int) + (k : Int)).toNat = p + k := by omega
      clear hc hzz hd hR hO h
      go_wp2
      go_quiet (fail)
      go_wp2
      go_roundw
      case rel => exact ⟨k + 1, _, by omega, by go_num, rfl⟩
      case measure => simp [intOf]; omega
    · clear b3 hzz hd hR hO h
      obtain rfl : m = k := by omega
      go_wp2
      go_end0
      exact ⟨rfl, HR.out _, HO.out _ _⟩

set_option maxHeartbeats 400000 in
theorem rzeros_bad (r n c p m k0 : Nat) (a : Option Addr) (bs : List Int) (w : World) (h : Rfc w r a n c p 0) (hb : Bs w a n bs) (hn : n ≤ 1000000) (hm : p + m ≤ n) (hz : Zs (bs.drop p) k0) (hk0 : k0 < m) (hne : (bs.drop p).getD k0 0 ≠ 0) :
    Calls Try.prog 38 #[.pointer (some ⟨r, 0, none⟩), .int .i64 m] w fun en w' => en = .returned (.tuple #[]) ∧ Rfc w' r a n c (p + k0) 11 ∧ Only r w w' := by
  obtain ⟨b1, b2, b3⟩ := hb
  have hzz : ∀ k, k < k0 → bs.getD (p + k) 0 = 0 := fun k hk => by have := hz k hk; simpa only [List.getD, List.getElem?_drop] using this
  have hnn : bs.getD (p + k0) 0 ≠ 0 := by simpa only [List.getD, List.getElem?_drop] using hne
  clear hz b2 hne
  go_enter Try.func38, Try.ntmps38
  go_wp2_with (go_at_call 49; refine (fits_yes r n c p m a _ h hn hm).mono ?_; rintro en w1 ⟨rfl, hd⟩)
  have hR := h.at (hd.at r)
  have hO := hd.only r
  have h0 := hR.c0
  have h1 := hR.c1
  have h2 := hR.c2
  have f1 := hR.fz 1
  have f2 := hR.fz 2
  have HR : Hid (∀ nq, Rfc (((w1.drewN nq).setCell ⟨r, 2, none⟩ (.int .i64 11)).setCell ⟨r, 1, none⟩ (.int .i64 ((p : Int) + k0))) r a n c ((p : Int) + k0) 11) := fun nq => Rfc.set1 (Rfc.set2 (hR.at rfl) 11) _
  have HO : Hid (∀ nq v u, Only r w (((w1.drewN nq).setCell ⟨r, 2, none⟩ v).setCell ⟨r, 1, none⟩ u)) := fun nq v u => ((hO.drewN nq).set 2 _).set 1 _
  go_loopw [5] (fun i wr => ∃ k nq : Nat, k ≤ k0 ∧ i = .int .i64 k ∧ wr = w1.drewN nq) (fun i _ => m - (intOf i).toNat)
  case atStart => exact ⟨0, 0, by omega, rfl, rfl⟩
  case round =>
    obtain ⟨k, nq, hk, rfl, rfl⟩ := hrel
    rcases b3 with b3 | ⟨b, off, rfl, hc⟩
    · omega
    have hck := (hd.cell _).trans (hc (p + k) (by omega))
    have hw1 : IntKind.i64.wrap ((p : Int) + (k : Int)) = (p : Int) + (k : Int) := by rw [IntKind.wrap_i64]; omega
    have i1 : (k : Int) < (m : Int) := by omega
    have i2 : (0 : Int) ≤ (p : Int) + (k : Int) := by omega
    have i3 : (p : Int) + (k : Int) < (n : Int) := by omega
    have i4 : ((p : Int) + (k : Int)).toNat = p + k := by omega
    by_cases hlt : k < k0
    · rw [hzz k hlt] at hck
      clear hc hzz hd hR hO h
      go_wp2
      go_quiet (fail)
      go_wp2
      go_roundw
      case rel => exact ⟨k + 1, _, by omega, by go_num, rfl⟩
      case measure => simp [intOf]; omega
    · obtain rfl : k0 = k := by omega
      have hbb : (bs.getD (p + k0) 0 != 0) = true := by rw [bne_iff_ne]; exact hnn
      clear hc hzz hd hR hO h hnn
      generalize bs.getD (p + k0) 0 = z at *
      go_wp2
      go_quiet (fail)
      go_wp2
      try simp only [Exit.inBlock, Exit.then]
      refine bodyPost_ret (results_none rfl _ _ _) rfl ?_
      exact ⟨rfl, HR.out _, HO.out _ _ _⟩

theorem bs_none0 {w : World} {a : Option Addr} {n m p : Nat} {zs : List Int} (h : Bs w a n zs) (hp : p = 0) : Bs w a p ((zs.drop m).take p) := by
  subst hp; exact ⟨by simp, by simp, .inl rfl⟩
theorem bs_mid {w : World} {a : Option Addr} {n m p : Nat} {zs : List Int} (h : Bs w a n zs) (hp : m + p ≤ n) : Bs w (a.map (fun x => x.add m)) p ((zs.drop m).take p) := by
  obtain ⟨h1, h2, h3⟩ := h
  refine ⟨by simp; omega, fun z hz => h2 z (List.mem_of_mem_drop (List.mem_of_mem_take hz)), ?_⟩
  by_cases h0 : p = 0
  · exact .inl h0
  rcases h3 with h3 | ⟨b, off, rfl, hc⟩
  · omega
  · refine .inr ⟨b, off + m, by simp [Addr.add], fun i hi => ?_⟩
    rw [Nat.add_assoc, hc (m + i) (by omega)]
    simp only [List.getD, List.getElem?_take, if_pos hi, List.getElem?_drop]

set_option maxHeartbeats 400000 in
theorem rbytes_whole (r n c p m : Nat) (a : Option Addr) (bs : List Int) (w : World) (h : Rfc w r a n c p 0) (hb : Bs w a n bs) (hnc : n ≤ c) (hn : n ≤ 1000000) (hm : p + m ≤ n) (hcm : c ≤ maxLen) (hof : Off a n (some r)) :
    Calls Try.prog 37 #[.pointer (some ⟨r, 0, none⟩), .int .i64 m] w fun en w' => ∃ a2 c2, en = .returned (.slice a2 m c2) ∧ Bs w' a2 m ((bs.drop p).take m) ∧ Rfc w' r a n c (p + m) 0 ∧ w.grownBy w' (some r) := by
  unfold maxLen at hcm
  go_enter Try.func37, Try.ntmps37
  go_wp2_with (go_at_call 49; refine (fits_yes r n c p m a _ h hn hm).mono ?_; rintro en w1 ⟨rfl, hd⟩)
  have hR := h.at (hd.at r)
  have h0 := hR.c0
  have h1 := hR.c1
  have hlt : r < w1.heap.size := hR.lt
  obtain ⟨a', ha', bm⟩ : ∃ a', (if c = p then a else Option.map (fun x => x.add p) a) = a' ∧ Bs w1 a' m ((bs.drop p).take m) := by
    by_cases hcp : c = p
    · exact ⟨a, if_pos hcp, bs_none0 (hb.drawn hd) (by omega)⟩
    · exact ⟨_, if_neg hcp, bs_mid (hb.drawn hd) hm⟩
  have bmd : Bs w1.drew a' m ((bs.drop p).take m) := bm
  have i1 : (0 : Int) ≤ (p : Int) := by omega
  have i5 : (p : Int) + (m : Int) ≤ (c : Int) := by omega
  have i6 : (p : Int) ≤ (p : Int) + (m : Int) := by omega
  have hwr : IntKind.i64.wrap ((p : Int) + (m : Int)) = (p : Int) + (m : Int) := by rw [IntKind.wrap_i64]; omega
  have hwq : ((p : Int) + (m : Int)).toNat = p + m := by omega
  go_region_held (fun wx => wx.cell? ⟨r, 0, none⟩ = some (.slice a n c) ∧ wx.cell? ⟨r, 1, none⟩ = some (.int .i64 p)) (go_keep)
    ((go_at_call 26; refine (refBytes a' m (c - p) ((bs.drop p).take m) _ bmd (by omega)).mono ?_; rintro e w4 ⟨v, rfl, hown, hbl⟩; have y0 := (hbl.cell (p := ⟨r, 0, none⟩) hlt).trans h0; have y1 := (hbl.cell (p := ⟨r, 1, none⟩) hlt).trans h1))
  have R4 : Rfc w4 r a n c p 0 := hR.at (hbl.block r hlt)
  obtain ⟨a2, c2, rfl, b2, _, _, _⟩ := own_form hown (fun z hz => hb.2.1 z (List.mem_of_mem_drop (List.mem_of_mem_take hz)))
  have hlies : Off a2 m (some r) := by
    rcases hown.2 with ⟨e, _⟩ | ⟨g, cap, cur, e, hg, _⟩
    · exact .inl (by simp at e; omega)
    · simp at e
      obtain ⟨rfl, _⟩ := e
      refine .inr fun x hx hh => ?_
      obtain rfl := Option.some.inj hx
      have := Option.some.inj hh
      have hg' : w1.heap.size ≤ g := hg
      simp at this
      omega
  have G : w.grownBy w4 (some r) := ⟨hbl.os.trans hd.os, hbl.tape.trans hd.tape, hbl.output.trans hd.output, by have := hbl.size; rw [← hd.heap]; exact this, fun k hk _ => (hbl.block k (by rw [← hd.heap] at hk; exact hk)).trans (hd.at k)⟩
  have HR := hid (R4.set1 ((p : Int) + m))
  have f1 := R4.fz 1
  have HB : Hid (Bs (w4.setCell ⟨r, 1, none⟩ (.int .i64 ((p : Int) + m))) a2 m ((bs.drop p).take m)) := b2.kept (((Only.refl r w4).set 1 _).grown) hlies
  have HG : Hid (w.grownBy (w4.setCell ⟨r, 1, none⟩ (.int .i64 ((p : Int) + m))) (some r)) := by
    have o := (Only.refl r w4).set 1 (.int .i64 ((p : Int) + m))
    exact ⟨o.os.trans G.os, o.tape.trans G.tape, o.output.trans G.output, by rw [o.size]; exact G.size, fun k hk hr => (o.block k (fun e => hr (by rw [e]))).trans (G.block k hk hr)⟩
  have y1 := R4.c1
  clear hown hbl b2 G bm bmd hb hof R4 hR h hd
  go_wp2
  go_ret
  exact ⟨a2, c2, rfl, HB.out, HR.out, HG.out⟩
end Go.Proofs.Ytjaecokhocbdlaa
