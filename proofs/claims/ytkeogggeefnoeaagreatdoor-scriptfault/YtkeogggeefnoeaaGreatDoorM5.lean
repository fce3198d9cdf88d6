import Derived.Test.YtkeogggeefnoeaaGreatDoorQ1
import Derived.Test.YtkeogggeefnoeaaGreatDoorCodeS
import Derived.Deep.RegionHeldLaw
import Derived.Lib.BufferRead
namespace Go.Proofs.YtkeogggeefnoeaaGreatDoor
set_option linter.unusedSimpArgs false
open Go.RowKit
set_option linter.unusedVariables false
set_option maxRecDepth 100000

/-! Writing: a page's small calls. -/
theorem own_sl {w : World} {B e sz n : Nat} {v : Value} {xs : List Value} (h : w.ownsRow B e sz v n xs) : ∃ a c, v = .slice a n c := by
  rcases h.2 with ⟨e, e0⟩ | ⟨g', cap, cur, e, _⟩
  · exact ⟨none, 0, by rw [e, e0]⟩
  · exact ⟨_, _, e⟩
section
variable {Kk : Nat → Obj → Prop} {w0 w : World} {g : Nat} {T : List Nat}
theorem room_ (h : Pg Kk w0 w g T) : Calls Tryz.prog 24 #[.pointer (some ⟨g, 0, none⟩)] w fun e w' => e = .returned (.int .i64 ((PM - (T.take PM).length : Nat) : Int)) ∧ w' = w := by
  obtain ⟨v, n, hn, hle, c0, fz, hg, ho, _⟩ := h.cell
  obtain ⟨a, c, rfl⟩ : ∃ a c, v = .slice a n c := by
    rcases ho.2 with ⟨e, e0⟩ | ⟨g', cap, cur, e, _⟩
    · exact ⟨none, 0, by rw [e, e0]⟩
    · exact ⟨_, _, e⟩
  have hw : IntKind.i64.wrap (1048577 - (n : Int)) = ((PM - n : Nat) : Int) := by rw [IntKind.wrap_i64]; unfold PM; omega
  rw [← hn]
  clear h hg ho hn
  go_enter Tryz.func24, Tryz.ntmps24
  go_wp2_with fail
  go_ret
  exact ⟨rfl, rfl⟩
theorem ic_append (a b : List Nat) : ic (a ++ b) = ic a ++ ic b := by simp [ic]
/-- A page whose text's row has grown and been laid into it. -/
theorem Pg.upd (h : Pg Kk w0 w g T) {t : List Nat} (ht : ∀ x ∈ t, x < 256) {v v' : Value} {n N : Nat} {w' wx : World} (hg : w.heap[g]? = some (.cells #[v] 42 (0, 0))) (ho : w.ownsRow w0.heap.size 5 1 v n (cells (ic (T.take PM))))
    (h1 : w'.ownsRow w0.heap.size 5 1 v' N (cells (ic ((T ++ t).take PM)))) (h2 : w.drew.grownBy w' v.ownBlock) (h3 : w'.heap[g]? = some (.cells #[v] 42 (0, 0))) (hd : Drawn (w'.setCell ⟨g, 0, none⟩ v') wx) : Pg Kk w0 wx g (T ++ t) := by
  have hN : N = ((T ++ t).take PM).length := by
    have := h1.1
    rw [cells_length, ic_length, Nat.mul_one] at this
    exact this.symm
  subst hN
  have hv : v'.ownBlock ≠ some g := fun e => by
    rcases h1.2 with ⟨e1, _⟩ | ⟨g', cap, cur, e1, _, hg', _⟩
    · rw [e1] at e; simp [Value.ownBlock] at e
    · rw [e1] at e
      obtain rfl : g' = g := by simpa [Value.ownBlock] using e
      rw [h3] at hg'
      simp at hg'
  refine ⟨⟨v', ?_, ?_⟩, h.lo, ?_, fun x hx => (List.mem_append.1 hx).elim (h.byt x) (ht x), fun j B hj => ?_⟩
  rotate_right
  · obtain ⟨a, b, c⟩ := h.kp j B hj
    refine ⟨?_, b, c⟩
    rw [hd.at j, Below.heap_setCell _ _ _ _ (fun e => b (by rw [e])), h2.block j (by simpa using (Array.getElem?_eq_some_iff.1 a).1) (fun e => ?_)]
    · exact a
    · rcases ho.2 with ⟨e1, _⟩ | ⟨g', cap, cur, e1, _, hg', _⟩
      · rw [e1] at e; simp [Value.ownBlock] at e
      · rw [e1] at e
        obtain rfl : j = g' := by simpa [Value.ownBlock] using e
        rw [a] at hg'
        exact c cur (Option.some.inj hg')
  · rw [hd.at g]
    simp [World.setCell, Array.getElem?_modify, h3]
  · have e : (w'.setCell ⟨g, 0, none⟩ v').ownsRow w0.heap.size 5 1 v' ((T ++ t).take PM).length (cells (ic ((T ++ t).take PM))) := h1.kept (row := some g) ⟨rfl, rfl, rfl, by simp [World.setCell], fun k hk hne => Below.heap_setCell _ _ _ _ (fun e => hne (by rw [e]))⟩ (.inr hv)
    exact own_bel e hd.below
  · have b1 : Below w0.heap.size w0 w.drew := h.bel.trans ⟨rfl, rfl, rfl, Nat.le_refl _, fun _ _ => rfl⟩
    have b2 : Below w0.heap.size w0 w' := b1.trans ⟨h2.os, h2.tape, h2.output, h2.size, fun k hk => h2.block k (Nat.lt_of_lt_of_le hk b1.size) fun e => by
      have := (ho.lt k e.symm).1
      omega⟩
    have b3 : Below w0.heap.size w0 (w'.setCell ⟨g, 0, none⟩ v') := b2.trans ⟨rfl, rfl, rfl, by simp [World.setCell], fun k hk => Below.heap_setCell _ _ _ _ (fun e => by have := h.lo; have e' : k = g := e; omega)⟩
    exact b3.trans ⟨hd.os, hd.tape, hd.output, by rw [hd.heap]; exact Nat.le_refl _, fun k _ => hd.at k⟩
set_option maxHeartbeats 2000000 in
theorem add_ (h : Pg Kk w0 w g T) (t : List Nat) (ht : ∀ x ∈ t, x < 256) (hl : t.length ≤ maxLen) : Calls Tryz.prog 16 #[.pointer (some ⟨g, 0, none⟩), .string (sb t)] w fun e w' => e = .returned (.tuple #[]) ∧ Pg Kk w0 w' g (T ++ t) := by
  have HP := hid h
  obtain ⟨v, n, hn, hle, c0, fz, hg, ho, hne⟩ := h.cell
  have HO := hid ho
  have HNE := hid hne
  have HG := hid hg
  have HN := hid hn
  have HLE := hid hle
  obtain ⟨k, HK⟩ : ∃ z, Hid (PM - (T.take PM).length = z) := ⟨_, rfl⟩
  obtain ⟨m, HM⟩ : ∃ z, Hid (t.length = z) := ⟨_, rfl⟩
  have HML : Hid (m ≤ maxLen) := by show _ ≤ _; rw [← HM.out]; exact hl
  have hsz : (sb t).size = m := by rw [sb_size]; exact HM.out
  have HKR := hid fun (wx : World) (hb : Below w.heap.size w wx) => room_ (h.on hb)
  rw [HK.out] at HKR
  obtain ⟨q, HQ⟩ : ∃ z, Hid (min m k = z) := ⟨_, rfl⟩
  have HT := hid ht
  have HX : Hid ((sb t).extract 0 (min (m : Int) (k : Int)).toNat = sb (t.take q)) := by
    show _ = _
    rw [sb_cut, List.drop_zero, show (min (m : Int) (k : Int)).toNat = q by have := HQ.out; omega]
  obtain ⟨qm, HQM⟩ : ∃ z, Hid ((t.take q).length = z) := ⟨_, rfl⟩
  have HQL : Hid (n + qm ≤ 140737488355328) := by
    show _ ≤ _
    have h1 := HK.out
    have h2 := HQ.out
    have h3 : k ≤ PM := by omega
    unfold PM at h3
    have h4 := HQM.out
    rw [List.length_take] at h4
    omega
  have HBL : Hid (w0.heap.size ≤ w.drew.heap.size) := h.bel.size
  have HFZ : Hid (∀ w', w.drew.grownBy w' v.ownBlock → w'.cell? ⟨g, 0, none⟩ = some v ∧ w'.frozen? ⟨g, 0, none⟩ = false ∧ w'.heap[g]? = some (.cells #[v] 42 (0, 0))) := fun w' h2 => by
    have e := (h2.block g (Array.getElem?_eq_some_iff.1 hg).1 (fun e => hne e.symm)).trans (show w.drew.heap[g]? = _ from hg)
    exact ⟨(cell_of_row _ _ 0 _ _ (0, 0) e).trans rfl, by simp [World.frozen?, e], e⟩
  have HTA : Hid (T.take PM ++ t.take q = (T ++ t).take PM) := by
    show _ = _
    have h1 := take_add T t
    have h2 := HK.out
    have h3 := HQ.out
    have h4 := HM.out
    rw [h2] at h1
    rw [← h1, ← h3]
    congr 1
    by_cases hmk : m ≤ k
    · rw [Nat.min_eq_left hmk, List.take_of_length_le (by omega), List.take_of_length_le (by omega)]
    · rw [Nat.min_eq_right (by omega)]
  have HBS : Hid (g < w.heap.size) := (Array.getElem?_eq_some_iff.1 hg).1
  have hb0 : (0 : Int) ≤ min (m : Int) (k : Int) ∧ min (m : Int) (k : Int) ≤ (m : Int) := by omega
  obtain ⟨hb1, hb2⟩ := hb0
  clear h hn hle hg ho hne hl ht
  go_enter Tryz.func16, Tryz.ntmps16
  go_wp2_with fail
  go_region_law (first
    | (go_simp; go_at_call 24; refine (HKR.out _ (by first | exact below_drew w | exact (drawnN w _).below)).mono ?_; rintro en w2 ⟨rfl, hw2⟩; subst hw2)
    | (refine step_appStr rfl (.tmp 8) (.tmp 15) rfl w0.heap.size v n (ic (T.take PM)) (by rfl) (by exact HO.out) (t.take q) (fun x hx => HT.out x (List.mem_of_mem_take hx)) (by show Value.string _ = _; rw [HX.out]) qm HQM (by exact HQL.out) (by exact HBL.out) ?_; intro v' w' h1 h2; obtain ⟨a', c', rfl⟩ := own_sl h1; obtain ⟨z1, z2, z3⟩ := HFZ.out w' h2; have HF1 := hid h1; have HF2 := hid h2; have HF3 := hid z3))
  all_goals
    go_wp2_with fail
    go_end0
    exact ⟨rfl, HP.out.upd HT.out HG.out HO.out (by have := HF1.out; rw [← ic_append, HTA.out] at this; exact this) HF2.out HF3.out ⟨rfl, rfl, rfl, rfl⟩⟩
/-- One more word. -/
theorem word_ (h : Pg Kk w0 w g T) (t : List Nat) (ht : ∀ x ∈ t, x < 256) (hl : t.length + 1 ≤ maxLen) : Calls Tryz.prog 25 #[.pointer (some ⟨g, 0, none⟩), .string (sb t)] w fun e w' => e = .returned (.tuple #[]) ∧ Pg Kk w0 w' g (T ++ 32 :: t) := by
  have k1 := add_ h (32 :: t) (fun x hx => by
    rcases List.mem_cons.1 hx with rfl | hx
    · omega
    · exact ht x hx) (by rw [List.length_cons]; exact hl)
  obtain ⟨E, HE⟩ : ∃ z, Hid (sb (32 :: t) = z) := ⟨_, rfl⟩
  have HA : Hid ((⟨#[32]⟩ : ByteArray) ++ sb t = E) := by
    show _ = _
    rw [← HE.out, show (⟨#[32]⟩ : ByteArray) = sb [32] from rfl, sb_append]
    rfl
  have hq := sb_size t
  rw [HE.out] at k1
  generalize sb t = D at *
  have a1 := fun w => run_string_add_sum (P := Tryz.prog) w ⟨#[32]⟩ D (by show 1 + D.size ≤ _; unfold maxLen at hl; omega)
  rw [HA.out] at a1
  clear h hq hl
  go_enter Tryz.func25, Tryz.ntmps25
  go_wp2_with fail
  refine k1.mono ?_
  rintro e w1 ⟨rfl, h1⟩
  have H1 := hid h1
  clear k1 h1
  go_wp2_with fail
  go_end0
  exact ⟨rfl, H1.out⟩
/-- string(b) of a row of one's own. -/
theorem run_own_text {w : World} {B n : Nat} {v : Value} {l : List Nat} (h : w.ownsRow B 5 1 v n (cells (ic l))) (hl : ∀ x ∈ l, x < 256) : (convert 40 9 v).run Tryz.prog w = .ok (.string (sb l)) w := by
  by_cases h0 : 0 < n
  · obtain ⟨g, cap, rfl, _, _, _, hh, hn⟩ := own_head h h0
    rw [ic_length] at hn
    exact run_text7 w g cap n l hn hl hh
  · obtain rfl : n = 0 := by omega
    have e := h.1
    rw [cells_length, ic_length] at e
    obtain rfl : l = [] := List.eq_nil_of_length_eq_zero (by omega)
    obtain ⟨a, c, rfl⟩ := own_sl h
    cases a with
    | none => exact Lib.run_convert_nil_bytes (P := Tryz.prog) w 40 9 5 c Tryz.underlying40 (by kernel_rfl) (by kernel_rfl)
    | some ad => exact run_convert_bytes_back (P := Tryz.prog) w 40 9 5 ad c [] Tryz.underlying40 (by kernel_rfl) (by kernel_rfl) (fun j hj => by simp at hj)
/-- The whole text, unless it is too long. -/
theorem whole_ (h : Pg Kk w0 w g T) : Calls Tryz.prog 19 #[.pointer (some ⟨g, 0, none⟩)] w fun e w' => e = .returned (if 1048576 < T.length then .tuple #[.string (sb []), .int .i64 221] else .tuple #[.string (sb T), .int .i64 0]) ∧ w' = w := by
  obtain ⟨v, n, hn, hle, c0, fz, hg, ho, _⟩ := h.cell
  have hnl : n = min PM T.length := by rw [hn, List.length_take]
  obtain ⟨a, c, rfl⟩ := own_sl ho
  by_cases hT : 1048576 < T.length
  · have hI : (1048576 : Int) < (n : Int) := by unfold PM at hnl; omega
    rw [if_pos hT]
    clear h hg ho hn hnl
    go_enter Tryz.func19, Tryz.ntmps19
    go_wp2_with fail
    go_ret2
    exact ⟨rfl, rfl⟩
  · have hI : ¬ (1048576 : Int) < (n : Int) := by unfold PM at hnl; omega
    have hk : T.take PM = T := List.take_of_length_le (by unfold PM; omega)
    rw [hk] at ho
    have hcv := run_own_text ho h.byt
    rw [if_neg hT]
    obtain ⟨S, HS⟩ : ∃ z, Hid (sb T = z) := ⟨_, rfl⟩
    rw [HS.out] at hcv ⊢
    clear h hg ho hn hnl hk
    go_enter Tryz.func19, Tryz.ntmps19
    go_wp2_with fail
    go_ret2
    exact ⟨rfl, rfl⟩
end
end Go.Proofs.YtkeogggeefnoeaaGreatDoor
namespace Go.Proofs.YtkeogggeefnoeaaGreatDoor
set_option linter.unusedSimpArgs false
open Go.RowKit
set_option linter.unusedVariables false
set_option maxRecDepth 100000

/-! Writing: words. -/
def spw (ws : List (List Nat)) : List Nat := ws.flatMap (32 :: ·)
/-- What a call that writes words leaves: the page with them, or an error. -/
def Pw (Kk : Nat → Obj → Prop) (w0 : World) (g : Nat) (T : List Nat) (r : R (List (List Nat))) (e : Ending) (w' : World) : Prop :=
  match r with
  | .ok ws => e = .returned (.int .i64 0) ∧ Pg Kk w0 w' g (T ++ spw ws)
  | .error x => e = .returned (.int .i64 (x : Nat)) ∧ x ≠ 0 ∧ Below w0.heap.size w0 w'
theorem spw_one (t : List Nat) : spw [t] = 32 :: t := by simp [spw]
theorem spw_app (a b : List (List Nat)) : spw (a ++ b) = spw a ++ spw b := by simp [spw]
theorem dgs_lt (n : Nat) : ∀ x ∈ dgs n 1, x < 256 := fun x hx => by have := dl_digit _ _ x hx; omega
section
variable {Kk : Nat → Obj → Prop} {w0 w : World} {g : Nat} {T : List Nat}
set_option maxHeartbeats 2000000 in
theorem number_ (h : Pg Kk w0 w g T) (hT : Tb w0) (n : Int) (hn : InI n) : Calls Tryz.prog 17 #[.pointer (some ⟨g, 0, none⟩), .int .i64 n] w fun e w' => Pw Kk w0 g T (nTx n) e w' := by
  unfold InI at hn
  by_cases h1 : 0 ≤ n ∧ n ≤ 4294967295
  · have hr : nTx n = .ok [dgs n.toNat 1] := by unfold nTx; rw [if_pos h1]
    rw [hr]
    obtain ⟨u, rfl⟩ : ∃ u : Nat, n = (u : Int) := ⟨n.toNat, by omega⟩
    have h2 : ¬ ((u : Int) < 0) := by omega
    have h3 : ¬ ((4294967295 : Int) < (u : Int)) := by omega
    have k1 := itoa_ u w (by omega) (hT.kept h.bel)
    have hl := dgs_length u 1 (by omega) (by omega)
    rw [Int.toNat_natCast]
    have HK : Hid (∀ w1, Below w.heap.size w w1 → Calls Tryz.prog 25 #[.pointer (some ⟨g, 0, none⟩), .string (sb (dgs u 1))] w1 fun e w' => e = .returned (.tuple #[]) ∧ Pg Kk w0 w' g (T ++ 32 :: dgs u 1)) :=
      fun w1 hb => word_ (h.on hb) _ (dgs_lt u) (by unfold maxLen; omega)
    clear h hl hr h1
    go_enter Tryz.func17, Tryz.ntmps17
    go_wp2_with fail
    refine k1.mono ?_
    rintro e w1 ⟨rfl, g1⟩
    have k2 := HK.out w1 g1
    clear k1 g1
    go_wp2_with fail
    refine k2.mono ?_
    rintro e w2 ⟨rfl, h2⟩
    have H2 := hid h2
    clear k2 h2
    go_wp2_with fail
    go_ret
    exact ⟨rfl, by rw [spw_one]; exact H2.out⟩
  · have hr : nTx n = .error 223 := by unfold nTx; rw [if_neg h1]
    rw [hr]
    have HB := hid h.bel
    have h2 : n < 0 ∨ (¬ n < 0 ∧ (4294967295 : Int) < n) := by omega
    clear h hr h1
    rcases h2 with h2 | ⟨h2, h3⟩
    all_goals
      go_enter Tryz.func17, Tryz.ntmps17
      go_wp2_with fail
      go_ret
      exact ⟨rfl, by decide, HB.out⟩
set_option maxHeartbeats 2000000 in
theorem stampP_ (h : Pg Kk w0 w g T) (hT : Tb w0) (s n : Int) (hs : InI s) (hn : InI n) : Calls Tryz.prog 40 #[.pointer (some ⟨g, 0, none⟩), .agg #[.int .i64 s, .int .i64 n]] w fun e w' => Pw Kk w0 g T (if vld s n then .ok [pr s n] else .error 60) e w' := by
  obtain ⟨r, HR⟩ : ∃ z, Hid ((if vld s n then .ok [pr s n] else .error 60 : R (List (List Nat))) = z) := ⟨_, rfl⟩
  rw [HR.out]
  have B0 := snew1 w s n
  have m0 := Sm.new w s n
  have HP := hid (h.on B0)
  have k1 := fun w1 => svalid_ s n w1 hs hn
  have HTB : Hid (∀ w1, Below w.heap.size w w1 → Tb w1) := fun w1 hb => hT.kept (bel_bel h.bel h.bel.size hb)
  have c0 := m0.c0
  have c1 := m0.c1
  have HB0 := hid B0
  have HM := hid m0
  have HW := hid h.bel
  clear h B0 m0
  go_enter Tryz.func40, Tryz.ntmps40
  go_wp2_with fail
  refine (k1 _).mono ?_
  rintro e w1 ⟨rfl, g1⟩
  have HP1 := hid (HP.out.on g1)
  have HM1 := hid (HM.out.kept g1)
  have HB1 := hid (bel_bel HB0.out HB0.out.size g1)
  have d0 := HM1.out.c0
  have d1 := HM1.out.c1
  clear k1 g1 c0 c1
  cases hv : vld s n with
  | false =>
    obtain rfl : Except.error 60 = r := by rw [← HR.out, hv]; rfl
    go_wp2_with fail
    go_ret
    exact ⟨rfl, by decide, HP1.out.bel⟩
  | true =>
    obtain rfl : Except.ok [pr s n] = r := by rw [← HR.out, hv]; rfl
    have k2 := sprint_ s n w1 hs hn (HTB.out w1 HB1.out)
    obtain ⟨h1, h2, h3⟩ := of_decide_eq_true (show decide _ = true from hv)
    have hs2 : s ≤ 9223372036854775807 := hs.2
    have hlen : (pr s n).length + 1 ≤ maxLen := by
      unfold pr
      rw [if_pos hv]
      have q1 := dgs_length s.toNat 1 (by omega) (by omega)
      have q2 := dgs_length n.toNat 9 (by omega) (by omega)
      rw [List.length_append, List.length_cons]
      unfold maxLen
      omega
    have hby : ∀ x ∈ pr s n, x < 256 := fun x hx => by have := (st_chars s n hv).2 x hx; omega
    have HK : Hid (∀ w2, Below w1.heap.size w1 w2 → Calls Tryz.prog 25 #[.pointer (some ⟨g, 0, none⟩), .string (sb (pr s n))] w2 fun e w' => e = .returned (.tuple #[]) ∧ Pg Kk w0 w' g (T ++ 32 :: pr s n)) :=
      fun w2 hb => word_ (HP1.out.on hb) _ hby hlen
    clear hlen hby h1 h2 h3 hs2
    go_wp2_with fail
    refine k2.mono ?_
    rintro e w2 ⟨rfl, g2⟩
    have k3 := HK.out w2 g2
    clear k2 g2 d0 d1
    go_wp2_with fail
    refine k3.mono ?_
    rintro e w3 ⟨rfl, h3⟩
    have H3 := hid h3
    clear k3 h3
    go_wp2_with fail
    go_ret
    exact ⟨rfl, by rw [spw_one]; exact H3.out⟩
set_option maxHeartbeats 2000000 in
theorem prefixP_ (h : Pg Kk w0 w g T) (hT : Tb w0) (F H L B : Int) (hF : InI F) (hH : InU H) (hL : InU L) (hB : InI B) : Calls Tryz.prog 125 #[.pointer (some ⟨g, 0, none⟩), .agg #[.int .i64 F, .int .u64 H, .int .u64 L, .int .i64 B]] w fun e w' => Pw Kk w0 g T (if vp F H L B then .ok [tp F H L B] else .error 70) e w' := by
  obtain ⟨r, HR⟩ : ∃ z, Hid ((if vp F H L B then .ok [tp F H L B] else .error 70 : R (List (List Nat))) = z) := ⟨_, rfl⟩
  rw [HR.out]
  have B0 := pnew w F H L B
  have m0 := Pm.new w F H L B
  have HP := hid (h.on B0)
  have k1 := fun w1 => valid_ F H L B w1 hF hH hL hB
  have HTB : Hid (∀ w1, Below w.heap.size w w1 → Tb w1) := fun w1 hb => hT.kept (bel_bel h.bel h.bel.size hb)
  have c0 := m0.c0
  have c1 := m0.c1
  have c2 := m0.c2
  have c3 := m0.c3
  have HB0 := hid B0
  have HM := hid m0
  clear h B0 m0
  go_enter Tryz.func125, Tryz.ntmps125
  go_wp2_with fail
  refine (k1 _).mono ?_
  rintro e w1 ⟨rfl, g1⟩
  have HP1 := hid (HP.out.on g1)
  have HM1 := hid (HM.out.kept g1)
  have HB1 := hid (bel_bel HB0.out HB0.out.size g1)
  have d0 := HM1.out.c0
  have d1 := HM1.out.c1
  have d2 := HM1.out.c2
  have d3 := HM1.out.c3
  clear k1 g1 c0 c1 c2 c3
  cases hv : vp F H L B with
  | false =>
    obtain rfl : Except.error 70 = r := by rw [← HR.out, hv]; rfl
    go_wp2_with fail
    go_ret
    exact ⟨rfl, by decide, HP1.out.bel⟩
  | true =>
    obtain rfl : Except.ok [tp F H L B] = r := by rw [← HR.out, hv]; rfl
    have k2 := print_ F H L B w1 hF hH hL hB (HTB.out w1 HB1.out)
    have hlen : (tp F H L B).length + 1 ≤ maxLen := by
      have q1 := ta_le F H L
      have q2 := dgs_length B.toNat 1 (by have := hB.2; omega) (by omega)
      unfold tp
      rw [if_pos hv, List.length_append, List.length_cons]
      unfold maxLen
      omega
    have HK : Hid (∀ w2, Below w1.heap.size w1 w2 → Calls Tryz.prog 25 #[.pointer (some ⟨g, 0, none⟩), .string (sb (tp F H L B))] w2 fun e w' => e = .returned (.tuple #[]) ∧ Pg Kk w0 w' g (T ++ 32 :: tp F H L B)) :=
      fun w2 hb => word_ (HP1.out.on hb) _ (tp_lt F H L B) hlen
    clear hlen
    go_wp2_with fail
    refine k2.mono ?_
    rintro e w2 ⟨rfl, g2⟩
    have k3 := HK.out w2 g2
    clear k2 g2 d0 d1 d2 d3
    go_wp2_with fail
    refine k3.mono ?_
    rintro e w3 ⟨rfl, h3⟩
    have H3 := hid h3
    clear k3 h3
    go_wp2_with fail
    go_ret
    exact ⟨rfl, by rw [spw_one]; exact H3.out⟩
end
end Go.Proofs.YtkeogggeefnoeaaGreatDoor
namespace Go.Proofs.YtkeogggeefnoeaaGreatDoor
set_option linter.unusedSimpArgs false
open Go.RowKit
set_option linter.unusedVariables false
set_option maxRecDepth 100000

/-! Writing: hex, bits. -/
theorem Pg.eqv {Kk : Nat → Obj → Prop} {w0 w : World} {g : Nat} {T T' : List Nat} (h : Pg Kk w0 w g T) (e : T.take PM = T'.take PM) (hb : ∀ x ∈ T', x < 256) : Pg Kk w0 w g T' := by
  obtain ⟨v, h1, h2⟩ := h.blk
  rw [e] at h2
  exact ⟨⟨v, h1, h2⟩, h.lo, h.bel, hb, h.kp⟩
theorem take_hex (T : List Nat) (b : List Nat) (F : Nat → List Nat) (hF : ∀ x, 1 ≤ (F x).length) : (T ++ 32 :: (b.take (PM - (T.take PM).length)).flatMap F).take PM = (T ++ 32 :: b.flatMap F).take PM := by
  rw [List.take_append, List.take_append]
  congr 1
  obtain ⟨k, hk⟩ : ∃ k, PM - T.length = k := ⟨_, rfl⟩
  have hk2 : PM - (T.take PM).length = k := by rw [List.length_take]; omega
  rw [hk2, hk]
  cases k with
  | zero => rfl
  | succ k =>
    rw [List.take_succ_cons, List.take_succ_cons]
    congr 1
    have hl : ∀ (l : List Nat), l.length ≤ (l.flatMap F).length := fun l => by
      induction l with
      | nil => simp
      | cons x l ih =>
        rw [List.flatMap_cons, List.length_append, List.length_cons]
        have := hF x
        omega
    have e : b.flatMap F = (b.take (k + 1)).flatMap F ++ (b.drop (k + 1)).flatMap F := by
      rw [← List.flatMap_append, List.take_append_drop]
    rw [e, List.take_append]
    by_cases hb : k + 1 ≤ b.length
    · have h1 := hl (b.take (k + 1))
      rw [List.length_take, Nat.min_eq_left hb] at h1
      rw [show k - ((b.take (k + 1)).flatMap F).length = 0 by omega, List.take_zero, List.append_nil]
    · rw [List.drop_of_length_le (by omega)]
      simp
/-- append of bytes in a block of their own to a row of one's own, in a region that draws its order. -/
theorem step_appZ {w : World} {ops : Array Oper} {o : Oper} {act : Act} {K : Act → World → Prop} {Q : Exit → Act → World → Prop} {E : Prop} (hgd : o.guard = none) (s x : Operand)
    (ho : o.op = .call { callee := .builtin .append, args := #[s, x], argTypes := #[40, 40] })
    (base : Nat) (v : Value) (n : Nat) (X : List Int) (hs : act.eval s = v) (hown : w.ownsRow base 5 1 v n (cells X)) (g m : Nat) (Z : List Int) (hx : act.eval x = .slice (some ⟨g, 0, none⟩) m m) (hz : Z.length = m) (hm : 0 < m)
    (hg : ∀ j u, (cells Z)[j]? = some u → w.cell? ⟨g, j, none⟩ = some u) (hlen : n + m ≤ 140737488355328) (hbase : base ≤ w.heap.size)
    (h : ∀ a' c' w', Hid (w'.ownsRow base 5 1 (.slice a' (n + m) c') (n + m) (cells (X ++ Z))) → Hid (w.grownBy w' v.ownBlock) → K (act.put o.dst (.slice a' (n + m) c')) w') : if Region.wanted o (yielded ops act.tmps) = true then Oper.wp Tryz.prog o act w K Q else E := by
  obtain ⟨i, hi, hz0, hz1, hz2⟩ := info_parts info5
  refine step_append_lies _ hgd s x 40 ho base 5 i (.int .u8 0) 1 1 Tryz.underlying40 hi hz0 hz1 hz2 rfl (by decide) v n (cells X) hs hown ⟨g, 0, none⟩ m m (cells Z) hx (by rw [cells_length, hz, Nat.mul_one]) ?c1 ?c2 hm (by unfold maxLen; omega) (by omega) hbase _ rfl ?_
  case c1 =>
    intro j u hj
    rw [Addr.add_lit, Nat.zero_add]
    exact hg j u hj
  case c2 =>
    intro u hu
    obtain ⟨z, _, rfl⟩ := List.mem_map.1 hu
    rfl
  intro g' cap w' h1 h2 _ _
  exact h _ _ w' (by show w'.ownsRow _ _ _ _ _ _; rw [cells_append]; exact h1) h2
theorem and15b (x : Nat) (h : x < 256) : bits BinOp.and IntKind.u8 (x : Int) 15 = ((x % 16 : Nat) : Int) := by
  have h0 : ∀ x : Fin 256, bits BinOp.and IntKind.u8 ((x.val : Nat) : Int) 15 = ((x.val % 16 : Nat) : Int) := by decide +kernel
  exact h0 ⟨x, h⟩
theorem dig_hi (x : Nat) (h : x < 256) (w : World) : (Instr.index 9 (.string ⟨#[48, 49, 50, 51, 52, 53, 54, 55, 56, 57, 97, 98, 99, 100, 101, 102]⟩) (.int .u8 ((x : Int) / 16))).run Tryz.prog w = .ok (.int .u8 ((hd (x / 16) : Nat) : Int)) w := by
  have e := hex_at (x / 16) (by omega) w
  rw [show (((x / 16 : Nat)) : Int) = (x : Int) / 16 by omega] at e
  exact e
theorem dig_lo (x : Nat) (w : World) : (Instr.index 9 (.string ⟨#[48, 49, 50, 51, 52, 53, 54, 55, 56, 57, 97, 98, 99, 100, 101, 102]⟩) (.int .u8 ((x % 16 : Nat) : Int))).run Tryz.prog w = .ok (.int .u8 ((hd (x % 16) : Nat) : Int)) w := hex_at (x % 16) (by omega) w
section
variable {Kk : Nat → Obj → Prop} {w0 w : World} {g : Nat} {T : List Nat} {V : Nat → Prop}
theorem minus_ (h : Pg Kk w0 w g T) : Calls Tryz.prog 25 #[.pointer (some ⟨g, 0, none⟩), .string ⟨#[45]⟩] w fun e w' => e = .returned (.tuple #[]) ∧ Pg Kk w0 w' g (T ++ 32 :: [45]) :=
  word_ h [45] (by simp) (by unfold maxLen; simp)
theorem hex_two (b : List Nat) (j : Nat) (hj : j < b.length) : cells (ic ((b.take j).flatMap hx) ++ [((hd (b.getD j 0 / 16) : Nat) : Int), ((hd (b.getD j 0 % 16) : Nat) : Int)]) = cells (ic ((b.take (j + 1)).flatMap hx)) := by
  rw [List.take_succ_eq_append_getElem hj, List.flatMap_append]
  simp [ic, hx, List.getD, hj]
theorem hx_flat_len (b : List Nat) : (b.flatMap hx).length = 2 * b.length := by
  induction b with
  | nil => rfl
  | cons x b ih => rw [List.flatMap_cons, List.length_append, ih]; simp [hx]; omega
set_option maxHeartbeats 4000000 in
theorem hex_ (h : Pg Kk w0 w g T) (b : List Nat) (a : Option Addr) (n c : Nat) (hd : Vs w0 V a n c (ic b)) (hn : n ≤ 140737488355328) : Calls Tryz.prog 39 #[.pointer (some ⟨g, 0, none⟩), .slice a n c] w fun e w' => e = .returned (.tuple #[]) ∧ Pg Kk w0 w' g (T ++ 32 :: hxt b) := by
  have hbl : b.length = n := by have := hd.bs.1; rwa [ic_length] at this
  by_cases h0 : n = 0
  · subst h0
    obtain rfl : b = [] := List.eq_nil_of_length_eq_zero hbl
    have k1 := minus_ h
    clear h hd
    go_enter Tryz.func39, Tryz.ntmps39
    go_wp2_with fail
    refine k1.mono ?_
    rintro e w1 ⟨rfl, h1⟩
    have H1 := hid h1
    clear k1 h1
    go_wp2_with fail
    refine bodyPost_ret (results_none rfl _ _ _) rfl ?_
    exact ⟨rfl, H1.out⟩
  · have hne : ((n : Int) == 0) = false := by simp; omega
    have hb2 : b ≠ [] := fun e => by subst e; simp at hbl; omega
    have k1 := room_ h
    obtain ⟨k, HK⟩ : ∃ z, Hid (PM - (T.take PM).length = z) := ⟨_, rfl⟩
    rw [HK.out] at k1
    obtain ⟨q, HQ⟩ : ∃ q : Nat, Hid ((min (n : Int) (k : Int)) = (q : Int) ∧ q = min n k) := ⟨min n k, by omega, rfl⟩
    have HP := hid h
    have HD := hid hd
    have HBL := hid hbl
    have hmin := HQ.out.1
    have hq1 : (q : Int) ≤ (c : Int) := by have := HQ.out.2; have := hd.nc; omega
    have hqn : q ≤ n := by have := HQ.out.2; omega
    have HQN := hid hqn
    obtain ⟨m2, HM2⟩ : ∃ z, Hid (2 * q = z) := ⟨_, rfl⟩
    have hw2 : IntKind.i64.wrap (2 * (q : Int)) = (m2 : Int) := by rw [IntKind.wrap_i64]; have := HM2.out; omega
    obtain ⟨i5, hi5, hz0, hz1, hz2⟩ := info_parts info5
    have hqPM : q ≤ 1048577 := by have := HQ.out.2; have := HK.out; unfold PM at this; omega
    have HQP := hid hqPM
    obtain ⟨w1, hmk, ho1, hg1⟩ := run_make_own (P := Tryz.prog) w w.heap.size 40 5 i5 (.int .u8 0) 1 Tryz.underlying40 hi5 hz0 hz1 .i64 .i64 m2 (by rw [hz2]; have := HM2.out; omega) (by have := HM2.out; unfold maxLen; omega) (Nat.le_refl _)
    have HO1 := hid ho1
    have HG1 := hid hg1
    clear h hd hbl hqn hi5 hz0 hz1 hz2 hqPM ho1 hg1
    go_enter Tryz.func39, Tryz.ntmps39
    go_wp2_with fail
    refine k1.mono ?_
    rintro e w2 ⟨rfl, hw⟩
    obtain rfl := hw.symm
    clear k1
    go_wp2_with fail
    go_loopw [4, 25] (fun v i wr => ∃ j : Nat, j ≤ q ∧ i = .int .i64 j ∧ Hid (wr.ownsRow w.heap.size 5 1 v (2 * j) (cells (ic ((b.take j).flatMap hx))) ∧ Below w.heap.size w wr)) (fun v i wr => q - (intOf i).toNat)
    case atStart => exact ⟨0, by omega, rfl, HO1.out, HG1.out.os, HG1.out.tape, HG1.out.output, HG1.out.size, fun k hk => HG1.out.block k hk (by simp)⟩
    case round =>
      obtain ⟨j, hj, rfl, HR⟩ := hrel
      by_cases hlt : j < q
      case neg =>
        have hjI : ¬ (j : Int) < q := by omega
        obtain rfl : q = j := by omega
        have HT : Hid ((T ++ 32 :: (b.take q).flatMap hx).take PM = (T ++ 32 :: hxt b).take PM) := by
          show _ = _
          have h1 := take_hex T b hx (fun x => by simp [hx])
          have h2 : hxt b = b.flatMap hx := by unfold hxt; rw [if_neg hb2]
          rw [HK.out] at h1
          rw [h2, ← h1]
          have h3 : b.take q = b.take k := by
            have := HQ.out.2
            by_cases hnk : n ≤ k
            · rw [List.take_of_length_le (by have := HBL.out; omega), List.take_of_length_le (by have := HBL.out; omega)]
            · rw [show q = k by omega]
          rw [h3]
        have hcv := run_own_text HR.out.1 (fun x hx' => by
          obtain ⟨y, hy, hx'⟩ := List.mem_flatMap.1 hx'
          have hy2 : y < 256 := by
            obtain ⟨i, hi, rfl⟩ := List.mem_iff_getElem.1 (List.mem_of_mem_take hy)
            have := HD.out.bs.2.1 ((b[i] : Nat) : Int) (by unfold ic; exact List.mem_map_of_mem (List.getElem_mem hi))
            omega
          have := hx_in hy2 x hx'
          omega)
        have k3 := word_ (HP.out.on HR.out.2) ((b.take q).flatMap hx) (fun x hx' => by
          obtain ⟨y, hy, hx'⟩ := List.mem_flatMap.1 hx'
          have hy2 : y < 256 := by
            obtain ⟨i, hi, rfl⟩ := List.mem_iff_getElem.1 (List.mem_of_mem_take hy)
            have := HD.out.bs.2.1 ((b[i] : Nat) : Int) (by unfold ic; exact List.mem_map_of_mem (List.getElem_mem hi))
            omega
          have := hx_in hy2 x hx'
          omega) (by rw [hx_flat_len, List.length_take]; unfold maxLen; have := HQP.out; omega)
        have HBX : Hid (∀ x ∈ T ++ 32 :: hxt b, x < 256) := by
          have hbb : ∀ y ∈ b, y < 256 := fun y hy => by
            obtain ⟨i, hi, rfl⟩ := List.mem_iff_getElem.1 hy
            have := HD.out.bs.2.1 ((b[i] : Nat) : Int) (by unfold ic; exact List.mem_map_of_mem (List.getElem_mem hi))
            omega
          intro x hx'
          rcases List.mem_append.1 hx' with e | e
          · exact HP.out.byt x e
          · rcases List.mem_cons.1 e with rfl | e
            · omega
            · have := of_decide_eq_true (show decide _ = true from ((hxt_wd b hbb).2 x e).1)
              omega
        clear HR hmk
        generalize sb ((b.take q).flatMap hx) = S at *
        go_wp2_with fail
        refine k3.mono ?_
        rintro e w4 ⟨rfl, h4⟩
        have H4 := hid (h4.eqv HT.out HBX.out)
        clear k3 h4
        go_wp2_with fail
        go_end0
        exact ⟨rfl, H4.out⟩
      case pos =>
        have hjI : (j : Int) < q := by omega
        have hnj : j < n := by have := HQN.out; omega
        obtain ⟨x, HX⟩ : ∃ z, Hid (b.getD j 0 = z) := ⟨_, rfl⟩
        have HW0 : Hid (Below w0.heap.size w0 wr) := bel_bel HP.out.bel HP.out.bel.size HR.out.2
        have hdr := HD.out.step (w' := wr) fun k hk _ _ => HW0.out.block k hk
        obtain ⟨ba, bo, rfl, hcell⟩ := hdr.bs.2.2.resolve_left (by omega)
        have cx := hcell j hnj
        rw [ic_get, HX.out] at cx
        have hx256 : x < 256 := by
          have := HD.out.bs.2.1 ((b.getD j 0 : Nat) : Int) (by
            have hjb : j < b.length := by rw [HBL.out]; exact hnj
            simp only [List.getD, List.getElem?_eq_getElem hjb, Option.getD_some, ic]
            exact List.mem_map_of_mem (List.getElem_mem hjb))
          rw [HX.out] at this
          omega
        clear hcell hdr hmk
        obtain ⟨y2, HY2⟩ : ∃ z, Hid (x % 16 = z) := ⟨_, rfl⟩
        have ha := and15b x hx256
        have d1 := dig_hi x hx256
        have d2 := dig_lo x
        rw [HY2.out] at ha d2
        obtain ⟨z1, HZ1⟩ : ∃ z, Hid (hd (x / 16) = z) := ⟨_, rfl⟩
        obtain ⟨z2, HZ2⟩ : ∃ z, Hid (hd y2 = z) := ⟨_, rfl⟩
        rw [HZ1.out] at d1
        rw [HZ2.out] at d2
        have HBA : Hid (Below wr.heap.size wr (wr.drew.alloc (.cells #[.int .u8 (z1 : Int), .int .u8 (z2 : Int)] 5))) := (below_drew wr).trans ((Below.refl wr.heap.size wr.drew).alloc (Nat.le_refl _) _)
        have HOA := hid (own_bel HR.out.1 HBA.out)
        have HCL : Hid (∀ j u, (cells [(z1 : Int), (z2 : Int)])[j]? = some u → (wr.drew.alloc (.cells #[.int .u8 (z1 : Int), .int .u8 (z2 : Int)] 5)).cell? ⟨wr.heap.size, j, none⟩ = some u) := fun j u hj =>
          (cell_of_row (wr.drew.alloc _) wr.heap.size j _ 5 (0, 0) (heap_alloc_new wr.drew _)).trans (by simpa [cells] using hj)
        have HJL : Hid (2 * j + 2 ≤ 140737488355328) := by show _ ≤ _; have := HQP.out; omega
        have HJ1 : Hid (cells (ic ((b.take j).flatMap hx) ++ [(z1 : Int), (z2 : Int)]) = cells (ic ((b.take (j + 1)).flatMap hx))) := by
          have e := hex_two b j (by rw [HBL.out]; exact hnj)
          rw [HX.out, HZ1.out, HY2.out, HZ2.out] at e
          exact e
        have HBS := hid (bel_bel HR.out.2 HR.out.2.size HBA.out)
        go_upto_region 7 with fail
        go_region_law (refine step_appZ rfl (.tmp 29) (.tmp 36) rfl w.heap.size u4 (2 * j) (ic ((b.take j).flatMap hx)) (by rfl) (by exact HOA.out) wr.heap.size 2 [(z1 : Int), (z2 : Int)] (by rfl) rfl (by decide) (by exact HCL.out) (by exact HJL.out) (by exact HBS.out.size) ?_; intro a' c' w' HO' HG')
        all_goals
          go_wp2_with fail
          go_roundw
          case rel =>
            refine ⟨j + 1, by omega, by go_num, ?_, HBS.out.grown HG'.out HBS.out.size (fun q' e => (HOA.out.lt q' e).1)⟩
            have := HO'.out
            rw [HJ1.out] at this
            exact this
          case measure => simp [intOf]; omega
set_option maxHeartbeats 4000000 in
theorem bits_ (h : Pg Kk w0 w g T) (b : List Bool) (a : Option Addr) (n c : Nat) (hd : Kps w0 V a n b) (hnc : n ≤ c) (hn : n ≤ 9223372036854775807) : Calls Tryz.prog 41 #[.pointer (some ⟨g, 0, none⟩), .slice a n c] w fun e w' => e = .returned (.tuple #[]) ∧ Pg Kk w0 w' g (T ++ 32 :: bitt b) := by
  have hbl : b.length = n := hd.1
  by_cases h0 : n = 0
  · subst h0
    obtain rfl : b = [] := List.eq_nil_of_length_eq_zero hbl
    have k1 := minus_ h
    clear h hd
    go_enter Tryz.func41, Tryz.ntmps41
    go_wp2_with fail
    refine k1.mono ?_
    rintro e w1 ⟨rfl, h1⟩
    have H1 := hid h1
    clear k1 h1
    go_wp2_with fail
    refine bodyPost_ret (results_none rfl _ _ _) rfl ?_
    exact ⟨rfl, H1.out⟩
  · have hne : ((n : Int) == 0) = false := by simp; omega
    have hb2 : b ≠ [] := fun e => by subst e; simp at hbl; omega
    have k1 := room_ h
    obtain ⟨k, HK⟩ : ∃ z, Hid (PM - (T.take PM).length = z) := ⟨_, rfl⟩
    rw [HK.out] at k1
    obtain ⟨q, HQ⟩ : ∃ q : Nat, Hid ((min (n : Int) (k : Int)) = (q : Int) ∧ q = min n k) := ⟨min n k, by omega, rfl⟩
    have HP := hid h
    have HD := hid hd
    have HBL := hid hbl
    have hmin := HQ.out.1
    have hq1 : (q : Int) ≤ (c : Int) := by have := HQ.out.2; omega
    have hqn : q ≤ n := by have := HQ.out.2; omega
    have HQN := hid hqn
    obtain ⟨i5, hi5, hz0, hz1, hz2⟩ := info_parts info5
    have hqPM : q ≤ 1048577 := by have := HQ.out.2; have := HK.out; unfold PM at this; omega
    have HQP := hid hqPM
    obtain ⟨w1, hmk, ho1, hg1⟩ := run_make_own (P := Tryz.prog) w w.heap.size 40 5 i5 (.int .u8 0) 1 Tryz.underlying40 hi5 hz0 hz1 .i64 .i64 q (by rw [hz2]; omega) (by unfold maxLen; omega) (Nat.le_refl _)
    have HO1 := hid ho1
    have HG1 := hid hg1
    clear h hd hbl hqn hi5 hz0 hz1 hz2 hqPM ho1 hg1
    go_enter Tryz.func41, Tryz.ntmps41
    go_wp2_with fail
    refine k1.mono ?_
    rintro e w2 ⟨rfl, hw⟩
    obtain rfl := hw.symm
    clear k1
    go_wp2_with fail
    go_loopw [4, 24] (fun v i wr => ∃ j : Nat, j ≤ q ∧ i = .int .i64 j ∧ Hid (wr.ownsRow w.heap.size 5 1 v j (cells (ic ((b.take j).map b1))) ∧ Below w.heap.size w wr)) (fun v i wr => q - (intOf i).toNat)
    case atStart => exact ⟨0, by omega, rfl, HO1.out, HG1.out.os, HG1.out.tape, HG1.out.output, HG1.out.size, fun k hk => HG1.out.block k hk (by simp)⟩
    case round =>
      obtain ⟨j, hj, rfl, HR⟩ := hrel
      by_cases hlt : j < q
      case neg =>
        have hjI : ¬ (j : Int) < q := by omega
        obtain rfl : q = j := by omega
        have hb1 : ∀ l : List Bool, ∀ x ∈ l.map b1, x < 256 := fun l x hx' => by
          obtain ⟨y, _, rfl⟩ := List.mem_map.1 hx'
          cases y <;> decide
        have HT : Hid ((T ++ 32 :: (b.take q).map b1).take PM = (T ++ 32 :: bitt b).take PM) := by
          show _ = _
          have h1 := take_hex T (b.map b1) (fun x => [x]) (fun x => by simp)
          have h2 : bitt b = b.map b1 := by unfold bitt; rw [if_neg hb2]
          rw [HK.out] at h1
          simp only [List.flatMap_singleton'] at h1
          rw [h2, ← h1, ← List.map_take]
          have h3 : b.take q = b.take k := by
            have := HQ.out.2
            by_cases hnk : n ≤ k
            · rw [List.take_of_length_le (by have := HBL.out; omega), List.take_of_length_le (by have := HBL.out; omega)]
            · rw [show q = k by omega]
          rw [h3]
        have hcv := run_own_text HR.out.1 (hb1 _)
        have k3 := word_ (HP.out.on HR.out.2) ((b.take q).map b1) (hb1 _) (by rw [List.length_map, List.length_take]; unfold maxLen; have := HQP.out; omega)
        have HBX : Hid (∀ x ∈ T ++ 32 :: bitt b, x < 256) := by
          intro x hx'
          rcases List.mem_append.1 hx' with e | e
          · exact HP.out.byt x e
          · rcases List.mem_cons.1 e with rfl | e
            · omega
            · have := of_decide_eq_true (show decide _ = true from ((bitt_wd b).2 x e).1)
              omega
        clear HR hmk
        generalize sb ((b.take q).map b1) = S at *
        go_wp2_with fail
        refine k3.mono ?_
        rintro e w4 ⟨rfl, h4⟩
        have H4 := hid (h4.eqv HT.out HBX.out)
        clear k3 h4
        go_wp2_with fail
        go_end0
        exact ⟨rfl, H4.out⟩
      case pos =>
        have hjI : (j : Int) < q := by omega
        have hnj : j < n := by have := HQN.out; omega
        have HW0 : Hid (Below w0.heap.size w0 wr) := bel_bel HP.out.bel HP.out.bel.size HR.out.2
        have hdr := HD.out.2.step (w' := wr) (fun k hk _ => HW0.out.block k hk) HW0.out.size
        obtain ⟨ba, bo, rfl, hcell⟩ := hdr.at hnj
        have cx := hcell 0 _ rfl
        rw [Nat.mul_one, Nat.add_zero] at cx
        obtain ⟨x, HX⟩ : ∃ z, Hid (b.getD j false = z) := ⟨_, rfl⟩
        rw [HX.out] at cx
        have HJ1 : Hid (cells (ic ((b.take j).map b1) ++ [((b1 x : Nat) : Int)]) = cells (ic ((b.take (j + 1)).map b1))) := by
          have hjb : j < b.length := by rw [HBL.out]; exact hnj
          have e : b[j] = x := by rw [← HX.out]; simp [List.getD, hjb]
          show _ = _
          rw [List.take_succ_eq_append_getElem hjb, List.map_append, e]
          simp [ic]
        clear hcell hdr hmk
        obtain ⟨i5, hi5, hz0, hz1, hz2⟩ := info_parts info5
        cases x
        · have HBA : Hid (Below wr.heap.size wr (wr.alloc (.cells #[.int .u8 48] 5))) := ((Below.refl wr.heap.size wr).alloc (Nat.le_refl _) _)
          have HOA := hid (own_bel HR.out.1 HBA.out)
          have HB1 : Hid (Bs (wr.alloc (.cells #[.int .u8 48] 5)) (some ⟨wr.heap.size, 0, none⟩) 1 [48]) := bs_lit wr [48] (0, 0) (by intro y hy; rw [List.mem_singleton.1 hy]; omega)
          have HBS := hid (bel_bel HR.out.2 HR.out.2.size HBA.out)
          have HJL : Hid (j + 1 ≤ 140737488355328) := by show _ ≤ _; have := HQP.out; omega
          go_wp2_with (first | (at_builtin; refine wpList_appT rfl _ _ rfl w.heap.size u4 j (ic ((b.take j).map b1)) rfl HOA.out (some ⟨wr.heap.size, 0, none⟩) 1 1 [48] rfl HB1.out HJL.out HBS.out.size ?_; intro v' w' o' g'; have HO' := hid o'; have HG' := hid g'; clear o' g') | fail)
          go_roundw
          case rel =>
            refine ⟨j + 1, by omega, by go_num, ?_, HBS.out.grown HG'.out HBS.out.size (fun q' e => (HOA.out.lt q' e).1)⟩
            have := HO'.out
            rw [← HJ1.out]
            exact this
          case measure => simp [intOf]; omega
        · have HBA : Hid (Below wr.heap.size wr (wr.alloc (.cells #[.int .u8 49] 5))) := ((Below.refl wr.heap.size wr).alloc (Nat.le_refl _) _)
          have HOA := hid (own_bel HR.out.1 HBA.out)
          have HB1 : Hid (Bs (wr.alloc (.cells #[.int .u8 49] 5)) (some ⟨wr.heap.size, 0, none⟩) 1 [49]) := bs_lit wr [49] (0, 0) (by intro y hy; rw [List.mem_singleton.1 hy]; omega)
          have HBS := hid (bel_bel HR.out.2 HR.out.2.size HBA.out)
          have HJL : Hid (j + 1 ≤ 140737488355328) := by show _ ≤ _; have := HQP.out; omega
          go_wp2_with (first | (at_builtin; refine wpList_appT rfl _ _ rfl w.heap.size u4 j (ic ((b.take j).map b1)) rfl HOA.out (some ⟨wr.heap.size, 0, none⟩) 1 1 [49] rfl HB1.out HJL.out HBS.out.size ?_; intro v' w' o' g'; have HO' := hid o'; have HG' := hid g'; clear o' g') | fail)
          go_roundw
          case rel =>
            refine ⟨j + 1, by omega, by go_num, ?_, HBS.out.grown HG'.out HBS.out.size (fun q' e => (HOA.out.lt q' e).1)⟩
            have := HO'.out
            rw [← HJ1.out]
            exact this
          case measure => simp [intOf]; omega
end
end Go.Proofs.YtkeogggeefnoeaaGreatDoor
namespace Go.Proofs.YtkeogggeefnoeaaGreatDoor
set_option linter.unusedSimpArgs false
open Go.RowKit
set_option linter.unusedVariables false
set_option maxRecDepth 100000

/-! Writing: changes. -/
def cdv (x : CD) : Value := .agg #[.int .i64 x.c.kd, .int .i64 x.c.lk, .int .i64 x.c.sd, .slice x.a x.c.key.length x.p, .int .i64 x.c.f, .int .u64 x.c.h, .int .u64 x.c.l, .int .i64 x.c.b]
/-- The numbers of a change as Go's. -/
structure InC (c : Chg) : Prop where
  kd : InI c.kd
  lk : InI c.lk
  sd : InI c.sd
  f : InI c.f
  h : InU c.h
  l : InU c.l
  b : InI c.b
/-- A change in a variable. -/
def Cv (w : World) (g : Nat) (x : CD) : Prop := w.heap[g]? = some (.cells #[.int .i64 x.c.kd, .int .i64 x.c.lk, .int .i64 x.c.sd, .slice x.a x.c.key.length x.p, .int .i64 x.c.f, .int .u64 x.c.h, .int .u64 x.c.l, .int .i64 x.c.b] 70 (0, 0))
theorem eqpi (F H L B F' H' L' B' : Int) (w : World) : (Op.equalIn 10000 68 (.agg #[.int .i64 F, .int .u64 H, .int .u64 L, .int .i64 B]) (.agg #[.int .i64 F', .int .u64 H', .int .u64 L', .int .i64 B'])).run Tryz.prog w = .ok (spx F H L B F' H' L' B') w := by
  have ea := fun w => eqa F H L F' H' L' w
  have HS : spx F H L B F' H' L' B' = (sa F H L F' H' L' && (B == B')) := by unfold spx sa; rw [Bool.decide_and, Bool.beq_eq_decide_eq]
  rw [show (10000 : Nat) = 9999 + 1 from rfl, run_equalIn_agg w 9999 68 _ _ (by kernel_rfl) (by kernel_rfl), HS]
  simp only [Program.fieldsOf, Tryz.underlying68]
  clear HS
  generalize sa F H L F' H' L' = q at *
  cases q
  · go_simp
  · go_simp
    try (by_cases h : B = B' <;> simp [h])
section
variable {w w' : World} {g : Nat} {x : CD}
theorem Cv.c (h : Cv w g x) (i : Nat) : w.cell? ⟨g, i, none⟩ = (cdc x)[i]? := (cell_of_row _ _ i _ _ (0, 0) h).trans (by simp [cdc])
theorem Cv.new (w : World) (x : CD) : Cv (w.alloc (.cells #[.int .i64 x.c.kd, .int .i64 x.c.lk, .int .i64 x.c.sd, .slice x.a x.c.key.length x.p, .int .i64 x.c.f, .int .u64 x.c.h, .int .u64 x.c.l, .int .i64 x.c.b] 70)) w.heap.size x := heap_alloc_new w _
theorem Cv.on (h : Cv w g x) (hb : Below w.heap.size w w') : Cv w' g x := (hb.block g (Array.getElem?_eq_some_iff.1 h).1).trans h
theorem changeNumber_ (g : Nat) (f : Int) (w : World) : Calls Tryz.prog 126 #[.pointer (some ⟨g, 0, none⟩), .int .i32 f] w fun e w' => e = .returned (.pointer (some ⟨g, if f = 108 then 1 else 2, none⟩)) ∧ w' = w := by
  by_cases h : f = 108
  · subst h
    go_enter Tryz.func126, Tryz.ntmps126
    go_wp2_with fail
    go_ret
    exact ⟨rfl, rfl⟩
  · have hb : (f == 108) = false := by simp [h]
    rw [if_neg h]
    go_enter Tryz.func126, Tryz.ntmps126
    go_wp2_with fail
    go_ret
    exact ⟨rfl, rfl⟩
set_option maxHeartbeats 2000000 in
theorem changeHas_ (x : CD) (f : Nat) (hf : cLet f) (w : World) : Calls Tryz.prog 124 #[cdv x, .int .i32 (f : Int)] w fun e w' => e = .returned (.bool (cHas x.c f)) ∧ Below w.heap.size w w' := by
  obtain ⟨⟨kd, lk, sd, key, F, H, L, B⟩, a, p⟩ := x
  unfold cdv
  simp only
  have HC := hid (Cv.new w ⟨⟨kd, lk, sd, key, F, H, L, B⟩, a, p⟩)
  simp only at HC
  obtain ⟨n, HN⟩ : ∃ z, Hid (key.length = z) := ⟨_, rfl⟩
  rw [HN.out] at HC ⊢
  have HB := hid ((Below.refl w.heap.size w).alloc (Nat.le_refl _) (.cells #[.int .i64 kd, .int .i64 lk, .int .i64 sd, .slice a n p, .int .i64 F, .int .u64 H, .int .u64 L, .int .i64 B] 70))
  obtain ⟨w1, HW1⟩ : ∃ z, Hid (w.alloc (.cells #[.int .i64 kd, .int .i64 lk, .int .i64 sd, .slice a n p, .int .i64 F, .int .u64 H, .int .u64 L, .int .i64 B] 70) = z) := ⟨_, rfl⟩
  rw [HW1.out] at HC HB
  rcases hf with rfl | rfl | rfl | rfl
  · rw [show ((108 : Nat) : Int) = 108 from rfl]
    have k1 := changeNumber_ w.heap.size 108 w1
    rw [if_pos rfl] at k1
    have hv : cHas ⟨kd, lk, sd, key, F, H, L, B⟩ 108 = !(lk == 0) := by
      show decide (lk ≠ 0) = _
      by_cases h : lk = 0 <;> simp [h]
    rw [hv]
    have c1 : w1.cell? ⟨w.heap.size, 1, none⟩ = some (.int .i64 lk) := HC.out.c 1
    go_enter Tryz.func124, Tryz.ntmps124
    go_wp2_with fail
    rw [HW1.out]
    refine k1.mono ?_
    rintro e w2 ⟨rfl, hw⟩
    obtain rfl := hw.symm
    clear k1
    go_wp2_with fail
    go_ret
    exact ⟨by first | rfl | simp, HB.out⟩
  · rw [show ((115 : Nat) : Int) = 115 from rfl]
    have k1 := changeNumber_ w.heap.size 115 w1
    rw [if_neg (by decide)] at k1
    have hv : cHas ⟨kd, lk, sd, key, F, H, L, B⟩ 115 = !(sd == 0) := by
      show decide (sd ≠ 0) = _
      by_cases h : sd = 0 <;> simp [h]
    rw [hv]
    have c1 : w1.cell? ⟨w.heap.size, 2, none⟩ = some (.int .i64 sd) := HC.out.c 2
    go_enter Tryz.func124, Tryz.ntmps124
    go_wp2_with fail
    rw [HW1.out]
    refine k1.mono ?_
    rintro e w2 ⟨rfl, hw⟩
    obtain rfl := hw.symm
    clear k1
    go_wp2_with fail
    go_ret
    exact ⟨by first | rfl | simp, HB.out⟩
  · rw [show ((75 : Nat) : Int) = 75 from rfl]
    have hv : cHas ⟨kd, lk, sd, key, F, H, L, B⟩ 75 = decide (0 < n) := by
      have hn := HN.out
      show decide (key ≠ []) = _
      cases key with
      | nil => simp at hn; subst hn; rfl
      | cons y k => simp at hn; rw [decide_eq_true (by simp), decide_eq_true (by omega)]
    rw [hv]
    clear hv
    rw [← HW1.out] at HC HB
    have c3 := HC.out.c 3
    simp only [cdc, List.getElem?_cons_succ, List.getElem?_cons_zero, HN.out] at c3
    clear HW1
    go_enter Tryz.func124, Tryz.ntmps124
    go_wp2_with fail
    go_ret
    exact ⟨rfl, HB.out⟩
  · rw [show ((80 : Nat) : Int) = 80 from rfl]
    rw [← HW1.out] at HC HB
    have c4 := HC.out.c 4
    have c5 := HC.out.c 5
    have c6 := HC.out.c 6
    have c7 := HC.out.c 7
    simp only [cdc, List.getElem?_cons_succ, List.getElem?_cons_zero, HN.out] at c4 c5 c6 c7
    clear HW1
    by_cases hz : F = 0 ∧ H = 0 ∧ L = 0 ∧ B = 0
    · have hv : cHas ⟨kd, lk, sd, key, F, H, L, B⟩ 80 = false := decide_eq_false (fun h => h hz)
      rw [hv]
      obtain ⟨rfl, rfl, rfl, rfl⟩ := hz
      go_enter Tryz.func124, Tryz.ntmps124
      go_wp2_with fail
      go_ret
      exact ⟨rfl, HB.out⟩
    · have hv : cHas ⟨kd, lk, sd, key, F, H, L, B⟩ 80 = true := decide_eq_true hz
      rw [hv]
      have he : ∀ w, (Op.equalIn 10000 68 (.agg #[.int .i64 F, .int .u64 H, .int .u64 L, .int .i64 B]) (.agg #[.int .i64 0, .int .u64 0, .int .u64 0, .int .i64 0])).run Tryz.prog w = .ok false w := fun w => by
        rw [eqpi F H L B 0 0 0 0 w]
        congr 1
        exact decide_eq_false fun h => hz ⟨h.1.1, h.1.2.1, h.1.2.2, h.2⟩
      clear hz
      go_enter Tryz.func124, Tryz.ntmps124
      go_wp2_with fail
      go_ret
      exact ⟨rfl, HB.out⟩
end
end Go.Proofs.YtkeogggeefnoeaaGreatDoor
