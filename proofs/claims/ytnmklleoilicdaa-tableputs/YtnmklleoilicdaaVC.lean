import Derived.Test.YtnmklleoilicdaaVB
import Derived.Test.YtnmklleoilicdaaVQ
namespace Go.Proofs.Ytnmklleoilicdaa
set_option maxRecDepth 100000
open Go.RowKit Go.Shelf Go.Maps
set_option linter.unusedVariables false
attribute [local go_sem ↓] Go.wp_at_zero Go.wp_at_succ

theorem lkey_at : ∀ {l : List Sx} {i : Nat}, i < l.length → lkey [] (l.take (i + 1)) = (l.getD i default).k := by
  intro l i hi
  rw [take_snoc hi, lkey_snoc]
set_option maxHeartbeats 4000000 in
/-- The document's PutSets. -/
theorem rput_ (a : Option Addr) (n c : Nat) (l : List Sx) (w : World) (hl : Sl w (fun x => x < w.heap.size) a n l) (hn : n ≤ 10000) (hsh : ∀ s ∈ l, s.k.length ≤ 10000 ∧ s.v.length ≤ 10000) :
    Calls Try.prog 11 #[.slice a n c] w fun e w' => (okS l = true ∧ ∃ v, e = .returned (.tuple #[v, .int .i64 0]) ∧ w'.ownsRow w.heap.size 5 1 v (enc l).length (cells (enc l)) ∧ Below w.heap.size w w') ∨ (okS l = false ∧ e = .returned (.tuple #[.slice none 0 0, .int .i64 114]) ∧ Below w.heap.size w w') := by
  have HL := hid hl
  have HLN : Hid (l.length = n) := hl.len
  have HSH := hid hsh
  clear hl hsh
  go_enter Try.func11, Try.ntmps11
  go_wp2_with fail
  go_loopw [4, 5] (fun v i wr => ∃ k : Nat, k ≤ n ∧ i = .int .i64 k ∧ Hid (okFrom [] (l.take k) = true) ∧ Hid (wr.ownsRow w.heap.size 5 1 v (enc (l.take k)).length (cells (enc (l.take k)))) ∧ Hid (Below w.heap.size w wr)) (fun _ i _ => n - (intOf i).toNat)
  case atStart => exact ⟨0, Nat.zero_le _, rfl, rfl, World.ownsRow_nil _ _ _ _, Below.refl _ _⟩
  case round =>
    obtain ⟨k, hk, rfl, HO, HW, HB⟩ := hrel
    by_cases hlt : k < n
    · have hI : (k : Int) < n := by omega
      have hkn0 : ¬ (k : Int) < 0 := by omega
      obtain ⟨bl, off, ka, kc, va, vc, kn, vn, rfl, hkn, hvn, c0, c1, c2, v1, v2⟩ := (HL.out.step fun x _ hx _ => HB.out.block x hx).at hlt
      obtain ⟨s, HS⟩ : ∃ s, Hid (l.getD k default = s) := ⟨_, rfl⟩
      rw [HS.out] at hkn hvn c2 v1 v2
      have hm := fun wx => rmay_ ka va kc vc s wx (by rw [← hkn]; exact Nat.le_trans v1.nc v1.cm) (by rw [← hvn]; exact Nat.le_trans v2.nc v2.cm)
      rw [← hkn, ← hvn] at hm
      obtain ⟨g, HG⟩ : ∃ g, Hid (s.g = g) := ⟨_, rfl⟩
      rw [HG.out] at c2 hm
      have hkL : k < l.length := by rw [HLN.out]; exact hlt
      have HYE : Hid ((mayS s && lx (lkey [] (l.take k)) s.k) = true → okFrom [] (l.take (k + 1)) = true) := fun h => okS_yes hkL HO.out (by rw [HS.out]; exact h)
      have HNO : Hid ((mayS s && lx (lkey [] (l.take k)) s.k) = false → okS l = false) := fun h => okS_no (k := k) hkL (by rw [HS.out]; exact h)
      have HTS : Hid (l.take (k + 1) = l.take k ++ [s]) := by rw [← HS.out]; exact take_snoc hkL
      have HEL : Hid ((enc (l.take k)).length ≤ 5240000) := by
        have h1 := enc_len_of (l.take k) (okFrom_may HO.out)
        rw [List.length_take, HLN.out] at h1
        show _ ≤ _
        omega
      have hsz := HSH.out _ (by rw [← HS.out]; exact getD_mem hkL : s ∈ l)
      rw [← hkn, ← hvn] at hsz
      have HV1 := hid v1
      have HV2 := hid v2
      have HC0 := hid c0
      have HC1 := hid c1
      have HC2 := hid c2
      have LT := hid (fun (p : Addr) (v : Value) (h : w.cell? p = some v) => World.block_lt_of_cell? w p h)
      obtain ⟨HX0, HX1, HX2⟩ : Hid (w.cell? ⟨bl, off + k * 3, none⟩ = some (.slice ka kn kc)) ∧ Hid (w.cell? ⟨bl, off + k * 3 + 1, none⟩ = some (.slice va vn vc)) ∧ Hid (w.cell? ⟨bl, off + k * 3 + 2, none⟩ = some (.bool g)) := by
        rcases HL.out.cells with h0 | ⟨b', o', e, hb', _⟩
        · omega
        · obtain ⟨rfl, rfl⟩ : bl = b' ∧ off = o' := by simpa using e
          exact ⟨(HB.out.cell hb').symm.trans c0, (HB.out.cell hb').symm.trans c1, (HB.out.cell hb').symm.trans c2⟩
      have HKN := hid hkn
      have HVN := hid hvn
      clear hkn hvn v1 v2 hlt c0 c1 c2
      cases hmay : mayS s with
      | false =>
        have HN := hid (HNO.out (by rw [hmay]; rfl))
        rw [hmay] at hm
        clear hmay
        go_wp2_with fail
        refine wp_quietC (Bw wr) (by kernel_rfl) (by kernel_rfl) (Bw.drew wr) ?_
        repeat (first | go_big_quiet_skip | (go_big_quiet_want; go_big_quiet_op; first | go_big_quiet_on | (apply Exists.intro; refine ⟨fun wq hq => ?_, ?_⟩; (· first | (with_reducible rfl) | (go_at_call 42; exact (hm _).mono fun _ _ h => ⟨h.1, hq.on h.2⟩) | (have q0 := hq.cell HC0.out; have q1 := hq.cell HC1.out; have q2 := hq.cell HC2.out; go_simp; rfl) | rfl); go_big_quiet_on)))
        refine wpQuiet_nil ?_
        intro w1 s1
        go_wp2_with fail
        go_ret2
        exact .inr ⟨HN.out, rfl, bel_bel HB.out HB.out.size s1⟩
      | true =>
        have hkp := mayS_key hmay
        rw [hmay] at hm HNO HYE
        clear hmay
        by_cases hk0 : k = 0
        · have HY : Hid (okFrom [] (l.take (k + 1)) = true) := HYE.out (by
            rw [hk0]
            show (true && lx [] s.k) = true
            rw [lx_nil, decide_eq_true (by omega)]
            rfl)
          clear HYE HNO
          have hd0 : decide ((k : Int) > 0) = false := decide_eq_false (by omega)
          have hd1 : ¬ (0 : Int) < k := by omega
          have hd2 : decide (0 < k) = false := decide_eq_false (by omega)
          have HK0 := hid hk0
          clear hk0
          go_wp2_with fail
          refine wp_quietC (Bw wr) (by kernel_rfl) (by kernel_rfl) (Bw.drew wr) ?_
          repeat (first | go_big_quiet_skip | (go_big_quiet_want; go_big_quiet_op; first | go_big_quiet_on | (apply Exists.intro; refine ⟨fun wq hq => ?_, ?_⟩; (· first | (with_reducible rfl) | (go_at_call 42; exact (hm _).mono fun _ _ h => ⟨h.1, hq.on h.2⟩) | (have q0 := hq.cell HC0.out; have q1 := hq.cell HC1.out; have q2 := hq.cell HC2.out; go_simp; rfl) | rfl); go_big_quiet_on)))
          refine wpQuiet_nil ?_
          intro w1 s1
          have HB1 := hid (bel_bel HB.out HB.out.size s1)
          have HDR := hid (below_drew w1)
          have HO1 := hid (own_bel HW.out s1)
          have x0 := Bw.cell s1 HC0.out
          have x1 := Bw.cell s1 HC1.out
          have x2 := Bw.cell s1 HC2.out
          have HK1 := hid (HV1.out.lift s1 (fun _ _ h => h))
          have HK2 := hid (HV2.out.lift s1 (fun _ _ h => h))
          obtain ⟨E, HE⟩ : ∃ E, Hid (enc (l.take k) = E) := ⟨_, rfl⟩
          rw [HE.out] at HO1 HEL
          have kr := fun wx (hb : Below w1.heap.size w1 wx) => rrow_ w.heap.size E.length u4 E ka va kn kc vn vc s wx (own_bel HO1.out hb) rfl (by have := HB1.out.size; have := hb.size; omega) (HK1.out.lift hb (fun _ _ h => h)) (HK2.out.lift hb (fun _ _ h => h)) (by omega) (by omega) (by have := HEL.out; omega)
          rw [HG.out] at kr
          clear s1 HW HC0 HC1 HC2 HV1 HV2 HK1 HK2 hm
          go_wp2_with fail
          go_region_held (fun wx => wx.cell? ⟨bl, off + k * 3, none⟩ = some (.slice ka kn kc) ∧ wx.cell? ⟨bl, off + k * 3 + 1, none⟩ = some (.slice va vn vc) ∧ wx.cell? ⟨bl, off + k * 3 + 2, none⟩ = some (.bool g)) (go_keep) (first | (go_at_call 44; refine (kr _ (by exact HDR.out)).mono ?_; rintro e w3 ⟨v3, rfl, o3, b3⟩; have HO3 := hid o3; have HB3 : Hid (Below w.heap.size w w3) := (bel_bel HB1.out HB1.out.size HDR.out).trans b3; have HBB := hid b3; have y0 := (HB3.out.cell (LT.out _ _ HX0.out)).trans HX0.out; have y1 := (HB3.out.cell (LT.out _ _ HX1.out)).trans HX1.out; have y2 := (HB3.out.cell (LT.out _ _ HX2.out)).trans HX2.out; clear o3 b3))
          clear y0 y1 y2 kr
          have HO4 : Hid (w3.ownsRow w.heap.size 5 1 v3 (enc (l.take (k + 1))).length (cells (enc (l.take (k + 1))))) := by
            show World.ownsRow _ _ _ _ _ _ _
            rw [HTS.out, enc_snoc, HE.out, List.length_append, enc1_len, ← HKN.out, ← HVN.out]
            exact HO3.out
          go_wp2_with fail
          go_roundw
          case rel => exact ⟨k + 1, by omega, by go_num, HY, HO4, HB3⟩
          case measure => simp [intOf]; omega
        · obtain ⟨i, HKI⟩ : ∃ i, Hid (k = i + 1) := ⟨k - 1, by show _ = _; omega⟩
          have hgt : (k : Int) > 0 := by omega
          have hgt2 : 0 < k := by omega
          have hgt3 : decide (0 < k) = true := decide_eq_true hgt2
          have hm1 : (k : Int) - 1 = i := by have := HKI.out; omega
          have hin : ¬ (i : Int) < 0 := by omega
          have hwr : IntKind.i64.wrap (i : Int) = i := by simp [IntKind.wrap, IntKind.bits, IntKind.signed]; omega
          have hilt : i < n := by have := HKI.out; omega
          have hiI : (i : Int) < n := by omega
          obtain ⟨bl', off', kb, lc, vb, uc, ln, un, eb, hln, hun, z0, z1, z2, p1, p2⟩ := (HL.out.step fun x _ hx _ => HB.out.block x hx).at hilt
          obtain ⟨rfl, rfl⟩ : bl = bl' ∧ off = off' := by simpa using eb
          have hiL : i < l.length := by rw [HLN.out]; exact hilt
          have HLK : Hid (lkey [] (l.take k) = (l.getD i default).k) := by rw [HKI.out]; exact lkey_at hiL
          have hmi : mayS (l.getD i default) = true := may_of HO.out _ (by rw [HKI.out, take_snoc hiL]; simp)
          have hki := mayS_key hmi
          obtain ⟨si, HSI⟩ : ∃ s, Hid (l.getD i default = s) := ⟨_, rfl⟩
          rw [HSI.out] at HLK hln p1 hki
          rw [HLK.out] at HYE HNO
          rw [← hln] at hki
          rw [← HKN.out] at hkp
          have HD0 := hid z0
          have HP1 := hid p1
          clear hln hun z0 z1 z2 p1 p2 eb hmi
          cases hlx : lx si.k s.k with
          | false =>
            have HN := hid (HNO.out (by rw [hlx]; rfl))
            have kl := fun wx (hq : Bw wr wx) => r_less lc kc false hq HP1.out.bs HV1.out.bs (by omega) (by omega) (by omega) (by omega) hlx
            clear hlx HYE HNO
            go_wp2_with fail
            refine wp_quietC (Bw wr) (by kernel_rfl) (by kernel_rfl) (Bw.drew wr) ?_
            repeat (first | go_big_quiet_skip | (go_big_quiet_want; go_big_quiet_op; first | go_big_quiet_on | (apply Exists.intro; refine ⟨fun wq hq => ?_, ?_⟩; (· first | (with_reducible rfl) | (go_at_call 42; exact (hm _).mono fun _ _ h => ⟨h.1, hq.on h.2⟩) | (go_at_call 43; exact kl _ hq) | (have q0 := hq.cell HC0.out; have q1 := hq.cell HC1.out; have q2 := hq.cell HC2.out; have q3 := hq.cell HD0.out; go_simp; rfl) | rfl); go_big_quiet_on)))
            refine wpQuiet_nil ?_
            intro w1 s1
            go_wp2_with fail
            go_ret2
            exact .inr ⟨HN.out, rfl, bel_bel HB.out HB.out.size s1⟩
          | true =>
            have HY : Hid (okFrom [] (l.take (k + 1)) = true) := HYE.out (by rw [hlx]; rfl)
            have kl := fun wx (hq : Bw wr wx) => r_less lc kc true hq HP1.out.bs HV1.out.bs (by omega) (by omega) (by omega) (by omega) hlx
            clear hlx HYE HNO
            go_wp2_with fail
            refine wp_quietC (Bw wr) (by kernel_rfl) (by kernel_rfl) (Bw.drew wr) ?_
            repeat (first | go_big_quiet_skip | (go_big_quiet_want; go_big_quiet_op; first | go_big_quiet_on | (apply Exists.intro; refine ⟨fun wq hq => ?_, ?_⟩; (· first | (with_reducible rfl) | (go_at_call 42; exact (hm _).mono fun _ _ h => ⟨h.1, hq.on h.2⟩) | (go_at_call 43; exact kl _ hq) | (have q0 := hq.cell HC0.out; have q1 := hq.cell HC1.out; have q2 := hq.cell HC2.out; have q3 := hq.cell HD0.out; go_simp; rfl) | rfl); go_big_quiet_on)))
            refine wpQuiet_nil ?_
            intro w1 s1
            clear kl
            have HB1 := hid (bel_bel HB.out HB.out.size s1)
            have HDR := hid (below_drew w1)
            have HO1 := hid (own_bel HW.out s1)
            have x0 := Bw.cell s1 HC0.out
            have x1 := Bw.cell s1 HC1.out
            have x2 := Bw.cell s1 HC2.out
            have HK1 := hid (HV1.out.lift s1 (fun _ _ h => h))
            have HK2 := hid (HV2.out.lift s1 (fun _ _ h => h))
            obtain ⟨E, HE⟩ : ∃ E, Hid (enc (l.take k) = E) := ⟨_, rfl⟩
            rw [HE.out] at HO1 HEL
            have kr := fun wx (hb : Below w1.heap.size w1 wx) => rrow_ w.heap.size E.length u4 E ka va kn kc vn vc s wx (own_bel HO1.out hb) rfl (by have := HB1.out.size; have := hb.size; omega) (HK1.out.lift hb (fun _ _ h => h)) (HK2.out.lift hb (fun _ _ h => h)) (by omega) (by omega) (by have := HEL.out; omega)
            rw [HG.out] at kr
            clear s1 HW HC0 HC1 HC2 HV1 HV2 HK1 HK2 hm
            go_wp2_with fail
            go_region_held (fun wx => wx.cell? ⟨bl, off + k * 3, none⟩ = some (.slice ka kn kc) ∧ wx.cell? ⟨bl, off + k * 3 + 1, none⟩ = some (.slice va vn vc) ∧ wx.cell? ⟨bl, off + k * 3 + 2, none⟩ = some (.bool g)) (go_keep) (first | (go_at_call 44; refine (kr _ (by exact HDR.out)).mono ?_; rintro e w3 ⟨v3, rfl, o3, b3⟩; have HO3 := hid o3; have HB3 : Hid (Below w.heap.size w w3) := (bel_bel HB1.out HB1.out.size HDR.out).trans b3; have HBB := hid b3; have y0 := (HB3.out.cell (LT.out _ _ HX0.out)).trans HX0.out; have y1 := (HB3.out.cell (LT.out _ _ HX1.out)).trans HX1.out; have y2 := (HB3.out.cell (LT.out _ _ HX2.out)).trans HX2.out; clear o3 b3))
            clear y0 y1 y2 kr
            have HO4 : Hid (w3.ownsRow w.heap.size 5 1 v3 (enc (l.take (k + 1))).length (cells (enc (l.take (k + 1))))) := by
              show World.ownsRow _ _ _ _ _ _ _
              rw [HTS.out, enc_snoc, HE.out, List.length_append, enc1_len, ← HKN.out, ← HVN.out]
              exact HO3.out
            go_wp2_with fail
            go_roundw
            case rel => exact ⟨k + 1, by omega, by go_num, HY, HO4, HB3⟩
            case measure => simp [intOf]; omega
    · have hI : ¬ (k : Int) < n := by omega
      obtain rfl : k = n := by omega
      have hfull : l.take k = l := List.take_of_length_le (by rw [HLN.out]; exact Nat.le_refl _)
      rw [hfull] at HO HW
      clear hlt hk
      go_wp2_with fail
      go_ret2
      exact .inl ⟨HO.out, _, rfl, HW.out, HB.out⟩
end Go.Proofs.Ytnmklleoilicdaa
