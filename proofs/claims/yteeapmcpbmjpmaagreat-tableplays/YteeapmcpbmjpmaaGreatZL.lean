import Derived.Test.YteeapmcpbmjpmaaGreatZJ
import Derived.Test.YteeapmcpbmjpmaaGreatVA
import Derived.Deep.RegionHeld
namespace Go.Proofs.YteeapmcpbmjpmaaGreat
set_option maxRecDepth 100000
open Go.RowKit
set_option linter.unusedVariables false

/-! The document's Copy and Over. -/
/-- What a copy of the document's table is. -/
def CoP (w : World) (M : Tab) (e : Ending) (w' : World) : Prop := ∃ t a c, e = .returned (.pointer (some ⟨t, 0, none⟩)) ∧ Dd w' (fun x => w.heap.size ≤ x ∧ x < t) t a M.length c M ∧ M.length ≤ c ∧ c ≤ maxLen ∧ Below w.heap.size w w' ∧ w.heap.size ≤ t
set_option maxHeartbeats 4000000 in
theorem rcopy_ (V : Nat → Prop) (t : Nat) (a : Option Addr) (m c : Nat) (M : Tab) (w : World) (hd : Dd w V t a m c M) (hm : m ≤ 10000000) (hb : ∀ p ∈ M, p.1.length ≤ 100000000 ∧ p.2.length ≤ 100000000) :
    Calls Tryz.prog 56 #[.pointer (some ⟨t, 0, none⟩)] w (CoP w M) := by
  have kr := rrows_ V a m c M w hd.rl hm hb
  have c0 := hd.cell
  clear hd hb
  go_enter Tryz.func56, Tryz.ntmps56
  go_wp2_with fail
  refine kr.mono ?_
  rintro e w1 ⟨v, ds, rfl, hM, hds⟩
  obtain ⟨a', c', rfl, hr⟩ := Rl.own (V := fun x => w.heap.size ≤ x ∧ x < w1.heap.size) hM.own (fun d hd => (hM.rv d hd).wideZ fun x hx q => ⟨q.1.elim (fun f => f.elim) id, hx⟩) (fun x hx => World.ownsRow.lt hM.own x hx)
  obtain ⟨q1, q2⟩ := own_cap hM.own
  have hl : ds.length = M.length := by rw [← hds, List.length_map]
  rw [hl, hds] at hr
  rw [hl] at q1
  have HF : Hid (CoP w M (.returned (.pointer (some ⟨w1.heap.size, 0, none⟩))) (w1.alloc (.cells #[.slice a' ds.length c'] 30))) := by
    have hB := (Below.refl w1.heap.size w1).alloc (Nat.le_refl _) (.cells #[.slice a' ds.length c'] 30)
    refine ⟨w1.heap.size, a', c', rfl, ⟨?_, hr.step fun y hy _ _ => hB.block y hy⟩, q1, q2, bel_bel hM.bel hM.bel.size hB, hM.bel.size⟩
    rw [← hl]
    exact heap_alloc_new w1 _
  obtain ⟨dn, hdn⟩ : ∃ z, ds.length = z := ⟨_, rfl⟩
  rw [hdn] at HF ⊢
  clear kr hM hds hr q1 q2 hl hdn
  go_wp2_with fail
  go_ret
  exact HF.out
/-- What the document's Over holds. -/
def OvP (w : World) (M : Tab) (e : Ending) (w' : World) : Prop := ∃ o s t a c a' c', e = .returned (.pointer (some ⟨o, 0, none⟩)) ∧ w'.heap[o]? = some (.cells #[.pointer (some ⟨s, 0, none⟩), .pointer (some ⟨t, 0, none⟩)] 77 (0, 0)) ∧ Dd w' (fun x => w.heap.size ≤ x ∧ x < s) s a M.length c M ∧ Dd w' (fun x => s < x ∧ x < t) t a' M.length c' M ∧ M.length ≤ c ∧ c ≤ maxLen ∧ M.length ≤ c' ∧ c' ≤ maxLen ∧ Below w.heap.size w w' ∧ w.heap.size ≤ s ∧ s < t ∧ t < o
set_option maxHeartbeats 4000000 in
theorem rover_ (V : Nat → Prop) (t : Nat) (a : Option Addr) (m c : Nat) (M : Tab) (w : World) (hd : Dd w V t a m c M) (hm : m ≤ 10000000) (hb : ∀ p ∈ M, p.1.length ≤ 100000000 ∧ p.2.length ≤ 100000000) :
    Calls Tryz.prog 31 #[.pointer (some ⟨t, 0, none⟩)] w (OvP w M) := by
  have k1 := rcopy_ V t a m c M w hd hm hb
  have K2 := hid (fun W (hB : Below w.heap.size w W) => rcopy_ V t a m c M W (hd.on hB) hm hb)
  clear hd hb
  go_enter Tryz.func31, Tryz.ntmps31
  go_wp2_with fail
  refine k1.mono ?_
  rintro e w1 ⟨s1, a1, c1, rfl, hd1, q1, q2, hB1, hs1⟩
  have k2 := K2.out w1 hB1
  have H1 := hid hd1
  have HQ1 := hid (And.intro q1 q2)
  have HB1 := hid hB1
  have HS1 := hid hs1
  clear k1 hd1 q1 q2 hB1 hs1
  go_wp2_with fail
  refine k2.mono ?_
  rintro e w2 ⟨s2, a2, c2, rfl, hd2, q1, q2, hB2, hs2⟩
  have HF : Hid (OvP w M (.returned (.pointer (some ⟨w2.heap.size, 0, none⟩))) (w2.alloc (.cells #[.pointer (some ⟨s1, 0, none⟩), .pointer (some ⟨s2, 0, none⟩)] 77))) := by
    have hB3 := (Below.refl w2.heap.size w2).alloc (Nat.le_refl _) (.cells #[.pointer (some ⟨s1, 0, none⟩), .pointer (some ⟨s2, 0, none⟩)] 77)
    have l1 := (Array.getElem?_eq_some_iff.1 H1.out.var).1
    have l2 := (Array.getElem?_eq_some_iff.1 hd2.var).1
    have hd2' := hd2.on hB3
    exact ⟨w2.heap.size, s1, s2, a1, c1, a2, c2, rfl, heap_alloc_new w2 _, (H1.out.on hB2).on hB3, ⟨hd2'.var, hd2'.rl.wide fun x _ hx => ⟨by omega, hx.2⟩⟩, HQ1.out.1, HQ1.out.2, q1, q2, bel_bel (bel_bel HB1.out HB1.out.size hB2) (Nat.le_trans HB1.out.size hB2.size) hB3, HS1.out, by omega, l2⟩
  clear k2 hd2 q1 q2 hB2 hs2
  go_wp2_with fail
  go_ret
  exact HF.out
end Go.Proofs.YteeapmcpbmjpmaaGreat
namespace Go.Proofs.YteeapmcpbmjpmaaGreat
set_option maxRecDepth 100000
open Go.RowKit Go.Shelf Go.Maps
set_option linter.unusedVariables false

theorem Vs.belowB {w w' : World} {B : Nat} {a : Option Addr} {n c : Nat} {v : List Int} (h : Vs w (fun x => x < B) a n c v) (hb : Below B w w') : Vs w' (fun x => x < B) a n c v := h.step fun x _ hx _ => hb.block x hx
set_option maxHeartbeats 2000000 in
/-- The document's row: one set's bytes behind b. -/
theorem rrow_ (B m : Nat) (v : Value) (X : List Int) (ka va : Option Addr) (kn kc vn vc : Nat) (s : Sx) (w : World) (ho : w.ownsRow B 5 1 v m (cells X)) (hX : X.length = m) (hB : B ≤ w.heap.size) (hk : Vs w (fun x => x < B) ka kn kc s.k) (hv : Vs w (fun x => x < B) va vn vc s.v) (hkn : kn ≤ 1000000) (hvn : vn ≤ 1000000) (hm : m ≤ 9000000000) :
    Calls Tryz.prog 55 #[v, .slice ka kn kc, .slice va vn vc, .bool s.g] w fun e w' => ∃ v', e = .returned v' ∧ w'.ownsRow B 5 1 v' (m + (4 + kn + vn)) (cells (X ++ enc1 s)) ∧ Below B w w' := by
  have HO := hid ho
  have HK := hid hk
  have HV := hid hv
  have HKL : Hid (s.k.length = kn) := hk.bs.1
  have HVL : Hid (s.v.length = vn) := hv.bs.1
  have HE : Hid (enc1 s = (if s.g then 0 else 1) :: (be 1 kn ++ be 2 vn ++ s.k ++ s.v)) := by show _ = _; unfold enc1; rw [HKL.out, HVL.out]
  obtain ⟨g, HG⟩ : ∃ g, Hid (s.g = g) := ⟨_, rfl⟩
  rw [HG.out] at HE ⊢
  clear ho hk hv
  have HSZ : ∀ z : Int, Hid (B ≤ (w.alloc (.cells #[.int .u8 z] 5)).heap.size) := fun z => by show _ ≤ _; simp; omega
  have step : ∀ z : Int, 0 ≤ z ∧ z ≤ 255 → Hid ((w.alloc (.cells #[.int .u8 z] 5)).ownsRow B 5 1 v m (cells X)) ∧ Hid (Bs (w.alloc (.cells #[.int .u8 z] 5)) (some ⟨w.heap.size, 0, none⟩) 1 [z]) := fun z hz => ⟨HO.out.alloc _, bs_lit w [z] (0, 0) (Okb1 z hz)⟩
  cases g with
  | true =>
    obtain ⟨HOA, HBS⟩ := step 0 (by omega)
    have HS0 := HSZ 0
    clear step HSZ
    have HE' : Hid (enc1 s = [0] ++ be 1 kn ++ be 2 vn ++ s.k ++ s.v) := by rw [HE.out]; simp [Hid]
    clear HE
    go_enter Tryz.func55, Tryz.ntmps55
    go_wp2_with (at_builtin; refine wpList_appT rfl _ _ rfl B _ m X rfl (by exact HOA.out) (some ⟨w.heap.size, 0, none⟩) 1 1 [0] rfl (by exact HBS.out) (by omega) (by exact HS0.out) ?_; intro v5 w5 o5 g5; have HO5 := hid o5; have HG5 := hid g5; clear o5 g5; refine Hid.out ?_)
    refine hid ?_
    have HB5 : Hid (Below B w w5) := ((Below.refl B w).alloc hB (.cells #[.int .u8 0] 5)).grown HG5.out (by exact HS0.out) (fun p hp => (HO.out.lt p hp).1)
    have k1 := rnumber_ B (m + 1) 1 v5 (X ++ [0]) kn w5 HO5.out (by simp [hX]) (Nat.le_trans hB HB5.out.size) (by omega) (by omega) (by omega)
    clear HOA HBS HS0 HG5
    go_wp2_with fail
    refine k1.mono ?_
    rintro e w6 ⟨v6, rfl, o6, b6⟩
    have HB6 := hid (HB5.out.trans b6)
    have k2 := rnumber_ B (m + 1 + 1) 2 v6 (X ++ [0] ++ be 1 kn) vn w6 o6 (by simp [hX, be_length]) (Nat.le_trans hB HB6.out.size) (by omega) (by omega) (by omega)
    clear k1 o6 b6
    go_wp2_with fail
    refine k2.mono ?_
    rintro e w7 ⟨v7, rfl, o7, b7⟩
    have HB7 := hid (HB6.out.trans b7)
    have HO7 := hid o7
    have HK7 := hid (HK.out.belowB HB7.out).bs
    have HS7 : Hid (B ≤ w7.heap.size) := Nat.le_trans hB HB7.out.size
    clear k2 o7 b7
    go_wp2_with (at_builtin; refine wpList_appT rfl _ _ rfl B _ (m + 1 + 1 + 2) (X ++ [0] ++ be 1 kn ++ be 2 vn) rfl (by exact HO7.out) ka kn kc s.k rfl (by exact HK7.out) (by omega) (by exact HS7.out) ?_; intro v8 w8 o8 g8; have HO8 := hid o8; have HG8 := hid g8; clear o8 g8; refine Hid.out ?_)
    refine hid ?_
    have HB8 : Hid (Below B w w8) := HB7.out.grown HG8.out HS7.out (fun p hp => (HO7.out.lt p hp).1)
    have HV8 := hid (HV.out.belowB HB8.out).bs
    have HS8 : Hid (B ≤ w8.heap.size) := Nat.le_trans hB HB8.out.size
    clear HK7 HG8
    go_wp2_with (at_builtin; refine wpList_appT rfl _ _ rfl B _ (m + 1 + 1 + 2 + kn) (X ++ [0] ++ be 1 kn ++ be 2 vn ++ s.k) rfl (by exact HO8.out) va vn vc s.v rfl (by exact HV8.out) (by omega) (by exact HS8.out) ?_; intro v9 w9 o9 g9; have HO9 := hid o9; have HG9 := hid g9; clear o9 g9; refine Hid.out ?_)
    refine hid ?_
    have HB9 : Hid (Below B w w9) := HB8.out.grown HG9.out HS8.out (fun p hp => (HO8.out.lt p hp).1)
    have HOF : Hid (w9.ownsRow B 5 1 v9 (m + (4 + kn + vn)) (cells (X ++ enc1 s))) := by
      have h := HO9.out
      rw [show m + 1 + 1 + 2 + kn + vn = m + (4 + kn + vn) by omega] at h
      rw [HE'.out]
      refine hid ?_
      simpa only [List.append_assoc] using h
    clear HO9 HG9 HV8
    go_wp2_with fail
    go_ret
    exact ⟨_, rfl, HOF.out, HB9.out⟩
  | false =>
    obtain ⟨HOA, HBS⟩ := step 1 (by omega)
    have HS0 := HSZ 1
    clear step HSZ
    have HE' : Hid (enc1 s = [1] ++ be 1 kn ++ be 2 vn ++ s.k ++ s.v) := by rw [HE.out]; simp [Hid]
    clear HE
    go_enter Tryz.func55, Tryz.ntmps55
    go_wp2_with (at_builtin; refine wpList_appT rfl _ _ rfl B _ m X rfl (by exact HOA.out) (some ⟨w.heap.size, 0, none⟩) 1 1 [1] rfl (by exact HBS.out) (by omega) (by exact HS0.out) ?_; intro v5 w5 o5 g5; have HO5 := hid o5; have HG5 := hid g5; clear o5 g5; refine Hid.out ?_)
    refine hid ?_
    have HB5 : Hid (Below B w w5) := ((Below.refl B w).alloc hB (.cells #[.int .u8 1] 5)).grown HG5.out (by exact HS0.out) (fun p hp => (HO.out.lt p hp).1)
    have k1 := rnumber_ B (m + 1) 1 v5 (X ++ [1]) kn w5 HO5.out (by simp [hX]) (Nat.le_trans hB HB5.out.size) (by omega) (by omega) (by omega)
    clear HOA HBS HS0 HG5
    go_wp2_with fail
    refine k1.mono ?_
    rintro e w6 ⟨v6, rfl, o6, b6⟩
    have HB6 := hid (HB5.out.trans b6)
    have k2 := rnumber_ B (m + 1 + 1) 2 v6 (X ++ [1] ++ be 1 kn) vn w6 o6 (by simp [hX, be_length]) (Nat.le_trans hB HB6.out.size) (by omega) (by omega) (by omega)
    clear k1 o6 b6
    go_wp2_with fail
    refine k2.mono ?_
    rintro e w7 ⟨v7, rfl, o7, b7⟩
    have HB7 := hid (HB6.out.trans b7)
    have HO7 := hid o7
    have HK7 := hid (HK.out.belowB HB7.out).bs
    have HS7 : Hid (B ≤ w7.heap.size) := Nat.le_trans hB HB7.out.size
    clear k2 o7 b7
    go_wp2_with (at_builtin; refine wpList_appT rfl _ _ rfl B _ (m + 1 + 1 + 2) (X ++ [1] ++ be 1 kn ++ be 2 vn) rfl (by exact HO7.out) ka kn kc s.k rfl (by exact HK7.out) (by omega) (by exact HS7.out) ?_; intro v8 w8 o8 g8; have HO8 := hid o8; have HG8 := hid g8; clear o8 g8; refine Hid.out ?_)
    refine hid ?_
    have HB8 : Hid (Below B w w8) := HB7.out.grown HG8.out HS7.out (fun p hp => (HO7.out.lt p hp).1)
    have HV8 := hid (HV.out.belowB HB8.out).bs
    have HS8 : Hid (B ≤ w8.heap.size) := Nat.le_trans hB HB8.out.size
    clear HK7 HG8
    go_wp2_with (at_builtin; refine wpList_appT rfl _ _ rfl B _ (m + 1 + 1 + 2 + kn) (X ++ [1] ++ be 1 kn ++ be 2 vn ++ s.k) rfl (by exact HO8.out) va vn vc s.v rfl (by exact HV8.out) (by omega) (by exact HS8.out) ?_; intro v9 w9 o9 g9; have HO9 := hid o9; have HG9 := hid g9; clear o9 g9; refine Hid.out ?_)
    refine hid ?_
    have HB9 : Hid (Below B w w9) := HB8.out.grown HG9.out HS8.out (fun p hp => (HO8.out.lt p hp).1)
    have HOF : Hid (w9.ownsRow B 5 1 v9 (m + (4 + kn + vn)) (cells (X ++ enc1 s))) := by
      have h := HO9.out
      rw [show m + 1 + 1 + 2 + kn + vn = m + (4 + kn + vn) by omega] at h
      rw [HE'.out]
      refine hid ?_
      simpa only [List.append_assoc] using h
    clear HO9 HG9 HV8
    go_wp2_with fail
    go_ret
    exact ⟨_, rfl, HOF.out, HB9.out⟩
end Go.Proofs.YteeapmcpbmjpmaaGreat
namespace Go.Proofs.YteeapmcpbmjpmaaGreat
set_option maxRecDepth 100000
open Go.RowKit Go.Shelf Go.Maps
set_option linter.unusedVariables false

/-! The document's Bytes. -/
theorem enc_len_row {s : Sx} (h : mayS s = true) : (enc1 s).length ≤ 524 := by
  rw [enc1_len]
  have h1 := (mayS_key h).2
  have h2 := mayS_val h
  omega
theorem enc_len_all : ∀ {l : List Sx}, allMay l = true → (enc l).length ≤ 524 * l.length
  | [], _ => by simp [enc]
  | s :: l, h => by
    unfold allMay at h
    rw [List.all_cons, Bool.and_eq_true] at h
    have h1 := enc_len_row h.1
    have h2 := enc_len_all (l := l) h.2
    rw [show enc (s :: l) = enc1 s ++ enc l from by simp [enc], List.length_append, List.length_cons]
    omega
set_option maxHeartbeats 4000000 in
theorem rbytes_ (V : Nat → Prop) (t : Nat) (a : Option Addr) (m c : Nat) (M : Tab) (w : World) (hd : Dd w V t a m c M) (hT : Tok M) (hm : m ≤ 10000000) :
    Calls Tryz.prog 30 #[.pointer (some ⟨t, 0, none⟩)] w fun e w' => ∃ v, e = .returned v ∧ w'.ownsRow w.heap.size 5 1 v (enc (asS M)).length (cells (enc (asS M))) ∧ Below w.heap.size w w' := by
  have HD := hid hd
  have HML : Hid (M.length = m) := hd.rl.len
  have HT := hid hT
  have htl := (Array.getElem?_eq_some_iff.1 hd.var).1
  have HTC := hid hd.cell
  clear hd hT
  go_enter Tryz.func30, Tryz.ntmps30
  go_wp2_with fail
  go_loopw [3, 4] (fun v i wr => ∃ j : Nat, j ≤ m ∧ i = .int .i64 j ∧ Hid (wr.ownsRow w.heap.size 5 1 v (enc (asS (M.take j))).length (cells (enc (asS (M.take j))))) ∧ Hid (Below w.heap.size w wr)) (fun _ i _ => m - (intOf i).toNat)
  case atStart => exact ⟨0, by omega, rfl, by exact World.ownsRow_nil _ _ _ _, Below.refl _ _⟩
  case round =>
    obtain ⟨j, hj, rfl, HO, HB⟩ := hrel
    have ct := (HB.out.cell (p := ⟨t, 0, none⟩) htl).trans HTC.out
    by_cases hlt : j < m
    · have hI : (j : Int) < m := by omega
      have hjM : j < M.length := by rw [HML.out]; exact hlt
      have HR := hid (HD.out.rl.wide (V' := fun x => x < w.heap.size) fun x hx _ => hx)
      rcases HR.out.cells with h0 | ⟨b, off, rfl, hb, hc⟩
      · omega
      obtain ⟨ka, kc, va, vc, c0, c1, v1, v2⟩ := hc j hlt
      obtain ⟨p, HP⟩ : ∃ p, Hid (M.getD j ([], []) = p) := ⟨_, rfl⟩
      rw [HP.out] at c0 c1 v1 v2
      have hpm : p ∈ M := by rw [← HP.out]; simp [List.getD, hjM]
      have HTS : Hid (asS (M.take (j + 1)) = asS (M.take j) ++ [⟨p.1, p.2, false⟩]) := by
        show _ = _
        rw [List.take_succ_eq_append_getElem hjM]
        have e : M[j] = p := by rw [← HP.out]; simp [List.getD, hjM]
        simp [asS, e]
      have hk := HT.out.key p hpm
      have hv := HT.out.val p hpm
      have HEL : Hid ((enc (asS (M.take j))).length ≤ 5240000000) := by
        show _ ≤ _
        have h1 := enc_len_all (l := asS (M.take j)) (by
          have := asS_may HT.out
          unfold allMay at this ⊢
          rw [List.all_eq_true] at this ⊢
          exact fun s hs => this s (by
            obtain ⟨q, hq, e⟩ := List.mem_map.1 hs
            exact List.mem_map.2 ⟨q, List.mem_of_mem_take hq, e⟩))
        have h2 : (asS (M.take j)).length ≤ m := by simp [asS]; omega
        omega
      obtain ⟨E, HE⟩ : ∃ E, Hid (enc (asS (M.take j)) = E) := ⟨_, rfl⟩
      rw [HE.out] at HO HEL
      have kr := fun wx (hb : Below wr.heap.size wr wx) => rrow_ w.heap.size E.length _ E ka va p.1.length kc p.2.length vc ⟨p.1, p.2, false⟩ wx (own_bel HO.out hb) rfl (Nat.le_trans HB.out.size hb.size) ((v1.belowB HB.out).step fun x hx _ _ => hb.block x hx) ((v2.belowB HB.out).step fun x hx _ _ => hb.block x hx) (by omega) (by omega) (by have := HEL.out; omega)
      obtain ⟨kn, HKN⟩ : ∃ z, Hid (p.1.length = z) := ⟨_, rfl⟩
      obtain ⟨xn, HXN⟩ : ∃ z, Hid (p.2.length = z) := ⟨_, rfl⟩
      rw [HKN.out, HXN.out] at kr
      rw [HKN.out] at c0
      rw [HXN.out] at c1
      have hbl : b < w.heap.size := World.block_lt_of_cell? w _ c0
      have x0 := (HB.out.cell hbl).trans c0
      have x1 := (HB.out.cell hbl).trans c1
      have HBL := hid hbl
      have hwt : t < wr.heap.size := Nat.lt_of_lt_of_le htl HB.out.size
      have hwb : b < wr.heap.size := Nat.lt_of_lt_of_le hbl HB.out.size
      clear c0 c1 v1 v2 hc hb hk hv hpm hbl hlt hjM HR
      go_wp2_with fail
      go_region_held (fun wx => wx.cell? ⟨t, 0, none⟩ = some (.slice (some ⟨b, off, none⟩) m c) ∧ wx.cell? ⟨b, off + j * 2, none⟩ = some (.slice ka kn kc) ∧ wx.cell? ⟨b, off + j * 2 + 1, none⟩ = some (.slice va xn vc)) (go_keep) (first | (go_at_call 55; refine (kr _ (below_drew wr)).mono ?_; rintro e w3 ⟨v3, rfl, o3, b0⟩; have b3 : Below w.heap.size wr w3 := ⟨b0.os, b0.tape, b0.output, b0.size, b0.block⟩; have HO3 := hid o3; have HB3 : Hid (Below w.heap.size w w3) := HB.out.trans b3; have y0 := (HB3.out.cell (p := ⟨t, 0, none⟩) htl).trans HTC.out; have y1 := (b3.cell (p := ⟨b, off + j * 2, none⟩) HBL.out).trans x0; have y2 := (b3.cell (p := ⟨b, off + j * 2 + 1, none⟩) HBL.out).trans x1; clear o3 b3 b0))
      clear y0 y1 y2 kr x0 x1 ct
      have HO4 : Hid (w3.ownsRow w.heap.size 5 1 v3 (enc (asS (M.take (j + 1)))).length (cells (enc (asS (M.take (j + 1)))))) := by
        show World.ownsRow _ _ _ _ _ _ _
        rw [HTS.out, enc_snoc, HE.out, List.length_append, enc1_len, HKN.out, HXN.out]
        exact HO3.out
      go_wp2_with fail
      go_roundw
      case rel => exact ⟨j + 1, by omega, by go_num, HO4, HB3⟩
      case measure => simp [intOf]; omega
    · have hI : ¬ (j : Int) < m := by omega
      have HF : Hid (wr.ownsRow w.heap.size 5 1 u3 (enc (asS M)).length (cells (enc (asS M)))) := by
        have := HO.out
        rwa [List.take_of_length_le (by rw [HML.out]; omega)] at this
      go_wp2_with fail
      go_ret
      exact ⟨_, rfl, HF.out, HB.out⟩
end Go.Proofs.YteeapmcpbmjpmaaGreat
