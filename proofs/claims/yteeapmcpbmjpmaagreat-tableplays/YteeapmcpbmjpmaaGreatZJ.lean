import Derived.Test.YteeapmcpbmjpmaaGreatZF
import Derived.Test.YteeapmcpbmjpmaaGreatVA
import Derived.Test.YteeapmcpbmjpmaaGreatTF

namespace Go.Proofs.YteeapmcpbmjpmaaGreat
set_option maxRecDepth 100000
open Go.RowKit
set_option linter.unusedVariables false

/-! The document's Apply. -/
/-- The document's table after changes since w. -/
def ApS (w W : World) (V : Nat → Prop) (t : Nat) (M : Tab) : Prop := ∃ a c, Dd W (fun x => (V x ∨ w.heap.size ≤ x) ∧ x ≠ t) t a M.length c M ∧ M.length ≤ c ∧ c ≤ maxLen ∧ w.grownBy W (some t)
theorem ApS.start {w W : World} {V : Nat → Prop} {t c : Nat} {a : Option Addr} {M : Tab} (hd : Dd w V t a M.length c M) (hmc : M.length ≤ c) (hcm : c ≤ maxLen) (hV : ∀ x, V x → x < w.heap.size ∧ x ≠ t) (hB : Below w.heap.size w W) : ApS w W V t M :=
  ⟨a, c, ⟨(hB.block t (Array.getElem?_eq_some_iff.1 hd.var).1).trans hd.var, (hd.rl.step fun y hy _ _ => hB.block y hy).wide fun x _ hx => ⟨.inl hx, (hV x hx).2⟩⟩, hmc, hcm, (grown_of_below hB).but _⟩
theorem ApS.put {w W W' : World} {V : Nat → Prop} {t : Nat} {M M' : Tab} {e : Ending} (h : ApS w W V t M) (hp : PuP W (fun x => ((V x ∨ w.heap.size ≤ x) ∧ x ≠ t) ∧ x < W.heap.size) t M' e W') : ApS w W' V t M' := by
  obtain ⟨a, c, hd, h1, h2, hg⟩ := h
  obtain ⟨_, a', c', hd', h1', h2', hg'⟩ := hp
  refine ⟨a', c', ⟨hd'.var, hd'.rl.wide fun x _ hx => ⟨?_, hx.2⟩⟩, h1', h2', hg.andThen hg' (fun j e => .inr e)⟩
  rcases hx.1 with q | q
  · exact q.1.1
  · exact .inr (Nat.le_trans hg.size q)
set_option maxHeartbeats 4000000 in
theorem rapply_ (V U : Nat → Prop) (t c : Nat) (a : Option Addr) (M : Tab) (la : Option Addr) (n lc : Nat) (l : List Sx) (w : World) (hd : Dd w V t a M.length c M) (hT : Tok M) (hm : M.length + n ≤ 10000000) (hmc : M.length ≤ c) (hcm : c ≤ maxLen) (hV : ∀ x, V x → x < w.heap.size ∧ x ≠ t) (hl : Sl w U la n l) (hU : ∀ x, U x → x ≠ t) :
    Calls Tryz.prog 54 #[.pointer (some ⟨t, 0, none⟩), .slice la n lc] w fun e w' => (allMay l = true ∧ e = .returned (.int .i64 0) ∧ ApS w w' V t (doAll M l)) ∨ (allMay l = false ∧ e = .returned (.int .i64 114) ∧ Below w.heap.size w w') := by
  have HL := hid hl
  have HLN : Hid (l.length = n) := hl.len
  have HAS := hid (fun W (hB : Below w.heap.size w W) => ApS.start hd hmc hcm hV hB)
  have HT := hid hT
  have HU := hid hU
  have HMN := hid hm
  have hn : n ≤ 10000000 := by omega
  clear hl hd hT hU hV hm hmc hcm
  go_enter Tryz.func54, Tryz.ntmps54
  go_wp2_with fail
  go_loopw [5] (fun i wr => ∃ k : Nat, k ≤ n ∧ i = .int .i64 k ∧ Hid ((l.take k).all mayS = true) ∧ Below w.heap.size w wr) (fun i _ => n - (intOf i).toNat)
  case atStart => exact ⟨0, by omega, rfl, rfl, Below.refl _ _⟩
  case round =>
    obtain ⟨k, hk, rfl, HA, hB⟩ := hrel
    have HB := hid hB
    by_cases hlt : k < n
    · have hI : (k : Int) < n := by omega
      obtain ⟨bl, off, ka, kc, va, vc, kn, vn, rfl, hkn, hvn, c0, c1, c2, v1, v2⟩ := (HL.out.below hB).at hlt
      obtain ⟨s, HS⟩ : ∃ s, Hid (l.getD k default = s) := ⟨_, rfl⟩
      rw [HS.out] at hkn hvn c2 v1 v2
      have hm := fun wx => rmay_ ka va kc vc s wx (by rw [← hkn]; exact Nat.le_trans v1.nc v1.cm) (by rw [← hvn]; exact Nat.le_trans v2.nc v2.cm)
      rw [← hkn, ← hvn] at hm
      obtain ⟨g, HG⟩ : ∃ g, Hid (s.g = g) := ⟨_, rfl⟩
      rw [HG.out] at c2 hm
      clear hkn hvn v1 v2 hlt hB
      go_wp2_with fail
      refine (hm _).mono ?_
      rintro e w1 ⟨rfl, g1⟩
      have HB1 : Hid (Below w.heap.size w w1) := bel_bel HB.out HB.out.size g1
      clear hm g1 c0 c1 c2
      cases hmay : mayS s with
      | true =>
        have HA1 : Hid ((l.take (k + 1)).all mayS = true) := all_take (by rw [HLN.out]; omega) HA.out (by rw [HS.out]; exact hmay)
        clear hmay
        go_wp2_with fail
        go_roundw
        case rel => exact ⟨k + 1, by omega, by go_num, HA1, HB1.out⟩
        case measure => simp [intOf]; omega
      | false =>
        have HA1 : Hid (allMay l = false) := all_no (k := k) (by rw [HLN.out]; omega) (by rw [HS.out]; exact hmay)
        clear hmay
        go_wp2_with fail
        go_ret
        exact .inr ⟨HA1.out, rfl, HB1.out⟩
    · have hI : ¬ (k : Int) < n := by omega
      have HA1 : Hid (allMay l = true) := all_all (k := k) (by rw [HLN.out]; omega) HA.out
      obtain ⟨w0, HW0⟩ : ∃ w0, Hid (w0 = wr) := ⟨_, rfl⟩
      clear hB HA hk hlt
      go_wp2_with fail
      clear hI
      go_loopw [6] (fun i wq => ∃ j : Nat, j ≤ n ∧ i = .int .i64 j ∧ Hid (ApS w wq V t (doAll M (l.take j)))) (fun i _ => n - (intOf i).toNat)
      case atStart => exact ⟨0, by omega, rfl, HAS.out _ HB.out⟩
      case round =>
        obtain ⟨j, hj, rfl, HQ⟩ := hrel
        by_cases hlt : j < n
        · have hI : (j : Int) < n := by omega
          obtain ⟨a1, c3, d1, q1, q2, q3⟩ := HQ.out
          obtain ⟨bl, off, ka, kc, va, vc, kn, vn, rfl, hkn, hvn, c0, c1, c2, v1, v2⟩ := (HL.out.step (w' := wr) fun y hy hy2 _ => q3.block y hy (fun e => HU.out y hy2 (Option.some.inj e))).at hlt
          obtain ⟨s, HS⟩ : ∃ s, Hid (l.getD j default = s) := ⟨_, rfl⟩
          rw [HS.out] at hkn hvn c2 v1 v2
          have hms : mayS s = true := by rw [← HS.out]; exact List.all_eq_true.1 HA1.out _ (getD_mem (by rw [HLN.out]; exact hlt))
          have HD : Hid (doAll M (l.take (j + 1)) = doS (doAll M (l.take j)) s) := by rw [← HS.out]; exact do_take M (by rw [HLN.out]; exact hlt)
          have hN : (doAll M (l.take j)).length ≤ 10000000 := by
            have := len_doAll M HT.out.srt (l.take j)
            have h2 : (l.take j).length ≤ n := by rw [List.length_take, HLN.out]; omega
            have := HMN.out
            omega
          have hTk : Tok (doAll M (l.take j)) := HT.out.doAll (List.all_eq_true.2 fun z hz => List.all_eq_true.1 HA1.out z (List.mem_of_mem_take hz)) (fun z hz => HL.out.okS z (List.mem_of_mem_take hz))
          have hsk : s.k.length ≤ 40 ∧ s.v.length ≤ 480 := by
            unfold mayS at hms
            cases hg : s.g
            · simp [hg] at hms; omega
            · simp [hg] at hms
              rw [hms.2]
              exact ⟨hms.1.2, by simp⟩
          have kp := rput_ (fun x => ((V x ∨ w.heap.size ≤ x) ∧ x ≠ t) ∧ x < wr.heap.size) t a1 _ c3 _ ka va kc vc s wr ⟨d1.var, d1.rl.wide fun x hx hy => ⟨hy, hx⟩⟩ hTk.srt (fun p hp => by have := (hTk.key p hp).2.2; omega) hN q1 q2 (fun x hx => ⟨hx.2, hx.1.2⟩) (by rw [← hkn]; exact v1.bs) (by rw [← hvn]; exact v2.bs) (by omega) (by omega)
          rw [← hkn, ← hvn] at kp
          obtain ⟨g, HGG⟩ : ∃ g, Hid (s.g = g) := ⟨_, rfl⟩
          rw [HGG.out] at c2 kp
          clear v1 v2 hkn hvn hlt hms hN hTk hsk d1 q1 q2 q3
          go_wp2_with fail
          refine kp.mono ?_
          intro e w2 hp
          have HP := hid (HQ.out.put hp)
          obtain ⟨rfl, _⟩ := hp
          rw [← HD.out] at HP
          clear kp c0 c1 c2
          go_wp2_with fail
          go_roundw
          case rel => exact ⟨j + 1, by omega, by go_num, HP⟩
          case measure => simp [intOf]; omega
        · have hI : ¬ (j : Int) < n := by omega
          have HF : Hid (ApS w wr V t (doAll M l)) := by have := HQ.out; rwa [List.take_of_length_le (by rw [HLN.out]; omega)] at this
          go_wp2_with fail
          go_ret
          exact .inl ⟨HA1.out, rfl, HF.out⟩
end Go.Proofs.YteeapmcpbmjpmaaGreat
namespace Go.Proofs.YteeapmcpbmjpmaaGreat
set_option maxRecDepth 100000
open Go.RowKit
set_option linter.unusedVariables false

/-! Set and Delete of the document's Over. -/
theorem ApS.after {w W W' : World} {V : Nat → Prop} {t : Nat} {M : Tab} (hB : Below w.heap.size w W) (h : ApS W W' V t M) : ApS w W' V t M := by
  obtain ⟨a, c, hd, h1, h2, hg⟩ := h
  exact ⟨a, c, ⟨hd.var, hd.rl.wide fun x _ hx => ⟨hx.1.imp id fun q => Nat.le_trans hB.size q, hx.2⟩⟩, h1, h2, ((grown_of_below hB).but (some t)).andThen hg (fun j e => .inr e)⟩
theorem Dd.on {w W : World} {V : Nat → Prop} {t m c : Nat} {a : Option Addr} {M : Tab} (h : Dd w V t a m c M) (hB : Below w.heap.size w W) : Dd W V t a m c M := ⟨(hB.block t (Array.getElem?_eq_some_iff.1 h.var).1).trans h.var, h.rl.step fun y hy _ _ => hB.block y hy⟩
set_option maxHeartbeats 4000000 in
/-- The document's Set. -/
theorem rset_ (V U : Nat → Prop) (o t c : Nat) (a : Option Addr) (M : Tab) (ka va : Option Addr) (kc vc : Nat) (k x : List Int) (w : World) (co : w.cell? ⟨o, 1, none⟩ = some (.pointer (some ⟨t, 0, none⟩))) (hd : Dd w V t a M.length c M) (hT : Tok M) (hm : M.length + 1 ≤ 10000000) (hmc : M.length ≤ c) (hcm : c ≤ maxLen) (hV : ∀ x, V x → x < w.heap.size ∧ x ≠ t) (hk : Vs w U ka k.length kc k) (hx : Vs w U va x.length vc x) (hU : ∀ x, U x → x ≠ t) :
    Calls Tryz.prog 36 #[.pointer (some ⟨o, 0, none⟩), .slice ka k.length kc, .slice va x.length vc] w fun e w' => (mayS ⟨k, x, false⟩ = true ∧ e = .returned (.int .i64 0) ∧ ApS w w' V t (doS M ⟨k, x, false⟩)) ∨ (mayS ⟨k, x, false⟩ = false ∧ e = .returned (.int .i64 114) ∧ Below w.heap.size w w') := by
  have hlt := (Array.getElem?_eq_some_iff.1 hd.var).1
  have B1 : Below w.heap.size w (w.alloc (.cells #[.slice ka k.length kc, .slice va x.length vc, .bool false] 44)) := (Below.refl _ _).alloc (Nat.le_refl _) _
  have hn := heap_alloc_new w (.cells #[.slice ka k.length kc, .slice va x.length vc, .bool false] 44)
  have hs : Sl (w.alloc (.cells #[.slice ka k.length kc, .slice va x.length vc, .bool false] 44)) (fun y => U y ∨ y = w.heap.size) (some ⟨w.heap.size, 0, none⟩) 1 [⟨k, x, false⟩] := by
    refine ⟨rfl, .inr ⟨w.heap.size, 0, rfl, .inr rfl, fun i hi => ?_⟩⟩
    obtain rfl : i = 0 := by omega
    exact ⟨ka, kc, va, vc, (cell_of_row _ _ 0 _ _ (0, 0) hn).trans rfl, (cell_of_row _ _ 1 _ _ (0, 0) hn).trans rfl, (cell_of_row _ _ 2 _ _ (0, 0) hn).trans rfl, (hk.step fun y hy _ _ => B1.block y hy).wide fun y _ q => .inl q, (hx.step fun y hy _ _ => B1.block y hy).wide fun y _ q => .inl q⟩
  have ka1 := rapply_ V _ t c a M _ 1 1 _ _ (hd.on B1) hT hm hmc hcm (fun y hy => ⟨by have := (hV y hy).1; simp; omega, (hV y hy).2⟩) hs (fun y hy => by rcases hy with q | q; exact hU y q; omega)
  have HB1 := hid B1
  obtain ⟨kn, HKN⟩ : ∃ z, Hid (k.length = z) := ⟨_, rfl⟩
  obtain ⟨xn, HXN⟩ : ∃ z, Hid (x.length = z) := ⟨_, rfl⟩
  rw [HKN.out, HXN.out] at ka1 HB1
  rw [HKN.out, HXN.out]
  obtain ⟨q, HQ⟩ : ∃ z, Hid (mayS ⟨k, x, false⟩ = z) := ⟨_, rfl⟩
  have HAL : Hid (allMay [⟨k, x, false⟩] = q) := by show _ = _; rw [← HQ.out]; simp [allMay]
  rw [HAL.out] at ka1
  rw [HQ.out]
  clear hd hT hV hk hx hU hs hn B1 hlt
  go_enter Tryz.func36, Tryz.ntmps36
  go_wp2_with fail
  refine ka1.mono ?_
  intro e w2 hp
  have HP : Hid ((q = true ∧ e = .returned (.int .i64 0) ∧ ApS w w2 V t (doS M ⟨k, x, false⟩)) ∨ (q = false ∧ e = .returned (.int .i64 114) ∧ Below w.heap.size w w2)) := by
    rcases hp with ⟨h1, h2, h3⟩ | ⟨h1, h2, h3⟩
    · exact .inl ⟨h1, h2, h3.after HB1.out⟩
    · exact .inr ⟨h1, h2, bel_bel HB1.out HB1.out.size h3⟩
  obtain ⟨r, he⟩ : ∃ r : Int, e = .returned (.int .i64 r) := by rcases hp with ⟨_, h2, _⟩ | ⟨_, h2, _⟩ <;> exact ⟨_, h2⟩
  subst he
  clear ka1 hp
  go_wp2_with fail
  go_ret
  exact HP.out
set_option maxHeartbeats 4000000 in
/-- The document's Delete. -/
theorem rdelete_ (V : Nat → Prop) (o t c : Nat) (a : Option Addr) (M : Tab) (ka : Option Addr) (kn kc : Nat) (k : List Int) (w : World) (ho : o < w.heap.size) (co : w.cell? ⟨o, 1, none⟩ = some (.pointer (some ⟨t, 0, none⟩))) (hd : Dd w V t a M.length c M) (hT : Tok M) (hm : M.length ≤ 10000000) (hmc : M.length ≤ c) (hcm : c ≤ maxLen) (hV : ∀ x, V x → x < w.heap.size ∧ x ≠ t) (hk : Bs w ka kn k) (hkn : k.length = kn) (hkl : kn ≤ 100000000) :
    Calls Tryz.prog 37 #[.pointer (some ⟨o, 0, none⟩), .slice ka kn kc] w fun e w' => e = .returned (.bool (look M k).isSome) ∧ (((look M k).isSome = true ∧ ApS w w' V t (del k M)) ∨ (look M k = none ∧ Below w.heap.size w w')) := by
  have kg := rget_ V t a M.length c M ka kn kc k w hd hT.srt (fun p hp => by have := (hT.key p hp).2.2; have := (hT.val p hp).2; omega) (by omega) hk hkl
  have HPU := hid (fun W (hB : Below w.heap.size w W) => rput_ V t a M.length c M ka none kc 0 ⟨k, [], true⟩ W (hd.on hB) hT.srt (fun p hp => by have := (hT.key p hp).2.2; omega) hm hmc hcm (fun y hy => ⟨Nat.lt_of_lt_of_le (hV y hy).1 hB.size, (hV y hy).2⟩) (by show Bs _ _ k.length _; rw [hkn]; exact hk.below hB) ⟨rfl, fun z hz => by simp at hz, .inl rfl⟩ (by show k.length ≤ _; omega) (by simp))
  have HV := hid hV
  have HCO := hid co
  have HO := hid ho
  have HKN := hid hkn
  clear hd hT hV hk
  go_enter Tryz.func37, Tryz.ntmps37
  go_wp2_with fail
  refine kg.mono ?_
  intro e w1 hp
  rcases hp with ⟨v, xa, xc, hl, rfl, hv, hB⟩ | ⟨hl, rfl, hB⟩
  · have HL := hid hl
    have c1 := (hB.cell (p := ⟨o, 1, none⟩) HO.out).trans HCO.out
    have kp := HPU.out w1 hB
    simp only [HKN.out, List.length_nil] at kp
    have HB := hid hB
    clear kg hv hB hl co
    go_wp2_with fail
    refine kp.mono ?_
    intro e w2 hp
    obtain ⟨he, a', c', hd', h1', h2', hg'⟩ := hp
    have HF : Hid (ApS w w2 V t (del k M)) := ApS.after HB.out ⟨a', c', hd', h1', h2', hg'⟩
    subst he
    clear kp hd' h1' h2' hg'
    go_wp2_with fail
    go_ret
    rw [HL.out]
    exact ⟨rfl, .inl ⟨rfl, HF.out⟩⟩
  · have HL := hid hl
    have HB := hid hB
    clear kg hB hl
    go_wp2_with fail
    go_ret
    rw [HL.out]
    exact ⟨rfl, .inr ⟨rfl, HB.out⟩⟩
end Go.Proofs.YteeapmcpbmjpmaaGreat
namespace Go.Proofs.YteeapmcpbmjpmaaGreat
set_option maxRecDepth 100000
open Go.RowKit
set_option linter.unusedVariables false

/-! The document's copy of rows. -/
/-- What a copy of rows is. -/
def RoP (w : World) (l : Tab) (e : Ending) (w' : World) : Prop := ∃ v ds, e = .returned v ∧ Mk w w' (fun _ => False) v ds ∧ ds.map (·.s) = l
set_option maxHeartbeats 4000000 in
theorem rrows_ (V : Nat → Prop) (a : Option Addr) (n c : Nat) (l : Tab) (w : World) (hr : Rl w V a n l) (hn : n ≤ 10000000) (hb : ∀ p ∈ l, p.1.length ≤ 100000000 ∧ p.2.length ≤ 100000000) :
    Calls Tryz.prog 72 #[.slice a n c] w (RoP w l) := by
  have HR := hid hr
  have HLN : Hid (l.length = n) := hr.len
  have HBL : Hid (∀ j, j < n → (l.getD j ([], [])).1.length ≤ 100000000 ∧ (l.getD j ([], [])).2.length ≤ 100000000) := fun j hj => hb _ (by rw [show l.getD j ([], []) = l[j]'(by have := hr.len; omega) from by simp [List.getD, show j < l.length by have := hr.len; omega]]; exact List.getElem_mem _)
  clear hr hb
  go_enter Tryz.func72, Tryz.ntmps72
  go_wp2_with fail
  go_loopw [3, 4] (fun v i wr => ∃ (j : Nat) (ds : List RD), j ≤ n ∧ i = .int .i64 j ∧ Hid (Mk w wr (fun _ => False) v ds) ∧ Hid (ds.map (·.s) = l.take j)) (fun _ i _ => n - (intOf i).toNat)
  case atStart => exact ⟨0, [], by omega, rfl, Mk.nil (Below.refl _ _), by show _ = _; simp⟩
  case round =>
    obtain ⟨j, ds, hj, rfl, HM, HD⟩ := hrel
    by_cases hlt : j < n
    · have hI : (j : Int) < n := by omega
      have HR1 := hid (HR.out.step fun y hy _ _ => HM.out.bel.block y hy : Rl wr V a n l)
      rcases HR1.out.cells with h0 | ⟨b, off, rfl, hb, hc⟩
      · omega
      obtain ⟨ka, kc, va, vc, c0, c1, v1, v2⟩ := hc j hlt
      have hbl := HBL.out j hlt
      have HT1 : Hid (l.take (j + 1) = l.take j ++ [l.getD j ([], [])]) := by
        show _ = _
        rw [List.take_succ_eq_append_getElem (by rw [HLN.out]; exact hlt)]
        simp [List.getD, show j < l.length by rw [HLN.out]; exact hlt]
      have HDL : Hid (ds.length ≤ 100000000) := by show _ ≤ _; have := congrArg List.length HD.out; simp at this; omega
      obtain ⟨p, HP⟩ : ∃ p, Hid (l.getD j ([], []) = p) := ⟨_, rfl⟩
      rw [HP.out] at c0 c1 v1 v2 hbl HT1
      have k1 := refBytes ka p.1.length kc p.1 wr v1.bs (by omega)
      have k2 := fun wx (q : Bs wx va p.2.length p.2) => refBytes va p.2.length vc p.2 wx q (by omega)
      have HV1 := hid v1
      have HV2 := hid v2
      have C1 := hid c1
      obtain ⟨kn, HKN⟩ : ∃ z, Hid (p.1.length = z) := ⟨_, rfl⟩
      obtain ⟨xn, HXN⟩ : ∃ z, Hid (p.2.length = z) := ⟨_, rfl⟩
      rw [HKN.out] at c0 k1
      rw [HXN.out] at c1 k2 C1
      clear v1 v2 hbl hc hb
      go_wp2_with fail
      refine k1.mono ?_
      rintro e w1 ⟨z1, rfl, o1, g1⟩
      obtain ⟨a2, c2, rfl, vs1⟩ := Vs.ofOwn o1 HV1.out.bs.2.1
      have HG1 : Hid (Below wr.heap.size wr w1) := ⟨g1.os, g1.tape, g1.output, g1.size, g1.block⟩
      have d1 := (HG1.out.cell (p := ⟨b, off + j * 2 + 1, none⟩) (World.block_lt_of_cell? wr _ C1.out)).trans C1.out
      have HW1 := hid vs1
      clear k1 o1 g1 vs1 c0 c1
      go_wp2_with fail
      refine (k2 _ (by have := HV2.out.bs.below HG1.out; rwa [HXN.out] at this)).mono ?_
      rintro e w2 ⟨z2, rfl, o2, g2⟩
      obtain ⟨a3, c3, rfl, vs2⟩ := Vs.ofOwn o2 HV2.out.bs.2.1
      have HG2 : Hid (Below wr.heap.size wr w2) := bel_bel HG1.out HG1.out.size g2
      have HW2 := hid (HW1.out.step fun y hy _ _ => g2.block y hy)
      have HW3 := hid (vs2.wide (V' := fun y => wr.heap.size ≤ y) fun y _ h => Nat.le_trans HG1.out.size h)
      have HBA := hid ((Below.refl w2.heap.size w2).alloc (Nat.le_refl _) (.cells #[.slice a2 kn c2, .slice a3 xn c3] 55))
      have HNW := hid (heap_alloc_new w2 (.cells #[.slice a2 kn c2, .slice a3 xn c3] 55))
      have HRN : Hid (Rl (w2.alloc (.cells #[.slice a2 kn c2, .slice a3 xn c3] 55)) (fun y => wr.heap.size ≤ y) (some ⟨w2.heap.size, 0, none⟩) 1 [p]) := by
        refine ⟨rfl, .inr ⟨w2.heap.size, 0, rfl, HG2.out.size, fun i hi => ?_⟩⟩
        obtain rfl : i = 0 := by omega
        refine ⟨a2, c2, a3, c3, ?_, ?_, ?_, ?_⟩
        · show _ = some (Value.slice a2 p.1.length c2); rw [HKN.out]; exact (cell_of_row _ _ 0 _ _ (0, 0) HNW.out).trans rfl
        · show _ = some (Value.slice a3 p.2.length c3); rw [HXN.out]; exact (cell_of_row _ _ 1 _ _ (0, 0) HNW.out).trans rfl
        · show Vs _ _ _ p.1.length _ _; rw [HKN.out]; exact HW2.out.step fun y hy _ _ => HBA.out.block y hy
        · show Vs _ _ _ p.2.length _ _; rw [HXN.out]; exact HW3.out.step fun y hy _ _ => HBA.out.block y hy
      have HMA := hid (HM.out.on (bel_bel HG2.out HG2.out.size HBA.out))
      clear k2 o2 g2 vs2 d1
      go_wp2_with (at_builtin; refine wpList_appRl (V := fun y => wr.heap.size ≤ y) rfl _ _ rfl w.heap.size u3 ds rfl HMA.out.own _ 1 1 [p] rfl HRN.out HDL.out (by omega) HMA.out.bel.size ?_; intro v4 w4 es4 he4 hrv4 ho4 hg4 hbk4; have HM4 := hid (HMA.out.app (fun d hd => (hrv4 d hd).wideZ fun y _ hy => ⟨.inr (Nat.le_trans HM.out.bel.size hy), fun q => by have := (World.ownsRow.lt HM.out.own y q).2; omega⟩) ho4 hg4 hbk4); have HE4 := hid he4; clear hrv4 ho4 hg4 hbk4 he4)
      go_roundw
      case rel => exact ⟨j + 1, _, by omega, by go_num, HM4, by show _ = _; rw [List.map_append, HD.out, HE4.out, HT1.out]⟩
      case measure => simp [intOf]; omega
    · have hI : ¬ (j : Int) < n := by omega
      have HF : Hid (ds.map (·.s) = l) := by have := HD.out; rwa [List.take_of_length_le (by rw [HLN.out]; omega)] at this
      go_wp2_with fail
      go_ret
      exact ⟨_, ds, rfl, HM.out, HF.out⟩
end Go.Proofs.YteeapmcpbmjpmaaGreat
