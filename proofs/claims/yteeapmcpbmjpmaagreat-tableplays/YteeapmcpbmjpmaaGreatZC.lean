import Derived.Test.YteeapmcpbmjpmaaGreatZA
import Derived.BigQuiet
namespace Go.Proofs.YteeapmcpbmjpmaaGreat
set_option maxRecDepth 100000
open Go.RowKit
set_option linter.unusedVariables false

/-- A row of the document's table, wherever nothing but draws has come. -/
theorem Dd.row {w : World} {V : Nat → Prop} {t : Nat} {a : Option Addr} {m c : Nat} {M : Tab} (h : Dd w V t a m c M) {j : Nat} (hj : j < m) : ∃ b off ka kc va vc, a = some ⟨b, off, none⟩ ∧ w.cell? ⟨b, off + j * 2, none⟩ = some (.slice ka (M.getD j ([], [])).1.length kc) ∧ w.cell? ⟨b, off + j * 2 + 1, none⟩ = some (.slice va (M.getD j ([], [])).2.length vc) ∧ Vs w V ka (M.getD j ([], [])).1.length kc (M.getD j ([], [])).1 ∧ Vs w V va (M.getD j ([], [])).2.length vc (M.getD j ([], [])).2 := by
  rcases h.rl.cells with h0 | ⟨b, off, e, _, hc⟩
  · omega
  · obtain ⟨ka, kc, va, vc, h1, h2, h3, h4⟩ := hc j hj
    exact ⟨b, off, ka, kc, va, vc, e, h1, h2, h3, h4⟩
theorem Dd.drawn {w : World} {V : Nat → Prop} {t : Nat} {a : Option Addr} {m c : Nat} {M : Tab} (h : Dd w V t a m c M) (nq : Nat) : Dd (w.drewN nq) V t a m c M := ⟨h.var, h.rl.step fun x _ _ _ => rfl⟩
set_option maxHeartbeats 4000000 in
/-- The document's find. -/
theorem rfind_ (V : Nat → Prop) (t : Nat) (a : Option Addr) (m c : Nat) (M : Tab) (ka : Option Addr) (kn kc : Nat) (key : List Int) (w : World) (hd : Dd w V t a m c M) (hS : Srt M) (hb : ∀ p ∈ M, p.1.length ≤ 100000000) (hm : m ≤ 100000000) (hk : Bs w ka kn key) (hkn : kn ≤ 100000000) :
    Calls Tryz.prog 52 #[.pointer (some ⟨t, 0, none⟩), .slice ka kn kc] w fun e w' => e = .returned (.tuple #[.int .i64 (posT M key), .bool (look M key).isSome]) ∧ ∃ nq, w' = w.drewN nq := by
  have hlen : M.length = m := hd.rl.len
  have hpl := pos_le M key
  have HB0 : Hid (∀ j, j < m → (lx (M.getD j ([], [])).1 key = true ↔ j < posT M key)) := fun j hj => by
    have := pos_below hS (k := key) (j := j) (by omega)
    rwa [show M.getD j ([], []) = M[j]'(by omega) from by simp [List.getD, show j < M.length by omega]]
  have HLK : Hid ((look M key).isSome = if posT M key < m then decide ((M.getD (posT M key) ([], [])).1 = key) else false) := by
    show _ = _
    rw [look_pos hS key]
    by_cases h : posT M key < M.length
    · rw [dif_pos h, if_pos (by omega), show M.getD (posT M key) ([], []) = M[posT M key]'h from by simp [List.getD, h]]
    · rw [dif_neg h, if_neg (by omega)]
  have HBL : Hid (∀ j, j < m → (M.getD j ([], [])).1.length ≤ 100000000) := fun j hj => hb _ (by rw [show M.getD j ([], []) = M[j]'(by omega) from by simp [List.getD, show j < M.length by omega]]; exact List.getElem_mem _)
  obtain ⟨P, hP⟩ : ∃ P, posT M key = P := ⟨_, rfl⟩
  obtain ⟨Z, hZ⟩ : ∃ Z, (look M key).isSome = Z := ⟨_, rfl⟩
  rw [hP] at hpl HB0 HLK ⊢
  rw [hZ] at HLK ⊢
  rw [hlen] at hpl
  have HD := hid fun nq => hd.drawn nq
  have HK := hid fun nq => (hk.kept (grown_drewN w nq none) (Off.none _ _) : Bs (w.drewN nq) ka kn key)
  have c0 := hd.cell
  clear hd hS hb hk hlen hP hZ
  go_enter Tryz.func52, Tryz.ntmps52
  go_wp2_with fail
  go_loopw [6, 7] (fun vl vh wr => ∃ (lo hi nq : Nat), lo ≤ P ∧ P ≤ hi ∧ hi ≤ m ∧ vl = .int .i64 lo ∧ vh = .int .i64 hi ∧ wr = w.drewN nq) (fun vl vh _ => (intOf vh).toNat - (intOf vl).toNat)
  case atStart => exact ⟨0, m, 0, by omega, by omega, by omega, rfl, rfl, rfl⟩
  case round =>
    obtain ⟨lo, hi, nq, h1, h2, h3, rfl, rfl, rfl⟩ := hrel
    by_cases hlt : lo < hi
    · have hI : (lo : Int) < hi := by omega
      obtain ⟨mid, hmid⟩ : ∃ x, (lo + hi) / 2 = x := ⟨_, rfl⟩
      have hw1 : IntKind.i64.wrap ((lo : Int) + hi) = (lo : Int) + hi := by rw [IntKind.wrap_i64]; omega
      have hw2 : IntKind.i64.wrap (((lo : Int) + hi).tdiv 2) = mid := by rw [Int.tdiv_eq_ediv_of_nonneg (by omega), IntKind.wrap_i64]; omega
      have hm1 : lo ≤ mid := by omega
      have hm2 : mid < hi := by omega
      have hmI : (mid : Int) < m := by omega
      have hmm : mid < m := by omega
      obtain ⟨b, off, ra, rc, va, vc, rfl, d0, d1, d2, d3⟩ := (HD.out nq).row hmm
      have hq := HB0.out mid hmm
      have hrl := HBL.out mid hmm
      have kl := rless_any ra ka _ rc kn kc _ key (w.drewN nq) d2.bs (HK.out nq) (by omega) (by omega)
      have d00 := (HD.out nq).cell
      obtain ⟨q, hqe⟩ : ∃ q, lx (M.getD mid ([], [])).1 key = q := ⟨_, rfl⟩
      rw [hqe] at kl hq
      obtain ⟨rn, Hrn⟩ : ∃ z, Hid ((M.getD mid ([], [])).1.length = z) := ⟨_, rfl⟩
      rw [Hrn.out] at d0 kl
      obtain ⟨wy, HWY⟩ : ∃ z, Hid (w.drewN nq = z) := ⟨_, rfl⟩
      rw [HWY.out] at d0 kl d00 ⊢
      have HQ := hid hq
      have HM : Hid (lo ≤ mid ∧ mid < hi ∧ hi ≤ m) := ⟨hm1, hm2, h3⟩
      clear hmid d1 d2 d3 hq hqe hrl
      go_wp2_with fail
      refine kl.mono ?_
      rintro e w1 ⟨rfl, nz, rfl⟩
      have HWZ : Hid (∃ n2, wy.drewN nz = w.drewN n2) := by show ∃ n2, _; rw [← HWY.out]; exact ⟨nq + nz, World.drewN_drewN ..⟩
      clear kl d0 d00
      cases q with
      | true =>
        have hp : mid < P := HQ.out.1 rfl
        go_wp2_with fail
        go_roundw
        case rel => obtain ⟨n2, e2⟩ := HWZ.out; exact ⟨mid + 1, hi, n2, by omega, by omega, by omega, by go_num, rfl, e2⟩
        case measure => simp [intOf]; omega
      | false =>
        have hp : P ≤ mid := Nat.not_lt.1 fun h => by have := HQ.out.2 h; cases this
        go_wp2_with fail
        go_roundw
        case rel => obtain ⟨n2, e2⟩ := HWZ.out; exact ⟨lo, mid, n2, by omega, by omega, by omega, rfl, rfl, e2⟩
        case measure => simp [intOf]; omega
    · have hI : ¬ (lo : Int) < hi := by omega
      obtain rfl : lo = P := by omega
      have HNQ := hid fun (n2 : Nat) => (⟨nq + n2, World.drewN_drewN ..⟩ : ∃ n3, (w.drewN nq).drewN n2 = w.drewN n3)
      have d00 := (HD.out nq).cell
      by_cases hpm : lo < m
      · have hpI : (lo : Int) < m := by omega
        obtain ⟨b, off, ra, rc, va, vc, rfl, d0, d1, d2, d3⟩ := (HD.out nq).row hpm
        have hrl := HBL.out lo hpm
        have hlk := HLK.out
        rw [if_pos hpm] at hlk
        have ks := same ra ka _ rc kn kc (M.getD lo ([], [])).1 key (w.drewN nq) d2.bs (HK.out nq) (by unfold maxLen; omega) (by unfold maxLen; omega)
        have HLZ := hid hlk
        obtain ⟨rn, Hrn⟩ : ∃ z, Hid ((M.getD lo ([], [])).1.length = z) := ⟨_, rfl⟩
        rw [Hrn.out] at d0 ks
        obtain ⟨rk, Hrk⟩ : ∃ z, Hid ((M.getD lo ([], [])).1 = z) := ⟨_, rfl⟩
        rw [Hrk.out] at ks HLZ
        obtain ⟨wy, HWY⟩ : ∃ z, Hid (w.drewN nq = z) := ⟨_, rfl⟩
        rw [HWY.out] at d0 ks d00 HNQ ⊢
        clear d1 d2 d3 hlk hrl hlt
        go_wp2_with fail
        refine ks.mono ?_
        rintro e w1 ⟨rfl, n2, rfl⟩
        go_wp2_with fail
        go_ret2
        exact ⟨by rw [HLZ.out]; rfl, HNQ.out n2⟩
      · have hpI : ¬ (lo : Int) < m := by omega
        have hlk := HLK.out
        rw [if_neg hpm] at hlk
        subst hlk
        obtain ⟨wy, HWY⟩ : ∃ z, Hid (w.drewN nq = z) := ⟨_, rfl⟩
        rw [HWY.out] at d00 ⊢
        clear hlt
        go_wp2_with fail
        go_ret2
        exact ⟨rfl, nq, HWY.out.symm⟩
end Go.Proofs.YteeapmcpbmjpmaaGreat
namespace Go.Proofs.YteeapmcpbmjpmaaGreat
set_option maxRecDepth 100000
open Go.RowKit
set_option linter.unusedVariables false

/-- What the document's Get answers. -/
def RgP (w : World) (o : Option (List Int)) (e : Ending) (w' : World) : Prop :=
  (∃ v a c, o = some v ∧ e = .returned (.tuple #[.slice a v.length c, .bool true]) ∧ Vs w' (fun x => w.heap.size ≤ x) a v.length c v ∧ Below w.heap.size w w') ∨
  (o = none ∧ e = .returned (.tuple #[.slice none 0 0, .bool false]) ∧ Below w.heap.size w w')
theorem drewN_below (w : World) (nq : Nat) : Below w.heap.size w (w.drewN nq) := ⟨rfl, rfl, rfl, Nat.le_refl _, fun _ _ => rfl⟩
set_option maxHeartbeats 4000000 in
/-- The document's Get. -/
theorem rget_ (V : Nat → Prop) (t : Nat) (a : Option Addr) (m c : Nat) (M : Tab) (ka : Option Addr) (kn kc : Nat) (key : List Int) (w : World) (hd : Dd w V t a m c M) (hS : Srt M) (hb : ∀ p ∈ M, p.1.length ≤ 100000000 ∧ p.2.length ≤ 100000000) (hm : m ≤ 100000000) (hk : Bs w ka kn key) (hkn : kn ≤ 100000000) :
    Calls Tryz.prog 26 #[.pointer (some ⟨t, 0, none⟩), .slice ka kn kc] w (RgP w (look M key)) := by
  have kf := rfind_ V t a m c M ka kn kc key w hd hS (fun p hp => (hb p hp).1) hm hk hkn
  have hlen : M.length = m := hd.rl.len
  have hpl := pos_le M key
  cases ho : look M key with
  | none =>
    rw [ho] at kf
    have HF : Hid (∀ nq, RgP w none (.returned (.tuple #[.slice none 0 0, .bool false])) (w.drewN nq)) := fun nq => .inr ⟨rfl, rfl, drewN_below w nq⟩
    obtain ⟨P, hP⟩ : ∃ P, posT M key = P := ⟨_, rfl⟩
    rw [hP] at kf
    clear hd hS hb hk hlen hpl ho hP
    go_enter Tryz.func26, Tryz.ntmps26
    go_wp2_with fail
    refine kf.mono ?_
    rintro e w1 ⟨rfl, nq, rfl⟩
    go_wp2_with fail
    go_ret2
    exact HF.out nq
  | some v =>
    rw [ho] at kf
    have hlk := look_pos hS key
    rw [ho] at hlk
    have hpm : posT M key < M.length := by
      by_cases h : posT M key < M.length
      · exact h
      · rw [dif_neg h] at hlk; cases hlk
    rw [dif_pos hpm] at hlk
    have hkey := of_decide_eq_true hlk.symm
    have hv := look_val hS hpm hkey
    rw [ho] at hv
    have hv2 : M.getD (posT M key) ([], []) = M[posT M key]'hpm := by simp [List.getD, hpm]
    have hvv : (M.getD (posT M key) ([], [])).2 = v := by rw [hv2]; exact (Option.some.inj hv).symm
    have hvl : v.length ≤ 100000000 := by rw [← hvv, hv2]; exact (hb _ (List.getElem_mem hpm)).2
    have HD := hid fun nq => hd.drawn nq
    obtain ⟨P, hP⟩ : ∃ P, posT M key = P := ⟨_, rfl⟩
    rw [hP] at kf hpm hvv
    have hpI : (P : Int) < m := by omega
    have hPm : P < m := by omega
    have HP := hid hPm
    have HVV := hid hvv
    have HVL := hid hvl
    clear hd hS hb hk hlen hpl ho hlk hkey hv hv2 hP hpm hvv hvl hPm
    go_enter Tryz.func26, Tryz.ntmps26
    go_wp2_with fail
    refine kf.mono ?_
    rintro e w1 ⟨rfl, nq, rfl⟩
    obtain ⟨b, off, ra, rc, va, vc, rfl, d0, d1, d2, d3⟩ := (HD.out nq).row HP.out
    have d00 := (HD.out nq).cell
    rw [HVV.out] at d1 d3
    have kb := refBytes va v.length vc v (w.drewN nq) d3.bs (by have := HVL.out; omega)
    have HBY : Hid (∀ z ∈ v, 0 ≤ z ∧ z ≤ 255) := d3.bs.2.1
    obtain ⟨vn, Hvn⟩ : ∃ z, Hid (v.length = z) := ⟨_, rfl⟩
    rw [Hvn.out] at d1 kb
    have HWB := hid (drewN_below w nq)
    obtain ⟨wy, HWY⟩ : ∃ z, Hid (w.drewN nq = z) := ⟨_, rfl⟩
    rw [HWY.out] at d1 d00 kb HWB ⊢
    clear kf d0 d2 d3 HD HWY
    go_wp2_with fail
    refine kb.mono ?_
    rintro e w2 ⟨x, rfl, hown, hg⟩
    obtain ⟨xa, xc, rfl, hvs⟩ := Vs.ofOwn hown HBY.out
    have HFIN : Hid (RgP w (some v) (.returned (.tuple #[.slice xa vn xc, .bool true])) w2) := by
      refine .inl ⟨v, xa, xc, rfl, by rw [Hvn.out], ?_, bel_bel HWB.out HWB.out.size hg⟩
      rw [Hvn.out]
      exact hvs.wide fun x _ hx => Nat.le_trans HWB.out.size hx
    clear kb hown hg hvs
    go_wp2_with fail
    go_ret2
    exact HFIN.out
end Go.Proofs.YteeapmcpbmjpmaaGreat
