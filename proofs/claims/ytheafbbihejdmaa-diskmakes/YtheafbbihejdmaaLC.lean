import Derived.Test.YtheafbbihejdmaaLB
namespace Go.Proofs.Ytheafbbihejdmaa
set_option maxRecDepth 100000
open Go.RowKit Go.Shelf
set_option linter.unusedVariables false

set_option maxHeartbeats 1000000 in
theorem fresh_ (d n : Nat) (s : St) (Q : Nat → Prop) (w : World) (h : Dev w d s Q) (h1 : s.on = true) (h2 : s.P = []) (h3 : s.c = 0) (h4 : s.k = 0) (h5 : s.n = n) :
    Calls Try.prog 18 #[.pointer (some ⟨d, 0, none⟩), .int .i64 n] w fun e w' => e = .returned (.bool true) ∧ Below w.heap.size w w' := by
  have kp := powerD h
  have kq := pending_ d s Q w h (by rw [h2]; decide)
  rw [h1] at kp
  rw [h2] at kq
  have HD := hid h
  have HH := hid (And.intro h3 (And.intro h4 h5))
  clear h h1 h2 h3 h4 h5
  go_enter Try.func18, Try.ntmps18
  go_wp2_with fail
  refine kp.mono ?_
  rintro e w' ⟨rfl, hw⟩
  obtain rfl := hw.symm
  clear hw kp
  go_wp2_with fail
  refine kq.mono ?_
  rintro e w2 ⟨⟨v, J, rfl, hJ⟩, g⟩
  have hJ0 : J = [] := by
    have := hJ.ip
    cases J with
    | nil => rfl
    | cons x J => simp at this
  subst hJ0
  obtain ⟨va, vc, rfl⟩ : ∃ va vc, v = .slice va 0 vc := by
    rcases hJ.own.2 with ⟨rfl, _⟩ | ⟨g, cap, cur, rfl, _⟩
    · exact ⟨none, 0, rfl⟩
    · exact ⟨_, _, rfl⟩
  have D2 := HD.out.below g
  have kd := doneD D2
  have kc := claimedD D2
  have ks := sectorsD D2
  rw [HH.out.1] at kd
  rw [HH.out.2.1] at kc
  rw [HH.out.2.2] at ks
  have G := hid g
  have e0 : ((n : Int) == (n : Int)) = true := by simp
  clear kq hJ g D2 HD HH
  go_wp2_with (first | (go_at_call 32; refine kd.mono ?_; rintro e w' ⟨rfl, hw⟩; obtain rfl := hw.symm; clear hw) | (go_at_call 46; refine kc.mono ?_; rintro e w' ⟨rfl, hw⟩; obtain rfl := hw.symm; clear hw) | (go_at_call 47; refine ks.mono ?_; rintro e w' ⟨rfl, hw⟩; obtain rfl := hw.symm; clear hw))
  go_ret
  exact ⟨rfl, G.out⟩
theorem Bs.cut10 {w : World} {a : Option Addr} {n m : Nat} {zs : List Int} (h : Bs w a n zs) (hm : m ≤ n) : Bs w a m (zs.take m) := by
  refine ⟨by rw [List.length_take, h.1]; omega, fun z hz => h.2.1 z (List.mem_of_mem_take hz), ?_⟩
  rcases h.2.2 with h0 | ⟨b, off, e, hc⟩
  · exact .inl (by omega)
  · refine .inr ⟨b, off, e, fun i hi => ?_⟩
    rw [hc i (by omega)]
    simp only [List.getD, List.getElem?_take, if_pos hi]
set_option maxHeartbeats 8000000 in
theorem diskMakes_ (n : Int) (a : Option Addr) (nb cb : Nat) (zs : List Int) (w : World) (hb : Bs w a nb zs) (hnb : nb ≤ cb) (hcb : cb ≤ 140737488355328) :
    Calls Try.prog 4 #[.int .i64 n, .slice a nb cb] w fun e w' => e = .returned (.bool true) ∧ Below w.heap.size w w' := by
  have HB := hid hb
  clear hb
  go_enter Try.func4, Try.ntmps4
  go_wp2_with fail
  refine (first_ w).mono ?_
  rintro e w0 ⟨rfl, B0⟩
  by_cases hn : 32 ≤ n ∧ n ≤ 8192
  · obtain ⟨N, rfl⟩ := Int.eq_ofNat_of_zero_le (show 0 ≤ n by omega)
    have hN1 : 32 ≤ N := by omega
    have hN2 : N ≤ 8192 := by omega
    have t1 : (32 : Int) ≤ (N : Int) := hn.1
    have t2 : (N : Int) ≤ 8192 := hn.2
    clear hn
    go_wp2_with fail
    refine (new_ N w0 hN1 hN2).mono ?_
    rintro e w1 ⟨d, rfl, D, B⟩
    replace B := bel_bel B0 B0.size B
    have L : ∀ b, (fun b => w0.heap.size ≤ b ∧ b < w1.heap.size) b → w.heap.size ≤ b := fun b h => Nat.le_trans B0.size h.1
    generalize (fun b => w0.heap.size ≤ b ∧ b < w1.heap.size) = Q at *
    clear B0
    go_wp2_with fail
    have kr := read_ d ((N : Int) - 1) (st0 N) Q w1 D (by show 0 ≤ _; omega) (by show 0 ≤ _; omega)
    rw [show rdE (st0 N) ((N : Int) - 1) = 0 from by unfold rdE; rw [if_pos ⟨by omega, by show (N : Int) - 1 < (N : Int); omega⟩]; rfl, show rdS (st0 N) ((N : Int) - 1) = { st0 N with c := 1 } from by unfold rdS; rw [if_pos ⟨by omega, by show (N : Int) - 1 < (N : Int); omega⟩]; rfl, show rdB (st0 N) ((N : Int) - 1) = zer from by unfold rdB rdE; rw [if_pos (show (0 ≤ (N : Int) - 1 ∧ (N : Int) - 1 < ((st0 N).n : Int)) from ⟨by omega, by show (N : Int) - 1 < (N : Int); omega⟩)]; rfl] at kr
    refine kr.mono ?_
    rintro e w2 ⟨v2, rfl, o2, D2, F2⟩
    rw [zer_sec.1] at o2
    obtain ⟨a2, c2, rfl, R2, _, _⟩ := Ro.new (Q := Q) o2 zer_sec.2 D.lt
    have B2 := B.trans (F2.under B.size L)
    clear kr D B F2 o2
    go_wp2_with fail
    refine (full_ 0 w2 (by decide)).mono ?_
    rintro e w3 ⟨v3, rfl, o3, g3⟩
    obtain ⟨a3, c3, rfl, R3, _, _⟩ := Ro.new (Q := Q) o3 (ful_sec (by decide)).2 D2.lt
    have D3 := D2.below g3
    have B3 := bel_bel B2 B2.size g3
    replace R2 := R2.below g3
    clear o3 g3 D2 B2
    go_wp2_with fail
    refine (same_yes a2 a3 512 c2 512 c3 zer w3 R2.bs R3.bs (by decide) (by decide)).mono ?_
    rintro e w4 ⟨rfl, g4⟩
    have D4 := D3.below g4.below
    have B4 := bel_bel B3 B3.size g4.below
    clear R2 R3 D3 B3 g4
    go_wp2_with fail
    refine (crash_ d { st0 N with c := 1 } Q none 0 0 [] w4 D4 (by show 0 ≤ _; omega) ⟨rfl, .inl rfl⟩ (fun ad h => by cases h) (by omega)).mono ?_
    rintro e w5 ⟨rfl, D5, F5⟩
    have B5 := B4.trans (F5.under B4.size L)
    clear D4 B4 F5 L
    go_wp2_with fail
    refine (fresh_ d N _ _ w5 D5 rfl rfl rfl rfl rfl).mono ?_
    rintro e w6 ⟨rfl, g6⟩
    have B1 := bel_bel B5 B5.size g6
    clear D5 B5 g6
    by_cases hbig : 262144 < nb
    · have hI0 : (262144 : Int) < (nb : Int) := by omega
      have hI1 : (262144 : Int) ≤ (cb : Int) := by omega
      go_wp2_with (go_at_call 19; refine (num_ _ _).mono ?_; rintro e w' ⟨rfl, hw⟩; obtain rfl := hw.symm; clear hw)
      obtain ⟨m, HM⟩ : ∃ m : Nat, Hid (262144 = m) := ⟨_, rfl⟩
      have HMI : Hid ((262144 : Int) = (m : Int)) := by have := HM.out; show _ = _; omega
      have hm1 : m ≤ nb := by have := HM.out; omega
      have hm2 : m ≤ 262144 := by have := HM.out; omega
      rw [HM.out, HMI.out]
      obtain ⟨Z, HZ⟩ : ∃ Z, Hid (zs.take m = Z) := ⟨_, rfl⟩
      have HZB : Hid (∀ z ∈ Z, 0 ≤ z ∧ z ≤ 255) := by rw [← HZ.out]; exact fun z hz => HB.out.2.1 z (List.mem_of_mem_take hz)
      clear hbig hI0 hI1 HM HMI
      have HBW := hid B1
      have HCW : Hid (∀ wx, Below w.heap.size w wx → Bs wx a m Z) := fun wx hx => by rw [← HZ.out]; exact (HB.out.below hx).cut10 (by omega)
      have kb := refBytes a m cb Z w6 (HCW.out _ B1) (by omega)
      clear B1
      refine kb.mono ?_
      rintro e w7 ⟨v7, rfl, o7, g7⟩
      obtain ⟨la, lc, rfl, lb7, hlc1, hlc2, _⟩ := own_form o7 HZB.out
      have O7 := hid o7
      have LB7 := hid lb7
      have B7 := bel_bel HBW.out HBW.out.size g7
      have hlo : w.heap.size ≤ w6.heap.size := HBW.out.size
      generalize hlo' : w6.heap.size = lo at *
      clear hlo'
      clear kb o7 g7 lb7 HBW
      go_wp2_with fail
      by_cases hmay : m % 512 = 0 ∧ 32 ≤ m / 512
      case neg =>
        refine (image_no la m lc w7 (by omega) (fun h => hmay ⟨h.1, h.2.1⟩)).mono ?_
        rintro e w8 ⟨rfl, g8⟩
        have HO := own_at' O7.out (fun q hq => g8.block q (O7.out.lt q hq).2)
        have LB8 := LB7.out.below g8
        have B8 := bel_bel B7 B7.size g8
        clear O7 LB7 B7 g8
        by_cases hr : m % 512 = 0
        case' pos => have r1 : ((m : Int) % 512 == 0) = true := by simp; omega
        case' pos => have r2 : decide ((16384 : Int) ≤ (m : Int)) = false := decide_eq_false (by omega)
        case' pos => have r3 : decide (16384 ≤ m) = false := decide_eq_false (by omega)
        case' neg => have r1 : ((m : Int) % 512 == 0) = false := by simp; omega
        all_goals
          clear hmay hr
          go_wp2_with (go_at_call 19; refine (num_ _ _).mono ?_; rintro e w' ⟨rfl, hw⟩; obtain rfl := hw.symm; clear hw)
          refine (same_yes la a m lc m cb Z w8 LB8 (HCW.out _ B8) (by omega) (by omega)).mono ?_
          rintro e w9 ⟨rfl, g9⟩
          have HB5 := hid (bel_bel B8 B8.size g9.below)
          replace HO := hid (own_at' HO (fun q hq => g9.below.block q (HO.lt q hq).2))
          have HST : True := trivial
          clear LB8 B8 g9
          go_wp2_with fail
          go_loopw [15] (fun i wr => ∃ (j : Nat) (ys : List Int), j ≤ m ∧ i = .int .i64 j ∧ wr.ownsRow lo 5 1 (.slice la m lc) m (cells ys) ∧ (True) ∧ Below w.heap.size w wr) (fun i _ => m - (intOf i).toNat)
          case atStart => exact ⟨0, _, by omega, rfl, HO.out, trivial, HB5.out⟩
          case round =>
            clear HO HB5 HST
            obtain ⟨j, ys, hj, rfl, hown, hinv, hbl⟩ := hrel
            by_cases hlt : j < m
            · have hI : (j : Int) < (m : Int) := by omega
              obtain ⟨g, cap, e, hgB, ⟨cur, hg⟩, hc⟩ := own1_cell hown (by omega)
              obtain ⟨rfl, -, rfl⟩ : la = some ⟨g, 0, none⟩ ∧ m = m ∧ lc = cap := by simpa using e
              have c0 := hc j hlt
              have f0 : wr.frozen? ⟨g, j, none⟩ = false := by simp [World.frozen?, hg]
              have HSO : Hid (∀ y, (wr.setCell ⟨g, j, none⟩ (.int .u8 y)).ownsRow lo 5 1 (.slice (some ⟨g, 0, none⟩) m lc) m (cells (ys.set j y))) := fun y => by
                have := own_set hown j (.int .u8 y)
                rw [show (cells ys).set j (.int .u8 y) = cells (ys.set j y) from by simp [cells, List.map_set]] at this
                exact this
              have HSB : Hid (∀ y : Value, Below w.heap.size w (wr.setCell ⟨g, j, none⟩ y)) := fun y => hbl.setCell (p := ⟨g, j, none⟩) (by show w.heap.size ≤ g; omega) y
              have HSI : Hid (∀ y : Value, (fun wr => True) (wr.setCell ⟨g, j, none⟩ y)) := fun y => trivial
              generalize ys.getD j 0 = z at *
              clear hown hc hbl e hg hlt hinv
              go_wp2_with fail
              go_roundw
              case rel => exact ⟨j + 1, _, by omega, by go_num, HSO.out _, trivial, HSB.out _⟩
              case measure => simp [intOf]; omega
            · have hI : ¬ (j : Int) < (m : Int) := by omega
              have HBF := hid hbl
              clear hown hinv hbl hlt
              go_wp2_with fail
              go_ret
              exact ⟨rfl, HBF.out⟩
      case pos =>
        obtain ⟨q, HQM⟩ : ∃ q, Hid (m = 512 * q) := ⟨m / 512, by show _ = _; omega⟩
        have hq1 : 32 ≤ q := by have := HQM.out; omega
        have hq2 : q ≤ 8192 := by have := HQM.out; omega
        obtain ⟨x, rfl⟩ : ∃ x, la = some x := by
          rcases LB7.out.2.2 with h0 | ⟨b, off, e, _⟩
          · omega
          · exact ⟨_, e⟩
        have ki := image_ x q lc Z w7 hq1 hq2 (by rw [← HQM.out]; exact LB7.out)
        rw [← HQM.out] at ki
        refine ki.mono ?_
        rintro e w8 ⟨d8, rfl, D8, g8⟩
        have HO := own_at' O7.out (fun q hq => g8.block q (O7.out.lt q hq).2)
        have LB8 := LB7.out.below g8
        have B8 := bel_bel B7 B7.size g8
        have QL : ∀ b, (fun b => w7.heap.size ≤ b ∧ b < w8.heap.size) b → w7.heap.size ≤ b := fun b h => h.1
        have HLA : Hid (x.block < w7.heap.size) := LB7.out.lt (by omega)
        generalize (fun b => w7.heap.size ≤ b ∧ b < w8.heap.size) = Q8 at *
        have r1 : ((m : Int) % 512 == 0) = true := by simp; omega
        have r2 : decide ((16384 : Int) ≤ (m : Int)) = true := decide_eq_true (by omega)
        have r3 : decide (16384 ≤ m) = true := decide_eq_true (by omega)
        have HZL := hid LB7.out.1
        clear O7 LB7 B7 g8 ki hmay
        go_wp2_with (go_at_call 19; refine (num_ _ _).mono ?_; rintro e w' ⟨rfl, hw⟩; obtain rfl := hw.symm; clear hw)
        refine (same_yes (some x) a m lc m cb Z w8 LB8 (HCW.out _ B8) (by omega) (by omega)).mono ?_
        rintro e w9 ⟨rfl, g9⟩
        have HB5 := hid (bel_bel B8 B8.size g9.below)
        replace HO := hid (own_at' HO (fun q hq => g9.below.block q (HO.lt q hq).2))
        have HST := hid (D8.below g9.below)
        clear LB8 B8 g9 D8
        obtain ⟨la, hla⟩ : ∃ la, some x = la := ⟨_, rfl⟩
        have HLA2 : Hid (∀ g, la = some ⟨g, 0, none⟩ → ¬ Q8 g) := fun g hg h => by
          have h1 := QL g h
          have h2 := HLA.out
          rw [← hla] at hg
          have h3 : x = ⟨g, 0, none⟩ := Option.some.inj hg
          rw [h3] at h2
          simp only at h2
          omega
        rw [hla] at HO ⊢
        clear HLA QL hla
        go_wp2_with fail
        go_loopw [15] (fun i wr => ∃ (j : Nat) (ys : List Int), j ≤ m ∧ i = .int .i64 j ∧ wr.ownsRow lo 5 1 (.slice la m lc) m (cells ys) ∧ (Dev wr d8 { st0 q with S := secs Z } Q8) ∧ Below w.heap.size w wr) (fun i _ => m - (intOf i).toNat)
        case atStart => exact ⟨0, _, by omega, rfl, HO.out, HST.out, HB5.out⟩
        case round =>
          clear HO HB5 HST
          obtain ⟨j, ys, hj, rfl, hown, hinv, hbl⟩ := hrel
          by_cases hlt : j < m
          · have hI : (j : Int) < (m : Int) := by omega
            obtain ⟨g, cap, e, hgB, ⟨cur, hg⟩, hc⟩ := own1_cell hown (by omega)
            obtain ⟨rfl, -, rfl⟩ : la = some ⟨g, 0, none⟩ ∧ m = m ∧ lc = cap := by simpa using e
            have c0 := hc j hlt
            have f0 : wr.frozen? ⟨g, j, none⟩ = false := by simp [World.frozen?, hg]
            have HSO : Hid (∀ y, (wr.setCell ⟨g, j, none⟩ (.int .u8 y)).ownsRow lo 5 1 (.slice (some ⟨g, 0, none⟩) m lc) m (cells (ys.set j y))) := fun y => by
              have := own_set hown j (.int .u8 y)
              rw [show (cells ys).set j (.int .u8 y) = cells (ys.set j y) from by simp [cells, List.map_set]] at this
              exact this
            have HSB : Hid (∀ y : Value, Below w.heap.size w (wr.setCell ⟨g, j, none⟩ y)) := fun y => hbl.setCell (p := ⟨g, j, none⟩) (by show w.heap.size ≤ g; omega) y
            have HSI : Hid (∀ y : Value, (fun wr => Dev wr d8 { st0 q with S := secs Z } Q8) (wr.setCell ⟨g, j, none⟩ y)) := fun y => hinv.fr (R := fun b => b = g) (Fr.of (grown_set (grown_refl wr (some g)) j y) rfl) (fun b hb e => HLA2.out g rfl (by rw [← e]; exact hb))
            generalize ys.getD j 0 = z at *
            clear hown hc hbl e hg hlt hinv
            go_wp2_with fail
            go_roundw
            case rel => exact ⟨j + 1, _, by omega, by go_num, HSO.out _, HSI.out _, HSB.out _⟩
            case measure => simp [intOf]; omega
          · have hI : ¬ (j : Int) < (m : Int) := by omega
            have HD9 := hid hinv
            have HBF := hid hbl
            clear hown hinv hbl hlt
            go_wp2_with fail
            refine (durable_ d8 _ Q8 wr HD9.out).mono ?_
            rintro e w10 ⟨v10, rfl, o10, g10⟩
            have hfl : flat (secs Z) q = Z := by
              rw [flat_secs Z q (by rw [HZL.out, HQM.out]; exact Nat.le_refl _), List.take_of_length_le (by rw [HZL.out, HQM.out]; exact Nat.le_refl _)]
            have o10' : w10.ownsRow wr.heap.size 5 1 v10 m (cells Z) := by
              have := o10
              rw [show ({ st0 q with S := secs Z } : St).S = secs Z from rfl, show ({ st0 q with S := secs Z } : St).n = q from rfl, hfl, ← HQM.out] at this
              exact this
            obtain ⟨xa, xc, rfl, xb, _, _, _⟩ := own_form o10' HZB.out
            have D10 := HD9.out.below g10
            have B10 := bel_bel HBF.out HBF.out.size g10
            clear o10 o10' g10 HD9 HBF hfl
            go_wp2_with fail
            refine (same_yes xa a m xc m cb Z w10 xb (HCW.out _ B10) (by omega) (by omega)).mono ?_
            rintro e w11 ⟨rfl, g11⟩
            have D11 := D10.below g11.below
            have B11 := bel_bel B10 B10.size g11.below
            have eq0 : (m : Int) / 512 = (q : Int) := by have := HQM.out; omega
            clear xb D10 B10 g11
            go_wp2_with fail
            refine (fresh_ d8 q _ Q8 w11 D11 rfl rfl rfl rfl rfl).mono ?_
            rintro e w12 ⟨rfl, g12⟩
            have B12 := hid (bel_bel B11 B11.size g12)
            clear D11 B11 g12
            go_wp2_with fail
            go_ret
            exact ⟨rfl, B12.out⟩
    · have hI0 : ¬ (262144 : Int) < (nb : Int) := by omega
      have hI1 : (nb : Int) ≤ (cb : Int) := by omega
      go_wp2_with (go_at_call 19; refine (num_ _ _).mono ?_; rintro e w' ⟨rfl, hw⟩; obtain rfl := hw.symm; clear hw)
      have hm1 : nb ≤ nb := Nat.le_refl _
      have hm2 : nb ≤ 262144 := by omega
      obtain ⟨Z, HZ⟩ : ∃ Z, Hid (zs.take nb = Z) := ⟨_, rfl⟩
      have HZB : Hid (∀ z ∈ Z, 0 ≤ z ∧ z ≤ 255) := by rw [← HZ.out]; exact fun z hz => HB.out.2.1 z (List.mem_of_mem_take hz)
      clear hbig hI0 hI1
      have HBW := hid B1
      have HCW : Hid (∀ wx, Below w.heap.size w wx → Bs wx a nb Z) := fun wx hx => by rw [← HZ.out]; exact (HB.out.below hx).cut10 (by omega)
      have kb := refBytes a nb cb Z w6 (HCW.out _ B1) (by omega)
      clear B1
      refine kb.mono ?_
      rintro e w7 ⟨v7, rfl, o7, g7⟩
      obtain ⟨la, lc, rfl, lb7, hlc1, hlc2, _⟩ := own_form o7 HZB.out
      have O7 := hid o7
      have LB7 := hid lb7
      have B7 := bel_bel HBW.out HBW.out.size g7
      have hlo : w.heap.size ≤ w6.heap.size := HBW.out.size
      generalize hlo' : w6.heap.size = lo at *
      clear hlo'
      clear kb o7 g7 lb7 HBW
      go_wp2_with fail
      by_cases hmay : nb % 512 = 0 ∧ 32 ≤ nb / 512
      case neg =>
        refine (image_no la nb lc w7 (by omega) (fun h => hmay ⟨h.1, h.2.1⟩)).mono ?_
        rintro e w8 ⟨rfl, g8⟩
        have HO := own_at' O7.out (fun q hq => g8.block q (O7.out.lt q hq).2)
        have LB8 := LB7.out.below g8
        have B8 := bel_bel B7 B7.size g8
        clear O7 LB7 B7 g8
        by_cases hr : nb % 512 = 0
        case' pos => have r1 : ((nb : Int) % 512 == 0) = true := by simp; omega
        case' pos => have r2 : decide ((16384 : Int) ≤ (nb : Int)) = false := decide_eq_false (by omega)
        case' pos => have r3 : decide (16384 ≤ nb) = false := decide_eq_false (by omega)
        case' neg => have r1 : ((nb : Int) % 512 == 0) = false := by simp; omega
        all_goals
          clear hmay hr
          go_wp2_with (go_at_call 19; refine (num_ _ _).mono ?_; rintro e w' ⟨rfl, hw⟩; obtain rfl := hw.symm; clear hw)
          refine (same_yes la a nb lc nb cb Z w8 LB8 (HCW.out _ B8) (by omega) (by omega)).mono ?_
          rintro e w9 ⟨rfl, g9⟩
          have HB5 := hid (bel_bel B8 B8.size g9.below)
          replace HO := hid (own_at' HO (fun q hq => g9.below.block q (HO.lt q hq).2))
          have HST : True := trivial
          clear LB8 B8 g9
          go_wp2_with fail
          go_loopw [15] (fun i wr => ∃ (j : Nat) (ys : List Int), j ≤ nb ∧ i = .int .i64 j ∧ wr.ownsRow lo 5 1 (.slice la nb lc) nb (cells ys) ∧ (True) ∧ Below w.heap.size w wr) (fun i _ => nb - (intOf i).toNat)
          case atStart => exact ⟨0, _, by omega, rfl, HO.out, trivial, HB5.out⟩
          case round =>
            clear HO HB5 HST
            obtain ⟨j, ys, hj, rfl, hown, hinv, hbl⟩ := hrel
            by_cases hlt : j < nb
            · have hI : (j : Int) < (nb : Int) := by omega
              obtain ⟨g, cap, e, hgB, ⟨cur, hg⟩, hc⟩ := own1_cell hown (by omega)
              obtain ⟨rfl, -, rfl⟩ : la = some ⟨g, 0, none⟩ ∧ nb = nb ∧ lc = cap := by simpa using e
              have c0 := hc j hlt
              have f0 : wr.frozen? ⟨g, j, none⟩ = false := by simp [World.frozen?, hg]
              have HSO : Hid (∀ y, (wr.setCell ⟨g, j, none⟩ (.int .u8 y)).ownsRow lo 5 1 (.slice (some ⟨g, 0, none⟩) nb lc) nb (cells (ys.set j y))) := fun y => by
                have := own_set hown j (.int .u8 y)
                rw [show (cells ys).set j (.int .u8 y) = cells (ys.set j y) from by simp [cells, List.map_set]] at this
                exact this
              have HSB : Hid (∀ y : Value, Below w.heap.size w (wr.setCell ⟨g, j, none⟩ y)) := fun y => hbl.setCell (p := ⟨g, j, none⟩) (by show w.heap.size ≤ g; omega) y
              have HSI : Hid (∀ y : Value, (fun wr => True) (wr.setCell ⟨g, j, none⟩ y)) := fun y => trivial
              generalize ys.getD j 0 = z at *
              clear hown hc hbl e hg hlt hinv
              go_wp2_with fail
              go_roundw
              case rel => exact ⟨j + 1, _, by omega, by go_num, HSO.out _, trivial, HSB.out _⟩
              case measure => simp [intOf]; omega
            · have hI : ¬ (j : Int) < (nb : Int) := by omega
              have HBF := hid hbl
              clear hown hinv hbl hlt
              go_wp2_with fail
              go_ret
              exact ⟨rfl, HBF.out⟩
      case pos =>
        obtain ⟨q, HQM⟩ : ∃ q, Hid (nb = 512 * q) := ⟨nb / 512, by show _ = _; omega⟩
        have hq1 : 32 ≤ q := by have := HQM.out; omega
        have hq2 : q ≤ 8192 := by have := HQM.out; omega
        obtain ⟨x, rfl⟩ : ∃ x, la = some x := by
          rcases LB7.out.2.2 with h0 | ⟨b, off, e, _⟩
          · omega
          · exact ⟨_, e⟩
        have ki := image_ x q lc Z w7 hq1 hq2 (by rw [← HQM.out]; exact LB7.out)
        rw [← HQM.out] at ki
        refine ki.mono ?_
        rintro e w8 ⟨d8, rfl, D8, g8⟩
        have HO := own_at' O7.out (fun q hq => g8.block q (O7.out.lt q hq).2)
        have LB8 := LB7.out.below g8
        have B8 := bel_bel B7 B7.size g8
        have QL : ∀ b, (fun b => w7.heap.size ≤ b ∧ b < w8.heap.size) b → w7.heap.size ≤ b := fun b h => h.1
        have HLA : Hid (x.block < w7.heap.size) := LB7.out.lt (by omega)
        generalize (fun b => w7.heap.size ≤ b ∧ b < w8.heap.size) = Q8 at *
        have r1 : ((nb : Int) % 512 == 0) = true := by simp; omega
        have r2 : decide ((16384 : Int) ≤ (nb : Int)) = true := decide_eq_true (by omega)
        have r3 : decide (16384 ≤ nb) = true := decide_eq_true (by omega)
        have HZL := hid LB7.out.1
        clear O7 LB7 B7 g8 ki hmay
        go_wp2_with (go_at_call 19; refine (num_ _ _).mono ?_; rintro e w' ⟨rfl, hw⟩; obtain rfl := hw.symm; clear hw)
        refine (same_yes (some x) a nb lc nb cb Z w8 LB8 (HCW.out _ B8) (by omega) (by omega)).mono ?_
        rintro e w9 ⟨rfl, g9⟩
        have HB5 := hid (bel_bel B8 B8.size g9.below)
        replace HO := hid (own_at' HO (fun q hq => g9.below.block q (HO.lt q hq).2))
        have HST := hid (D8.below g9.below)
        clear LB8 B8 g9 D8
        obtain ⟨la, hla⟩ : ∃ la, some x = la := ⟨_, rfl⟩
        have HLA2 : Hid (∀ g, la = some ⟨g, 0, none⟩ → ¬ Q8 g) := fun g hg h => by
          have h1 := QL g h
          have h2 := HLA.out
          rw [← hla] at hg
          have h3 : x = ⟨g, 0, none⟩ := Option.some.inj hg
          rw [h3] at h2
          simp only at h2
          omega
        rw [hla] at HO ⊢
        clear HLA QL hla
        go_wp2_with fail
        go_loopw [15] (fun i wr => ∃ (j : Nat) (ys : List Int), j ≤ nb ∧ i = .int .i64 j ∧ wr.ownsRow lo 5 1 (.slice la nb lc) nb (cells ys) ∧ (Dev wr d8 { st0 q with S := secs Z } Q8) ∧ Below w.heap.size w wr) (fun i _ => nb - (intOf i).toNat)
        case atStart => exact ⟨0, _, by omega, rfl, HO.out, HST.out, HB5.out⟩
        case round =>
          clear HO HB5 HST
          obtain ⟨j, ys, hj, rfl, hown, hinv, hbl⟩ := hrel
          by_cases hlt : j < nb
          · have hI : (j : Int) < (nb : Int) := by omega
            obtain ⟨g, cap, e, hgB, ⟨cur, hg⟩, hc⟩ := own1_cell hown (by omega)
            obtain ⟨rfl, -, rfl⟩ : la = some ⟨g, 0, none⟩ ∧ nb = nb ∧ lc = cap := by simpa using e
            have c0 := hc j hlt
            have f0 : wr.frozen? ⟨g, j, none⟩ = false := by simp [World.frozen?, hg]
            have HSO : Hid (∀ y, (wr.setCell ⟨g, j, none⟩ (.int .u8 y)).ownsRow lo 5 1 (.slice (some ⟨g, 0, none⟩) nb lc) nb (cells (ys.set j y))) := fun y => by
              have := own_set hown j (.int .u8 y)
              rw [show (cells ys).set j (.int .u8 y) = cells (ys.set j y) from by simp [cells, List.map_set]] at this
              exact this
            have HSB : Hid (∀ y : Value, Below w.heap.size w (wr.setCell ⟨g, j, none⟩ y)) := fun y => hbl.setCell (p := ⟨g, j, none⟩) (by show w.heap.size ≤ g; omega) y
            have HSI : Hid (∀ y : Value, (fun wr => Dev wr d8 { st0 q with S := secs Z } Q8) (wr.setCell ⟨g, j, none⟩ y)) := fun y => hinv.fr (R := fun b => b = g) (Fr.of (grown_set (grown_refl wr (some g)) j y) rfl) (fun b hb e => HLA2.out g rfl (by rw [← e]; exact hb))
            generalize ys.getD j 0 = z at *
            clear hown hc hbl e hg hlt hinv
            go_wp2_with fail
            go_roundw
            case rel => exact ⟨j + 1, _, by omega, by go_num, HSO.out _, HSI.out _, HSB.out _⟩
            case measure => simp [intOf]; omega
          · have hI : ¬ (j : Int) < (nb : Int) := by omega
            have HD9 := hid hinv
            have HBF := hid hbl
            clear hown hinv hbl hlt
            go_wp2_with fail
            refine (durable_ d8 _ Q8 wr HD9.out).mono ?_
            rintro e w10 ⟨v10, rfl, o10, g10⟩
            have hfl : flat (secs Z) q = Z := by
              rw [flat_secs Z q (by rw [HZL.out, HQM.out]; exact Nat.le_refl _), List.take_of_length_le (by rw [HZL.out, HQM.out]; exact Nat.le_refl _)]
            have o10' : w10.ownsRow wr.heap.size 5 1 v10 nb (cells Z) := by
              have := o10
              rw [show ({ st0 q with S := secs Z } : St).S = secs Z from rfl, show ({ st0 q with S := secs Z } : St).n = q from rfl, hfl, ← HQM.out] at this
              exact this
            obtain ⟨xa, xc, rfl, xb, _, _, _⟩ := own_form o10' HZB.out
            have D10 := HD9.out.below g10
            have B10 := bel_bel HBF.out HBF.out.size g10
            clear o10 o10' g10 HD9 HBF hfl
            go_wp2_with fail
            refine (same_yes xa a nb xc nb cb Z w10 xb (HCW.out _ B10) (by omega) (by omega)).mono ?_
            rintro e w11 ⟨rfl, g11⟩
            have D11 := D10.below g11.below
            have B11 := bel_bel B10 B10.size g11.below
            have eq0 : (nb : Int) / 512 = (q : Int) := by have := HQM.out; omega
            clear xb D10 B10 g11
            go_wp2_with fail
            refine (fresh_ d8 q _ Q8 w11 D11 rfl rfl rfl rfl rfl).mono ?_
            rintro e w12 ⟨rfl, g12⟩
            have B12 := hid (bel_bel B11 B11.size g12)
            clear D11 B11 g12
            go_wp2_with fail
            go_ret
            exact ⟨rfl, B12.out⟩
  · have kn := new_no n w0 (by omega)
    have B1 := B0
    clear B0
    by_cases h32 : 32 ≤ n
    case' pos => have h81 : ¬ n ≤ 8192 := by omega
    all_goals
      clear hn
      go_wp2_with fail
      refine kn.mono ?_
      rintro e w' ⟨rfl, hw⟩
      obtain rfl := hw.symm
      clear hw
      by_cases hbig : 262144 < nb
      · have hI0 : (262144 : Int) < (nb : Int) := by omega
        have hI1 : (262144 : Int) ≤ (cb : Int) := by omega
        go_wp2_with (go_at_call 19; refine (num_ _ _).mono ?_; rintro e w' ⟨rfl, hw⟩; obtain rfl := hw.symm; clear hw)
        obtain ⟨m, HM⟩ : ∃ m : Nat, Hid (262144 = m) := ⟨_, rfl⟩
        have HMI : Hid ((262144 : Int) = (m : Int)) := by have := HM.out; show _ = _; omega
        have hm1 : m ≤ nb := by have := HM.out; omega
        have hm2 : m ≤ 262144 := by have := HM.out; omega
        rw [HM.out, HMI.out]
        obtain ⟨Z, HZ⟩ : ∃ Z, Hid (zs.take m = Z) := ⟨_, rfl⟩
        have HZB : Hid (∀ z ∈ Z, 0 ≤ z ∧ z ≤ 255) := by rw [← HZ.out]; exact fun z hz => HB.out.2.1 z (List.mem_of_mem_take hz)
        clear hbig hI0 hI1 HM HMI
        have HBW := hid B1
        have HCW : Hid (∀ wx, Below w.heap.size w wx → Bs wx a m Z) := fun wx hx => by rw [← HZ.out]; exact (HB.out.below hx).cut10 (by omega)
        have kb := refBytes a m cb Z w0 (HCW.out _ B1) (by omega)
        clear B1
        refine kb.mono ?_
        rintro e w7 ⟨v7, rfl, o7, g7⟩
        obtain ⟨la, lc, rfl, lb7, hlc1, hlc2, _⟩ := own_form o7 HZB.out
        have O7 := hid o7
        have LB7 := hid lb7
        have B7 := bel_bel HBW.out HBW.out.size g7
        have hlo : w.heap.size ≤ w0.heap.size := HBW.out.size
        generalize hlo' : w0.heap.size = lo at *
        clear hlo'
        clear kb o7 g7 lb7 HBW
        go_wp2_with fail
        by_cases hmay : m % 512 = 0 ∧ 32 ≤ m / 512
        case neg =>
          refine (image_no la m lc w7 (by omega) (fun h => hmay ⟨h.1, h.2.1⟩)).mono ?_
          rintro e w8 ⟨rfl, g8⟩
          have HO := own_at' O7.out (fun q hq => g8.block q (O7.out.lt q hq).2)
          have LB8 := LB7.out.below g8
          have B8 := bel_bel B7 B7.size g8
          clear O7 LB7 B7 g8
          by_cases hr : m % 512 = 0
          case' pos => have r1 : ((m : Int) % 512 == 0) = true := by simp; omega
          case' pos => have r2 : decide ((16384 : Int) ≤ (m : Int)) = false := decide_eq_false (by omega)
          case' pos => have r3 : decide (16384 ≤ m) = false := decide_eq_false (by omega)
          case' neg => have r1 : ((m : Int) % 512 == 0) = false := by simp; omega
          all_goals
            clear hmay hr
            go_wp2_with (go_at_call 19; refine (num_ _ _).mono ?_; rintro e w' ⟨rfl, hw⟩; obtain rfl := hw.symm; clear hw)
            refine (same_yes la a m lc m cb Z w8 LB8 (HCW.out _ B8) (by omega) (by omega)).mono ?_
            rintro e w9 ⟨rfl, g9⟩
            have HB5 := hid (bel_bel B8 B8.size g9.below)
            replace HO := hid (own_at' HO (fun q hq => g9.below.block q (HO.lt q hq).2))
            have HST : True := trivial
            clear LB8 B8 g9
            go_wp2_with fail
            go_loopw [15] (fun i wr => ∃ (j : Nat) (ys : List Int), j ≤ m ∧ i = .int .i64 j ∧ wr.ownsRow lo 5 1 (.slice la m lc) m (cells ys) ∧ (True) ∧ Below w.heap.size w wr) (fun i _ => m - (intOf i).toNat)
            case atStart => exact ⟨0, _, by omega, rfl, HO.out, trivial, HB5.out⟩
            case round =>
              clear HO HB5 HST
              obtain ⟨j, ys, hj, rfl, hown, hinv, hbl⟩ := hrel
              by_cases hlt : j < m
              · have hI : (j : Int) < (m : Int) := by omega
                obtain ⟨g, cap, e, hgB, ⟨cur, hg⟩, hc⟩ := own1_cell hown (by omega)
                obtain ⟨rfl, -, rfl⟩ : la = some ⟨g, 0, none⟩ ∧ m = m ∧ lc = cap := by simpa using e
                have c0 := hc j hlt
                have f0 : wr.frozen? ⟨g, j, none⟩ = false := by simp [World.frozen?, hg]
                have HSO : Hid (∀ y, (wr.setCell ⟨g, j, none⟩ (.int .u8 y)).ownsRow lo 5 1 (.slice (some ⟨g, 0, none⟩) m lc) m (cells (ys.set j y))) := fun y => by
                  have := own_set hown j (.int .u8 y)
                  rw [show (cells ys).set j (.int .u8 y) = cells (ys.set j y) from by simp [cells, List.map_set]] at this
                  exact this
                have HSB : Hid (∀ y : Value, Below w.heap.size w (wr.setCell ⟨g, j, none⟩ y)) := fun y => hbl.setCell (p := ⟨g, j, none⟩) (by show w.heap.size ≤ g; omega) y
                have HSI : Hid (∀ y : Value, (fun wr => True) (wr.setCell ⟨g, j, none⟩ y)) := fun y => trivial
                generalize ys.getD j 0 = z at *
                clear hown hc hbl e hg hlt hinv
                go_wp2_with fail
                go_roundw
                case rel => exact ⟨j + 1, _, by omega, by go_num, HSO.out _, trivial, HSB.out _⟩
                case measure => simp [intOf]; omega
              · have hI : ¬ (j : Int) < (m : Int) := by omega
                have HBF := hid hbl
                clear hown hinv hbl hlt
                go_wp2_with fail
                go_ret
                exact ⟨rfl, HBF.out⟩
        case pos =>
          obtain ⟨q, HQM⟩ : ∃ q, Hid (m = 512 * q) := ⟨m / 512, by show _ = _; omega⟩
          have hq1 : 32 ≤ q := by have := HQM.out; omega
          have hq2 : q ≤ 8192 := by have := HQM.out; omega
          obtain ⟨x, rfl⟩ : ∃ x, la = some x := by
            rcases LB7.out.2.2 with h0 | ⟨b, off, e, _⟩
            · omega
            · exact ⟨_, e⟩
          have ki := image_ x q lc Z w7 hq1 hq2 (by rw [← HQM.out]; exact LB7.out)
          rw [← HQM.out] at ki
          refine ki.mono ?_
          rintro e w8 ⟨d8, rfl, D8, g8⟩
          have HO := own_at' O7.out (fun q hq => g8.block q (O7.out.lt q hq).2)
          have LB8 := LB7.out.below g8
          have B8 := bel_bel B7 B7.size g8
          have QL : ∀ b, (fun b => w7.heap.size ≤ b ∧ b < w8.heap.size) b → w7.heap.size ≤ b := fun b h => h.1
          have HLA : Hid (x.block < w7.heap.size) := LB7.out.lt (by omega)
          generalize (fun b => w7.heap.size ≤ b ∧ b < w8.heap.size) = Q8 at *
          have r1 : ((m : Int) % 512 == 0) = true := by simp; omega
          have r2 : decide ((16384 : Int) ≤ (m : Int)) = true := decide_eq_true (by omega)
          have r3 : decide (16384 ≤ m) = true := decide_eq_true (by omega)
          have HZL := hid LB7.out.1
          clear O7 LB7 B7 g8 ki hmay
          go_wp2_with (go_at_call 19; refine (num_ _ _).mono ?_; rintro e w' ⟨rfl, hw⟩; obtain rfl := hw.symm; clear hw)
          refine (same_yes (some x) a m lc m cb Z w8 LB8 (HCW.out _ B8) (by omega) (by omega)).mono ?_
          rintro e w9 ⟨rfl, g9⟩
          have HB5 := hid (bel_bel B8 B8.size g9.below)
          replace HO := hid (own_at' HO (fun q hq => g9.below.block q (HO.lt q hq).2))
          have HST := hid (D8.below g9.below)
          clear LB8 B8 g9 D8
          obtain ⟨la, hla⟩ : ∃ la, some x = la := ⟨_, rfl⟩
          have HLA2 : Hid (∀ g, la = some ⟨g, 0, none⟩ → ¬ Q8 g) := fun g hg h => by
            have h1 := QL g h
            have h2 := HLA.out
            rw [← hla] at hg
            have h3 : x = ⟨g, 0, none⟩ := Option.some.inj hg
            rw [h3] at h2
            simp only at h2
            omega
          rw [hla] at HO ⊢
          clear HLA QL hla
          go_wp2_with fail
          go_loopw [15] (fun i wr => ∃ (j : Nat) (ys : List Int), j ≤ m ∧ i = .int .i64 j ∧ wr.ownsRow lo 5 1 (.slice la m lc) m (cells ys) ∧ (Dev wr d8 { st0 q with S := secs Z } Q8) ∧ Below w.heap.size w wr) (fun i _ => m - (intOf i).toNat)
          case atStart => exact ⟨0, _, by omega, rfl, HO.out, HST.out, HB5.out⟩
          case round =>
            clear HO HB5 HST
            obtain ⟨j, ys, hj, rfl, hown, hinv, hbl⟩ := hrel
            by_cases hlt : j < m
            · have hI : (j : Int) < (m : Int) := by omega
              obtain ⟨g, cap, e, hgB, ⟨cur, hg⟩, hc⟩ := own1_cell hown (by omega)
              obtain ⟨rfl, -, rfl⟩ : la = some ⟨g, 0, none⟩ ∧ m = m ∧ lc = cap := by simpa using e
              have c0 := hc j hlt
              have f0 : wr.frozen? ⟨g, j, none⟩ = false := by simp [World.frozen?, hg]
              have HSO : Hid (∀ y, (wr.setCell ⟨g, j, none⟩ (.int .u8 y)).ownsRow lo 5 1 (.slice (some ⟨g, 0, none⟩) m lc) m (cells (ys.set j y))) := fun y => by
                have := own_set hown j (.int .u8 y)
                rw [show (cells ys).set j (.int .u8 y) = cells (ys.set j y) from by simp [cells, List.map_set]] at this
                exact this
              have HSB : Hid (∀ y : Value, Below w.heap.size w (wr.setCell ⟨g, j, none⟩ y)) := fun y => hbl.setCell (p := ⟨g, j, none⟩) (by show w.heap.size ≤ g; omega) y
              have HSI : Hid (∀ y : Value, (fun wr => Dev wr d8 { st0 q with S := secs Z } Q8) (wr.setCell ⟨g, j, none⟩ y)) := fun y => hinv.fr (R := fun b => b = g) (Fr.of (grown_set (grown_refl wr (some g)) j y) rfl) (fun b hb e => HLA2.out g rfl (by rw [← e]; exact hb))
              generalize ys.getD j 0 = z at *
              clear hown hc hbl e hg hlt hinv
              go_wp2_with fail
              go_roundw
              case rel => exact ⟨j + 1, _, by omega, by go_num, HSO.out _, HSI.out _, HSB.out _⟩
              case measure => simp [intOf]; omega
            · have hI : ¬ (j : Int) < (m : Int) := by omega
              have HD9 := hid hinv
              have HBF := hid hbl
              clear hown hinv hbl hlt
              go_wp2_with fail
              refine (durable_ d8 _ Q8 wr HD9.out).mono ?_
              rintro e w10 ⟨v10, rfl, o10, g10⟩
              have hfl : flat (secs Z) q = Z := by
                rw [flat_secs Z q (by rw [HZL.out, HQM.out]; exact Nat.le_refl _), List.take_of_length_le (by rw [HZL.out, HQM.out]; exact Nat.le_refl _)]
              have o10' : w10.ownsRow wr.heap.size 5 1 v10 m (cells Z) := by
                have := o10
                rw [show ({ st0 q with S := secs Z } : St).S = secs Z from rfl, show ({ st0 q with S := secs Z } : St).n = q from rfl, hfl, ← HQM.out] at this
                exact this
              obtain ⟨xa, xc, rfl, xb, _, _, _⟩ := own_form o10' HZB.out
              have D10 := HD9.out.below g10
              have B10 := bel_bel HBF.out HBF.out.size g10
              clear o10 o10' g10 HD9 HBF hfl
              go_wp2_with fail
              refine (same_yes xa a m xc m cb Z w10 xb (HCW.out _ B10) (by omega) (by omega)).mono ?_
              rintro e w11 ⟨rfl, g11⟩
              have D11 := D10.below g11.below
              have B11 := bel_bel B10 B10.size g11.below
              have eq0 : (m : Int) / 512 = (q : Int) := by have := HQM.out; omega
              clear xb D10 B10 g11
              go_wp2_with fail
              refine (fresh_ d8 q _ Q8 w11 D11 rfl rfl rfl rfl rfl).mono ?_
              rintro e w12 ⟨rfl, g12⟩
              have B12 := hid (bel_bel B11 B11.size g12)
              clear D11 B11 g12
              go_wp2_with fail
              go_ret
              exact ⟨rfl, B12.out⟩
      · have hI0 : ¬ (262144 : Int) < (nb : Int) := by omega
        have hI1 : (nb : Int) ≤ (cb : Int) := by omega
        go_wp2_with (go_at_call 19; refine (num_ _ _).mono ?_; rintro e w' ⟨rfl, hw⟩; obtain rfl := hw.symm; clear hw)
        have hm1 : nb ≤ nb := Nat.le_refl _
        have hm2 : nb ≤ 262144 := by omega
        obtain ⟨Z, HZ⟩ : ∃ Z, Hid (zs.take nb = Z) := ⟨_, rfl⟩
        have HZB : Hid (∀ z ∈ Z, 0 ≤ z ∧ z ≤ 255) := by rw [← HZ.out]; exact fun z hz => HB.out.2.1 z (List.mem_of_mem_take hz)
        clear hbig hI0 hI1
        have HBW := hid B1
        have HCW : Hid (∀ wx, Below w.heap.size w wx → Bs wx a nb Z) := fun wx hx => by rw [← HZ.out]; exact (HB.out.below hx).cut10 (by omega)
        have kb := refBytes a nb cb Z w0 (HCW.out _ B1) (by omega)
        clear B1
        refine kb.mono ?_
        rintro e w7 ⟨v7, rfl, o7, g7⟩
        obtain ⟨la, lc, rfl, lb7, hlc1, hlc2, _⟩ := own_form o7 HZB.out
        have O7 := hid o7
        have LB7 := hid lb7
        have B7 := bel_bel HBW.out HBW.out.size g7
        have hlo : w.heap.size ≤ w0.heap.size := HBW.out.size
        generalize hlo' : w0.heap.size = lo at *
        clear hlo'
        clear kb o7 g7 lb7 HBW
        go_wp2_with fail
        by_cases hmay : nb % 512 = 0 ∧ 32 ≤ nb / 512
        case neg =>
          refine (image_no la nb lc w7 (by omega) (fun h => hmay ⟨h.1, h.2.1⟩)).mono ?_
          rintro e w8 ⟨rfl, g8⟩
          have HO := own_at' O7.out (fun q hq => g8.block q (O7.out.lt q hq).2)
          have LB8 := LB7.out.below g8
          have B8 := bel_bel B7 B7.size g8
          clear O7 LB7 B7 g8
          by_cases hr : nb % 512 = 0
          case' pos => have r1 : ((nb : Int) % 512 == 0) = true := by simp; omega
          case' pos => have r2 : decide ((16384 : Int) ≤ (nb : Int)) = false := decide_eq_false (by omega)
          case' pos => have r3 : decide (16384 ≤ nb) = false := decide_eq_false (by omega)
          case' neg => have r1 : ((nb : Int) % 512 == 0) = false := by simp; omega
          all_goals
            clear hmay hr
            go_wp2_with (go_at_call 19; refine (num_ _ _).mono ?_; rintro e w' ⟨rfl, hw⟩; obtain rfl := hw.symm; clear hw)
            refine (same_yes la a nb lc nb cb Z w8 LB8 (HCW.out _ B8) (by omega) (by omega)).mono ?_
            rintro e w9 ⟨rfl, g9⟩
            have HB5 := hid (bel_bel B8 B8.size g9.below)
            replace HO := hid (own_at' HO (fun q hq => g9.below.block q (HO.lt q hq).2))
            have HST : True := trivial
            clear LB8 B8 g9
            go_wp2_with fail
            go_loopw [15] (fun i wr => ∃ (j : Nat) (ys : List Int), j ≤ nb ∧ i = .int .i64 j ∧ wr.ownsRow lo 5 1 (.slice la nb lc) nb (cells ys) ∧ (True) ∧ Below w.heap.size w wr) (fun i _ => nb - (intOf i).toNat)
            case atStart => exact ⟨0, _, by omega, rfl, HO.out, trivial, HB5.out⟩
            case round =>
              clear HO HB5 HST
              obtain ⟨j, ys, hj, rfl, hown, hinv, hbl⟩ := hrel
              by_cases hlt : j < nb
              · have hI : (j : Int) < (nb : Int) := by omega
                obtain ⟨g, cap, e, hgB, ⟨cur, hg⟩, hc⟩ := own1_cell hown (by omega)
                obtain ⟨rfl, -, rfl⟩ : la = some ⟨g, 0, none⟩ ∧ nb = nb ∧ lc = cap := by simpa using e
                have c0 := hc j hlt
                have f0 : wr.frozen? ⟨g, j, none⟩ = false := by simp [World.frozen?, hg]
                have HSO : Hid (∀ y, (wr.setCell ⟨g, j, none⟩ (.int .u8 y)).ownsRow lo 5 1 (.slice (some ⟨g, 0, none⟩) nb lc) nb (cells (ys.set j y))) := fun y => by
                  have := own_set hown j (.int .u8 y)
                  rw [show (cells ys).set j (.int .u8 y) = cells (ys.set j y) from by simp [cells, List.map_set]] at this
                  exact this
                have HSB : Hid (∀ y : Value, Below w.heap.size w (wr.setCell ⟨g, j, none⟩ y)) := fun y => hbl.setCell (p := ⟨g, j, none⟩) (by show w.heap.size ≤ g; omega) y
                have HSI : Hid (∀ y : Value, (fun wr => True) (wr.setCell ⟨g, j, none⟩ y)) := fun y => trivial
                generalize ys.getD j 0 = z at *
                clear hown hc hbl e hg hlt hinv
                go_wp2_with fail
                go_roundw
                case rel => exact ⟨j + 1, _, by omega, by go_num, HSO.out _, trivial, HSB.out _⟩
                case measure => simp [intOf]; omega
              · have hI : ¬ (j : Int) < (nb : Int) := by omega
                have HBF := hid hbl
                clear hown hinv hbl hlt
                go_wp2_with fail
                go_ret
                exact ⟨rfl, HBF.out⟩
        case pos =>
          obtain ⟨q, HQM⟩ : ∃ q, Hid (nb = 512 * q) := ⟨nb / 512, by show _ = _; omega⟩
          have hq1 : 32 ≤ q := by have := HQM.out; omega
          have hq2 : q ≤ 8192 := by have := HQM.out; omega
          obtain ⟨x, rfl⟩ : ∃ x, la = some x := by
            rcases LB7.out.2.2 with h0 | ⟨b, off, e, _⟩
            · omega
            · exact ⟨_, e⟩
          have ki := image_ x q lc Z w7 hq1 hq2 (by rw [← HQM.out]; exact LB7.out)
          rw [← HQM.out] at ki
          refine ki.mono ?_
          rintro e w8 ⟨d8, rfl, D8, g8⟩
          have HO := own_at' O7.out (fun q hq => g8.block q (O7.out.lt q hq).2)
          have LB8 := LB7.out.below g8
          have B8 := bel_bel B7 B7.size g8
          have QL : ∀ b, (fun b => w7.heap.size ≤ b ∧ b < w8.heap.size) b → w7.heap.size ≤ b := fun b h => h.1
          have HLA : Hid (x.block < w7.heap.size) := LB7.out.lt (by omega)
          generalize (fun b => w7.heap.size ≤ b ∧ b < w8.heap.size) = Q8 at *
          have r1 : ((nb : Int) % 512 == 0) = true := by simp; omega
          have r2 : decide ((16384 : Int) ≤ (nb : Int)) = true := decide_eq_true (by omega)
          have r3 : decide (16384 ≤ nb) = true := decide_eq_true (by omega)
          have HZL := hid LB7.out.1
          clear O7 LB7 B7 g8 ki hmay
          go_wp2_with (go_at_call 19; refine (num_ _ _).mono ?_; rintro e w' ⟨rfl, hw⟩; obtain rfl := hw.symm; clear hw)
          refine (same_yes (some x) a nb lc nb cb Z w8 LB8 (HCW.out _ B8) (by omega) (by omega)).mono ?_
          rintro e w9 ⟨rfl, g9⟩
          have HB5 := hid (bel_bel B8 B8.size g9.below)
          replace HO := hid (own_at' HO (fun q hq => g9.below.block q (HO.lt q hq).2))
          have HST := hid (D8.below g9.below)
          clear LB8 B8 g9 D8
          obtain ⟨la, hla⟩ : ∃ la, some x = la := ⟨_, rfl⟩
          have HLA2 : Hid (∀ g, la = some ⟨g, 0, none⟩ → ¬ Q8 g) := fun g hg h => by
            have h1 := QL g h
            have h2 := HLA.out
            rw [← hla] at hg
            have h3 : x = ⟨g, 0, none⟩ := Option.some.inj hg
            rw [h3] at h2
            simp only at h2
            omega
          rw [hla] at HO ⊢
          clear HLA QL hla
          go_wp2_with fail
          go_loopw [15] (fun i wr => ∃ (j : Nat) (ys : List Int), j ≤ nb ∧ i = .int .i64 j ∧ wr.ownsRow lo 5 1 (.slice la nb lc) nb (cells ys) ∧ (Dev wr d8 { st0 q with S := secs Z } Q8) ∧ Below w.heap.size w wr) (fun i _ => nb - (intOf i).toNat)
          case atStart => exact ⟨0, _, by omega, rfl, HO.out, HST.out, HB5.out⟩
          case round =>
            clear HO HB5 HST
            obtain ⟨j, ys, hj, rfl, hown, hinv, hbl⟩ := hrel
            by_cases hlt : j < nb
            · have hI : (j : Int) < (nb : Int) := by omega
              obtain ⟨g, cap, e, hgB, ⟨cur, hg⟩, hc⟩ := own1_cell hown (by omega)
              obtain ⟨rfl, -, rfl⟩ : la = some ⟨g, 0, none⟩ ∧ nb = nb ∧ lc = cap := by simpa using e
              have c0 := hc j hlt
              have f0 : wr.frozen? ⟨g, j, none⟩ = false := by simp [World.frozen?, hg]
              have HSO : Hid (∀ y, (wr.setCell ⟨g, j, none⟩ (.int .u8 y)).ownsRow lo 5 1 (.slice (some ⟨g, 0, none⟩) nb lc) nb (cells (ys.set j y))) := fun y => by
                have := own_set hown j (.int .u8 y)
                rw [show (cells ys).set j (.int .u8 y) = cells (ys.set j y) from by simp [cells, List.map_set]] at this
                exact this
              have HSB : Hid (∀ y : Value, Below w.heap.size w (wr.setCell ⟨g, j, none⟩ y)) := fun y => hbl.setCell (p := ⟨g, j, none⟩) (by show w.heap.size ≤ g; omega) y
              have HSI : Hid (∀ y : Value, (fun wr => Dev wr d8 { st0 q with S := secs Z } Q8) (wr.setCell ⟨g, j, none⟩ y)) := fun y => hinv.fr (R := fun b => b = g) (Fr.of (grown_set (grown_refl wr (some g)) j y) rfl) (fun b hb e => HLA2.out g rfl (by rw [← e]; exact hb))
              generalize ys.getD j 0 = z at *
              clear hown hc hbl e hg hlt hinv
              go_wp2_with fail
              go_roundw
              case rel => exact ⟨j + 1, _, by omega, by go_num, HSO.out _, HSI.out _, HSB.out _⟩
              case measure => simp [intOf]; omega
            · have hI : ¬ (j : Int) < (nb : Int) := by omega
              have HD9 := hid hinv
              have HBF := hid hbl
              clear hown hinv hbl hlt
              go_wp2_with fail
              refine (durable_ d8 _ Q8 wr HD9.out).mono ?_
              rintro e w10 ⟨v10, rfl, o10, g10⟩
              have hfl : flat (secs Z) q = Z := by
                rw [flat_secs Z q (by rw [HZL.out, HQM.out]; exact Nat.le_refl _), List.take_of_length_le (by rw [HZL.out, HQM.out]; exact Nat.le_refl _)]
              have o10' : w10.ownsRow wr.heap.size 5 1 v10 nb (cells Z) := by
                have := o10
                rw [show ({ st0 q with S := secs Z } : St).S = secs Z from rfl, show ({ st0 q with S := secs Z } : St).n = q from rfl, hfl, ← HQM.out] at this
                exact this
              obtain ⟨xa, xc, rfl, xb, _, _, _⟩ := own_form o10' HZB.out
              have D10 := HD9.out.below g10
              have B10 := bel_bel HBF.out HBF.out.size g10
              clear o10 o10' g10 HD9 HBF hfl
              go_wp2_with fail
              refine (same_yes xa a nb xc nb cb Z w10 xb (HCW.out _ B10) (by omega) (by omega)).mono ?_
              rintro e w11 ⟨rfl, g11⟩
              have D11 := D10.below g11.below
              have B11 := bel_bel B10 B10.size g11.below
              have eq0 : (nb : Int) / 512 = (q : Int) := by have := HQM.out; omega
              clear xb D10 B10 g11
              go_wp2_with fail
              refine (fresh_ d8 q _ Q8 w11 D11 rfl rfl rfl rfl rfl).mono ?_
              rintro e w12 ⟨rfl, g12⟩
              have B12 := hid (bel_bel B11 B11.size g12)
              clear D11 B11 g12
              go_wp2_with fail
              go_ret
              exact ⟨rfl, B12.out⟩
end Go.Proofs.Ytheafbbihejdmaa
