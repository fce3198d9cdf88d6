import Derived.Test.YteeapmcpbmjpmaaGreatZA
namespace Go.Proofs.YteeapmcpbmjpmaaGreat
set_option maxRecDepth 100000
open Go.RowKit Go.Maps
set_option linter.unusedVariables false

theorem below_drew (w : World) : Below w.heap.size w w.drew := ⟨rfl, rfl, rfl, Nat.le_refl _, fun _ _ => rfl⟩
theorem all_take {l : List Sx} {k : Nat} (hk : k < l.length) (h : (l.take k).all mayS = true) (hm : mayS (l.getD k default) = true) : (l.take (k + 1)).all mayS = true := by
  rw [List.take_succ_eq_append_getElem hk, List.all_append, h]
  simp [List.getD, hk] at hm
  simp [hm]
theorem all_no {l : List Sx} {k : Nat} (hk : k < l.length) (hm : mayS (l.getD k default) = false) : allMay l = false := by
  unfold allMay
  rw [List.all_eq_false]
  refine ⟨l[k], List.getElem_mem hk, ?_⟩
  simp [List.getD, hk] at hm
  simp [hm]
theorem all_all {l : List Sx} {k : Nat} (hk : ¬ k < l.length) (h : (l.take k).all mayS = true) : allMay l = true := by
  rw [List.take_of_length_le (by omega)] at h
  exact h
theorem do_take {l : List Sx} {k : Nat} (M : Tab) (hk : k < l.length) : doAll M (l.take (k + 1)) = doS (doAll M (l.take k)) (l.getD k default) := by
  unfold doAll
  rw [List.take_succ_eq_append_getElem hk, List.foldl_append]
  simp [List.getD, hk]
theorem getD_mem {l : List Sx} {k : Nat} (hk : k < l.length) : l.getD k default ∈ l := by
  simp [List.getD, hk]
theorem len_doAll (M : Tab) (h : Srt M) (l : List Sx) : (doAll M l).length ≤ M.length + l.length := by
  induction l generalizing M with
  | nil => simp [doAll]
  | cons s l ih =>
    have := ih (doS M s) (srt_doS h s)
    have h2 := len_doS h s
    show (doAll (doS M s) l).length ≤ _
    simp only [List.length_cons]
    omega
theorem Sl.at {w : World} {V : Nat → Prop} {a : Option Addr} {n k : Nat} {l : List Sx} (h : Sl w V a n l) (hk : k < n) : ∃ b off ka kc va vc kn vn, a = some ⟨b, off, none⟩ ∧ kn = (l.getD k default).k.length ∧ vn = (l.getD k default).v.length ∧ w.cell? ⟨b, off + k * 3, none⟩ = some (.slice ka kn kc) ∧ w.cell? ⟨b, off + k * 3 + 1, none⟩ = some (.slice va vn vc) ∧ w.cell? ⟨b, off + k * 3 + 2, none⟩ = some (.bool (l.getD k default).g) ∧ Vs w V ka kn kc (l.getD k default).k ∧ Vs w V va vn vc (l.getD k default).v := by
  rcases h.cells with h0 | ⟨b, off, e, hb, hc⟩
  · omega
  · obtain ⟨ka, kc, va, vc, h1, h2, h3, h4, h5⟩ := hc k hk
    exact ⟨b, off, ka, kc, va, vc, _, _, e, rfl, rfl, h1, h2, h3, h4, h5⟩
set_option maxHeartbeats 1000000 in
theorem apply_ (t b : Nat) (V U : Nat → Prop) (M : Tab) (a : Option Addr) (n c : Nat) (l : List Sx) (w : World) (h : Tw w t b V M) (hl : Sl w U a n l) (hn : n ≤ 100000000) (hML : M.length ≤ 100000000) :
    Calls Tryz.prog 9 #[.pointer (some ⟨t, 0, none⟩), .slice a n c] w fun e w' => (allMay l = true ∧ e = .returned (.int .i64 0) ∧ Tw w' t b (fun x => V x ∨ w.heap.size ≤ x) (doAll M l) ∧ w.grownBy w' (some b)) ∨ (allMay l = false ∧ e = .returned (.int .i64 114) ∧ Below w.heap.size w w') := by
  have HT := hid h
  have HL := hid hl
  have HLN : Hid (l.length = n) := hl.len
  clear h hl
  go_enter Tryz.func9, Tryz.ntmps9
  go_wp2_with fail
  go_loopw [11] (fun i wr => ∃ k : Nat, k ≤ n ∧ i = .int .i64 k ∧ Hid ((l.take k).all mayS = true) ∧ Below w.heap.size w wr) (fun i _ => n - (intOf i).toNat)
  case atStart => exact ⟨0, by omega, rfl, rfl, Below.refl _ _⟩
  case round =>
    obtain ⟨k, hk, rfl, HA, hB⟩ := hrel
    have HB := hid hB
    by_cases hlt : k < n
    · have hI : (k : Int) < n := by omega
      obtain ⟨bl, off, ka, kc, va, vc, kn, vn, rfl, hkn, hvn, c0, c1, c2, v1, v2⟩ := (HL.out.below hB).at hlt
      obtain ⟨s, HS⟩ : ∃ s, Hid (l.getD k default = s) := ⟨_, rfl⟩
      rw [HS.out] at hkn hvn c2 v1 v2
      have hm := fun wx => mayBe_ ka va kc vc s wx (by rw [← hkn]; exact Nat.le_trans v1.nc v1.cm) (by rw [← hvn]; exact Nat.le_trans v2.nc v2.cm)
      rw [← hkn, ← hvn] at hm
      obtain ⟨g, HG⟩ : ∃ g, Hid (s.g = g) := ⟨_, rfl⟩
      rw [HG.out] at c2 hm
      clear hkn hvn v1 v2 hlt hB
      go_wp2_with fail
      refine (hm _).mono ?_
      rintro e w1 ⟨rfl, g1⟩
      have HB1 : Hid (Below w.heap.size w w1) := (HB.out.alloc HB.out.size _).trans ⟨g1.os, g1.tape, g1.output, g1.size, fun x hx => g1.block x (by have := HB.out.size; simp; omega)⟩
      clear hm g1 c0 c1 c2
      cases hmay : mayS s with
      | true =>
        have HA1 : Hid ((l.take (k + 1)).all mayS = true) := all_take (by rw [HLN.out]; omega) HA.out (by rw [HS.out]; exact hmay)
        clear hmay
        go_wp2_with fail
        go_roundw
        case rel => exact ⟨k + 1, by omega, by go_num, HA1, HB1.out⟩
        case measure => simp [intOf]; omega
      | false =>
        have HA1 : Hid (allMay l = false) := all_no (k := k) (by rw [HLN.out]; omega) (by rw [HS.out]; exact hmay)
        clear hmay
        go_wp2_with fail
        go_ret
        exact .inr ⟨HA1.out, rfl, HB1.out⟩
    · have hI : ¬ (k : Int) < n := by omega
      have HA1 : Hid (allMay l = true) := all_all (k := k) (by rw [HLN.out]; omega) HA.out
      obtain ⟨w0, HW0⟩ : ∃ w0, Hid (w0 = wr) := ⟨_, rfl⟩
      clear hB HA hk hlt
      go_wp2_with fail
      clear hI
      go_loopw [21] (fun i wq => ∃ j : Nat, j ≤ n ∧ i = .int .i64 j ∧ Hid (Tw wq t b (fun x => V x ∨ w.heap.size ≤ x) (doAll M (l.take j))) ∧ Hid (w.grownBy wq (some b))) (fun i _ => n - (intOf i).toNat)
      case atStart => exact ⟨0, by omega, rfl, (HT.out.below HB.out).wide fun x _ h => .inl h, (grown_of_below HB.out).but _⟩
      case round =>
        obtain ⟨j, hj, rfl, HTq, HG⟩ := hrel
        by_cases hlt : j < n
        · have hI : (j : Int) < n := by omega
          obtain ⟨bl, off, ka, kc, va, vc, kn, vn, rfl, hkn, hvn, c0, c1, c2, v1, v2⟩ := (HL.out.map HG.out HT.out.mp.isMap).at hlt
          obtain ⟨s, HS⟩ : ∃ s, Hid (l.getD j default = s) := ⟨_, rfl⟩
          rw [HS.out] at hkn hvn c2 v1 v2
          have HO : Hid (OkS s ∧ mayS s = true) := ⟨⟨v1.bs.2.1, v2.bs.2.1⟩, by rw [← HS.out]; exact List.all_eq_true.1 HA1.out _ (getD_mem (by rw [HLN.out]; exact hlt))⟩
          have HD : Hid (doAll M (l.take (j + 1)) = doS (doAll M (l.take j)) s) := by rw [← HS.out]; exact do_take M (by rw [HLN.out]; exact hlt)
          have HN : Hid ((doAll M (l.take j)).length ≤ 1000000000) := by
            have := len_doAll M HT.out.tok.srt (l.take j)
            have h2 : (l.take j).length ≤ n := by rw [List.length_take, HLN.out]; omega
            show _ ≤ _
            omega
          obtain ⟨g, HGG⟩ : ∃ g, Hid (s.g = g) := ⟨_, rfl⟩
          rw [HGG.out] at c2
          have V1 := hid v1
          have V2 := hid v2
          have ct := HTq.out.tbl.cell
          have htl := HTq.out.tbl.lt
          have HNE : Hid (wr.heap.size ≠ t) := by show _ ≠ _; omega
          generalize doAll M (l.take j) = N at *
          clear v1 v2 hkn hvn hlt
          obtain ⟨o, HOB⟩ : ∃ o, Hid (Obj.cells #[.slice ka kn kc, .slice va vn vc, .bool g] 44 = o) := ⟨_, rfl⟩
          have BA : Below wr.heap.size wr (wr.alloc o).drew := ((Below.refl wr.heap.size wr).alloc (Nat.le_refl _) o).trans ⟨rfl, rfl, rfl, Nat.le_refl _, fun _ _ => rfl⟩
          have HMA := hid (HTq.out.mp.below BA)
          have HVA := hid (V1.out.bs.below BA)
          have HWA := hid (V2.out.bs.below BA)
          have HGA : Hid (wr.grownBy (wr.alloc o).drew none) := grown_of_below BA
          have HTA := hid (HTq.out.below BA)
          have HNW : Hid ((wr.alloc o).drew.heap[wr.heap.size]? = some o) := heap_alloc_new wr o
          have hnm := fun {w2 : World} (g2 : (wr.alloc o).drew.grownBy w2 (some b)) => (show w2.heap[wr.heap.size]? = some o from (g2.block wr.heap.size (by show _ < (wr.alloc o).heap.size; simp) (by have := HTq.out.mp.lt; intro f; have := Option.some.inj f; omega)).trans HNW.out)
          have hnt := fun {w2 : World} (g2 : (wr.alloc o).drew.grownBy w2 (some b)) => (show Tbl w2 t b from HTA.out.tbl.same (g2.block t HTA.out.tbl.lt (by intro f; have f := Option.some.inj f; obtain ⟨es, cl, e⟩ := HTA.out.mp.isMap; exact HTA.out.tbl.not_map es cl (by rw [f]; exact e))))
          rw [← HOB.out] at HMA HVA HWA HGA HTA HNW hnm hnt
          clear BA
          cases g with
          | true =>
            have kd := fun wx (h1 : Mp wx b (fun x => V x ∨ w.heap.size ≤ x) N) (h2 : Bs wx ka kn s.k) => drop_ b _ N ka kn kc s.k wx h1 HTq.out.tok h2 (Nat.le_trans V1.out.nc V1.out.cm)
            go_wp2_with fail
            go_region_held (fun wx => wx.cell? ⟨t, 0, none⟩ = some (.map (some b)) ∧ wx.cell? ⟨wr.heap.size, 0, none⟩ = some (.slice ka kn kc)) (go_keep) (first | (go_at_call 39; refine (kd _ (by exact HMA.out) (by exact HVA.out)).mono ?_; rintro e w2 ⟨rfl, m2, g2⟩; have HTB := hid (hnt g2); have y0 := HTB.out.cell; have y1 : w2.cell? ⟨wr.heap.size, 0, none⟩ = some (.slice ka kn kc) := (by rw [cell_of_row w2 wr.heap.size 0 _ 44 (0, 0) (hnm g2)]; rfl); have M2 := hid m2; have G2 := hid g2; clear m2 g2))
            clear kd
            go_wp2_with fail
            go_roundw
            case rel =>
              refine ⟨j + 1, by omega, by go_num, ?_, (HG.out.andThen (HGA.out.but (some b)) (fun j e => .inr e)).andThen G2.out (fun j e => .inr e)⟩
              have e : doS N s = del s.k N := by unfold doS; rw [HGG.out]; rfl
              rw [HD.out]
              exact ⟨HTB.out, by rw [e]; exact M2.out, HTq.out.tok.doS HO.out.2 HO.out.1⟩
            case measure => simp [intOf]; omega
          | false =>
            have kp := fun wx (h1 : Mp wx b (fun x => V x ∨ w.heap.size ≤ x) N) (h2 : Bs wx ka kn s.k) (h3 : Bs wx va vn s.v) => put_ b _ N ka va kn kc vn vc s.k s.v wx h1 HTq.out.tok h2 (Nat.le_trans V1.out.nc V1.out.cm) h3 V2.out.nil V2.out.nc (by have := mayS_val HO.out.2; have := V2.out.bs.1; omega) HN.out
            have HSZ : Hid (w.heap.size ≤ wr.heap.size) := HG.out.size
            go_wp2_with fail
            go_region_held (fun wx => wx.cell? ⟨t, 0, none⟩ = some (.map (some b)) ∧ wx.cell? ⟨wr.heap.size, 0, none⟩ = some (.slice ka kn kc) ∧ wx.cell? ⟨wr.heap.size, 1, none⟩ = some (.slice va vn vc)) (go_keep) (first | (go_at_call 40; refine (kp _ (by exact HMA.out) (by exact HVA.out) (by exact HWA.out)).mono ?_; rintro e w2 ⟨rfl, m2, g2⟩; have HTB := hid (hnt g2); have y0 := HTB.out.cell; have y1 : w2.cell? ⟨wr.heap.size, 0, none⟩ = some (.slice ka kn kc) := (by rw [cell_of_row w2 wr.heap.size 0 _ 44 (0, 0) (hnm g2)]; rfl); have y2 : w2.cell? ⟨wr.heap.size, 1, none⟩ = some (.slice va vn vc) := (by rw [cell_of_row w2 wr.heap.size 1 _ 44 (0, 0) (hnm g2)]; rfl); have M2 := hid m2; have G2 := hid g2; clear m2 g2))
            clear kp
            go_wp2_with fail
            go_roundw
            case rel =>
              refine ⟨j + 1, by omega, by go_num, ?_, (HG.out.andThen (HGA.out.but (some b)) (fun j e => .inr e)).andThen G2.out (fun j e => .inr e)⟩
              have e : doS N s = ins s.k s.v N := by unfold doS; rw [HGG.out]; rfl
              rw [HD.out]
              exact ⟨HTB.out, by rw [e]; exact M2.out.wide fun x _ h => h.elim id fun h => .inr (by have := HSZ.out; have : (wr.alloc (.cells #[.slice ka kn kc, .slice va vn vc, .bool false] 44)).heap.size ≤ x := h; simp at this; omega), HTq.out.tok.doS HO.out.2 HO.out.1⟩
            case measure => simp [intOf]; omega
        · have hI : ¬ (j : Int) < n := by omega
          obtain rfl : j = n := by omega
          have HTE : Hid (l.take j = l) := List.take_of_length_le (by rw [HLN.out]; exact Nat.le_refl _)
          rw [HTE.out] at HTq
          go_wp2_with fail
          go_ret
          exact .inl ⟨HA1.out, rfl, HTq.out, HG.out⟩
end Go.Proofs.YteeapmcpbmjpmaaGreat
namespace Go.Proofs.YteeapmcpbmjpmaaGreat
set_option maxRecDepth 100000
open Go.RowKit Go.Maps
set_option linter.unusedVariables false

/-! What stands ahead of a key. -/
def hd (s : Sx) : List Int := (if s.g then 0 else 1) :: (be 1 s.k.length ++ be 2 s.v.length)
theorem enc1_hd (s : Sx) : enc1 s = hd s ++ s.k ++ s.v := by
  unfold enc1 hd
  simp
theorem hd_byte (s : Sx) : Okb (hd s) := by
  intro z hz
  unfold hd at hz
  rcases List.mem_cons.1 hz with e | hz
  · subst e; split <;> omega
  · rcases List.mem_append.1 hz with hz | hz
    · exact be_byte _ _ z hz
    · exact be_byte _ _ z hz
theorem hd_length (s : Sx) : (hd s).length = 4 := by
  unfold hd
  rw [List.length_cons, List.length_append, be_length, be_length]
theorem byte_app {xs ys : List Int} (h : Okb xs) (h' : Okb ys) : Okb (xs ++ ys) := fun z hz => (List.mem_append.1 hz).elim (h z) (h' z)
theorem byte_nil : Okb [] := fun z hz => by simp at hz
set_option maxHeartbeats 1000000 in
theorem head_ (ka va : Option Addr) (kc vc n m : Nat) (s : Sx) (w : World) (hn : n = s.k.length) (hm : m = s.v.length) (h : mayS s = true) :
    Calls Tryz.prog 51 #[.agg #[.slice ka n kc, .slice va m vc, .bool s.g]] w fun e w' => ∃ g, e = .returned (.slice (some ⟨g, 0, none⟩) 4 4) ∧ Row w' g (hd s) ∧ w.heap.size ≤ g ∧ Below w.heap.size w w' := by
  have hk := mayS_key h
  have hv := mayS_val h
  rw [← hn] at hk
  rw [← hm] at hv
  obtain ⟨x, HX⟩ : ∃ x : Int, Hid (x = if s.g then 0 else 1) := ⟨_, rfl⟩
  have HH : Hid (hd s = [] ++ be 1 x ++ be 1 n ++ be 2 m) := by
    show hd s = _
    unfold hd
    rw [HX.out, hn, hm]
    cases s.g <;> simp [be1]
  have hx : 0 ≤ x ∧ x ≤ 1 := by rw [HX.out]; split <;> omega
  rw [HH.out]
  obtain ⟨g, HG⟩ : ∃ g, Hid (s.g = g) := ⟨_, rfl⟩
  rw [HG.out]
  rw [HG.out] at HX
  have w1 : IntKind.u8.wrap (n : Int) = n := by simp [IntKind.wrap, IntKind.bits, IntKind.signed]; omega
  have w2 : IntKind.u16.wrap (m : Int) = m := by simp [IntKind.wrap, IntKind.bits, IntKind.signed]; omega
  have k1 := fun wx => putW8 none 0 0 [] x wx ⟨rfl, by simp, .inl rfl⟩ (by omega) hx.1 (by omega)
  have k2 := fun (b : Nat) wx (h1 : Row wx b ([] ++ be 1 x)) => putW8 (some ⟨b, 0, none⟩) 1 1 ([] ++ be 1 x) (n : Int) wx ((h1.bs (be_byte 1 x)).len (by simp [be_length])) (by omega) (by omega) (by omega)
  have k3 := fun (b : Nat) wx (h1 : Row wx b ([] ++ be 1 x ++ be 1 n)) => putW16 (some ⟨b, 0, none⟩) 2 2 ([] ++ be 1 x ++ be 1 n) (m : Int) wx ((h1.bs (byte_app (byte_app byte_nil (be_byte 1 x)) (be_byte 1 n))).len (by simp [be_length])) (by omega) (by omega) (by omega)
  have hB := (Below.refl w.heap.size w).alloc (Nat.le_refl _) (.cells #[.slice ka n kc, .slice va m vc, .bool g] 44)
  clear hn hm h
  cases g with
  | true =>
    obtain rfl : x = 0 := by rw [HX.out]; rfl
    clear hx HX HH HG
    simp only [Nat.zero_add] at k1
    obtain ⟨L1, HL1⟩ : ∃ L : List Int, Hid ([] ++ be 1 (0 : Int) = L) := ⟨[] ++ be 1 (0 : Int), rfl⟩
    rw [HL1.out] at k1 k2 k3 ⊢
    obtain ⟨L2, HL2⟩ : ∃ L, Hid (L1 ++ be 1 (n : Int) = L) := ⟨_, rfl⟩
    rw [HL2.out] at k2 k3 ⊢
    obtain ⟨L3, HL3⟩ : ∃ L, Hid (L2 ++ be 2 (m : Int) = L) := ⟨_, rfl⟩
    rw [HL3.out] at k3 ⊢
    go_enter Tryz.func51, Tryz.ntmps51
    go_wp2_with fail
    refine (k1 _).mono ?_
    rintro e w3 ⟨rfl, r3, g3⟩
    have B3 := bel_grow hB hB.size g3
    have hnew := heap_alloc_new w (.cells #[.slice ka n kc, .slice va m vc, .bool true] 44)
    have h3 : w3.heap[w.heap.size]? = some (.cells #[.slice ka n kc, .slice va m vc, .bool true] 44 (0, 0)) := (g3.block w.heap.size (by simp) (by simp)).trans hnew
    have c0 : w3.cell? ⟨w.heap.size, 0, none⟩ = some (.slice ka n kc) := by rw [cell_of_row w3 w.heap.size 0 _ 44 (0, 0) h3]; rfl
    have R3 := hid r3
    have HB3 := hid B3
    have H3 := hid h3
    have HS3 : Hid (w.heap.size + 1 ≤ w3.heap.size) := by have := g3.size; simp at this; exact this
    clear r3 g3 B3 h3 hnew k1 hB
    generalize (w.alloc (.cells #[.slice ka n kc, .slice va m vc, .bool true] 44)).heap.size = q3 at *
    go_wp2_with fail
    refine (k2 q3 w3 R3.out).mono ?_
    rintro e w4 ⟨rfl, r4, g4⟩
    have HB4 := hid (bel_grow HB3.out HB3.out.size g4)
    have h4 := (g4.block w.heap.size (by have := HS3.out; omega) (by simp)).trans H3.out
    have c1 : w4.cell? ⟨w.heap.size, 1, none⟩ = some (.slice va m vc) := by rw [cell_of_row w4 w.heap.size 1 _ 44 (0, 0) h4]; rfl
    have R4 := hid r4
    have HS4 : Hid (w3.heap.size ≤ w4.heap.size) := g4.size
    have HS34 : Hid (w.heap.size ≤ w3.heap.size) := HB3.out.size
    clear r4 g4 h4 k2 R3 H3 c0 HB3
    generalize w3.heap.size = q4 at *
    go_wp2_with fail
    refine (k3 q4 w4 R4.out).mono ?_
    rintro e w5 ⟨rfl, r5, g5⟩
    have HB5 := hid (bel_grow HB4.out HB4.out.size g5)
    have R5 := hid r5
    clear r5 g5 k3 R4 c1
    go_wp2_with fail
    go_ret
    exact ⟨_, rfl, R5.out, HB4.out.size, HB5.out⟩
  | false =>
    obtain rfl : x = 1 := by rw [HX.out]; rfl
    clear hx HX HH HG
    simp only [Nat.zero_add] at k1
    obtain ⟨L1, HL1⟩ : ∃ L : List Int, Hid ([] ++ be 1 (1 : Int) = L) := ⟨[] ++ be 1 (1 : Int), rfl⟩
    rw [HL1.out] at k1 k2 k3 ⊢
    obtain ⟨L2, HL2⟩ : ∃ L, Hid (L1 ++ be 1 (n : Int) = L) := ⟨_, rfl⟩
    rw [HL2.out] at k2 k3 ⊢
    obtain ⟨L3, HL3⟩ : ∃ L, Hid (L2 ++ be 2 (m : Int) = L) := ⟨_, rfl⟩
    rw [HL3.out] at k3 ⊢
    go_enter Tryz.func51, Tryz.ntmps51
    go_wp2_with fail
    refine (k1 _).mono ?_
    rintro e w3 ⟨rfl, r3, g3⟩
    have B3 := bel_grow hB hB.size g3
    have hnew := heap_alloc_new w (.cells #[.slice ka n kc, .slice va m vc, .bool false] 44)
    have h3 : w3.heap[w.heap.size]? = some (.cells #[.slice ka n kc, .slice va m vc, .bool false] 44 (0, 0)) := (g3.block w.heap.size (by simp) (by simp)).trans hnew
    have c0 : w3.cell? ⟨w.heap.size, 0, none⟩ = some (.slice ka n kc) := by rw [cell_of_row w3 w.heap.size 0 _ 44 (0, 0) h3]; rfl
    have R3 := hid r3
    have HB3 := hid B3
    have H3 := hid h3
    have HS3 : Hid (w.heap.size + 1 ≤ w3.heap.size) := by have := g3.size; simp at this; exact this
    clear r3 g3 B3 h3 hnew k1 hB
    generalize (w.alloc (.cells #[.slice ka n kc, .slice va m vc, .bool false] 44)).heap.size = q3 at *
    go_wp2_with fail
    refine (k2 q3 w3 R3.out).mono ?_
    rintro e w4 ⟨rfl, r4, g4⟩
    have HB4 := hid (bel_grow HB3.out HB3.out.size g4)
    have h4 := (g4.block w.heap.size (by have := HS3.out; omega) (by simp)).trans H3.out
    have c1 : w4.cell? ⟨w.heap.size, 1, none⟩ = some (.slice va m vc) := by rw [cell_of_row w4 w.heap.size 1 _ 44 (0, 0) h4]; rfl
    have R4 := hid r4
    have HS4 : Hid (w3.heap.size ≤ w4.heap.size) := g4.size
    have HS34 : Hid (w.heap.size ≤ w3.heap.size) := HB3.out.size
    clear r4 g4 h4 k2 R3 H3 c0 HB3
    generalize w3.heap.size = q4 at *
    go_wp2_with fail
    refine (k3 q4 w4 R4.out).mono ?_
    rintro e w5 ⟨rfl, r5, g5⟩
    have HB5 := hid (bel_grow HB4.out HB4.out.size g5)
    have R5 := hid r5
    clear r5 g5 k3 R4 c1
    go_wp2_with fail
    go_ret
    exact ⟨_, rfl, R5.out, HB4.out.size, HB5.out⟩
end Go.Proofs.YteeapmcpbmjpmaaGreat
