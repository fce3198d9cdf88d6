import Derived.Test.YtghehfhkiknjhaaTJ
namespace Go.Proofs.Ytghehfhkiknjhaa
set_option maxRecDepth 100000
open Go.RowKit Go.Maps
set_option linter.unusedVariables false

def fb (zs : List Int) : Option Tab := match gs zs with
  | some l => if l.all (fun s => !s.g) then some (asT l) else none
  | none => none
theorem fb_no {zs : List Int} {l : List Sx} {k : Nat} (h : gs zs = some l) (hk : k < l.length) (hg : (l.getD k default).g = true) : fb zs = none := by
  unfold fb
  rw [h]
  simp only
  rw [if_neg]
  intro e
  have := List.all_eq_true.1 e _ (getD_mem hk)
  rw [hg] at this
  cases this
theorem fb_yes {zs : List Int} {l : List Sx} (h : gs zs = some l) (hg : l.all (fun s => !s.g) = true) : fb zs = some (asT l) ∧ doAll [] l = asT l := by
  refine ⟨?_, doAll_asT (okFrom_rises (gs_some h).1) fun s hs => ?_⟩
  · unfold fb
    rw [h]
    simp only
    rw [if_pos hg]
  · have := List.all_eq_true.1 hg s hs
    simpa using this
theorem gall_take {l : List Sx} {k : Nat} (hk : k < l.length) (h : (l.take k).all (fun s => !s.g) = true) (hm : (l.getD k default).g = false) : (l.take (k + 1)).all (fun s => !s.g) = true := by
  rw [take_snoc hk, List.all_append, h, List.all_cons, hm]
  rfl
set_option maxHeartbeats 1000000 in
theorem fromBytes_ (a : Option Addr) (n c : Nat) (zs : List Int) (w : World) (hb : Bs w a n zs) (ha : a = none → c = 0) (hnc : n ≤ c) (hn : n ≤ 5000000) :
    Calls Try.prog 20 #[.slice a n c] w fun e w' => (∃ M t b, fb zs = some M ∧ e = .returned (.tuple #[.pointer (some ⟨t, 0, none⟩), .int .i64 0]) ∧ Tw w' t b (fun x => w.heap.size ≤ x) M ∧ w.heap.size ≤ b ∧ w.heap.size ≤ t ∧ Below w.heap.size w w') ∨ (fb zs = none ∧ e = .returned (.tuple #[.pointer none, .int .i64 114]) ∧ Below w.heap.size w w') := by
  have HB := hid hb
  have HZ : Hid (zs.length = n) := hb.1
  have k1 := getSets_ a n c zs w hb ha hnc hn
  clear hb
  go_enter Try.func20, Try.ntmps20
  go_wp2_with fail
  refine k1.mono ?_
  rintro e w1 (⟨l, al, m, cl, hgs, rfl, hsl, hlc, hlm, hln, g1⟩ | ⟨hgs, rfl, g1⟩)
  · have HGS := hid hgs
    have HSL := hid hsl
    have HG1 := hid g1
    have HLN : Hid (l.length = m) := hsl.len
    have hmn : m ≤ 5000000 := by
      have h1 := gs_some hgs
      have h2 := enc_len_le l
      rw [h1.2.1] at h2
      have := hsl.len
      have := HZ.out
      omega
    clear hgs hsl g1 k1
    go_wp2_with fail
    refine (new_ w1).mono ?_
    rintro e w2 ⟨t, b, rfl, tw2, hb2, ht2, g2⟩
    have HT2 := hid tw2
    have HG2 := hid (bel_bel HG1.out HG1.out.size g2)
    have HSL2 := hid (HSL.out.below g2)
    have hs1 := HG1.out.size
    clear tw2 g2 HSL
    go_wp2_with fail
    go_loopw [20] (fun i wq => ∃ j : Nat, j ≤ m ∧ i = .int .i64 j ∧ Hid ((l.take j).all (fun s => !s.g) = true) ∧ Hid (Tw wq t b (fun x => w.heap.size ≤ x) (doAll [] (l.take j))) ∧ Hid (w2.grownBy wq (some b))) (fun i _ => m - (intOf i).toNat)
    case atStart => exact ⟨0, by omega, rfl, rfl, HT2.out.wide fun x _ h => h.elim, ⟨rfl, rfl, rfl, Nat.le_refl _, fun _ _ _ => rfl⟩⟩
    case round =>
      obtain ⟨j, hj, rfl, HA, HTq, HG⟩ := hrel
      have HBW : Hid (Below w.heap.size w wr) := ⟨HG.out.os.trans HG2.out.os, HG.out.tape.trans HG2.out.tape, HG.out.output.trans HG2.out.output, Nat.le_trans HG2.out.size HG.out.size, fun k hk => (HG.out.block k (Nat.lt_of_lt_of_le hk HG2.out.size) (by simp; omega)).trans (HG2.out.block k hk)⟩
      by_cases hlt : j < m
      · have hI : (j : Int) < m := by omega
        obtain ⟨bl, off, ka, kc, va, vc, kn, vn, rfl, hkn, hvn, c0, c1, c2, v1, v2⟩ := (HSL2.out.map HG.out HT2.out.mp.isMap).at hlt
        obtain ⟨s, HS⟩ : ∃ s, Hid (l.getD j default = s) := ⟨_, rfl⟩
        rw [HS.out] at hkn hvn c2 v1 v2
        have HO : Hid (OkS s ∧ mayS s = true) := ⟨⟨v1.bs.2.1, v2.bs.2.1⟩, by rw [← HS.out]; exact may_of (gs_some HGS.out).1 _ (getD_mem (by rw [HLN.out]; exact hlt))⟩
        have HD : Hid (doAll [] (l.take (j + 1)) = doS (doAll [] (l.take j)) s) := by rw [← HS.out]; exact do_take [] (by rw [HLN.out]; exact hlt)
        have HN : Hid ((doAll [] (l.take j)).length ≤ 1000000000) := by
          have := len_doAll [] List.Pairwise.nil (l.take j)
          have h2 : (l.take j).length ≤ m := by rw [List.length_take, HLN.out]; omega
          show _ ≤ _
          simp at this
          omega
        have HNO : Hid (s.g = true → fb zs = none) := fun h => fb_no HGS.out (k := j) (by rw [HLN.out]; exact hlt) (by rw [HS.out]; exact h)
        have HYE : Hid (s.g = false → (l.take (j + 1)).all (fun s => !s.g) = true) := fun h => gall_take (by rw [HLN.out]; exact hlt) HA.out (by rw [HS.out]; exact h)
        obtain ⟨g, HGG⟩ : ∃ g, Hid (s.g = g) := ⟨_, rfl⟩
        rw [HGG.out] at c2 HNO HYE
        have V1 := hid v1
        have V2 := hid v2
        have ct := HTq.out.tbl.cell
        have htl := HTq.out.tbl.lt
        have HNE : Hid (wr.heap.size ≠ t) := by show _ ≠ _; omega
        generalize doAll [] (l.take j) = N at *
        clear v1 v2 hkn hvn hlt
        obtain ⟨o, HOB⟩ : ∃ o, Hid (Obj.cells #[.slice ka kn kc, .slice va vn vc, .bool g] 37 = o) := ⟨_, rfl⟩
        have BA : Below wr.heap.size wr (wr.alloc o).drew := ((Below.refl wr.heap.size wr).alloc (Nat.le_refl _) o).trans ⟨rfl, rfl, rfl, Nat.le_refl _, fun _ _ => rfl⟩
        have HMA := hid (HTq.out.mp.below BA)
        have HVA := hid (V1.out.bs.below BA)
        have HWA := hid (V2.out.bs.below BA)
        have HGA : Hid (wr.grownBy (wr.alloc o).drew none) := grown_of_below BA
        have HTA := hid (HTq.out.below BA)
        have HNW : Hid ((wr.alloc o).drew.heap[wr.heap.size]? = some o) := heap_alloc_new wr o
        have hnm := fun {w2 : World} (g2 : (wr.alloc o).drew.grownBy w2 (some b)) => (show w2.heap[wr.heap.size]? = some o from (g2.block wr.heap.size (by show _ < (wr.alloc o).heap.size; simp) (by have := HTq.out.mp.lt; intro f; have := Option.some.inj f; omega)).trans HNW.out)
        have hnt := fun {w2 : World} (g2 : (wr.alloc o).drew.grownBy w2 (some b)) => (show Tbl w2 t b from HTA.out.tbl.same (g2.block t HTA.out.tbl.lt (by intro f; have f := Option.some.inj f; obtain ⟨es, cl, e⟩ := HTA.out.mp.isMap; exact HTA.out.tbl.not_map es cl (by rw [f]; exact e))))
        rw [← HOB.out] at HMA HVA HWA HGA HTA HNW hnm hnt
        clear BA
        cases g with
        | true =>
          have HF := hid (HNO.out rfl)
          have HBO := hid (HBW.out.alloc HBW.out.size o)
          rw [← HOB.out] at HBO
          go_wp2_with fail
          go_ret2
          exact .inr ⟨HF.out, rfl, HBO.out⟩
        | false =>
          have HA1 := hid (HYE.out rfl)
          have kp := fun wx (h1 : Mp wx b (fun x => w.heap.size ≤ x) N) (h2 : Bs wx ka kn s.k) (h3 : Bs wx va vn s.v) => put_ b _ N ka va kn kc vn vc s.k s.v wx h1 HTq.out.tok h2 (Nat.le_trans V1.out.nc V1.out.cm) h3 V2.out.nil V2.out.nc (by have := mayS_val HO.out.2; have := V2.out.bs.1; omega) HN.out
          have HSZ : Hid (w.heap.size ≤ wr.heap.size) := HBW.out.size
          go_wp2_with fail
          go_region_held (fun wx => wx.cell? ⟨t, 0, none⟩ = some (.map (some b)) ∧ wx.cell? ⟨wr.heap.size, 0, none⟩ = some (.slice ka kn kc) ∧ wx.cell? ⟨wr.heap.size, 1, none⟩ = some (.slice va vn vc)) (go_keep) (first | (go_at_call 50; refine (kp _ (by exact HMA.out) (by exact HVA.out) (by exact HWA.out)).mono ?_; rintro e w5 ⟨rfl, m2, g2⟩; have HTB := hid (hnt g2); have y0 := HTB.out.cell; have y1 : w5.cell? ⟨wr.heap.size, 0, none⟩ = some (.slice ka kn kc) := (by rw [cell_of_row w5 wr.heap.size 0 _ 37 (0, 0) (hnm g2)]; rfl); have y2 : w5.cell? ⟨wr.heap.size, 1, none⟩ = some (.slice va vn vc) := (by rw [cell_of_row w5 wr.heap.size 1 _ 37 (0, 0) (hnm g2)]; rfl); have M2 := hid m2; have G2 := hid g2; clear m2 g2))
          clear kp
          go_wp2_with fail
          go_roundw
          case rel =>
            refine ⟨j + 1, by omega, by go_num, HA1, ?_, (HG.out.andThen (HGA.out.but (some b)) (fun j e => .inr e)).andThen G2.out (fun j e => .inr e)⟩
            have e : doS N s = ins s.k s.v N := by unfold doS; rw [HGG.out]; rfl
            rw [HD.out]
            exact ⟨HTB.out, by rw [e]; exact M2.out.wide fun x _ h => h.elim id fun h => (by have := HSZ.out; have : (wr.alloc (.cells #[.slice ka kn kc, .slice va vn vc, .bool false] 37)).heap.size ≤ x := h; simp at this; omega), HTq.out.tok.doS HO.out.2 HO.out.1⟩
          case measure => simp [intOf]; omega
      · have hI : ¬ (j : Int) < m := by omega
        obtain rfl : j = m := by omega
        have HTE : Hid (l.take j = l) := List.take_of_length_le (by rw [HLN.out]; exact Nat.le_refl _)
        rw [HTE.out] at HTq HA
        have HF := hid (fb_yes HGS.out HA.out)
        rw [HF.out.2] at HTq
        go_wp2_with fail
        go_ret2
        first | exact .inl ⟨asT l, HF.out.1, t, rfl, b, HTq.out, by omega, by omega, HBW.out⟩ | exact .inl ⟨asT l, HF.out.1, t, b, rfl, HTq.out, by omega, by omega, HBW.out⟩
  · have HF : Hid (fb zs = none) := by
      show fb zs = none
      unfold fb
      rw [hgs]
    clear k1 hgs
    go_wp2_with fail
    go_ret2
    exact .inr ⟨HF.out, rfl, g1⟩
end Go.Proofs.Ytghehfhkiknjhaa
