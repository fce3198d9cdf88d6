import Derived.Test.YtbkeejapongmlaaGreatDoorBookGrow
namespace Go.Proofs.YtbkeejapongmlaaGreatDoor.Kp
set_option maxRecDepth 100000
open Go.RowKit
set_option linter.unusedVariables false

theorem info22 : (Tryz.prog.info? 22).map (fun i => (i.zero, i.size, i.bytes)) = some (some (.slice none 0 0), 1, 24) := by kernel_rfl

theorem grown_bk {w0 w w2 : World} {k base m mg : Nat} {ps : Int} {T : Nat → Nat} {E F : Nat → Ent} {v2 v3 v4 : Value} (h : St w0 w k base m mg ps T E F v2 v3 v4) (hg : w.grownBy w2 v4.ownBlock) : Bk w2 k ps v2 v3 v4 :=
  h.bk.at (hg.block k h.bk.lt fun e => by
    obtain ⟨cur, hc⟩ := own_blk h.t4 e.symm
    have hb := h.bk
    unfold Bk at hb; rw [hb] at hc; simp at hc)
theorem st_push {w0 w w2 : World} {k base m mg g cap H : Nat} {ps : Int} {T : Nat → Nat} {E F : Nat → Ent} {v2 v3 v4 : Value} (h : St w0 w k base m mg ps T E F v2 v3 v4) (hmg : mg < m)
    (hown : w2.ownsRow base 22 1 (.slice (some ⟨g, 0, none⟩) (mg + 1) cap) (mg + 1) (vals mg F ++ [(E mg).val])) (hg : w.grownBy w2 v4.ownBlock) (hat : v4.ownBlock = some g ∨ g = H) (hH : w.heap.size = H) (hdj : Dj m E) (hE0 : ∀ l, l < m → (E l).Ok w0) :
    St w0 (w2.setCell ⟨k, 4, none⟩ (.slice (some ⟨g, 0, none⟩) (mg + 1) cap)) k base m (mg + 1) ps (fun j => if j = mg then 0 else T j) E (upd F mg (E mg)) v2 v3 (.slice (some ⟨g, 0, none⟩) (mg + 1) cap) := by
  have z1 : Wz (fun _ _ => False) w w2 := .ofGrown hg fun b hb _ => by
    obtain ⟨cur, hc⟩ := own_blk h.t4 hb; exact .inl ⟨cur, _, hc⟩
  have nk : some k ≠ v4.ownBlock := fun e => by
    obtain ⟨cur, hc⟩ := own_blk h.t4 e.symm
    have hb := h.bk
    unfold Bk at hb; rw [hb] at hc; simp at hc
  have bk2 : Bk w2 k ps v2 v3 v4 := h.bk.at (hg.block k h.bk.lt nk)
  have o2 : Only k w2 (w2.setCell ⟨k, 4, none⟩ (.slice (some ⟨g, 0, none⟩) (mg + 1) cap)) := (Only.refl k w2).set 4 _
  have z2 : Wz (fun _ _ => False) w2 (w2.setCell ⟨k, 4, none⟩ (.slice (some ⟨g, 0, none⟩) (mg + 1) cap)) := .ofGrown o2.grown fun b hb _ => by
    obtain rfl := Option.some.inj hb; exact .inr ⟨_, _, bk2⟩
  have z12 := z1.trans z2
  have kq : ∀ {v : Value} {n : Nat} {xs : List Value}, w2.ownsRow base 22 1 v n xs → ∀ q, v.ownBlock = some q → (w2.setCell ⟨k, 4, none⟩ (.slice (some ⟨g, 0, none⟩) (mg + 1) cap)).heap[q]? = w2.heap[q]? := fun ho q hq => by
    obtain ⟨cur, hc⟩ := own_blk ho hq
    refine Below.heap_setCell w2 _ _ q fun e => ?_
    have hb := bk2
    unfold Bk at hb
    have e' : q = k := e
    rw [← e', hc] at hb; simp at hb
  have t2' : w2.ownsRow base 22 1 v2 m (vals m E) := own_at h.t2 fun q hq => by
    obtain ⟨cur, hc⟩ := own_blk h.t2 hq
    exact hg.block q (Array.getElem?_eq_some_iff.1 hc).1 fun e => h.sep q hq e.symm
  refine ⟨bk2.set4 _, own_at t2' (kq t2'), ?_, ?_, fun l hl => ⟨(h.e l hl).1.wz z12, (h.e l hl).2.wz (h.e l hl).1 z12 fun _ _ _ h => h⟩, fun l hl => ?_, ?_, h.z.go z12 (fun _ _ _ h => h.elim), h.low, fun b hb => ?_⟩
  · rw [vals_push] at hown
    exact own_at hown (kq hown)
  · intro q hq e
    simp [Value.ownBlock] at e
    subst e
    rcases hat with hat | hat
    · exact h.sep g hq hat
    · obtain ⟨cur, hc⟩ := own_blk h.t2 hq
      have := (Array.getElem?_eq_some_iff.1 hc).1
      omega
  · by_cases el : l = mg
    · subst el
      rw [upd_same, if_pos rfl]
      exact ⟨(h.e l hmg).1.wz z12, (h.e l hmg).2.wz (h.e l hmg).1 z12 (fun _ _ _ h => h), by omega, .inl ⟨rfl, rfl⟩⟩
    · rw [upd_other _ el, if_neg el]
      have q := h.f l (by omega)
      exact ⟨q.1.wz z12, q.2.1.wz q.1 z12 (fun _ _ _ h => h), q.2.2⟩
  · have key : ∀ y, y < mg → ∀ b x, (F y).In b x → ¬ (E mg).In b x := fun y hy b x h1 h2 => by
      rcases (h.f y hy).2.2.2 with ⟨e1, e2⟩ | hfr
      · exact hdj y mg (by omega) hmg (by omega) b x (by unfold Ent.In at *; rw [← e1, ← e2]; exact h1) h2
      · have := hfr b x h1; have := ok_lt (hE0 mg hmg) h2; omega
    intro x y hx hy hxy b c hbx hby
    by_cases ex : x = mg
    · subst ex
      rw [upd_same] at hbx
      rw [upd_other _ (fun e => hxy e.symm)] at hby
      exact key y (by omega) b c hby hbx
    · rw [upd_other _ ex] at hbx
      by_cases ey : y = mg
      · subst ey; rw [upd_same] at hby; exact key x (by omega) b c hbx hby
      · rw [upd_other _ ey] at hby; exact h.d2 x y (by omega) (by omega) hxy b c hbx hby
  · obtain ⟨l1, l2, l3⟩ := h.low
    have hzs := h.z.size
    rw [Below.heap_setCell w2 _ _ b (fun e => by have e' : b = k := e; omega)]
    exact (hg.block b (by omega) fun e => by have := own_base h.t4 e.symm; omega).trans (h.bl b hb)

set_option maxRecDepth 100000 in
set_option maxHeartbeats 2000000 in
theorem bytesGrow0_ (w0 : World) (k base m : Nat) (ps : Int) (E F0 : Nat → Ent) (v2 v3 v4 : Value) (w : World) (h : St w0 w k base m 0 ps (fun _ => 1) E F0 v2 v3 v4) (hE0 : ∀ l, l < m → (E l).Ok w0 ∧ (E l).n ≤ 5000) (hdj : Dj m E) (hm : m ≤ 1000) (hbase : base ≤ w0.heap.size) :
    Calls Tryz.prog 81 #[.pointer (some ⟨k, 0, none⟩), .int .i64 0, .int .i64 0] w fun en w' => en = .returned (.int .i64 m) ∧ ∃ F v4', St w0 w' k base m m ps (fun _ => 1) E F v2 v3 v4' := by
  obtain ⟨i22, hi, hz0, hz1, hz2⟩ := info_parts info22
  obtain ⟨a2, c2, rfl, hg2⟩ := tab_at h.t2
  go_enter Tryz.func81, Tryz.ntmps81
  go_wp2
  go_loopw [1, 7] (fun q i wr => ∃ x : Nat, ∃ F v4', x ≤ m ∧ q = .int .i64 x ∧ i = .int .i64 x ∧ St w0 wr k base m x ps (fun _ => 1) E F (.slice a2 m c2) v3 v4') (fun _ i _ => m - (intOf i).toNat)
  case atStart => exact ⟨0, F0, v4, by omega, rfl, rfl, h⟩
  case round =>
    obtain ⟨x, F, v4', hx, rfl, rfl, hS⟩ := hrel
    obtain ⟨a4, c4, rfl, hg4⟩ := tab_at hS.t4
    have d2 := hS.bk.c2
    have d4 := hS.bk.c4
    by_cases hlt : x < m
    · obtain ⟨_, _, e4, hcell⟩ := tab_at hS.t2
      simp at e4
      obtain ⟨rfl, rfl⟩ := e4
      rcases hcell with hcell | ⟨g2, rfl, _, hcell⟩
      · omega
      have dg : wr.cell? ⟨g2, x, none⟩ = some (.slice (E x).a (E x).n (E x).c) := hcell x hlt
      have hEx := hE0 x hlt
      have i1 : (x : Int) < (m : Int) := by omega
      have HS := hid hS
      have ew : Hid (base ≤ wr.heap.size) := by show _ ≤ _; have := hS.z.size; omega
      clear hcell hS hg4 h hg2
      have HX : Hid ((E x).val = .slice (E x).a (E x).n (E x).c) := rfl
      generalize hea : (E x).a = ea at *
      generalize hen : (E x).n = en at *
      generalize hec : (E x).c = ec at *
      have HEn := hid hen
      clear hea hen hec
      have HSd : Hid (St w0 (wr.alloc (.cells #[.slice ea en ec] 22)).drew k base m x ps (fun _ => 1) E F (.slice (some ⟨g2, 0, none⟩) m c2) v3 (.slice a4 x c4)) := st_drew (st_alloc HS.out _)
      have za4 : (wr.alloc (.cells #[.slice ea en ec] 22)).cell? ⟨k, 4, none⟩ = some (.slice a4 x c4) := HSd.out.bk.c4
      have za2 : (wr.alloc (.cells #[.slice ea en ec] 22)).cell? ⟨k, 2, none⟩ = some (.slice (some ⟨g2, 0, none⟩) m c2) := HSd.out.bk.c2
      have zag : (wr.alloc (.cells #[.slice ea en ec] 22)).cell? ⟨g2, x, none⟩ = some (.slice ea en ec) := by
        rw [World.cell?_of_block (w := wr) (Below.heap_alloc wr _ g2 (World.block_lt_of_cell? wr _ dg))]; exact dg
      go_wp2_with fail
      go_region_law (refine step_append_lies _ rfl (.tmp 26) (.tmp 34) 32 rfl base 22 i22 (.slice none 0 0) 1 24 Tryz.underlying32 hi hz0 hz1 hz2 rfl (by decide) (.slice a4 x c4) x (vals x F) rfl HSd.out.t4 ⟨wr.heap.size, 0, none⟩ 1 1 [.slice ea en ec] rfl rfl (fun j u hj => by
          match j, hj with
          | 0, hj => simp at hj; subst hj; simp [Addr.add]) (by intro u hu; simp at hu; subst hu; rfl) (by omega) (by unfold maxLen; omega) (by omega) (by have := ew.out; simp; omega) _ rfl ?_; intro g cap w2 hown hgrow hat hltg; have yk := (grown_bk HSd.out hgrow); have y4 := yk.c4; have f4 := yk.fz 4; clear yk)
      all_goals
        have HP : Hid (St w0 (w2.setCell ⟨k, 4, none⟩ (.slice (some ⟨g, 0, none⟩) (x + 1) cap)) k base m (x + 1) ps (fun j => if j = x then 0 else 1) E (upd F x (E x)) (.slice (some ⟨g2, 0, none⟩) m c2) v3 (.slice (some ⟨g, 0, none⟩) (x + 1) cap)) :=
          st_push HSd.out hlt (by rw [HX.out]; exact hown) hgrow hat rfl hdj fun l hl => (hE0 l hl).1
        clear hown hgrow hat hltg y4 f4 za4 za2 zag HSd HS dg d4 d2
        generalize hwv : w2.setCell ⟨k, 4, none⟩ (.slice (some ⟨g, 0, none⟩) (x + 1) cap) = wv at *
        clear hwv
        have b4 := HP.out.bk.c4
        have b2 := HP.out.bk.c2
        obtain ⟨_, _, e4, hcell⟩ := tab_at HP.out.t4
        simp at e4
        obtain ⟨rfl, rfl⟩ := e4
        rcases hcell with hcell | ⟨gg, e5, _, hcell⟩
        · omega
        simp at e5
        subst e5
        have dg : wv.cell? ⟨g, x, none⟩ = some (.slice ea en ec) := by have := hcell x (by omega); rw [upd_same, HX.out] at this; exact this
        have hnb : en ≤ 9000 := by have := hEx.2; have := HEn.out; omega
        have HB := hid (byteMark_ k ps ((x : Int) + 1) en (.slice (some ⟨g2, 0, none⟩) m c2) v3 (.slice (some ⟨g, 0, none⟩) (x + 1) cap) wv HP.out.bk (by omega) (by omega) (by omega) (by omega))
        have mb := mk_byte ps ((x : Int) + 1) en
        have i2 : (x : Int) < (x : Int) + 1 := by omega
        clear hcell
        generalize hz : mk ps ((x : Int) + 1) en = zz at *
        have HZ := hid hz
        clear hz
        go_wp2_with fail
        refine HB.out.mono ?_
        rintro e w' ⟨rfl, hw⟩
        obtain rfl := hw.symm
        clear hw
        have HSd : Hid (St w0 (wv.alloc (.cells #[.int .u8 zz] 5)).drew k base m (x + 1) ps (fun j => if j = x then 0 else 1) E (upd F x (E x)) (.slice (some ⟨g2, 0, none⟩) m c2) v3 (.slice (some ⟨g, 0, none⟩) (x + 1) cap)) := st_drew (st_alloc HP.out _)
        have HOd : Hid (Ent.Ok (wv.alloc (.cells #[.int .u8 zz] 5)).drew (E x)) := by have := (HSd.out.f x (by omega)).1; rwa [upd_same] at this
        have Hzz : Hid ((wv.alloc (.cells #[.int .u8 zz] 5)).drew.cell? ⟨wv.heap.size, 0, none⟩ = some (.int .u8 zz)) := by
          show (wv.alloc (.cells #[.int .u8 zz] 5)).cell? _ = _
          rw [cell_of_row _ wv.heap.size 0 _ 5 (0, 0) (heap_alloc_new wv _)]; rfl
        have za4 : (wv.alloc (.cells #[.int .u8 zz] 5)).cell? ⟨k, 4, none⟩ = some (.slice (some ⟨g, 0, none⟩) (x + 1) cap) := HSd.out.bk.c4
        have zag : (wv.alloc (.cells #[.int .u8 zz] 5)).cell? ⟨g, x, none⟩ = some (.slice ea en ec) := by
          rw [World.cell?_of_block (w := wv) (Below.heap_alloc wv _ g (World.block_lt_of_cell? wv _ dg))]; exact dg
        have Hn : Hid ((E x).n ≤ 99999) := by have := HEn.out; show _ ≤ _; omega
        go_wp2_with fail
        go_region_law (refine step_append_ent rfl (.tmp 60) (.tmp 62) rfl (E x) zz wv.heap.size (by rw [HX.out]; rfl) rfl HOd.out Hn.out Hzz.out ?_; intro e' w3 hG; obtain ⟨ea', en', ec'⟩ := e'; have y4 := (grew_bk HSd.out.bk HOd.out hG).c4; obtain ⟨yg, yf⟩ := grew_tab HSd.out.t4 HOd.out hG x (by omega))
        all_goals
          have HF : Hid (∃ F', St w0 (w3.setCell ⟨g, x, none⟩ (.slice ea' en' ec')) k base m (x + 1) ps (fun _ => 1) E F' (.slice (some ⟨g2, 0, none⟩) m c2) v3 (.slice (some ⟨g, 0, none⟩) (x + 1) cap)) := by
            refine ⟨_, st_T (st_grow (e' := ⟨ea', en', ec'⟩) HSd.out (show x < x + 1 by omega) hlt (by rw [upd_same]; rw [HEn.out, HZ.out]; exact hG) (by rw [upd_same]; exact Hn.out) hdj fun l hl => (hE0 l hl).1) fun j hj => ?_⟩
            by_cases e1 : j = x
            · subst e1; simp
            · simp [e1]
          clear hG y4 yg yf za4 zag HSd HOd Hzz HP dg b4 b2
          go_wp2_with fail
          go_roundw
          case rel =>
            obtain ⟨F', hF'⟩ := HF.out
            exact ⟨x + 1, F', _, by omega, by go_num, by go_num, hF'⟩
          case measure => simp [intOf]; omega
    · obtain rfl : m = x := by omega
      go_wp2_with fail
      go_ret
      exact ⟨rfl, F, _, hS⟩
end Go.Proofs.YtbkeejapongmlaaGreatDoor.Kp
