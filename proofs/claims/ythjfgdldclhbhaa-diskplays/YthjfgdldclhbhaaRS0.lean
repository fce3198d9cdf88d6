import Derived.Test.YthjfgdldclhbhaaRV
namespace Go.Proofs.Ythjfgdldclhbhaa
set_option maxRecDepth 100000
open Go.RowKit Go.Shelf
set_option linter.unusedVariables false

/-- append of nothing. -/
theorem wpList_app0 {w : World} {ops : Array Oper} {rest : List Oper} {o : Oper} {act : Act} {Q : Exit → Act → World → Prop} (hgd : o.guard = none) (s x : Operand)
    (ho : o.op = .call { callee := .builtin .append, args := #[s, x], argTypes := #[25, 25] }) (g n cap : Nat) (hs : act.eval s = .slice (some ⟨g, 0, none⟩) n cap) (a : Option Addr) (c : Nat) (hx : act.eval x = .slice a 0 c) (hn : n ≤ cap)
    (h : ∀ w', Hid (w' = w) → wpList Try.prog ops Q rest (act.put o.dst (.slice (some ⟨g, 0, none⟩) n cap)) w') : wpList Try.prog ops Q (o :: rest) act w := by
  obtain ⟨i5, hi, hz0, hz1, hz2⟩ := info_parts info5
  have hr : (Builtin.append_ #[25, 25] o.type #[.slice (some ⟨g, 0, none⟩) n cap, .slice a 0 c]).run Try.prog w = .ok (.slice (some ⟨g, 0, none⟩) n cap) w := by
    cases a with
    | none => simp [Builtin.append_, run_underlying Try.underlying25, sizeOf, typeInfo, hi, Builtin.lenOf, Builtin.firstCells, hn, storeCells]
    | some ad => simp [Builtin.append_, run_underlying Try.underlying25, sizeOf, typeInfo, hi, Builtin.lenOf, Builtin.firstCells, hn, storeCells, loadCells, loadCellsFrom]
  refine wpList_plain hgd fun _ hK => ?_
  unfold Oper.wp execOp
  simp only [ho, resolve, invoke, builtin, Sem.run_bind, Sem.run_pure, Result.andThen_ok, List.map_toArray, List.map_cons, List.map_nil, hs, hx, hr]
  exact hK _ _ (h w rfl)
set_option maxHeartbeats 4000000 in
theorem desk0_ (k : Nat) (T : Nat → Prop) (v : Value) (m : Nat) (xs : List Value) (ab : Option Addr) (c : Nat) (w : World) (h : Ds w k T v m xs) (hT : ∀ b, w.heap.size ≤ b → T b) :
    Calls Try.prog 66 #[.pointer (some ⟨k, 0, none⟩), .slice ab 0 c] w fun en w' => ∃ g cap, en = .returned (.slice (some ⟨g, 0, none⟩) 3 cap) ∧ Ds w' k T (.slice (some ⟨g, 0, none⟩) 3 cap) 3 (cells [161, 162, 163]) ∧ Fr T w w' := by
  obtain ⟨i, hi, hz0, hz1, hz2⟩ := info_parts info5
  have HTT := hid hT
  obtain ⟨a0, c0', hv⟩ : ∃ a0 c0, v = .slice a0 m c0 := by
    rcases h.own.2 with ⟨rfl, rfl⟩ | ⟨g, cap, cur, rfl, _⟩
    · exact ⟨_, _, rfl⟩
    · exact ⟨_, _, rfl⟩
  subst hv
  have c0 := h.c0
  have HD := hid h
  have hsm := h.sm
  clear hT
  by_cases hm : m = 0
  · subst hm
    have f0 := h.fz
    clear h
    go_enter Try.func66, Try.ntmps66
    go_wp2_with (first
      | (at_make; refine wpList_make_own _ rfl _ _ 25 rfl 0 5 i (.int .u8 0) 1 Try.underlying25 hi hz0 hz1 .i64 .i64 _ 1024 rfl rfl (by first | rfl | omega) (by rw [hz2]; omega) (by unfold maxLen; omega) (Nat.zero_le _) ?_; intro w1 hown hg1; obtain ⟨⟨y1, yf⟩, D1, F1⟩ := HD.out.grow (.inr rfl) hg1 hown (.inr (Nat.le_refl _)) HTT.out (by omega); have HD1 := hid D1; have HF1 := hid F1; have z0 := D1.c0; clear hown hg1 D1 F1 c0 f0)
      | (at_builtin; refine wpList_app0 rfl (.tmp 20) (.tmp 21) rfl w.heap.size 0 1024 rfl ab c rfl (Nat.zero_le _) ?_; intro w2 e2; have G2 : World.grownBy (w1.setCell ⟨k, 0, none⟩ (.slice (some ⟨w.heap.size, 0, none⟩) 0 1024)) w2 none := (by rw [e2.out]; exact grown_refl _ _); have o2 : w2.ownsRow 0 5 1 (.slice (some ⟨w.heap.size, 0, none⟩) 0 1024) 0 [] := (by rw [e2.out]; exact own_cut HD1.out.own); obtain ⟨⟨y2, yf2⟩, D2, F2⟩ := HD1.out.grow (.inr rfl) G2 o2 (.inl rfl) (fun b hb => HTT.out b (Nat.le_trans HF1.out.size hb)) (by omega); have HD2 := hid D2; have HF2 := hid (HF1.out.trans F2); have z2 := D2.c0; have d3 := desk3 (w2.setCell ⟨k, 0, none⟩ (.slice (some ⟨w.heap.size, 0, none⟩) 0 1024)); rw [show (w2.setCell ⟨k, 0, none⟩ (.slice (some ⟨w.heap.size, 0, none⟩) 0 1024)).heap.size = w2.heap.size from by simp [World.setCell]] at d3; have HN3 := hid d3; clear o2 G2 D2 F2 d3 e2)
      | (at_builtin; refine wpList_append_lies _ rfl (.tmp 29) (.tmp 30) 25 rfl 0 5 i (.int .u8 0) 1 1 Try.underlying25 hi hz0 hz1 hz2 rfl (by decide) (.slice (some ⟨w.heap.size, 0, none⟩) 0 1024) 0 [] rfl (by exact HD2.out.own.alloc _) ⟨w2.heap.size, 0, none⟩ 3 3 (cells [161, 162, 163]) rfl rfl (by exact HN3.out) (cells_one _) (by decide) (by unfold maxLen; omega) (by omega) (Nat.zero_le _) _ rfl ?_; intro g3 cap3 w3 o3 G3 L3 _; simp only [Nat.zero_add, List.nil_append] at o3 ⊢; obtain ⟨⟨y3, yf3⟩, D3, F3⟩ := (HD2.out.keep (fun b _ hl => ((Below.refl _ _).alloc (Nat.le_refl _) (.cells #[.int .u8 161, .int .u8 162, .int .u8 163] 5)).block b hl) (fun _ q _ => q)).grow (.inl rfl) G3 o3 (L3.imp id (fun q => Nat.le_of_eq q.symm)) (fun b hb => HTT.out b (Nat.le_trans HF2.out.size (Nat.le_trans ((Below.refl _ _).alloc (Nat.le_refl _) (.cells #[.int .u8 161, .int .u8 162, .int .u8 163] 5)).size hb))) (by omega); have HD3 := hid D3; have HF3 := hid ((HF2.out.below ((Below.refl _ _).alloc (Nat.le_refl _) (.cells #[.int .u8 161, .int .u8 162, .int .u8 163] 5))).trans F3); have z3 := D3.c0; clear o3 G3 L3 D3 F3))
    go_ret
    exact ⟨_, _, rfl, HD3.out, HF3.out⟩
  · obtain ⟨g0, hga⟩ : ∃ g0, a0 = some ⟨g0, 0, none⟩ := by
      rcases h.own.2 with ⟨_, q⟩ | ⟨g, cap, cur, q, _⟩
      · exact absurd q hm
      · exact ⟨g, by simp at q; exact q.1⟩
    subst hga
    have HD1 := hid h
    have HF1 : Hid (Fr T w w) := Fr.refl _ _
    have tm : ((m : Int) == 0) = false := by simp; omega
    have hmc : (0 : Int) ≤ (c0' : Int) := by omega
    clear h
    go_enter Try.func66, Try.ntmps66
    go_wp2_with (first
      | (at_builtin; refine wpList_app0 rfl (.tmp 20) (.tmp 21) rfl g0 0 c0' rfl ab c rfl (Nat.zero_le _) ?_; intro w2 e2; have G2 : World.grownBy w w2 none := (by rw [e2.out]; exact grown_refl _ _); have o2 : w2.ownsRow 0 5 1 (.slice (some ⟨g0, 0, none⟩) 0 c0') 0 [] := (by rw [e2.out]; exact own_cut HD1.out.own); obtain ⟨⟨y2, yf2⟩, D2, F2⟩ := HD1.out.grow (.inr rfl) G2 o2 (.inl rfl) (fun b hb => HTT.out b (Nat.le_trans HF1.out.size hb)) (by omega); have HD2 := hid D2; have HF2 := hid (HF1.out.trans F2); have z2 := D2.c0; have d3 := desk3 (w2.setCell ⟨k, 0, none⟩ (.slice (some ⟨g0, 0, none⟩) 0 c0')); rw [show (w2.setCell ⟨k, 0, none⟩ (.slice (some ⟨g0, 0, none⟩) 0 c0')).heap.size = w2.heap.size from by simp [World.setCell]] at d3; have HN3 := hid d3; clear o2 G2 D2 F2 d3 e2)
      | (at_builtin; refine wpList_append_lies _ rfl (.tmp 29) (.tmp 30) 25 rfl 0 5 i (.int .u8 0) 1 1 Try.underlying25 hi hz0 hz1 hz2 rfl (by decide) (.slice (some ⟨g0, 0, none⟩) 0 c0') 0 [] rfl (by exact HD2.out.own.alloc _) ⟨w2.heap.size, 0, none⟩ 3 3 (cells [161, 162, 163]) rfl rfl (by exact HN3.out) (cells_one _) (by decide) (by unfold maxLen; omega) (by omega) (Nat.zero_le _) _ rfl ?_; intro g3 cap3 w3 o3 G3 L3 _; simp only [Nat.zero_add, List.nil_append] at o3 ⊢; obtain ⟨⟨y3, yf3⟩, D3, F3⟩ := (HD2.out.keep (fun b _ hl => ((Below.refl _ _).alloc (Nat.le_refl _) (.cells #[.int .u8 161, .int .u8 162, .int .u8 163] 5)).block b hl) (fun _ q _ => q)).grow (.inl rfl) G3 o3 (L3.imp id (fun q => Nat.le_of_eq q.symm)) (fun b hb => HTT.out b (Nat.le_trans HF2.out.size (Nat.le_trans ((Below.refl _ _).alloc (Nat.le_refl _) (.cells #[.int .u8 161, .int .u8 162, .int .u8 163] 5)).size hb))) (by omega); have HD3 := hid D3; have HF3 := hid ((HF2.out.below ((Below.refl _ _).alloc (Nat.le_refl _) (.cells #[.int .u8 161, .int .u8 162, .int .u8 163] 5))).trans F3); have z3 := D3.c0; clear o3 G3 L3 D3 F3))
    go_ret
    exact ⟨_, _, rfl, HD3.out, HF3.out⟩
end Go.Proofs.Ythjfgdldclhbhaa
namespace Go.Proofs.Ythjfgdldclhbhaa
set_option maxRecDepth 100000
open Go.RowKit Go.Shelf
set_option linter.unusedVariables false

set_option maxHeartbeats 8000000 in
theorem pwrite0_ (p d e k : Nat) (s : St) (Q N T : Nat → Prop) (v : Value) (m : Nat) (xs : List Value) (i : Int) (ab : Option Addr) (n c : Nat) (zs : List Int) (w : World) (h : Pa w p d e k s Q N) (hd : Ds w k T v m xs) (hT : ∀ b, T b → b < w.heap.size ∧ ¬ Q b ∧ ¬ N b ∧ b ≠ p) (hb : Bs w ab n zs) (h0 : n = 0) (hc : s.c ≤ 100000) (hp : s.P.length ≤ 100000) :
    Calls Try.prog 37 #[.pointer (some ⟨p, 0, none⟩), .int .i64 i, .slice ab n c] w fun en w' => en = .returned (.bool true) ∧ Pw w w' p d e k (wrS s i zs) Q N T := by
  have c2 := h.c2
  have hql := h.dev.lt
  have hnl := h.nl
  have hpw := h.lt
  have hz0 : zs = [] := List.eq_nil_of_length_eq_zero (hb.1.trans h0)
  have kd : Calls Try.prog 66 #[.pointer (some ⟨k, 0, none⟩), .slice ab n c] w fun en w' => ∃ g cap, en = .returned (.slice (some ⟨g, 0, none⟩) (n + 3) cap) ∧ Ds w' k (fun b => T b ∨ w.heap.size ≤ b) (.slice (some ⟨g, 0, none⟩) (n + 3) cap) (n + 3) (cells (zs ++ [161, 162, 163])) ∧ Fr (fun b => T b ∨ w.heap.size ≤ b) w w' := by
    subst h0 hz0
    exact desk0_ k (fun b => T b ∨ w.heap.size ≤ b) v m xs ab c w (hd.keep (fun _ _ _ => rfl) (fun b q _ => .inl q)) (fun b q => .inr q)
  have hn : n ≤ 65536 := by omega
  have HN0 := hid h0
  clear hz0 h0
  have HP := hid h
  have HB := hid hb
  have HT := hid hT
  have hzb : ∀ z ∈ zs ++ [161, 162, 163], 0 ≤ z ∧ z ≤ 255 := fun z hz => by
    rcases List.mem_append.1 hz with hz | hz
    · exact hb.2.1 z hz
    · simp at hz
      omega
  have hzl := hb.1
  have HZB := hid hzb
  obtain ⟨E, HE⟩ : ∃ E, Hid (wrE s i n = E) := ⟨_, rfl⟩
  have tE : (E == E) = true := by simp
  clear h hd hT hb hzb
  go_enter Try.func37, Try.ntmps37
  go_wp2_with fail
  refine kd.mono ?_
  rintro en w0 ⟨g, cap, rfl, D0, F0⟩
  have s0 := F0.size
  have P0 := HP.out.fr F0 (fun b hb hl => by
    rcases hb with hb | hb
    · exact (HT.out b hb).2
    · omega)
  have hgT : T g ∨ w.heap.size ≤ g := D0.tv g rfl
  have hgl : g < w0.heap.size := (D0.own.lt g rfl).2
  have hnQ : ¬ Q g := fun q => by
    rcases hgT with t | t
    · exact (HT.out g t).2.1 q
    · have := hql g q
      omega
  have hnN : ¬ N g := fun q => by
    rcases hgT with t | t
    · exact (HT.out g t).2.2.1 q
    · have := hnl g q
      omega
  have hgp : g ≠ p := fun q => by
    rcases hgT with t | t
    · exact (HT.out g t).2.2.2 q
    · omega
  obtain ⟨Bx, hcap, hcm⟩ := own_bs D0.own HZB.out
  have HD0 := hid (D0.keep (w' := w0) (R := fun b => T b ∨ (w.heap.size ≤ b ∧ b < w0.heap.size)) (fun _ _ _ => rfl) (fun b hb hl => by
    rcases hb with hb | hb
    · exact .inl hb
    · exact .inr ⟨hb, hl⟩))
  have HF0 := hid F0
  have HP0 := hid P0
  have kb := refBytes (some ⟨g, 0, none⟩) (n + 3) cap (zs ++ [161, 162, 163]) w0 Bx (by omega)
  have HBX := hid Bx
  clear kd D0 F0 P0 c2 Bx
  go_wp2_with fail
  refine kb.mono ?_
  rintro en w1 ⟨v1, rfl, o1, g1⟩
  obtain ⟨a1, c1, rfl, b1, _, _, _⟩ := own_form o1 HZB.out
  have ha1 : ∀ x, a1 = some x → w0.heap.size ≤ x.block := fun x q => by
    have := (o1.lt x.block (by rw [q]; rfl)).1
    exact this
  have P1 := HP0.out.below g1
  have c0 := P1.c0
  have Bx1 := HBX.out.below g1
  have Bz1 : Bs w1 (some ⟨g, 0, none⟩) n zs := by
    have := Bx1.cut11 (show n ≤ n + 3 by omega)
    rwa [List.take_left' hzl] at this
  have kc : ∀ wx, Drawn w1 wx → Calls Try.prog 33 #[.pointer (some ⟨d, 0, none⟩), .int .i64 i, .slice (some ⟨g, 0, none⟩) n (n + 3)] wx fun en w' => en = .returned (.int .i64 E) ∧ Dev w' d (wrS s i zs) (fun b => Q b ∨ (w1.heap.size ≤ b ∧ b < w'.heap.size)) ∧ Fr Q w1 w' := fun wx hx => by
    have := write_ d s Q i (some ⟨g, 0, none⟩) n (n + 3) zs wx (P1.dev.below hx.below) (by omega) (by omega) (Bz1.below hx.below) (fun a ha _ => by obtain rfl := Option.some.inj ha; exact hnQ)
    rw [HE.out] at this
    exact this.mono (fun en w' ⟨a, b, c⟩ => ⟨a, by rw [hx.heap] at b; exact b, ⟨c.os.trans hx.os, c.tape.trans hx.tape, c.output.trans hx.output, by rw [← hx.heap]; exact c.size, fun b hb hn => by
      have := c.same b (by rw [hx.heap]; exact hb) hn
      rw [hx.heap] at this
      exact this⟩⟩)
  have HPR := hid P1.pr
  have HPL := hid P1.lt
  have HG1 := hid g1
  have HX1 := hid Bx1
  have HW1 := hid b1
  have HA1 := hid ha1
  have nI : (n : Int) ≤ ((n + 3 : Nat) : Int) := by omega
  have nC : ((n + 3 : Nat) : Int) ≤ (cap : Int) := by omega
  clear kb o1 g1 b1 P1 Bx1 Bz1 ha1
  go_wp2_with fail
  go_region_held (fun wx => wx.cell? ⟨p, 0, none⟩ = some (.pointer (some ⟨d, 0, none⟩))) (go_keep) (first | (go_at_call 33; refine (kc _ (by exact ⟨rfl, rfl, rfl, rfl⟩)).mono ?_; rintro en w2 ⟨rfl, D2, F2⟩; have u := (F2.same p HPL.out HP.out.nq).trans HPR.out; have u0 : w2.cell? ⟨p, 0, none⟩ = some (.pointer (some ⟨d, 0, none⟩)) := (cell_of_row _ _ 0 _ _ (0, 0) u).trans rfl))
  have X2 := HX1.out.fr F2 (fun a ha _ => by obtain rfl := Option.some.inj ha; exact hnQ)
  have W2 := HW1.out.fr F2 (fun x hx _ q => by have := HA1.out x hx; have := hql _ q; omega)
  have ksm := same_yes (some ⟨g, 0, none⟩) a1 (n + 3) cap (n + 3) c1 (zs ++ [161, 162, 163]) w2 X2 W2 (by omega) (by omega)
  have s1 := HG1.out.size
  have s2 := F2.size
  have HDS := hid ((HD0.out.keep (w' := w1) (R := fun b => T b ∨ (w.heap.size ≤ b ∧ b < w0.heap.size)) (fun b _ hl => HG1.out.block b hl) (fun _ q _ => q)).keep (w' := w2) (R := fun b => T b ∨ (w.heap.size ≤ b ∧ b < w0.heap.size)) (fun b hb hl => F2.same b hl (fun q => by
    rcases hb with hb | hb
    · exact (HT.out b hb).2.1 q
    · have := hql b q
      omega)) (fun _ q _ => q))
  have HU := hid u
  have HD2 := hid D2
  have HF2 := hid F2
  clear kc D2 F2 X2 W2 u0 u c0
  go_wp2_with fail
  refine ksm.mono ?_
  rintro en w3 ⟨rfl, d3⟩
  have HDS3 := hid (HDS.out.keep (w' := w3) (R := fun b => T b ∨ (w.heap.size ≤ b ∧ b < w0.heap.size)) (fun b _ hl => d3.below.block b hl) (fun _ q _ => q))
  have HFR : Hid (Fr (fun b => b = g) w2 w3) := Fr.ofB d3.below
  clear ksm d3
  go_wp2_with fail
  go_loopw [11] (fun i wr => ∃ (j : Nat) (ys : List Value), j ≤ n + 3 ∧ i = .int .i64 j ∧ Ds wr k (fun b => T b ∨ (w.heap.size ≤ b ∧ b < w0.heap.size)) (.slice (some ⟨g, 0, none⟩) (n + 3) cap) (n + 3) ys ∧ Fr (fun b => b = g) w2 wr) (fun i _ => n + 3 - (intOf i).toNat)
  case atStart => exact ⟨0, _, Nat.zero_le _, rfl, HDS3.out, HFR.out⟩
  case round =>
    clear HDS3 HFR HDS
    obtain ⟨j, ys, hj, rfl, hx, hf⟩ := hrel
    by_cases hlt : j < n + 3
    · have hjI : (j : Int) < ((n + 3 : Nat) : Int) := by omega
      obtain ⟨⟨⟨xv, xb⟩, fj⟩, ys', hx'⟩ := hx.set hlt (.int .u8 238)
      have HXN := hid hx'
      have HFN := hid (hf.trans (Fr.of (Q := fun b => b = g) (grown_set (grown_refl wr (some g)) j (.int .u8 238)) rfl))
      clear hx hf hlt hx'
      go_wp2_with fail
      go_roundw
      case rel => exact ⟨j + 1, ys', by omega, by go_num, HXN.out, HFN.out⟩
      case measure => simp [intOf]; omega
    · have hjI : ¬ (j : Int) < ((n + 3 : Nat) : Int) := by omega
      have s4 := hf.size
      have hpr := (hf.same p (by have := HPL.out; omega) (Ne.symm hgp)).trans HU.out
      have cp1 : wr.cell? ⟨p, 1, none⟩ = some (.pointer (some ⟨e, 0, none⟩)) := (cell_of_row _ _ 1 _ _ (0, 0) hpr).trans rfl
      have hnlt := HP0.out.nl
      have R : Rd wr e s (fun b => N b ∨ wr.heap.size ≤ b) := HP0.out.ref.keep (fun b hb hl => (hf.same b (by omega) (fun q => hnN (by rw [← show b = g from q]; exact hb))).trans ((HF2.out.same b (by omega) (fun q => HP.out.ap b q hb)).trans (HG1.out.block b hl))) (fun b hb _ => .inl hb)
      obtain ⟨r1, r2, r3, r4, r5, r6, r7, r8, R⟩ := R
      have BR : Bs wr ab n zs := ⟨HB.out.1, HB.out.2.1, .inl HN0.out⟩
      have kr := rwrite_ e i s _ r1 r2 r3 r4 r5 r6 r7 r8 ab n c zs wr R (fun b hb => .inr hb) (by omega) (by omega) BR (fun a ha h1 => by have := HN0.out; omega)
      rw [HE.out] at kr
      have HFE := hid hf
      have HXX : Hid (∀ b, (fun b => b = g) b → b < w0.heap.size ∧ ¬ Q b ∧ ¬ N b ∧ b ≠ p) := fun b hb => by
        have e1 : b = g := hb
        subst e1
        exact ⟨hgl, hnQ, hnN, hgp⟩
      have HDX := hid hx
      clear hx hf R BR
      go_wp2_with fail
      refine kr.mono ?_
      rintro en w5 ⟨rfl, R5, F5⟩
      have s5 := F5.size
      have EN := pa_endX HP0.out HG1.out HD2.out HF2.out HXX.out HFE.out R5 F5
      have DE : Ds w5 k (fun b => T b ∨ (w.heap.size ≤ b ∧ b < w0.heap.size)) (.slice (some ⟨g, 0, none⟩) (n + 3) cap) (n + 3) ys := HDX.out.keep (fun b hb hl => F5.same b hl (fun q => by
        rcases q with q | q
        · rcases hb with hb | hb
          · exact (HT.out b hb).2.2.1 q
          · have := hnl b q
            omega
        · omega)) (fun _ q _ => q)
      have FIN : Hid (Pw w w5 p d e k (wrS s i zs) Q N T) := by
        refine ⟨_, _, _, _, _, _, EN.1, DE, fun b hb => ?_, fun b hb => ?_, ?_⟩
        · rcases hb with hb | hb
          · obtain ⟨t1, t2, t3, t4⟩ := HT.out b hb
            refine ⟨by omega, fun q => ?_, fun q => ?_, t4⟩
            · rcases q with q | q
              · exact t2 q
              · omega
            · rcases q with q | q
              · exact t3 q
              · omega
          · refine ⟨by omega, fun q => ?_, fun q => ?_, by omega⟩
            · rcases q with q | q
              · have := hql b q
                omega
              · omega
            · rcases q with q | q
              · have := hnl b q
                omega
              · omega
        · rcases hb with (hb | hb) | (hb | hb) | (hb | hb)
          · exact .inl hb
          · exact .inr (.inr (.inr (by omega)))
          · exact .inr (.inl hb)
          · exact .inr (.inr (.inr (by omega)))
          · exact .inr (.inr (.inl hb))
          · exact .inr (.inr (.inr hb.1))
        · have F2 := EN.2
          refine ⟨F2.os.trans HF0.out.os, F2.tape.trans HF0.out.tape, F2.output.trans HF0.out.output, by omega, fun b hb hn => (F2.same b (by omega) (fun q => ?_)).trans (HF0.out.same b hb (fun q => ?_))⟩
          · rcases q with q | q | q
            · exact hn (.inl q)
            · exact hn (.inr (.inl q))
            · have e1 : b = g := q
              rcases hgT with t | t
              · exact hn (.inr (.inr (by rw [e1]; exact t)))
              · omega
          · rcases q with q | q
            · exact hn (.inr (.inr q))
            · omega
      clear kr R5 F5 EN DE
      go_wp2_with (go_at_call 19; refine (num_ _ _).mono ?_; rintro e w' ⟨rfl, hw⟩; obtain rfl := hw.symm; clear hw)
      go_ret
      exact ⟨rfl, FIN.out⟩
end Go.Proofs.Ythjfgdldclhbhaa
