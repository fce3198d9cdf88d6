import Derived.Test.YtghehfhkiknjhaaUE
namespace Go.Proofs.Ytghehfhkiknjhaa
set_option maxRecDepth 100000
open Go.RowKit Go.Shelf Go.Maps
set_option linter.unusedVariables false

theorem run_equalIn_func13 (w : World) (d gl : Nat) : (Op.equalIn (d + 1) 98 (.func (.func 71) #[] #[.pointer (some ⟨gl, 0, none⟩)]) .nilFunc).run Try.prog w = .ok false w := by
  simp [Op.equalIn, run_underlying Try.underlying98]
theorem run_eql_func13 (w : World) (gl : Nat) : (binOp .eql 98 (.func (.func 71) #[] #[.pointer (some ⟨gl, 0, none⟩)]) .nilFunc).run Try.prog w = .ok (.bool false) w := by
  simp only [binOp]
  simp [show Op.equal 98 (.func (.func 71) #[] #[.pointer (some ⟨gl, 0, none⟩)]) .nilFunc = Op.equalIn (9999 + 1) 98 (.func (.func 71) #[] #[.pointer (some ⟨gl, 0, none⟩)]) .nilFunc from rfl, run_equalIn_func13 w 9999 gl]
set_option maxHeartbeats 2000000 in
/-- The law's rows: all that a table goes through. -/
theorem rows_ (t b : Nat) (V : Nat → Prop) (M : Tab) (N : Int) (w : World) (h : Tw w t b V M) (hML : M.length ≤ 100000000) (hN : (M.length : Int) ≤ N) :
    Calls Try.prog 22 #[.pointer (some ⟨t, 0, none⟩), .int .i64 N] w fun e w' => ∃ a n c, n = M.length ∧ e = .returned (.slice a n c) ∧ Rl w' (fun x => w.heap.size ≤ x) a n M ∧ n ≤ c ∧ c ≤ maxLen ∧ (a = none → c = 0) ∧ Below w.heap.size w w' := by
  have h' : Tw w t b (fun x => V x ∧ x < w.heap.size) M := h.wide fun x hx hv => ⟨hv, hx⟩
  have HT := hid h'
  have B0 : Below w.heap.size w ((w.alloc (.cells #[.int .i64 N] 3)).alloc (.cells #[.slice none 0 0] 51)) := ((Below.refl _ _).alloc (Nat.le_refl _) _).alloc (by simp) _
  have k1 := all_ t b _ M _ (h'.below B0) (by omega)
  have HB0 := hid B0
  have HV0 : Hid (((w.alloc (.cells #[.int .i64 N] 3)).alloc (.cells #[.slice none 0 0] 51)).heap[w.heap.size + 1]? = some (.cells #[.slice none 0 0] 51 (0, 0))) := by
    have := heap_alloc_new (w.alloc (.cells #[.int .i64 N] 3)) (.cells #[.slice none 0 0] 51)
    rw [World.size_alloc] at this
    exact this
  have HC0 : Hid (((w.alloc (.cells #[.int .i64 N] 3)).alloc (.cells #[.slice none 0 0] 51)).heap[w.heap.size]? = some (.cells #[.int .i64 N] 3 (0, 0))) := (Below.heap_alloc _ _ _ (by simp)).trans (heap_alloc_new w _)
  have HS0 : Hid (((w.alloc (.cells #[.int .i64 N] 3)).alloc (.cells #[.slice none 0 0] 51)).heap.size = w.heap.size + 2) := by simp [Hid]
  clear h h' B0
  go_enter Try.func22, Try.ntmps22
  go_wp2_with fail
  refine k1.mono ?_
  rintro e w2 ⟨gl, a, n, c, hn, rfl, gd2, hgl, g2⟩
  have HGD : Hid (Gd w2 (fun x => ((V x ∧ x < w.heap.size) ∨ w.heap.size + 2 ≤ x) ∧ x < w2.heap.size) gl a n c M) := by
    refine ⟨gd2.cell, gd2.rl.wide fun x hx h => ⟨by rw [HS0.out] at h; exact h, hx⟩, ⟨.inr (by rw [HS0.out] at hgl; exact hgl), gd2.lt⟩⟩
  have HB2 : Hid (Below w.heap.size w w2) := HB0.out.trans ⟨g2.os, g2.tape, g2.output, g2.size, fun x hx => g2.block x (by rw [HS0.out]; omega)⟩
  have HV2 : Hid (w2.heap[w.heap.size + 1]? = some (.cells #[.slice none 0 0] 51 (0, 0))) := (g2.block _ (by rw [HS0.out]; omega)).trans HV0.out
  have HC2 : Hid (w2.heap[w.heap.size]? = some (.cells #[.int .i64 N] 3 (0, 0))) := (g2.block _ (by rw [HS0.out]; omega)).trans HC0.out
  have hs2 : w.heap.size + 2 ≤ w2.heap.size := by have := g2.size; rw [HS0.out] at this; exact this
  have HN := hid hn
  clear gd2 g2 hgl k1 hn HV0 HB0 HC0 HS0
  obtain ⟨V2, HVV⟩ : ∃ V2 : Nat → Prop, Hid (V2 = fun x => ((V x ∧ x < w.heap.size) ∨ w.heap.size + 2 ≤ x) ∧ x < w2.heap.size) := ⟨_, rfl⟩
  rw [← HVV.out] at HGD
  have hV2 : ∀ x, V2 x → x < w2.heap.size ∧ x ≠ w.heap.size + 1 := fun x hx => by
    rw [HVV.out] at hx
    refine ⟨hx.2, ?_⟩
    rcases hx.1 with h | h <;> omega
  have HV2L := hid hV2
  clear HVV hV2
  have HY : Hid (Yld 52 #[.pointer (some ⟨w.heap.size + 1, 0, none⟩), .pointer (some ⟨w.heap.size, 0, none⟩)] M (fun j W => (∃ v ds, Rg w (w.heap.size + 1) w.heap.size w2.heap.size N M j W v ds) ∧ Gd W V2 gl a n c M) (fun _ _ => False)) := by
    rintro j w1 wy B B2 kv vv hj ⟨⟨v, ds, rg⟩, gd⟩ hb hB o1 hBB hkB o2
    have hm := tab_mem hj
    have hkey := HT.out.tok.key _ hm
    have hval := HT.out.tok.val _ hm
    obtain ⟨P, HP⟩ : ∃ P, M.getD j ([], []) = P := ⟨_, rfl⟩
    rw [HP] at o1 o2 hkey hval
    obtain ⟨K, U⟩ := P
    simp only at o1 o2 hkey hval
    obtain ⟨ka, kc, rfl, vk⟩ := Vs.own o1 hkey.1
    obtain ⟨va, vc, rfl, vu⟩ := Vs.own o2 hval.1
    have hlt : w1.heap.size < wy.heap.size := by
      obtain ⟨g, cap, _, _, _, hg, hd, _⟩ := own_head o1 hkey.2.1
      have := hd.lt
      omega
    refine (rows1_ w (w.heap.size + 1) w.heap.size w2.heap.size j N M wy v ds K U ka va kc vc (rg.below hb) hj hN (by omega) HP (by omega) (by omega) (by omega) (by omega) vk.bs vu.bs (by omega) (by omega)).mono ?_
    rintro e W' ⟨rfl, v', ds', rg', hsame⟩
    have hbase := rg.base
    have hown : ∀ q, v.ownBlock = some q → w2.heap.size ≤ q ∧ q < w1.heap.size := fun q e => rg.own.lt q e
    refine ⟨hsame _ hlt (by omega) (fun e => by have := (hown _ e).2; omega), true, rfl, fun _ => ⟨⟨v', ds', rg'⟩, ?_⟩, fun e => by cases e⟩
    exact (gd.below hb).step fun x hx hx' _ => hsame x hx (HV2L.out x hx').2 (fun e => by have := (hown x e).1; have := (HV2L.out x hx').1; omega)
  have k3 := fun wx (h0 : (∃ v ds, Rg w (w.heap.size + 1) w.heap.size w2.heap.size N M 0 wx v ds) ∧ Gd wx V2 gl a n c M) => all1_ gl 52 #[.pointer (some ⟨w.heap.size + 1, 0, none⟩), .pointer (some ⟨w.heap.size, 0, none⟩)] a n c V2 M HT.out.tok (fun j W => (∃ v ds, Rg w (w.heap.size + 1) w.heap.size w2.heap.size N M j W v ds) ∧ Gd W V2 gl a n c M) (fun _ _ => False) HN.out (by have := HN.out; omega) (fun _ _ h => h.2) (fun j A B h hb => by
    obtain ⟨⟨v, ds, rg⟩, gd⟩ := h
    exact ⟨⟨v, ds, rg.below hb⟩, gd.below hb⟩) HY.out (enters_of Try.func52 (by kernel_rfl) rfl) wx h0
  have hq := fun wx => run_eql_func13 wx gl
  unfold allF
  go_wp2_with fail
  refine (k3 w2 ⟨⟨.slice none 0 0, [], ⟨HV2.out, HC2.out, World.ownsRow_nil _ _ _ _, rfl, fun d hd => (by simp at hd), HB2.out, Nat.le_refl _⟩⟩, HGD.out⟩).mono ?_
  rintro e w3 ⟨rfl, h3⟩
  obtain ⟨⟨v, ds, rg⟩, _⟩ : (∃ v ds, Rg w (w.heap.size + 1) w.heap.size w2.heap.size N M n w3 v ds) ∧ Gd w3 V2 gl a n c M := by
    rcases h3 with h | ⟨j, _, h⟩
    · exact h
    · exact h.elim
  have hfull : ds.map (·.s) = M := by rw [rg.is, HN.out, List.take_of_length_le (Nat.le_refl _)]
  obtain ⟨al, cl, hv, hrl, h1, h2, h5⟩ := Rl.ofOwn (V := fun x => w.heap.size ≤ x) rg.own (fun d hd => (rg.rv d hd).wide fun x _ h => h.1) (fun x hx => by omega)
  subst hv
  rw [hfull] at hrl
  have hdl : ds.length = M.length := by rw [← hfull, List.length_map]
  have z0 : w3.cell? ⟨w.heap.size + 1, 0, none⟩ = some (.slice al ds.length cl) := by rw [cell_of_row w3 (w.heap.size + 1) 0 _ 51 (0, 0) rg.var]; rfl
  have HRL := hid hrl
  have H1 := hid h1
  have H2 := hid h2
  have H5 := hid h5
  have HBF := hid rg.bel
  have HDL := hid hdl
  clear k3 h3 rg hrl h1 h2 h5 hfull hdl
  obtain ⟨m, HM⟩ : ∃ m, Hid (ds.length = m) := ⟨_, rfl⟩
  rw [HM.out] at z0 HRL H1 HDL
  go_wp2_with fail
  go_ret
  first | exact ⟨al, m, cl, HDL.out, rfl, HRL.out, H1.out, H2.out, H5.out, HBF.out⟩ | exact ⟨m, HDL.out, al, cl, rfl, HRL.out, H1.out, H2.out, H5.out, HBF.out⟩ | exact ⟨al, m, HDL.out, cl, rfl, HRL.out, H1.out, H2.out, H5.out, HBF.out⟩
end Go.Proofs.Ytghehfhkiknjhaa
