import Derived.Test.YtnmklleoilicdaaWA
import Derived.Test.YtnmklleoilicdaaUG
namespace Go.Proofs.Ytnmklleoilicdaa
set_option maxRecDepth 100000
open Go.RowKit Go.Shelf Go.Maps
set_option linter.unusedVariables false

theorem Gd.by {w w' : World} {V : Nat → Prop} {gl : Nat} {a : Option Addr} {n c : Nat} {M : Tab} (h : Gd w V gl a n c M) (hk : ∀ x, x < w.heap.size → V x → w'.heap[x]? = w.heap[x]?) : Gd w' V gl a n c M := h.step fun x hx hv _ => hk x hx hv
set_option maxHeartbeats 2000000 in
/-- The law's walked: the first rows that an iterator gives. -/
theorem walked_ (gl : Nat) (a : Option Addr) (n c : Nat) (V : Nat → Prop) (M : Tab) (N : Int) (K : Nat) (w : World) (h : Gd w V gl a n c M) (hT : Tok M) (hn : n = M.length) (hnm : n ≤ 1000000) (hN : -9223372036854775808 ≤ N ∧ N ≤ 9223372036854775807) (hK : ((n : Int) < N ∧ K = n) ∨ (1 ≤ N ∧ N ≤ n ∧ (K : Int) = N)) :
    Calls Try.prog 28 #[allF gl, .int .i64 N] w fun e w' => ∃ a' c', e = .returned (.slice a' K c') ∧ Rl w' (fun x => w.heap.size ≤ x) a' K (M.take K) ∧ Below w.heap.size w w' := by
  have HT := hid hT
  have HN := hid hn
  have HK := hid hK
  have HGD : Hid (Gd w (fun x => V x ∧ x < w.heap.size) gl a n c M) := ⟨h.cell, h.rl.wide fun x hx hv => ⟨hv, hx⟩, ⟨h.own, h.lt⟩⟩
  have B0 : Below w.heap.size w ((w.alloc (.cells #[.int .i64 N] 3)).alloc (.cells #[.slice none 0 0] 51)) := ((Below.refl _ _).alloc (Nat.le_refl _) _).alloc (by simp) _
  have HB0 := hid B0
  have HV0 : Hid (((w.alloc (.cells #[.int .i64 N] 3)).alloc (.cells #[.slice none 0 0] 51)).heap[w.heap.size + 1]? = some (.cells #[.slice none 0 0] 51 (0, 0))) := by
    have := heap_alloc_new (w.alloc (.cells #[.int .i64 N] 3)) (.cells #[.slice none 0 0] 51)
    rw [World.size_alloc] at this
    exact this
  have HC0 : Hid (((w.alloc (.cells #[.int .i64 N] 3)).alloc (.cells #[.slice none 0 0] 51)).heap[w.heap.size]? = some (.cells #[.int .i64 N] 3 (0, 0))) := (Below.heap_alloc _ _ _ (by simp)).trans (heap_alloc_new w _)
  have HS0 : Hid (((w.alloc (.cells #[.int .i64 N] 3)).alloc (.cells #[.slice none 0 0] 51)).heap.size = w.heap.size + 2) := by simp [Hid]
  have HGD2 := hid (HGD.out.below B0)
  clear h B0 hT hn hK
  obtain ⟨V2, HVV⟩ : ∃ V2 : Nat → Prop, Hid (V2 = fun x => V x ∧ x < w.heap.size) := ⟨_, rfl⟩
  rw [← HVV.out] at HGD2
  have HV2L : Hid (∀ x, V2 x → x < w.heap.size) := fun x hx => by rw [HVV.out] at hx; exact hx.2
  obtain ⟨I, HI⟩ : ∃ I : Nat → World → Prop, Hid (I = fun j W => (∃ v ds, Wg w (fun _ => False) (w.heap.size + 1) w.heap.size (w.heap.size + 2) N M j W v ds) ∧ Gd W V2 gl a n c M ∧ (j = 0 ∨ (j : Int) < N)) := ⟨_, rfl⟩
  obtain ⟨Fi, HF⟩ : ∃ I : Nat → World → Prop, Hid (I = fun j W => (∃ v ds, Wg w (fun _ => False) (w.heap.size + 1) w.heap.size (w.heap.size + 2) N M j W v ds) ∧ N ≤ (j : Int) ∧ (j = 1 ∨ (j : Int) - 1 < N)) := ⟨_, rfl⟩
  have HY : Hid (Yld 56 #[.pointer (some ⟨w.heap.size + 1, 0, none⟩), .pointer (some ⟨w.heap.size, 0, none⟩)] M I Fi) := by
    rw [HI.out, HF.out]
    rintro j w1 wy B B2 kv vv hj ⟨⟨v, ds, rg⟩, gd, hjN⟩ hb hB o1 hBB hkB o2
    have hm := tab_mem hj
    have hkey := HT.out.key _ hm
    have hval := HT.out.val _ hm
    obtain ⟨P, HP⟩ : ∃ P, M.getD j ([], []) = P := ⟨_, rfl⟩
    rw [HP] at o1 o2 hkey hval
    obtain ⟨K', U⟩ := P
    simp only at o1 o2 hkey hval
    obtain ⟨gk, kc, rfl, yk, hgk, hgkl, -, -⟩ := Yr.ofOwn o1 hkey.1 hkey.2.1
    obtain ⟨va, vc, hvv, vu⟩ := Vs.own o2 hval.1
    have hgkB := hkB gk rfl
    have hbase := rg.base
    have hown : ∀ q, v.ownBlock = some q → w.heap.size + 2 ≤ q ∧ q < w1.heap.size := fun q e => rg.own.lt q e
    have rg2 := (rg.wide (X' := fun x => w1.heap.size ≤ x) fun x hx h => by omega).below hb
    obtain ⟨gv, hgv1, hgv2, hgv3, hgv4⟩ : ∃ gv, w1.heap.size < gv ∧ gv < wy.heap.size ∧ (U.length = 0 ∨ (va = some ⟨gv, 0, none⟩ ∧ Yr wy gv U.length U)) ∧ (U.length = 0 ∨ gk ≠ gv) := by
      by_cases hu : U.length = 0
      · exact ⟨gk, by omega, hgkl, .inl hu, .inl hu⟩
      · obtain ⟨gv, cv, e, yv, h1, h2, -, -⟩ := Yr.ofOwn o2 hval.1 (by omega)
        rw [hvv] at e
        simp only [Value.slice.injEq] at e
        obtain ⟨rfl, -, rfl⟩ := e
        exact ⟨gv, by omega, h2, .inr ⟨rfl, yv⟩, .inr (by omega)⟩
    subst hvv
    have hno : ∀ g, w1.heap.size < g → v.ownBlock ≠ some g := fun g hg e => by have := (hown g e).2; omega
    refine (walked1_ w (w.heap.size + 1) w.heap.size (w.heap.size + 2) j gk gv N M wy v ds K' U va kc vc (rg2.wide fun x _ h => by rcases h with e | e <;> omega) hj (by have := HN.out; omega) HP (by omega) (by omega) (by omega) (by omega) yk vu.bs hgv3 (by omega) (by omega) (by omega) (by omega) hgv2 hgv4 (hno gk (by omega)) (hno gv hgv1)).mono ?_
    rintro e W' ⟨rfl, v', ds', rg', hsame⟩
    have hsm : ∀ x, x ≤ w1.heap.size → x ≠ w.heap.size + 1 → v.ownBlock ≠ some x → W'.heap[x]? = wy.heap[x]? := fun x hx h1 h2 => hsame x (by have := hb.size; omega) h1 h2 (by omega) (by omega)
    refine ⟨hsm _ (Nat.le_refl _) (by omega) (fun e => by have := (hown _ e).2; omega), _, rfl, fun ht => ⟨⟨v', ds', rg'.wide fun x _ h => h.elim⟩, ?_, .inr (of_decide_eq_true ht)⟩, fun hf => ⟨⟨v', ds', rg'.wide fun x _ h => h.elim⟩, by have := of_decide_eq_false hf; omega, ?_⟩⟩
    · exact (gd.below hb).by fun x hx hx' => hsm x (by have := HV2L.out x hx'; omega) (by have := HV2L.out x hx'; omega) (fun e => by have := (hown x e).1; have := HV2L.out x hx'; omega)
    · rcases hjN with e | e
      · exact .inl (by omega)
      · exact .inr (by omega)
  have k3 := fun wx (h0 : I 0 wx) => all1_ gl 56 #[.pointer (some ⟨w.heap.size + 1, 0, none⟩), .pointer (some ⟨w.heap.size, 0, none⟩)] a n c V2 M HT.out I Fi HN.out (by omega) (by rw [HI.out]; exact fun _ _ h => h.2.1) (by
    rw [HI.out]
    rintro j A B ⟨⟨v, ds, rg⟩, gd, hj⟩ hb
    exact ⟨⟨v, ds, rg.below hb⟩, gd.below hb, hj⟩) HY.out (enters_of Try.func56 (by kernel_rfl) rfl) wx h0
  have H0 : Hid (I 0 ((w.alloc (.cells #[.int .i64 N] 3)).alloc (.cells #[.slice none 0 0] 51))) := by
    rw [HI.out]
    exact ⟨⟨.slice none 0 0, [], ⟨HV0.out, HC0.out, World.ownsRow_nil _ _ _ _, rfl, fun d hd => (by simp at hd), HB0.out, by rw [HS0.out]; exact Nat.le_refl _⟩⟩, HGD2.out, .inl rfl⟩
  clear HY HV0 HC0 HGD2 HGD
  unfold allF
  go_enter Try.func28, Try.ntmps28
  go_wp2_with fail
  refine (k3 _ H0.out).mono ?_
  rintro e w3 ⟨rfl, h3⟩
  obtain ⟨v, ds, rg⟩ : ∃ v ds, Wg w (fun _ => False) (w.heap.size + 1) w.heap.size (w.heap.size + 2) N M K w3 v ds := by
    rw [HI.out, HF.out] at h3
    have hKK := HK.out
    rcases h3 with ⟨h, _, hj⟩ | ⟨j, hj, h, h1, h2⟩
    · rcases hKK with ⟨_, e⟩ | ⟨e1, e2, e3⟩
      · rw [e]; exact h
      · exfalso; rcases hj with e | e <;> omega
    · have e : j + 1 = K := by
        rcases hKK with ⟨e0, e⟩ | ⟨e1, e2, e3⟩
        · omega
        · rcases h2 with h2 | h2 <;> omega
      rw [e] at h
      exact h
  obtain ⟨al, cl, hv, hrl, -, -, -⟩ := Rl.ofOwn (V := fun x => w.heap.size ≤ x) rg.own (fun d hd => (rg.rv d hd).wide fun x _ h => h.1) (fun x hx => by omega)
  subst hv
  rw [rg.is] at hrl
  have hdl : ds.length = K := by
    have h1 := congrArg List.length rg.is
    have hKK := HK.out
    have := HN.out
    rw [List.length_map, List.length_take] at h1
    rcases hKK with ⟨_, e⟩ | ⟨e1, e2, e3⟩ <;> omega
  rw [hdl] at hrl
  have z0 : w3.cell? ⟨w.heap.size + 1, 0, none⟩ = some (.slice al ds.length cl) := by rw [cell_of_row w3 (w.heap.size + 1) 0 _ 51 (0, 0) rg.var]; rfl
  rw [hdl] at z0
  have HRL := hid hrl
  have HBF := hid rg.bel
  clear k3 h3 rg hrl hdl H0 HB0 HI HF
  go_wp2_with fail
  go_ret
  first | exact ⟨al, cl, rfl, HRL.out, HBF.out⟩ | exact ⟨al, ⟨cl, rfl⟩, HRL.out, HBF.out⟩
end Go.Proofs.Ytnmklleoilicdaa
