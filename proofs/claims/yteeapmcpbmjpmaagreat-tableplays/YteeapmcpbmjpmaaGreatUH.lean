import Derived.Test.YteeapmcpbmjpmaaGreatUG
import Derived.Lib.SlBytesConst
namespace Go.Proofs.YteeapmcpbmjpmaaGreat
set_option maxRecDepth 100000
open Go.RowKit Go.Shelf Go.Maps
set_option linter.unusedVariables false

abbrev Up (w : World) : Nat → Prop := fun z => w.heap.size ≤ z
theorem bel_by {w0 w w' : World} {b : Nat} (B : Below w0.heap.size w0 w) (g : w.grownBy w' (some b)) (hb : w0.heap.size ≤ b) : Below w0.heap.size w0 w' := B.grown g B.size (fun q hq => by obtain rfl := Option.some.inj hq; exact hb)
/-- A literal of sets. -/
theorem sl_lit {w0 w : World} (ds : List SD) (fl : Nat × Nat) (cs : Array Value) (hcs : cs = (sds ds).toArray) (hN : w0.heap.size ≤ w.heap.size) (h : ∀ d ∈ ds, SV w (Up w0) d) : Sl (w.alloc (.cells cs 44 fl)) (Up w0) (some ⟨w.heap.size, 0, none⟩) ds.length (ds.map (·.s)) := by
  subst hcs
  refine ⟨List.length_map .., .inr ⟨w.heap.size, 0, rfl, hN, fun i hi => ?_⟩⟩
  have hat : ∀ j, j < 3 → (w.alloc (.cells (sds ds).toArray 44 fl)).cell? ⟨w.heap.size, 0 + i * 3 + j, none⟩ = (sdc ds[i])[j]? := fun j hj => by
    rw [Nat.zero_add, cell_of_row _ _ _ _ 44 fl (heap_alloc_new w _), List.getElem?_toArray, sds_get ds i hi j hj]
  have e : (ds.map (·.s)).getD i default = ds[i].s := by simp [List.getD, List.getElem?_eq_getElem hi]
  have hv := (h ds[i] (List.getElem_mem hi)).below ((Below.refl _ w).alloc (Nat.le_refl _) (.cells (sds ds).toArray 44 fl))
  rw [e]
  exact ⟨_, _, _, _, hat 0 (by omega), hat 1 (by omega), hat 2 (by omega), hv.1, hv.2⟩
theorem rl_lit {w0 w : World} (ds : List RD) (fl : Nat × Nat) (cs : Array Value) (hcs : cs = (rds ds).toArray) (hN : w0.heap.size ≤ w.heap.size) (h : ∀ d ∈ ds, RV2 w (Up w0) d) : Rl (w.alloc (.cells cs 55 fl)) (Up w0) (some ⟨w.heap.size, 0, none⟩) ds.length (ds.map (·.s)) := by
  subst hcs
  refine ⟨List.length_map .., .inr ⟨w.heap.size, 0, rfl, hN, fun i hi => ?_⟩⟩
  have hat : ∀ j, j < 2 → (w.alloc (.cells (rds ds).toArray 55 fl)).cell? ⟨w.heap.size, 0 + i * 2 + j, none⟩ = (rdc ds[i])[j]? := fun j hj => by
    rw [Nat.zero_add, cell_of_row _ _ _ _ 55 fl (heap_alloc_new w _), List.getElem?_toArray, rds_get ds i hi j hj]
  have e : (ds.map (·.s)).getD i ([], []) = ds[i].s := by simp [List.getD, List.getElem?_eq_getElem hi]
  have hv := (h ds[i] (List.getElem_mem hi)).below ((Below.refl _ w).alloc (Nat.le_refl _) (.cells (rds ds).toArray 55 fl))
  rw [e]
  exact ⟨_, _, _, _, hat 0 (by omega), hat 1 (by omega), hv.1, hv.2⟩
theorem s_set {w0 w : World} (x y : List UInt8) (n m : Nat) (k v : List Int) (B : Below w0.heap.size w0 w) (hx : x.length = n) (hy : y.length = m) (hn : n ≤ 1000) (hm : m ≤ 1000) (hk : ofU x = k) (hv : ofU y = v) :
    Calls Tryz.prog 10 #[.string ⟨x.toArray⟩, .string ⟨y.toArray⟩] w fun e w' => ∃ ka kc va vc, e = .returned (.agg #[.slice ka n kc, .slice va m vc, .bool false]) ∧ SV w' (Up w0) ⟨ka, kc, va, vc, ⟨k, v, false⟩⟩ ∧ Below w0.heap.size w0 w' ∧ Below w.heap.size w w' := by
  refine (lset_ x y w (by omega) (by omega)).mono ?_
  rintro e w1 ⟨ka, kc, va, vc, rfl, v1, v2, b⟩
  have hs := B.size
  subst hx hy hk hv
  have l1 : (ofU x).length = x.length := ofU_length x
  have l2 : (ofU y).length = y.length := ofU_length y
  refine ⟨ka, kc, va, vc, rfl, ⟨?_, ?_⟩, bel_bel B hs b, b⟩
  · show Vs _ _ _ (ofU x).length _ _
    rw [l1]
    exact v1.wide fun z _ hz => Nat.le_trans hs hz
  · show Vs _ _ _ (ofU y).length _ _
    rw [l2]
    exact v2.wide fun z _ hz => Nat.le_trans hs hz
theorem s_gone {w0 w : World} (x : List UInt8) (n : Nat) (k : List Int) (B : Below w0.heap.size w0 w) (hx : x.length = n) (hn : n ≤ 1000) (hk : ofU x = k) :
    Calls Tryz.prog 11 #[.string ⟨x.toArray⟩] w fun e w' => ∃ ka kc, e = .returned (.agg #[.slice ka n kc, .slice none 0 0, .bool true]) ∧ SV w' (Up w0) ⟨ka, kc, none, 0, ⟨k, [], true⟩⟩ ∧ Below w0.heap.size w0 w' ∧ Below w.heap.size w w' := by
  refine (lgone_ x w (by omega)).mono ?_
  rintro e w1 ⟨ka, kc, rfl, v1, b⟩
  have hs := B.size
  subst hx hk
  have l1 : (ofU x).length = x.length := ofU_length x
  refine ⟨ka, kc, rfl, ⟨?_, ?_⟩, bel_bel B hs b, b⟩
  · show Vs _ _ _ (ofU x).length _ _
    rw [l1]
    exact v1.wide fun z _ hz => Nat.le_trans hs hz
  · exact ⟨⟨rfl, by simp, .inl rfl⟩, Nat.le_refl _, Nat.zero_le _, fun _ => rfl, fun ad e => by cases e⟩
theorem s_apply {w0 w : World} {U : Nat → Prop} {t b : Nat} {M M' : Tab} (a : Option Addr) (n c : Nat) (l : List Sx) (B : Below w0.heap.size w0 w) (hb : w0.heap.size ≤ b) (h : Tw w t b (Up w0) M) (hl : Sl w U a n l) (hn : n ≤ 100000000) (hML : M.length ≤ 100000000) (hm : allMay l = true) (hd : doAll M l = M') :
    Calls Tryz.prog 9 #[.pointer (some ⟨t, 0, none⟩), .slice a n c] w fun e w' => e = .returned (.int .i64 0) ∧ Tw w' t b (Up w0) M' ∧ Below w0.heap.size w0 w' ∧ w.grownBy w' (some b) := by
  refine (apply_ t b _ _ M a n c l w h hl hn hML).mono ?_
  have hs := B.size
  rintro e w1 (⟨_, rfl, t1, g⟩ | ⟨f, _⟩)
  · subst hd
    refine ⟨rfl, t1.wide fun z _ hz => ?_, bel_by B g hb, g⟩
    rcases hz with h | h
    · exact h
    · exact Nat.le_trans hs h
  · rw [hm] at f; cases f
theorem s_applyNo {w0 w : World} {t b : Nat} {M : Tab} (a : Option Addr) (n c : Nat) (l : List Sx) (B : Below w0.heap.size w0 w) (h : Tw w t b (Up w0) M) (hl : Sl w (Up w0) a n l) (hn : n ≤ 100000000) (hML : M.length ≤ 100000000) (hm : allMay l = false) :
    Calls Tryz.prog 9 #[.pointer (some ⟨t, 0, none⟩), .slice a n c] w fun e w' => e = .returned (.int .i64 114) ∧ Tw w' t b (Up w0) M ∧ Below w0.heap.size w0 w' ∧ Below w.heap.size w w' := by
  refine (apply_ t b _ _ M a n c l w h hl hn hML).mono ?_
  have hs := B.size
  rintro e w1 (⟨f, _⟩ | ⟨_, rfl, g⟩)
  · rw [hm] at f; cases f
  · exact ⟨rfl, h.below g, bel_bel B hs g, g⟩
theorem bs_lit (w : World) (zs : List Int) (fl : Nat × Nat) (hb : Okb zs) : Bs (w.alloc (.cells (cells zs).toArray 5 fl)) (some ⟨w.heap.size, 0, none⟩) zs.length zs := by
  refine ⟨rfl, hb, .inr ⟨w.heap.size, 0, rfl, fun i hi => ?_⟩⟩
  rw [Nat.zero_add, cell_of_row _ _ i _ 5 fl (heap_alloc_new w _)]
  simp [cells, List.getElem?_eq_getElem hi, List.getD]
theorem vs_lit {w0 w : World} (zs : List Int) (n : Nat) (fl : Nat × Nat) (hN : w0.heap.size ≤ w.heap.size) (hb : Okb zs) (hn : zs.length = n) (hm : n ≤ 100000) : Vs (w.alloc (.cells (cells zs).toArray 5 fl)) (Up w0) (some ⟨w.heap.size, 0, none⟩) n n zs := by
  subst hn
  exact ⟨bs_lit w zs fl hb, Nat.le_refl _, (by unfold maxLen; omega), (fun e => by cases e), fun ad e _ => by obtain rfl := Option.some.inj e; exact hN⟩
theorem s_get {w0 w : World} {b : Nat} {V : Nat → Prop} {M : Tab} (a : Option Addr) (n c m : Nat) (k v : List Int) (q : Bool) (B : Below w0.heap.size w0 w) (hM : Mp w b V M) (hT : Tok M) (hk : Bs w a n k) (hn : n ≤ 100000) (hv : (look M k).getD [] = v) (hq : (look M k).isSome = q) (hm : v.length = m) :
    Calls Tryz.prog 12 #[.map (some b), .slice a n c] w fun e w' => ∃ a' c', e = .returned (.tuple #[.slice a' m c', .bool q]) ∧ Vs w' (Up w0) a' m c' v ∧ Below w0.heap.size w0 w' ∧ Below w.heap.size w w' := by
  refine (get_ b V M a n c k w hM hT hk (by unfold maxLen; omega)).mono ?_
  rintro e w1 ⟨x, rfl, o, g⟩
  have hs := B.size
  have hok : Okb ((look M k).getD []) := by
    cases h : look M k with
    | none => intro z hz; simp at hz
    | some u => exact (hT.val _ (look_mem h)).1
  subst hv hq hm
  obtain ⟨a', c', rfl, vs⟩ := Vs.ofOwn o hok
  exact ⟨a', c', rfl, vs.wide fun z _ hz => Nat.le_trans hs hz, bel_bel B hs g, g⟩
theorem s_rows {w0 w : World} {t b : Nat} {V : Nat → Prop} {M : Tab} (N : Int) (m : Nat) (B : Below w0.heap.size w0 w) (h : Tw w t b V M) (hm : M.length = m) (hML : m ≤ 100000000) (hN : (m : Int) ≤ N) :
    Calls Tryz.prog 13 #[.pointer (some ⟨t, 0, none⟩), .int .i64 N] w fun e w' => ∃ a c, e = .returned (.slice a m c) ∧ Rl w' (Up w0) a m M ∧ Below w0.heap.size w0 w' ∧ Below w.heap.size w w' := by
  refine (rows_ t b V M N w h (by omega) (by omega)).mono ?_
  rintro e w1 ⟨a, n, c, rfl, rfl, r, _, _, _, g⟩
  have hs := B.size
  subst hm
  exact ⟨a, c, rfl, ⟨r.len, r.cells.imp id fun ⟨b, off, e, hb, hc⟩ => ⟨b, off, e, Nat.le_trans hs hb, fun i hi => by
    obtain ⟨ka, kc, va, vc, c1, c2, v1, v2⟩ := hc i hi
    exact ⟨ka, kc, va, vc, c1, c2, v1.wide fun z _ hz => Nat.le_trans hs hz, v2.wide fun z _ hz => Nat.le_trans hs hz⟩⟩⟩, bel_bel B hs g, g⟩
theorem conv_lit (w : World) (q : Nat) (hq : w.heap.size = q) (C : Array Value) (n c : Nat) : (convert 35 35 (.slice (some ⟨q, 0, none⟩) n c)).run Tryz.prog (w.alloc (.cells C 5)) = .ok (.slice (some ⟨q, 0, none⟩) n c) (w.alloc (.cells C 5 (C.size, C.size + 1))) := by
  subst hq
  exact Lib.run_convert_bytes_const (P := Tryz.prog) w 35 5 C n c Tryz.underlying35 Tryz.underlying5
abbrev want5 (W : World) : World := ((((W.alloc (.cells #[.int .u8 97] 5 (1, 2))).alloc (.cells #[.int .u8 49] 5 (1, 2))).alloc (.cells #[.int .u8 97, .int .u8 98] 5 (2, 3))).alloc (.cells #[.int .u8 98] 5 (1, 2))).alloc (.cells #[.int .u8 50] 5 (1, 2))
abbrev wantC (q : Nat) : Array Value := #[.slice (some ⟨q, 0, none⟩) 1 1, .slice (some ⟨q + 1, 0, none⟩) 1 1, .slice (some ⟨q + 2, 0, none⟩) 2 2, .slice none 0 0, .slice (some ⟨q + 3, 0, none⟩) 1 1, .slice (some ⟨q + 4, 0, none⟩) 1 1]
theorem want_ {w0 W : World} (hN : w0.heap.size ≤ W.heap.size) : Rl ((want5 W).alloc (.cells (wantC W.heap.size) 55)) (Up w0) (some ⟨W.heap.size + 1 + 1 + 1 + 1 + 1, 0, none⟩) 3 [([97], [49]), ([97, 98], []), ([98], [50])] ∧ Below W.heap.size W ((want5 W).alloc (.cells (wantC W.heap.size) 55)) := by
  have al : ∀ (X : World) (o : Obj), Below X.heap.size X (X.alloc o) := fun X o => (Below.refl _ X).alloc (Nat.le_refl _) o
  have v1 := vs_lit (w0 := w0) (w := W) [97] 1 (1, 2) hN (by unfold Okb; decide) rfl (by omega)
  have v2 := vs_lit (w0 := w0) (w := W.alloc (.cells #[.int .u8 97] 5 (1, 2))) [49] 1 (1, 2) (by simp; omega) (by unfold Okb; decide) rfl (by omega)
  have v3 := vs_lit (w0 := w0) (w := (W.alloc (.cells #[.int .u8 97] 5 (1, 2))).alloc (.cells #[.int .u8 49] 5 (1, 2))) [97, 98] 2 (2, 3) (by simp; omega) (by unfold Okb; decide) rfl (by omega)
  have v4 := vs_lit (w0 := w0) (w := ((W.alloc (.cells #[.int .u8 97] 5 (1, 2))).alloc (.cells #[.int .u8 49] 5 (1, 2))).alloc (.cells #[.int .u8 97, .int .u8 98] 5 (2, 3))) [98] 1 (1, 2) (by simp; omega) (by unfold Okb; decide) rfl (by omega)
  have v5 := vs_lit (w0 := w0) (w := (((W.alloc (.cells #[.int .u8 97] 5 (1, 2))).alloc (.cells #[.int .u8 49] 5 (1, 2))).alloc (.cells #[.int .u8 97, .int .u8 98] 5 (2, 3))).alloc (.cells #[.int .u8 98] 5 (1, 2))) [50] 1 (1, 2) (by simp; omega) (by unfold Okb; decide) rfl (by omega)
  have v1 := ((((v1.lift (al _ (.cells #[.int .u8 49] 5 (1, 2))) (fun _ _ h => h)).lift (al _ (.cells #[.int .u8 97, .int .u8 98] 5 (2, 3))) (fun _ _ h => h)).lift (al _ (.cells #[.int .u8 98] 5 (1, 2))) (fun _ _ h => h)).lift (al _ (.cells #[.int .u8 50] 5 (1, 2))) (fun _ _ h => h))
  have v2 := (((v2.lift (al _ (.cells #[.int .u8 97, .int .u8 98] 5 (2, 3))) (fun _ _ h => h)).lift (al _ (.cells #[.int .u8 98] 5 (1, 2))) (fun _ _ h => h)).lift (al _ (.cells #[.int .u8 50] 5 (1, 2))) (fun _ _ h => h))
  have v3 := ((v3.lift (al _ (.cells #[.int .u8 98] 5 (1, 2))) (fun _ _ h => h)).lift (al _ (.cells #[.int .u8 50] 5 (1, 2))) (fun _ _ h => h))
  have v4 := (v4.lift (al _ (.cells #[.int .u8 50] 5 (1, 2))) (fun _ _ h => h))
  simp only [World.size_alloc] at v1 v2 v3 v4 v5
  have h5 : (want5 W).heap.size = W.heap.size + 1 + 1 + 1 + 1 + 1 := by simp [want5]
  have r := rl_lit (w0 := w0) (w := want5 W) [⟨some ⟨W.heap.size, 0, none⟩, 1, some ⟨W.heap.size + 1, 0, none⟩, 1, ([97], [49])⟩, ⟨some ⟨W.heap.size + 2, 0, none⟩, 2, none, 0, ([97, 98], [])⟩, ⟨some ⟨W.heap.size + 3, 0, none⟩, 1, some ⟨W.heap.size + 4, 0, none⟩, 1, ([98], [50])⟩] (0, 0) (wantC W.heap.size) rfl (by rw [h5]; omega) (by
    intro d hd
    simp only [List.mem_cons, List.not_mem_nil, or_false] at hd
    rcases hd with rfl | rfl | rfl
    · exact ⟨v1, v2⟩
    · exact ⟨v3, ⟨⟨rfl, by simp, .inl rfl⟩, Nat.le_refl _, Nat.zero_le _, fun _ => rfl, fun ad e => by cases e⟩⟩
    · exact ⟨v4, v5⟩)
  rw [h5] at r
  refine ⟨r, ?_⟩
  exact ((((((Below.refl _ W).alloc (Nat.le_refl _) _).alloc (by simp) _).alloc (by simp; omega) _).alloc (by simp; omega) _).alloc (by simp; omega) _).alloc (by simp; omega) _
theorem s_sameRows {w0 w : World} {V U : Nat → Prop} {a b : Option Addr} {n m : Nat} (c d : Nat) {l r : Tab} (q : Bool) (B : Below w0.heap.size w0 w) (h1 : Rl w V a n l) (h2 : Rl w U b m r) (hn : n ≤ 1000000000) (hm : m ≤ 1000000000) (hq : sameT l r = q) :
    Calls Tryz.prog 14 #[.slice a n c, .slice b m d] w fun e w' => e = .returned (.bool q) ∧ Below w0.heap.size w0 w' ∧ Below w.heap.size w w' := by
  refine (sameRows_ V U a b n c m d l r w h1 h2 hn hm).mono ?_
  rintro e w1 ⟨rfl, g⟩
  subst hq
  exact ⟨rfl, bel_bel B B.size g, g⟩
theorem s_sameSets {w0 w : World} {V U : Nat → Prop} {a b : Option Addr} {n m : Nat} (c d : Nat) {l r : List Sx} (q : Bool) (B : Below w0.heap.size w0 w) (h1 : Sl w V a n l) (h2 : Sl w U b m r) (hn : n ≤ 1000000000) (hm : m ≤ 1000000000) (hq : sameS l r = q) :
    Calls Tryz.prog 21 #[.slice a n c, .slice b m d] w fun e w' => e = .returned (.bool q) ∧ Below w0.heap.size w0 w' ∧ Below w.heap.size w w' := by
  refine (sameSets_ V U a b n c m d l r w h1 h2 hn hm).mono ?_
  rintro e w1 ⟨rfl, g⟩
  subst hq
  exact ⟨rfl, bel_bel B B.size g, g⟩
theorem s_over {w0 w : World} {t b : Nat} {M : Tab} (B : Below w0.heap.size w0 w) (h : Tw w t b (Up w0) M) :
    Calls Tryz.prog 17 #[.pointer (some ⟨t, 0, none⟩)] w fun e w' => ∃ o b1 b2, e = .returned (.pointer (some ⟨o, 0, none⟩)) ∧ Ov w' o b1 b2 (Up w0) M M ∧ w0.heap.size ≤ b1 ∧ w0.heap.size ≤ b2 ∧ w.heap.size ≤ b1 ∧ w.heap.size ≤ b2 ∧ Below w0.heap.size w0 w' ∧ Below w.heap.size w w' := by
  refine (over_ t b _ M w h).mono ?_
  have hs := B.size
  rintro e w1 ⟨o, b1, b2, rfl, h1, h2, h3, _, g⟩
  exact ⟨o, b1, b2, rfl, h1, Nat.le_trans hs h2, Nat.le_trans hs h3, h2, h3, bel_bel B hs g, g⟩
theorem s_del {w0 w : World} {o b1 b2 : Nat} {I W I' : Tab} (a : Option Addr) (n c : Nat) (k : List Int) (q : Bool) (B : Below w0.heap.size w0 w) (hb : w0.heap.size ≤ b1) (h : Ov w o b1 b2 (Up w0) I W) (hk : Bs w a n k) (hn : n ≤ 100000) (hq : (look I k).isSome = q) (hI : del k I = I') :
    Calls Tryz.prog 18 #[.pointer (some ⟨o, 0, none⟩), .slice a n c] w fun e w' => e = .returned (.bool q) ∧ Ov w' o b1 b2 (Up w0) I' W ∧ Below w0.heap.size w0 w' ∧ w.grownBy w' (some b1) := by
  refine (delete_ o b1 b2 _ I W a n c k w h hk (by unfold maxLen; omega)).mono ?_
  rintro e w1 ⟨rfl, h1, g⟩
  subst hq hI
  exact ⟨rfl, h1, bel_by B g hb, g⟩
theorem s_oset {w0 w : World} {o b1 b2 : Nat} {I W I' : Tab} {V : Nat → Prop} (a p : Option Addr) (n c m d : Nat) (k v : List Int) (B : Below w0.heap.size w0 w) (hb : w0.heap.size ≤ b1) (h : Ov w o b1 b2 (Up w0) I W) (hk : Vs w V a n c k) (hv : Vs w V p m d v) (hL : I.length ≤ 1000000000) (hm : mayS ⟨k, v, false⟩ = true) (hI : ins k v I = I') :
    Calls Tryz.prog 19 #[.pointer (some ⟨o, 0, none⟩), .slice a n c, .slice p m d] w fun e w' => e = .returned (.int .i64 0) ∧ Ov w' o b1 b2 (Up w0) I' W ∧ Below w0.heap.size w0 w' ∧ w.grownBy w' (some b1) := by
  refine (set_ o b1 b2 _ I W a p n c m d k v w h hk.bs hk.nc hk.cm hv.bs hv.nil hv.nc hv.cm hL).mono ?_
  have hs := B.size
  rintro e w1 (⟨_, rfl, h1, g⟩ | ⟨f, _⟩)
  · subst hI
    refine ⟨rfl, h1.wide fun z _ hz => ?_, bel_by B g hb, g⟩
    rcases hz with h | h
    · exact h
    · exact Nat.le_trans hs h
  · rw [hm] at f; cases f
theorem s_sets {w0 w : World} {o b1 b2 : Nat} {I W : Tab} {V : Nat → Prop} (n : Nat) (l : List Sx) (B : Below w0.heap.size w0 w) (h : Ov w o b1 b2 V I W) (hI : I.length ≤ 100000000) (hW : W.length ≤ 100000000) (hl : chg W I = l) (hn : l.length = n) :
    Calls Tryz.prog 20 #[.pointer (some ⟨o, 0, none⟩)] w fun e w' => ∃ a c, e = .returned (.slice a n c) ∧ Sl w' (Up w0) a n l ∧ Below w0.heap.size w0 w' ∧ Below w.heap.size w w' := by
  refine (sets_ o b1 b2 V I W w h hI hW).mono ?_
  have hs := B.size
  rintro e w1 ⟨a, m, c, rfl, h1, _, _, _, g⟩
  subst hl hn
  obtain rfl := h1.len
  exact ⟨a, c, rfl, h1.wide (fun z _ hz => Nat.le_trans hs hz), bel_bel B hs g, g⟩
theorem s_put {w0 w : World} {V : Nat → Prop} (a : Option Addr) (n c m : Nat) (l : List Sx) (zs : List Int) (B : Below w0.heap.size w0 w) (h : Sl w V a n l) (hn : n ≤ 100000000) (hok : okS l = true) (hz : enc l = zs) (hm : zs.length = m) :
    Calls Tryz.prog 22 #[.slice a n c] w fun e w' => ∃ a' c', e = .returned (.tuple #[.slice a' m c', .int .i64 0]) ∧ Vs w' (Up w0) a' m c' zs ∧ Below w0.heap.size w0 w' ∧ Below w.heap.size w w' := by
  refine (putSets_ V a n c l w h (by omega)).mono ?_
  have hs := B.size
  rintro e w1 (⟨_, v, rfl, o, g⟩ | ⟨f, _⟩)
  · subst hz hm
    obtain ⟨a', c', rfl, vs⟩ := Vs.ofOwn o (enc_byte h.okS)
    exact ⟨a', c', rfl, vs.wide fun z _ hz => Nat.le_trans hs hz, bel_bel B hs g, g⟩
  · rw [hok] at f; cases f
theorem Okb1 (x : Int) (h : 0 ≤ x ∧ x ≤ 255) : Okb [x] := by
  intro z hz
  simp at hz
  subst hz
  exact h
set_option maxHeartbeats 4000000 in
theorem first_ (w : World) : Calls Tryz.prog 4 #[] w fun e w' => e = .returned (.bool true) ∧ Below w.heap.size w w' := by
  have k1 := fun wx => new_ wx
  have kc := fun (w : World) (C : Array Value) (n c : Nat) => Lib.run_convert_bytes_const (P := Tryz.prog) w 35 5 C n c Tryz.underlying35 Tryz.underlying5
  go_enter Tryz.func4, Tryz.ntmps4
  go_wp2_with fail
  refine (k1 _).mono ?_
  rintro e w1 ⟨t, b, rfl, t1, hb1, ht1, g1⟩
  have T1 : Hid (Tw w1 t b (Up w) []) := t1.wide (fun _ _ h => h.elim)
  have HB := hid hb1
  have G := hid g1
  clear t1 hb1 ht1 g1 k1
  go_wp2_with fail
  refine (s_set [98] [50] 1 1 [98] [50] G.out rfl rfl (by omega) (by omega) rfl rfl).mono ?_
  rintro e w2 ⟨ka1, kc1, va1, vc1, rfl, d, g, bb⟩
  have D1 := hid d
  have G := hid g
  have T1 := hid (T1.out.below bb)
  clear d g bb
  go_wp2_with fail
  refine (s_set [97] [48] 1 1 [97] [48] G.out rfl rfl (by omega) (by omega) rfl rfl).mono ?_
  rintro e w3 ⟨ka2, kc2, va2, vc2, rfl, d, g, bb⟩
  have D1 := hid (D1.out.below bb)
  have D2 := hid d
  have G := hid g
  have T1 := hid (T1.out.below bb)
  clear d g bb
  go_wp2_with fail
  refine (s_set [97, 98] [] 2 0 [97, 98] [] G.out rfl rfl (by omega) (by omega) rfl rfl).mono ?_
  rintro e w4 ⟨ka3, kc3, va3, vc3, rfl, d, g, bb⟩
  have D1 := hid (D1.out.below bb)
  have D2 := hid (D2.out.below bb)
  have D3 := hid d
  have G := hid g
  have T1 := hid (T1.out.below bb)
  clear d g bb
  go_wp2_with fail
  refine (s_set [97] [49] 1 1 [97] [49] G.out rfl rfl (by omega) (by omega) rfl rfl).mono ?_
  rintro e w5 ⟨ka4, kc4, va4, vc4, rfl, d, g, bb⟩
  have D1 := hid (D1.out.below bb)
  have D2 := hid (D2.out.below bb)
  have D3 := hid (D3.out.below bb)
  have D4 := hid d
  have G := hid g
  have T1 := hid (T1.out.below bb)
  clear d g bb
  go_wp2_with fail
  refine (s_gone [122] 1 [122] G.out rfl (by omega) rfl).mono ?_
  rintro e w6 ⟨ka5, kc5, rfl, d, g, bb⟩
  have D1 := hid (D1.out.below bb)
  have D2 := hid (D2.out.below bb)
  have D3 := hid (D3.out.below bb)
  have D4 := hid (D4.out.below bb)
  have D5 := hid d
  have G := hid g
  have T1 := hid (T1.out.below bb)
  clear d g bb
  go_wp2_with fail
  have hsl := sl_lit [⟨ka1, kc1, va1, vc1, ⟨[98], [50], false⟩⟩, ⟨ka2, kc2, va2, vc2, ⟨[97], [48], false⟩⟩, ⟨ka3, kc3, va3, vc3, ⟨[97, 98], [], false⟩⟩, ⟨ka4, kc4, va4, vc4, ⟨[97], [49], false⟩⟩, ⟨ka5, kc5, none, 0, ⟨[122], [], true⟩⟩] (0, 0) _ rfl G.out.size (by
    intro d hd
    simp only [List.mem_cons, List.not_mem_nil, or_false] at hd
    rcases hd with rfl | rfl | rfl | rfl | rfl
    · exact D1.out
    · exact D2.out
    · exact D3.out
    · exact D4.out
    · exact D5.out)
  have ba := (Below.refl w6.heap.size w6).alloc (Nat.le_refl _) (.cells (sds [⟨ka1, kc1, va1, vc1, ⟨[98], [50], false⟩⟩, ⟨ka2, kc2, va2, vc2, ⟨[97], [48], false⟩⟩, ⟨ka3, kc3, va3, vc3, ⟨[97, 98], [], false⟩⟩, ⟨ka4, kc4, va4, vc4, ⟨[97], [49], false⟩⟩, ⟨ka5, kc5, none, 0, ⟨[122], [], true⟩⟩]).toArray 44)
  refine (s_apply (M' := [([97], [49]), ([97, 98], []), ([98], [50])]) _ 5 5 [⟨[98], [50], false⟩, ⟨[97], [48], false⟩, ⟨[97, 98], [], false⟩, ⟨[97], [49], false⟩, ⟨[122], [], true⟩] (bel_bel G.out G.out.size ba) HB.out (T1.out.below ba) hsl (by omega) (by simp) (by decide) (by decide)).mono ?_
  rintro e w7 ⟨rfl, t7, g, bb⟩
  have T1 := hid t7
  have G := hid g
  clear t7 g bb hsl ba D1 D2 D3 D4 D5
  go_wp2_with fail
  refine (s_set [99] [51] 1 1 [99] [51] G.out rfl rfl (by omega) (by omega) rfl rfl).mono ?_
  rintro e w8 ⟨ka1, kc1, va1, vc1, rfl, d, g, bb⟩
  have D1 := hid d
  have G := hid g
  have T1 := hid (T1.out.below bb)
  clear d g bb
  go_wp2_with fail
  refine (s_set [] [120] 0 1 [] [120] G.out rfl rfl (by omega) (by omega) rfl rfl).mono ?_
  rintro e w9 ⟨ka2, kc2, va2, vc2, rfl, d, g, bb⟩
  have D1 := hid (D1.out.below bb)
  have D2 := hid d
  have G := hid g
  have T1 := hid (T1.out.below bb)
  clear d g bb
  go_wp2_with fail
  have hsl := sl_lit [⟨ka1, kc1, va1, vc1, ⟨[99], [51], false⟩⟩, ⟨ka2, kc2, va2, vc2, ⟨[], [120], false⟩⟩] (0, 0) _ rfl G.out.size (by
    intro d hd
    simp only [List.mem_cons, List.not_mem_nil, or_false] at hd
    rcases hd with rfl | rfl
    · exact D1.out
    · exact D2.out)
  have ba := (Below.refl w9.heap.size w9).alloc (Nat.le_refl _) (.cells (sds [⟨ka1, kc1, va1, vc1, ⟨[99], [51], false⟩⟩, ⟨ka2, kc2, va2, vc2, ⟨[], [120], false⟩⟩]).toArray 44)
  refine (s_applyNo _ 2 2 [⟨[99], [51], false⟩, ⟨[], [120], false⟩] (bel_bel G.out G.out.size ba) (T1.out.below ba) hsl (by omega) (by simp) (by decide)).mono ?_
  rintro e w10 ⟨rfl, t7, g, bb⟩
  have T1 := hid t7
  have G := hid g
  have ct := t7.tbl.cell
  clear t7 g bb hsl ba D1 D2
  go_wp2_with fail
  have ba := (Below.refl w10.heap.size w10).alloc (Nat.le_refl _) (.cells #[.int .u8 97] 5 (1, 2))
  have t7 := T1.out.below ba
  refine (s_get _ 1 1 1 [97] [49] true (bel_bel G.out G.out.size ba) t7.mp t7.tok (bs_lit w10 [97] (1, 2) (Okb1 _ (by omega))) (by omega) (by decide) (by decide) rfl).mono ?_
  rintro e w11 ⟨av, cv, rfl, v, g, bb⟩
  have HV := hid v
  have G := hid g
  have T1 := hid (t7.below bb)
  clear v g bb t7 ba ct
  go_wp2_with fail
  refine (s_rows 3 3 G.out T1.out rfl (by omega) (by omega)).mono ?_
  rintro e w12 ⟨al, cl, rfl, r, g, bb⟩
  have HV := hid (HV.out.lift bb (fun _ _ h => h))
  have HR := hid r
  have G := hid g
  have T1 := hid (T1.out.below bb)
  clear r g bb
  have kc1 := fun (w : World) (o1 : Obj) (C : Array Value) (n c : Nat) => conv_lit (w.alloc o1) (w.heap.size + 1) (by simp) C n c
  have kc2 := fun (w : World) (o1 o2 : Obj) (C : Array Value) (n c : Nat) => conv_lit ((w.alloc o1).alloc o2) (w.heap.size + 2) (by simp) C n c
  have kc3 := fun (w : World) (o1 o2 o3 : Obj) (C : Array Value) (n c : Nat) => conv_lit (((w.alloc o1).alloc o2).alloc o3) (w.heap.size + 3) (by simp) C n c
  have kc4 := fun (w : World) (o1 o2 o3 o4 : Obj) (C : Array Value) (n c : Nat) => conv_lit ((((w.alloc o1).alloc o2).alloc o3).alloc o4) (w.heap.size + 4) (by simp) C n c
  go_wp2_with fail
  clear kc1 kc2 kc3 kc4
  obtain ⟨rw_, ba⟩ := want_ (W := w12) G.out.size
  have rl := HR.out.below ba
  refine (s_sameRows cl 3 true (bel_bel G.out G.out.size ba) rl rw_ (by omega) (by omega) (by decide)).mono ?_
  rintro e w13 ⟨rfl, g, bb⟩
  have hv := (HV.out.lift ba (fun _ _ h => h)).lift bb (fun _ _ h => h)
  have T1 := hid ((T1.out.below ba).below bb)
  have G := hid g
  have kv := run_str (c := cv) hv.bs
  rw [show strOfNums [49] = ⟨#[49]⟩ from rfl] at kv
  have kn := fun x wx => num_ x wx
  have kl := len_ t b _ _ w13 T1.out
  clear rw_ ba rl g bb HR hv
  go_wp2_with fail
  refine (kn _ _).mono ?_
  rintro e wy ⟨rfl, hw⟩
  rw [hw]
  clear hw wy
  go_wp2_with fail
  refine (kn _ _).mono ?_
  rintro e wy ⟨rfl, hw⟩
  rw [hw]
  clear hw wy
  go_wp2_with fail
  refine kl.mono ?_
  rintro e wy ⟨rfl, hw⟩
  rw [hw]
  clear hw wy kl kv
  go_wp2_with fail
  refine (s_over G.out T1.out).mono ?_
  rintro e w14 ⟨o, b1, b2, rfl, o1, hb1, hb2, _, _, g, bb⟩
  have O := hid o1
  have G := hid g
  have HB1 := hid hb1
  clear o1 g bb hb1 hb2 T1
  go_wp2_with fail
  have ba := (Below.refl w14.heap.size w14).alloc (Nat.le_refl _) (.cells #[.int .u8 97] 5 (1, 2))
  refine (s_del (I' := [([97, 98], []), ([98], [50])]) _ 1 1 [97] true (bel_bel G.out G.out.size ba) HB1.out (O.out.below ba) (bs_lit w14 [97] (1, 2) (Okb1 _ (by omega))) (by omega) (by decide) (by decide)).mono ?_
  rintro e w15 ⟨rfl, o1, g, _⟩
  have O := hid o1
  have G := hid g
  clear o1 g ba
  go_wp2_with fail
  have ba := (Below.refl w15.heap.size w15).alloc (Nat.le_refl _) (.cells #[.int .u8 97] 5 (1, 2))
  refine (s_del (I' := [([97, 98], []), ([98], [50])]) _ 1 1 [97] false (bel_bel G.out G.out.size ba) HB1.out (O.out.below ba) (bs_lit w15 [97] (1, 2) (Okb1 _ (by omega))) (by omega) (by decide) (by decide)).mono ?_
  rintro e w16 ⟨rfl, o1, g, _⟩
  have O := hid o1
  have G := hid g
  clear o1 g ba
  have kc1 := fun (w : World) (o1 : Obj) (C : Array Value) (n c : Nat) => conv_lit (w.alloc o1) (w.heap.size + 1) (by simp) C n c
  go_wp2_with fail
  clear kc1
  have ba := ((Below.refl w16.heap.size w16).alloc (Nat.le_refl _) (.cells #[.int .u8 99] 5 (1, 2))).alloc (by simp) (.cells #[.int .u8 51] 5 (1, 2))
  have v1 := (vs_lit (w0 := w) (w := w16) [99] 1 (1, 2) G.out.size (Okb1 _ (by omega)) rfl (by omega)).lift ((Below.refl _ _).alloc (Nat.le_refl _) (.cells #[.int .u8 51] 5 (1, 2))) (fun _ _ h => h)
  have v2 := vs_lit (w0 := w) (w := w16.alloc (.cells #[.int .u8 99] 5 (1, 2))) [51] 1 (1, 2) (by have := G.out.size; simp; omega) (Okb1 _ (by omega)) rfl (by omega)
  simp only [World.size_alloc] at v2
  refine (s_oset (I' := [([97, 98], []), ([98], [50]), ([99], [51])]) _ _ 1 1 1 1 [99] [51] (bel_bel G.out G.out.size ba) HB1.out (O.out.below ba) v1 v2 (by simp) (by decide) (by decide)).mono ?_
  rintro e w17 ⟨rfl, o1, g, _⟩
  have O := hid o1
  have G := hid g
  clear o1 g ba v1 v2
  go_wp2_with fail
  refine (s_sets 2 [⟨[97], [], true⟩, ⟨[99], [51], false⟩] G.out O.out (by simp) (by simp) (by decide) rfl).mono ?_
  rintro e w18 ⟨ax, cs, rfl, s1, g, _⟩
  have S := hid s1
  have G := hid g
  clear s1 g O
  go_wp2_with fail
  refine (s_gone [97] 1 [97] G.out rfl (by omega) rfl).mono ?_
  rintro e w19 ⟨ka1, kc1, rfl, d, g, bb⟩
  have D1 := hid d
  have G := hid g
  have S := hid (S.out.below bb)
  clear d g bb
  go_wp2_with fail
  refine (s_set [99] [51] 1 1 [99] [51] G.out rfl rfl (by omega) (by omega) rfl rfl).mono ?_
  rintro e w20 ⟨ka2, kc2, va2, vc2, rfl, d, g, bb⟩
  have D1 := hid (D1.out.below bb)
  have D2 := hid d
  have G := hid g
  have S := hid (S.out.below bb)
  clear d g bb
  go_wp2_with fail
  have hsl := sl_lit [⟨ka1, kc1, none, 0, ⟨[97], [], true⟩⟩, ⟨ka2, kc2, va2, vc2, ⟨[99], [51], false⟩⟩] (0, 0) _ rfl G.out.size (by
    intro d hd
    simp only [List.mem_cons, List.not_mem_nil, or_false] at hd
    rcases hd with rfl | rfl
    · exact D1.out
    · exact D2.out)
  have ba := (Below.refl w20.heap.size w20).alloc (Nat.le_refl _) (.cells (sds [⟨ka1, kc1, none, 0, ⟨[97], [], true⟩⟩, ⟨ka2, kc2, va2, vc2, ⟨[99], [51], false⟩⟩]).toArray 44)
  refine (s_sameSets (l := [⟨[97], [], true⟩, ⟨[99], [51], false⟩]) (r := [⟨[97], [], true⟩, ⟨[99], [51], false⟩]) cs 2 true (bel_bel G.out G.out.size ba) (S.out.below ba) hsl (by omega) (by simp) (by decide)).mono ?_
  rintro e w21 ⟨rfl, g, bb⟩
  have S := hid ((S.out.below ba).below bb)
  have G := hid g
  clear g bb ba hsl D1 D2
  go_wp2_with fail
  refine (s_put ax 2 cs 11 [⟨[97], [], true⟩, ⟨[99], [51], false⟩] [0, 1, 0, 0, 97, 1, 1, 0, 1, 99, 51] G.out S.out (by omega) (by decide) (by decide) rfl).mono ?_
  rintro e w22 ⟨ap, cp, rfl, v, g, bb⟩
  have G := hid g
  have kv := run_str (c := cp) v.bs
  rw [show strOfNums [0, 1, 0, 0, 97, 1, 1, 0, 1, 99, 51] = ⟨#[0, 1, 0, 0, 97, 1, 1, 0, 1, 99, 51]⟩ from rfl] at kv
  clear g bb v S
  go_wp2_with fail
  refine (kn _ _).mono ?_
  rintro e wy ⟨rfl, hw⟩
  rw [hw]
  clear hw wy
  go_wp2_with fail
  refine (kn _ _).mono ?_
  rintro e wy ⟨rfl, hw⟩
  rw [hw]
  clear hw wy
  go_wp2_with fail
  go_ret
  exact ⟨rfl, G.out⟩
end Go.Proofs.YteeapmcpbmjpmaaGreat
