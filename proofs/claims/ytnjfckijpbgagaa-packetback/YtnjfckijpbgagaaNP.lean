import Derived.Test.YtnjfckijpbgagaaNA
import Derived.Deep.Cut
import Derived.Test.YtnjfckijpbgagaaN0
namespace Go.Proofs.Ytnjfckijpbgagaa
set_option maxRecDepth 100000
open Go.RowKit
set_option linter.unusedVariables false

/-! What these bytes begin with. -/
def g0 (l : List Int) : Int := l.getD 0 0
def gmP (l : List Int) : Nat := nb (g0 l) / 8
def gs7 (l : List Int) : List Int := (l.drop 2).take (gmP l)
def gk (l : List Int) : Bool := decide (2 ≤ l.length ∧ 0 < gmP l ∧ 2 + gmP l ≤ l.length) && vp (g0 l) (ah (gs7 l)) (alP (gs7 l)) (l.getD 1 0)
def qF (l : List Int) : Int := if gk l then g0 l else 0
def qH (l : List Int) : Int := if gk l then ah (gs7 l) else 0
def qL (l : List Int) : Int := if gk l then alP (gs7 l) else 0
def qB (l : List Int) : Int := if gk l then l.getD 1 0 else 0
def qN (l : List Int) : Int := if gk l then ((2 + gmP l : Nat) : Int) else 0
def qE (l : List Int) : Int := if gk l then 0 else 70
theorem q7_bad {l : List Int} (h : gk l = false) : qF l = 0 ∧ qH l = 0 ∧ qL l = 0 ∧ qB l = 0 ∧ qN l = 0 ∧ qE l = 70 := by unfold qF qH qL qB qN qE; rw [h]; exact ⟨rfl, rfl, rfl, rfl, rfl, rfl⟩
theorem q7_good {l : List Int} (h : gk l = true) : qF l = g0 l ∧ qH l = ah (gs7 l) ∧ qL l = alP (gs7 l) ∧ qB l = l.getD 1 0 ∧ qN l = ((2 + gmP l : Nat) : Int) ∧ qE l = 0 := by unfold qF qH qL qB qN qE; rw [h]; exact ⟨rfl, rfl, rfl, rfl, rfl, rfl⟩
theorem sizep : (Try.prog.info? 112).map (·.size) = some 4 := by kernel_rfl
theorem Pm.row {w : World} {g : Nat} {F H L B : Int} (h : Pm w g F H L B) (F' H' L' B' : Int) : Pm (w.setRow g #[.int .i64 F', .int .u64 H', .int .u64 L', .int .i64 B']) g F' H' L' B' := setRow_heap w g _ _ _ _ h
theorem wpList_spx {ops : Array Oper} {rest : List Oper} {o : Oper} {a : Act} {w : World} {Q : Exit → Act → World → Prop} (hgd : o.guard = none) (hdst : o.dst = none) (x y : Operand) (ho : o.op = .store 112 x y)
    (g : Nat) (F H L B : Int) (hx : a.eval x = .pointer (some ⟨g, 0, none⟩)) (hy : a.eval y = .agg #[.int .i64 F, .int .u64 H, .int .u64 L, .int .i64 B]) (F0 H0 L0 B0 : Int) (hg : Pm w g F0 H0 L0 B0)
    (h : wpList Try.prog ops Q rest a (w.setRow g #[.int .i64 F, .int .u64 H, .int .u64 L, .int .i64 B])) : wpList Try.prog ops Q (o :: rest) a w := by
  refine wpList_store_row hgd _ x y ho g #[.int .i64 F, .int .u64 H, .int .u64 L, .int .i64 B] hx hy _ _ hg sizep rfl (by simp [Value.oneCell']) ?_
  rw [hdst]
  exact h
theorem results_p3 {fn : Func} {p u v : Tmp} (h : fn.results = #[.cell p 112, .tmp u, .tmp v]) (tmps : Array Value) (w : World) (g : Nat) (F H L B : Int) (x y : Value)
    (hp : tmps.getD p undef = .pointer (some ⟨g, 0, none⟩)) (hu : tmps.getD u undef = x) (hv : tmps.getD v undef = y) (hg : Pm w g F H L B) :
    (results fn tmps).run Try.prog w = .ok (.tuple #[.agg #[.int .i64 F, .int .u64 H, .int .u64 L, .int .i64 B], x, y]) w := by
  have hl := run_loadVar_row (P := Try.prog) w g 112 112 #[.int .i64 F, .int .u64 H, .int .u64 L, .int .i64 B] (0, 0) _ hg Try.underlying112 rfl sizep
  have hp' : tmps[p]?.getD undef = .pointer (some ⟨g, 0, none⟩) := by simpa using hp
  have hu' : tmps[u]?.getD undef = x := by simpa using hu
  have hv' : tmps[v]?.getD undef = y := by simpa using hv
  simp [results, h, hp', hu', hv', asAddr, hl]
theorem aval_in {S : List Int} {m : Nat} (hb : ∀ z ∈ S, 0 ≤ z ∧ z ≤ 255) (hl : S.length = m) (hm : m ≤ 16) : InU (ah S) ∧ InU (alP S) := by
  have hV := val_bound S hb
  have hp : (256 : Int) ^ S.length ≤ 340282366920938463463374607431768211456 := by
    rw [hl]
    by_cases e : m = 16
    · rw [e]; decide
    · exact Int.le_trans (pow256_15 m (by omega)) (by decide)
  unfold ah alP InU
  generalize val S = V at *
  omega
end Go.Proofs.Ytnjfckijpbgagaa
namespace Go.Proofs.Ytnjfckijpbgagaa
set_option maxRecDepth 100000
open Go.RowKit
set_option linter.unusedVariables false

/-! Heads, packets and payloads there and back. -/
theorem head_back {T K G C : Int} (h : hOk T K G C = true) (hC : 0 ≤ C) (r : List Int) : gT (hRow T K G C ++ r) = T ∧ gK (hRow T K G C ++ r) = K ∧ gG (hRow T K G C ++ r) = G ∧ gC (hRow T K G C ++ r) = C := by
  obtain ⟨h1, h2, h3, h4, h5, h6, h7⟩ := hOk_in h
  have e4 : (hRow T K G C ++ r).drop 4 = be 4 K ++ (be 4 G ++ (be 8 C ++ r)) := by simp [hRow]
  have e8 : (hRow T K G C ++ r).drop 8 = be 4 G ++ (be 8 C ++ r) := by
    rw [show (8 : Nat) = 4 + 4 from rfl, ← List.drop_drop, e4]
    exact List.drop_left' (be_length 4 K)
  have e12 : (hRow T K G C ++ r).drop 12 = be 8 C ++ r := by
    rw [show (12 : Nat) = 8 + 4 from rfl, ← List.drop_drop, e8]
    exact List.drop_left' (be_length 4 G)
  refine ⟨rfl, ?_, ?_, ?_⟩
  · unfold gK
    rw [e4, List.take_left' (be_length 4 K), val_be]
    exact Int.emod_eq_of_lt (by omega) (by omega)
  · unfold gG
    rw [e8, List.take_left' (be_length 4 G), val_be]
    exact Int.emod_eq_of_lt (by omega) (by omega)
  · unfold gC
    rw [e12, List.take_left' (be_length 8 C), val_be]
    exact Int.emod_eq_of_lt (by omega) (by omega)
/-- The three bytes 0. -/
def zr (zs : List Int) : Bool := decide (zs.getD 1 0 = 0 ∧ zs.getD 2 0 = 0 ∧ zs.getD 3 0 = 0)
theorem head_row {zs : List Int} (hb : ∀ z ∈ zs, 0 ≤ z ∧ z ≤ 255) (hl : 20 ≤ zs.length) : decide (hRow (gT zs) (gK zs) (gG zs) (gC zs) = zs.take 20) = zr zs := by
  match zs, hl with
  | a :: b :: c :: d :: t, hl =>
    have ht : 16 ≤ t.length := by simp at hl; omega
    have hbt : ∀ z ∈ t, 0 ≤ z ∧ z ≤ 255 := fun z hz => hb z (by simp [hz])
    have e1 : be 4 (gK (a :: b :: c :: d :: t)) = t.take 4 := by
      have := be_val (t.take 4) (fun z hz => hbt z (List.mem_of_mem_take hz))
      rwa [List.length_take, Nat.min_eq_left (by omega)] at this
    have e2 : be 4 (gG (a :: b :: c :: d :: t)) = (t.drop 4).take 4 := by
      have := be_val ((t.drop 4).take 4) (fun z hz => hbt z (List.mem_of_mem_drop (List.mem_of_mem_take hz)))
      rwa [List.length_take, List.length_drop, Nat.min_eq_left (by omega)] at this
    have e3 : be 8 (gC (a :: b :: c :: d :: t)) = (t.drop 8).take 8 := by
      have := be_val ((t.drop 8).take 8) (fun z hz => hbt z (List.mem_of_mem_drop (List.mem_of_mem_take hz)))
      rwa [List.length_take, List.length_drop, Nat.min_eq_left (by omega)] at this
    have e4 : t.take 16 = t.take 4 ++ ((t.drop 4).take 4 ++ (t.drop 8).take 8) := by
      rw [show (16 : Nat) = 4 + (4 + 8) from rfl, List.take_add, List.take_add, List.drop_drop]
    have e5 : (a :: b :: c :: d :: t).take 20 = a :: b :: c :: d :: t.take 16 := rfl
    unfold hRow zr
    rw [e1, e2, e3, e5, ← e4]
    refine decide_eq_decide.2 ?_
    show (a :: 0 :: 0 :: 0 :: t.take 16 = a :: b :: c :: d :: t.take 16) ↔ (b = 0 ∧ c = 0 ∧ d = 0)
    simp only [List.cons.injEq, true_and, and_true]
    omega
theorem gOk_eq {zs : List Int} (hb : ∀ z ∈ zs, 0 ≤ z ∧ z ≤ 255) (hl : 20 ≤ zs.length) : gOk zs = (zr zs && (hOk (gT zs) (gK zs) (gG zs) (gC zs) && fit (gT zs) ((zs.length : Int) - 36))) := by
  unfold gOk
  rw [head_row hb hl]
  by_cases h : 36 ≤ zs.length
  · rw [decide_eq_true h, Bool.true_and]
    cases zr zs <;> cases hOk (gT zs) (gK zs) (gG zs) (gC zs) <;> cases fit (gT zs) ((zs.length : Int) - 36) <;> rfl
  · have hf : fit (gT zs) ((zs.length : Int) - 36) = false := by
      unfold fit
      split <;> exact decide_eq_false (by omega)
    simp [h, hf]
theorem fit_in {T n : Int} (h : fit T n = true) : 9 ≤ n ∧ n ≤ 1280 := by
  unfold fit at h
  split at h
  all_goals
    have := of_decide_eq_true h
    omega
theorem sealt_length (ks : List Int) (S T K G C : Int) (zs : List Int) : (sealt ks S T K G C zs).length = zs.length + 16 := by
  unfold sealt
  rw [ic_length, sl_length, nt_length]
theorem sealt_byte {ks : List Int} (S T K G C : Int) {zs : List Int} (hk : ∀ z ∈ ks, 0 ≤ z ∧ z ≤ 255) (hz : ∀ z ∈ zs, 0 ≤ z ∧ z ≤ 255) : ∀ z ∈ sealt ks S T K G C zs, 0 ≤ z ∧ z ≤ 255 :=
  ic_bytes (sl_lt (kf_lt (nt_lt hk)) (nt_lt (nRow_byte S G C)) (nt_lt hz))
theorem sB_byte {ks : List Int} (S T K G C : Int) {zs : List Int} (hk : ∀ z ∈ ks, 0 ≤ z ∧ z ≤ 255) (hz : ∀ z ∈ zs, 0 ≤ z ∧ z ≤ 255) : ∀ z ∈ sB ks S T K G C zs, 0 ≤ z ∧ z ≤ 255 := by
  unfold sB
  split
  · rename_i h
    have h1 := h.2
    unfold kOk at h1
    rw [Bool.and_eq_true, Bool.and_eq_true] at h1
    intro z hm
    rcases List.mem_append.1 hm with hm | hm
    · exact hRow_byte h1.2.1 z hm
    · exact sealt_byte S T K G C hk hz z hm
  · intro z hm
    simp at hm
theorem sB_le (ks : List Int) (S T K G C : Int) (zs : List Int) : (sB ks S T K G C zs).length ≤ 1316 := by
  unfold sB
  split
  · rename_i h
    have h1 := h.2
    unfold kOk at h1
    rw [Bool.and_eq_true, Bool.and_eq_true] at h1
    have := fit_in h1.2.2
    rw [List.length_append, hRow_length, sealt_length]
    omega
  · simp
/-- What was sealed opens. -/
theorem open_sealed {ks : List Int} {S T K G C : Int} {zs : List Int} (hk : ∀ z ∈ ks, 0 ≤ z ∧ z ≤ 255) (hz : ∀ z ∈ zs, 0 ≤ z ∧ z ≤ 255) (hC : 0 ≤ C) (h : sE ks S T K G C zs = 0) :
    uOk ks S (sB ks S T K G C zs) = true ∧ gT (sB ks S T K G C zs) = T ∧ gK (sB ks S T K G C zs) = K ∧ gG (sB ks S T K G C zs) = G ∧ gC (sB ks S T K G C zs) = C ∧ uB ks S (sB ks S T K G C zs) = zs := by
  unfold sE at h
  by_cases h32 : ks.length = 32
  · rw [if_pos h32] at h
    by_cases hkk : kOk ks S T K G C zs.length = true
    · have eB : sB ks S T K G C zs = hRow T K G C ++ sealt ks S T K G C zs := by unfold sB; rw [if_pos ⟨h32, hkk⟩]
      have hkq := hkk
      unfold kOk at hkq
      rw [Bool.and_eq_true, Bool.and_eq_true] at hkq
      obtain ⟨hS, hh, hf⟩ := hkq
      have hS' := of_decide_eq_true hS
      obtain ⟨b1, b2, b3, b4⟩ := head_back hh hC (sealt ks S T K G C zs)
      have hln := fit_in hf
      have hL : (hRow T K G C ++ sealt ks S T K G C zs).length = zs.length + 36 := by rw [List.length_append, hRow_length, sealt_length]; omega
      have hby : ∀ z ∈ hRow T K G C ++ sealt ks S T K G C zs, 0 ≤ z ∧ z ≤ 255 := fun z hm => by
        rcases List.mem_append.1 hm with hm | hm
        · exact hRow_byte hh z hm
        · exact sealt_byte S T K G C hk hz z hm
      have et : (hRow T K G C ++ sealt ks S T K G C zs).take 20 = hRow T K G C := List.take_left' (hRow_length T K G C)
      have ed : (hRow T K G C ++ sealt ks S T K G C zs).drop 20 = sealt ks S T K G C zs := List.drop_left' (hRow_length T K G C)
      have hg : gOk (hRow T K G C ++ sealt ks S T K G C zs) = true := by
        unfold gOk
        rw [b1, b2, b3, b4, et, hh, hL, decide_eq_true (by omega), decide_eq_true rfl, show ((zs.length + 36 : Nat) : Int) - 36 = (zs.length : Int) from by omega, hf]
        rfl
      have es : nt (sealt ks S T K G C zs) = sl (kf (nt ks)) (nt (nRow S G C)) (nt (hRow T K G C)) (nt zs) := nt_ic _
      have sl1 := sl_length (kf (nt ks)) (nt (nRow S G C)) (nt (hRow T K G C)) (nt zs)
      have stl := st_length (kf (nt ks)) (nt (nRow S G C)) (nt zs)
      rw [nt_length] at sl1
      have etk : (sl (kf (nt ks)) (nt (nRow S G C)) (nt (hRow T K G C)) (nt zs)).take (zs.length + 16 - 16) = st (kf (nt ks)) (nt (nRow S G C)) (nt zs) := by
        unfold sl
        refine List.take_left' ?_
        rw [stl, nt_length]
        omega
      have edr : (sl (kf (nt ks)) (nt (nRow S G C)) (nt (hRow T K G C)) (nt zs)).drop (zs.length + 16 - 16) = tl (kf (nt ks)) (nt (nRow S G C)) (nt (hRow T K G C)) (st (kf (nt ks)) (nt (nRow S G C)) (nt zs)) := by
        unfold sl
        refine List.drop_left' ?_
        rw [stl, nt_length]
        omega
      have ho : oB (nt ks) (nt (nRow S G C)) (nt (hRow T K G C)) (sl (kf (nt ks)) (nt (nRow S G C)) (nt (hRow T K G C)) (nt zs)) = true := by
        unfold oB
        refine decide_eq_true ?_
        rw [sl1, etk, edr, nt_length, nt_length, nt_length, nRow_length, hRow_length]
        exact ⟨h32, rfl, by omega, by omega, by omega, rfl⟩
      have hu : uOk ks S (hRow T K G C ++ sealt ks S T K G C zs) = true := by
        unfold uOk
        rw [b3, b4, et, ed, es, ho, hg, decide_eq_true ⟨h32, hS'⟩]
        rfl
      rw [eB]
      refine ⟨hu, b1, b2, b3, b4, ?_⟩
      unfold uB
      rw [hu, if_pos rfl, b3, b4, et, ed, es]
      unfold oP
      rw [ho, if_pos rfl, sl1, etk, st_st, ic_nt hz]
    · rw [if_neg hkk] at h
      omega
  · rw [if_neg h32] at h
    omega
/-- What opens is what would be sealed. -/
theorem seal_opened {ks : List Int} {S : Int} {zs : List Int} (hk : ∀ z ∈ ks, 0 ≤ z ∧ z ≤ 255) (hz : ∀ z ∈ zs, 0 ≤ z ∧ z ≤ 255) (h : uOk ks S zs = true) :
    sE ks S (gT zs) (gK zs) (gG zs) (gC zs) (uB ks S zs) = 0 ∧ sB ks S (gT zs) (gK zs) (gG zs) (gC zs) (uB ks S zs) = zs := by
  have hu := h
  unfold uOk at h
  rw [Bool.and_eq_true, Bool.and_eq_true] at h
  obtain ⟨h1, hg, ho⟩ := h
  obtain ⟨h32, hS⟩ := of_decide_eq_true h1
  have hgq := hg
  unfold gOk at hgq
  rw [Bool.and_eq_true, Bool.and_eq_true, Bool.and_eq_true] at hgq
  obtain ⟨g1, g2, g3, g4⟩ := hgq
  have hlen := of_decide_eq_true g1
  have hrow := of_decide_eq_true g3
  have hoq := of_decide_eq_true (show decide _ = true from ho)
  rw [nt_length, nt_length, nt_length, nt_length, List.length_take, List.length_drop] at hoq
  obtain ⟨_, _, _, _, _, o6⟩ := hoq
  have eu : uB ks S zs = ic (st (kf (nt ks)) (nt (nRow S (gG zs) (gC zs))) ((nt (zs.drop 20)).take (zs.length - 20 - 16))) := by
    unfold uB
    rw [hu, if_pos rfl]
    unfold oP
    rw [ho, if_pos rfl, nt_length, List.length_drop]
  have elen : (uB ks S zs).length = zs.length - 36 := by
    rw [eu, ic_length, st_length, List.length_take, nt_length, List.length_drop]
    omega
  have hkk : kOk ks S (gT zs) (gK zs) (gG zs) (gC zs) ((uB ks S zs).length : Nat) = true := by
    unfold kOk
    rw [decide_eq_true hS, g2, elen, show ((zs.length - 36 : Nat) : Int) = (zs.length : Int) - 36 from by omega, g4]
    rfl
  refine ⟨?_, ?_⟩
  · unfold sE
    rw [if_pos h32, hkk, if_pos rfl]
  · unfold sB
    rw [if_pos ⟨h32, hkk⟩]
    unfold sealt
    rw [eu, nt_ic, hrow, sl_one (kf (nt ks)) _ _ (nt (zs.drop 20)) (zs.length - 20 - 16) (by rw [nt_length, List.length_drop]; omega) o6, ic_nt (fun z hm => hz z (List.mem_of_mem_drop hm)), List.take_append_drop]
/-- Payloads. -/
def zS (zs : List Int) : List Int := (zs.drop 1).take (yN zs)
def zD (zs : List Int) : List Int := (zs.drop (1 + yN zs)).take (yN zs)
def zB (zs : List Int) : List Int := if zOk zs then zs.drop (1 + 2 * yN zs) else []
def zZ (zs : List Int) (x : Int) : Int := if zOk zs then x else 0
def zE (zs : List Int) : Int := if zOk zs then 0 else 90
theorem zOk_in {zs : List Int} (h : zOk zs = true) : (yN zs = 4 ∧ zs.getD 0 0 = 4 ∨ yN zs = 16 ∧ zs.getD 0 0 = 6) ∧ 1 + 2 * yN zs ≤ zs.length ∧ zs.length ≤ 1280 := by
  obtain ⟨h1, h2, h3⟩ := of_decide_eq_true (show decide _ = true from h)
  refine ⟨?_, h2, h3⟩
  unfold yN at h1 ⊢
  by_cases h0 : zs.length = 0
  · rw [if_pos h0] at h1
    exact absurd rfl h1
  · rw [if_neg h0] at h1 ⊢
    by_cases h4 : zs.getD 0 0 = 4
    · rw [if_pos h4]
      exact .inl ⟨rfl, h4⟩
    · rw [if_neg h4] at h1 ⊢
      by_cases h6 : zs.getD 0 0 = 6
      · rw [if_pos h6]
        exact .inr ⟨rfl, h6⟩
      · rw [if_neg h6] at h1
        exact absurd rfl h1
theorem ad_back (l : List Int) : ad (ah l) (alP l) = val l := by
  unfold ad ah alP
  omega
theorem pa_back {F : Int} {l : List Int} (hb : ∀ z ∈ l, 0 ≤ z ∧ z ≤ 255) (h : F = 4 ∧ l.length = 4 ∨ F = 6 ∧ l.length = 16) : pa F (ah l) (alP l) = l := by
  have hv := val_bound l hb
  rcases h with ⟨rfl, h⟩ | ⟨rfl, h⟩
  · have hva : va 4 (ah l) (alP l) = true := by
      rw [h] at hv
      have e : (256 : Int) ^ 4 = 4294967296 := by decide
      refine decide_eq_true (.inr ⟨rfl, ?_, ?_⟩)
      · unfold ah
        omega
      · unfold alP
        omega
    unfold pa
    rw [hva, if_pos rfl, ad_back]
    have := be_val l hb
    rwa [h] at this
  · have hva : va 6 (ah l) (alP l) = true := decide_eq_true (.inl rfl)
    unfold pa
    rw [hva, if_pos rfl, ad_back]
    have := be_val l hb
    rwa [h] at this
theorem put_got {zs : List Int} (hb : ∀ z ∈ zs, 0 ≤ z ∧ z ≤ 255) (h : zOk zs = true) :
    yE (af (yN zs)) (ah (zS zs)) (alP (zS zs)) (af (yN zs)) (ah (zD zs)) (alP (zD zs)) (zB zs) = 0 ∧ yB (af (yN zs)) (ah (zS zs)) (alP (zS zs)) (af (yN zs)) (ah (zD zs)) (alP (zD zs)) (zB zs) = zs := by
  obtain ⟨h1, h2, h3⟩ := zOk_in h
  have ls : (zS zs).length = yN zs := by unfold zS; rw [List.length_take, List.length_drop]; omega
  have ld : (zD zs).length = yN zs := by unfold zD; rw [List.length_take, List.length_drop]; omega
  have eb : zB zs = zs.drop (1 + 2 * yN zs) := by unfold zB; rw [h, if_pos rfl]
  have hf : af (yN zs) = zs.getD 0 0 := by
    rcases h1 with ⟨e, e2⟩ | ⟨e, e2⟩
    all_goals rw [e, e2]; rfl
  have ps : pa (af (yN zs)) (ah (zS zs)) (alP (zS zs)) = zS zs := by
    refine pa_back (fun z hm => hb z (List.mem_of_mem_drop (List.mem_of_mem_take hm))) ?_
    rw [hf, ls]
    omega
  have pd : pa (af (yN zs)) (ah (zD zs)) (alP (zD zs)) = zD zs := by
    refine pa_back (fun z hm => hb z (List.mem_of_mem_drop (List.mem_of_mem_take hm))) ?_
    rw [hf, ld]
    omega
  have hok : yOk (af (yN zs)) (ah (zS zs)) (alP (zS zs)) (af (yN zs)) (ah (zD zs)) (alP (zD zs)) ((zB zs).length : Nat) = true := by
    unfold yOk
    rw [ps, pd, ls, ld, eb, List.length_drop]
    exact decide_eq_true ⟨by omega, rfl, by omega⟩
  refine ⟨by unfold yE; rw [hok, if_pos rfl], ?_⟩
  unfold yB
  rw [hok, if_pos rfl]
  unfold yRow
  rw [ps, pd, eb, hf]
  unfold zS zD
  match zs, h2 with
  | x :: t, _ =>
    generalize yN (x :: t) = n
    have e1 : (x :: t).drop (1 + n) = t.drop n := by rw [Nat.add_comm]; rfl
    have e2 : (x :: t).drop (1 + 2 * n) = (t.drop n).drop n := by rw [List.drop_drop, Nat.add_comm 1]; show t.drop (2 * n) = _; rw [Nat.two_mul]
    rw [e1, e2]
    show x :: (t.take n ++ ((t.drop n).take n ++ (t.drop n).drop n)) = x :: t
    rw [List.take_append_drop, List.take_append_drop]
/-- A payload's bytes are read as the payload. -/
theorem pa_read {F H L : Int} (hH : InU H) (hL : InU L) (h : va F H L = true) : ah (pa F H L) = H ∧ alP (pa F H L) = L := by
  have hin := va_in h hH hL
  unfold pa
  rw [h, if_pos rfl]
  unfold ah alP
  rw [val_be]
  have hp : ad H L % 256 ^ (nb F / 8) = ad H L := by
    refine Int.emod_eq_of_lt hin.2.1 ?_
    rcases hin.1 with e | e
    all_goals
      rw [e] at hin ⊢
      exact hin.2.2
  rw [hp]
  unfold ad InU at *
  omega
theorem got_put {F H L F' H' L' : Int} {zs : List Int} (hH : InU H) (hL : InU L) (hH' : InU H') (hL' : InU L') (h : yE F H L F' H' L' zs = 0) :
    zOk (yB F H L F' H' L' zs) = true ∧ af (yN (yB F H L F' H' L' zs)) = F ∧ F' = F ∧ ah (zS (yB F H L F' H' L' zs)) = H ∧ alP (zS (yB F H L F' H' L' zs)) = L ∧ ah (zD (yB F H L F' H' L' zs)) = H' ∧ alP (zD (yB F H L F' H' L' zs)) = L' ∧ zB (yB F H L F' H' L' zs) = zs := by
  unfold yE at h
  cases hok : yOk F H L F' H' L' zs.length with
  | false =>
    rw [hok] at h
    simp at h
  | true =>
    have eB : yB F H L F' H' L' zs = yRow F H L F' H' L' zs := by unfold yB; rw [hok, if_pos rfl]
    obtain ⟨h1, h2, h3⟩ := of_decide_eq_true (show decide _ = true from hok)
    have v1 : va F H L = true := by
      cases hv : va F H L with
      | true => rfl
      | false => rw [pa_length, hv] at h1; exact absurd rfl h1
    have v2 : va F' H' L' = true := by
      cases hv : va F' H' L' with
      | true => rfl
      | false => rw [h2, pa_length, hv] at h1; exact absurd rfl h1
    have l1 : (pa F H L).length = nb F / 8 := by rw [pa_length, v1, if_pos rfl]
    have l2 : (pa F' H' L').length = nb F' / 8 := by rw [pa_length, v2, if_pos rfl]
    have d1 := of_decide_eq_true (show decide _ = true from v1)
    have d2 := of_decide_eq_true (show decide _ = true from v2)
    have q : F = 4 ∧ F' = 4 ∨ F = 6 ∧ F' = 6 := by
      rw [l1, l2] at h2
      unfold nb at h2
      rcases d1 with rfl | ⟨rfl, _⟩ <;> rcases d2 with rfl | ⟨rfl, _⟩
      · exact .inr ⟨rfl, rfl⟩
      · exact absurd h2 (by decide)
      · exact absurd h2 (by decide)
      · exact .inl ⟨rfl, rfl⟩
    obtain ⟨a1, a2⟩ := pa_read hH hL v1
    obtain ⟨b1, b2⟩ := pa_read hH' hL' v2
    have eN : yN (yRow F H L F' H' L' zs) = (pa F H L).length ∧ af (pa F H L).length = F ∧ F' = F := by
      rw [l1]
      rcases q with ⟨rfl, rfl⟩ | ⟨rfl, rfl⟩
      all_goals exact ⟨rfl, rfl, rfl⟩
    have e1 : (yRow F H L F' H' L' zs).drop 1 = pa F H L ++ (pa F' H' L' ++ zs) := rfl
    have e2 : (yRow F H L F' H' L' zs).drop (1 + (pa F H L).length) = pa F' H' L' ++ zs := by
      rw [← List.drop_drop, e1]
      exact List.drop_left' rfl
    have e3 : (yRow F H L F' H' L' zs).drop (1 + 2 * (pa F H L).length) = zs := by
      rw [show 1 + 2 * (pa F H L).length = 1 + (pa F H L).length + (pa F H L).length from by omega, ← List.drop_drop, e2]
      exact List.drop_left' h2.symm
    have s1 : zS (yRow F H L F' H' L' zs) = pa F H L := by unfold zS; rw [eN.1, e1]; exact List.take_left' rfl
    have s2 : zD (yRow F H L F' H' L' zs) = pa F' H' L' := by unfold zD; rw [eN.1, e2]; exact List.take_left' h2.symm
    have hlen : (yRow F H L F' H' L' zs).length = 1 + 2 * (pa F H L).length + zs.length := by
      unfold yRow
      rw [List.length_cons, List.length_append, List.length_append, ← h2]
      omega
    have hz : zOk (yRow F H L F' H' L' zs) = true := by
      unfold zOk
      rw [eN.1, hlen]
      exact decide_eq_true ⟨h1, by omega, by omega⟩
    rw [eB]
    refine ⟨hz, by rw [eN.1]; exact eN.2.1, eN.2.2, by rw [s1]; exact a1, by rw [s1]; exact a2, by rw [s2]; exact b1, by rw [s2]; exact b2, ?_⟩
    unfold zB
    rw [hz, if_pos rfl, eN.1, e3]
theorem yB_byte {F H L F' H' L' : Int} {zs : List Int} (hz : ∀ z ∈ zs, 0 ≤ z ∧ z ≤ 255) : ∀ z ∈ yB F H L F' H' L' zs, 0 ≤ z ∧ z ≤ 255 := by
  unfold yB
  split
  · rename_i h
    obtain ⟨h1, _, _⟩ := of_decide_eq_true (show decide _ = true from h)
    have hF : F = 4 ∨ F = 6 := by
      rw [pa_length] at h1
      split at h1
      · rename_i hv
        have := of_decide_eq_true (show decide _ = true from hv)
        omega
      · exact absurd rfl h1
    intro z hm
    unfold yRow at hm
    rcases List.mem_cons.1 hm with rfl | hm
    · omega
    · rcases List.mem_append.1 hm with hm | hm
      · exact pa_byte _ _ _ z hm
      · rcases List.mem_append.1 hm with hm | hm
        · exact pa_byte _ _ _ z hm
        · exact hz z hm
  · intro z hm
    simp at hm
theorem yB_le (F H L F' H' L' : Int) (zs : List Int) : (yB F H L F' H' L' zs).length ≤ 1280 := by
  unfold yB
  split
  · rename_i h
    obtain ⟨_, h2, h3⟩ := of_decide_eq_true (show decide _ = true from h)
    unfold yRow
    rw [List.length_cons, List.length_append, List.length_append, ← h2]
    omega
  · simp
end Go.Proofs.Ytnjfckijpbgagaa
