import Derived.Test.YteeapmcpbmjpmaaGreatTG
import Derived.Maps.AppendAt
namespace Go.Proofs.YteeapmcpbmjpmaaGreat
set_option maxRecDepth 100000
open Go.RowKit Go.Maps
set_option linter.unusedVariables false

/-! Rows of sets, of rows, of one's own. -/
structure SD where
  ka : Option Addr
  kc : Nat
  va : Option Addr
  vc : Nat
  s : Sx
def sdc (d : SD) : List Value := [.slice d.ka d.s.k.length d.kc, .slice d.va d.s.v.length d.vc, .bool d.s.g]
structure RD where
  ka : Option Addr
  kc : Nat
  va : Option Addr
  vc : Nat
  s : List Int × List Int
def rdc (d : RD) : List Value := [.slice d.ka d.s.1.length d.kc, .slice d.va d.s.2.length d.vc]
def SV (w : World) (V : Nat → Prop) (d : SD) : Prop := Vs w V d.ka d.s.k.length d.kc d.s.k ∧ Vs w V d.va d.s.v.length d.vc d.s.v
def RV2 (w : World) (V : Nat → Prop) (d : RD) : Prop := Vs w V d.ka d.s.1.length d.kc d.s.1 ∧ Vs w V d.va d.s.2.length d.vc d.s.2
theorem SV.step {w w' : World} {V : Nat → Prop} {d : SD} (h : SV w V d) (hk : ∀ x, x < w.heap.size → V x → (∀ es cl, w.heap[x]? ≠ some (.map es cl)) → w'.heap[x]? = w.heap[x]?) : SV w' V d := ⟨h.1.step hk, h.2.step hk⟩
theorem SV.below {w w' : World} {V : Nat → Prop} {d : SD} (h : SV w V d) (hg : Below w.heap.size w w') : SV w' V d := h.step fun x hx _ _ => hg.block x hx
theorem SV.wide {w : World} {V V' : Nat → Prop} {d : SD} (h : SV w V d) (hV : ∀ x, x < w.heap.size → V x → V' x) : SV w V' d := ⟨h.1.wide hV, h.2.wide hV⟩
theorem RV2.step {w w' : World} {V : Nat → Prop} {d : RD} (h : RV2 w V d) (hk : ∀ x, x < w.heap.size → V x → (∀ es cl, w.heap[x]? ≠ some (.map es cl)) → w'.heap[x]? = w.heap[x]?) : RV2 w' V d := ⟨h.1.step hk, h.2.step hk⟩
theorem RV2.below {w w' : World} {V : Nat → Prop} {d : RD} (h : RV2 w V d) (hg : Below w.heap.size w w') : RV2 w' V d := h.step fun x hx _ _ => hg.block x hx
theorem RV2.wide {w : World} {V V' : Nat → Prop} {d : RD} (h : RV2 w V d) (hV : ∀ x, x < w.heap.size → V x → V' x) : RV2 w V' d := ⟨h.1.wide hV, h.2.wide hV⟩
def sds (ds : List SD) : List Value := ds.flatMap sdc
theorem sds_length : ∀ ds : List SD, (sds ds).length = ds.length * 3
  | [] => rfl
  | d :: ds => by
    have := sds_length ds
    unfold sds at this ⊢
    rw [List.flatMap_cons, List.length_append, this]
    simp [sdc]
    omega
theorem sds_app (a b : List SD) : sds (a ++ b) = sds a ++ sds b := by simp [sds]
theorem sds_one (ds : List SD) : ∀ v ∈ sds ds, v.oneCell' = true := by
  intro v hv
  obtain ⟨d, _, hd⟩ := List.mem_flatMap.1 hv
  simp [sdc] at hd
  rcases hd with rfl | hd
  · rfl
  · first | (rcases hd with rfl | rfl <;> rfl) | (subst hd; rfl)
theorem sds_get : ∀ (ds : List SD) (i : Nat) (hi : i < ds.length) (j : Nat), j < 3 → (sds ds)[i * 3 + j]? = (sdc ds[i])[j]?
  | d :: ds, 0, _, j, hj => by
    unfold sds
    rw [List.flatMap_cons, Nat.zero_mul, Nat.zero_add, List.getElem?_append_left (by simp [sdc]; omega)]
    rfl
  | d :: ds, i + 1, hi, j, hj => by
    have ih := sds_get ds i (by simpa using hi) j hj
    unfold sds at ih ⊢
    rw [List.flatMap_cons, List.getElem?_append_right (by simp [sdc]; omega)]
    have e : (i + 1) * 3 + j - (sdc d).length = i * 3 + j := by simp [sdc]; omega
    rw [e, ih]
    rfl
def rds (ds : List RD) : List Value := ds.flatMap rdc
theorem rds_length : ∀ ds : List RD, (rds ds).length = ds.length * 2
  | [] => rfl
  | d :: ds => by
    have := rds_length ds
    unfold rds at this ⊢
    rw [List.flatMap_cons, List.length_append, this]
    simp [rdc]
    omega
theorem rds_app (a b : List RD) : rds (a ++ b) = rds a ++ rds b := by simp [rds]
theorem rds_one (ds : List RD) : ∀ v ∈ rds ds, v.oneCell' = true := by
  intro v hv
  obtain ⟨d, _, hd⟩ := List.mem_flatMap.1 hv
  simp [rdc] at hd
  rcases hd with rfl | hd
  · rfl
  · first | (rcases hd with rfl | rfl <;> rfl) | (subst hd; rfl)
theorem rds_get : ∀ (ds : List RD) (i : Nat) (hi : i < ds.length) (j : Nat), j < 2 → (rds ds)[i * 2 + j]? = (rdc ds[i])[j]?
  | d :: ds, 0, _, j, hj => by
    unfold rds
    rw [List.flatMap_cons, Nat.zero_mul, Nat.zero_add, List.getElem?_append_left (by simp [rdc]; omega)]
    rfl
  | d :: ds, i + 1, hi, j, hj => by
    have ih := rds_get ds i (by simpa using hi) j hj
    unfold rds at ih ⊢
    rw [List.flatMap_cons, List.getElem?_append_right (by simp [rdc]; omega)]
    have e : (i + 1) * 2 + j - (rdc d).length = i * 2 + j := by simp [rdc]; omega
    rw [e, ih]
    rfl
theorem infoS : (Tryz.prog.info? 44).map (fun i => (i.zero, i.size, i.bytes)) = some (some (.agg #[.slice none 0 0, .slice none 0 0, .bool false]), 3, 56) := by kernel_rfl
theorem infoR : (Tryz.prog.info? 55).map (fun i => (i.zero, i.size, i.bytes)) = some (some (.agg #[.slice none 0 0, .slice none 0 0]), 2, 48) := by kernel_rfl
/-- One more behind a row of one's own. -/
theorem wpList_appSet {w : World} {ops : Array Oper} {rest : List Oper} {o : Oper} {act : Act} {Q : Exit → Act → World → Prop} (hgd : o.guard = none) (s x : Operand)
    (ho : o.op = .call { callee := .builtin .append, args := #[s, x], argTypes := #[36, 36] })
    (base : Nat) (v : Value) (ds : List SD) (hs : act.eval s = v) (hown : w.ownsRow base 44 3 v ds.length (sds ds)) (g : Nat) (d : SD) (hx : act.eval x = .slice (some ⟨g, 0, none⟩) 1 1)
    (hg : ∀ j u, (sdc d)[j]? = some u → w.cell? ⟨g, j, none⟩ = some u) (hlen : ds.length ≤ 1000000000) (hbase : base ≤ w.heap.size)
    (h : ∀ v' w', w'.ownsRow base 44 3 v' (ds ++ [d]).length (sds (ds ++ [d])) → w.grownBy w' v.ownBlock → (v'.ownBlock = v.ownBlock ∨ v'.ownBlock = some w.heap.size) → wpList Tryz.prog ops Q rest (act.put o.dst v') w') : wpList Tryz.prog ops Q (o :: rest) act w := by
  obtain ⟨i, hi, hz0, hz1, hz2⟩ := info_parts infoS
  refine wpList_append_own_at _ hgd s x 36 ho base 44 i _ 3 56 Tryz.underlying36 hi hz0 hz1 hz2 rfl (by decide) v ds.length (sds ds) hs hown ⟨g, 0, none⟩ 1 1 (sdc d) hx rfl ?c1 ?c2 (by unfold maxLen; omega) (by omega) hbase ?_
  case c1 =>
    intro j u hj
    rw [Addr.add_lit, Nat.zero_add]
    exact hg j u hj
  case c2 =>
    intro u hu
    exact sds_one [d] u (by simpa [sds] using hu)
  intro v' w' h1 h2 _ h4
  refine h v' w' ?_ h2 h4
  rw [List.length_append, List.length_singleton, sds_app]
  simpa [sds] using h1
/-- One more behind a row of one's own. -/
theorem wpList_appRow {w : World} {ops : Array Oper} {rest : List Oper} {o : Oper} {act : Act} {Q : Exit → Act → World → Prop} (hgd : o.guard = none) (s x : Operand)
    (ho : o.op = .call { callee := .builtin .append, args := #[s, x], argTypes := #[28, 28] })
    (base : Nat) (v : Value) (ds : List RD) (hs : act.eval s = v) (hown : w.ownsRow base 55 2 v ds.length (rds ds)) (g : Nat) (d : RD) (hx : act.eval x = .slice (some ⟨g, 0, none⟩) 1 1)
    (hg : ∀ j u, (rdc d)[j]? = some u → w.cell? ⟨g, j, none⟩ = some u) (hlen : ds.length ≤ 1000000000) (hbase : base ≤ w.heap.size)
    (h : ∀ v' w', w'.ownsRow base 55 2 v' (ds ++ [d]).length (rds (ds ++ [d])) → w.grownBy w' v.ownBlock → (v'.ownBlock = v.ownBlock ∨ v'.ownBlock = some w.heap.size) → wpList Tryz.prog ops Q rest (act.put o.dst v') w') : wpList Tryz.prog ops Q (o :: rest) act w := by
  obtain ⟨i, hi, hz0, hz1, hz2⟩ := info_parts infoR
  refine wpList_append_own_at _ hgd s x 28 ho base 55 i _ 2 48 Tryz.underlying28 hi hz0 hz1 hz2 rfl (by decide) v ds.length (rds ds) hs hown ⟨g, 0, none⟩ 1 1 (rdc d) hx rfl ?c1 ?c2 (by unfold maxLen; omega) (by omega) hbase ?_
  case c1 =>
    intro j u hj
    rw [Addr.add_lit, Nat.zero_add]
    exact hg j u hj
  case c2 =>
    intro u hu
    exact rds_one [d] u (by simpa [rds] using hu)
  intro v' w' h1 h2 _ h4
  refine h v' w' ?_ h2 h4
  rw [List.length_append, List.length_singleton, rds_app]
  simpa [rds] using h1
theorem own_addr {w : World} {base e sz n : Nat} {v : Value} {xs : List Value} (h : w.ownsRow base e sz v n xs) : ∃ a c, v = .slice a n c ∧ n ≤ c ∧ c ≤ maxLen ∧ (a = none → c = 0) ∧ ((a = none ∧ n = 0) ∨ ∃ g, a = some ⟨g, 0, none⟩ ∧ base ≤ g ∧ g < w.heap.size ∧ ∀ j u, xs[j]? = some u → w.cell? ⟨g, j, none⟩ = some u) := by
  obtain ⟨h1, h2⟩ := h
  rcases h2 with ⟨rfl, rfl⟩ | ⟨g, cap, cur, rfl, hb, hg, hnc, hcm, hs, ht⟩
  · exact ⟨none, 0, rfl, Nat.le_refl _, by unfold maxLen; omega, fun _ => rfl, .inl ⟨rfl, rfl⟩⟩
  · refine ⟨_, cap, rfl, hnc, hcm, fun e => (by cases e), .inr ⟨g, rfl, hb, (Array.getElem?_eq_some_iff.1 hg).1, fun j u hu => ?_⟩⟩
    rw [cell_of_row w g j cur _ (0, 0) hg]
    rw [← ht, List.getElem?_take] at hu
    split at hu
    · simpa using hu
    · cases hu
theorem Sl.ofOwn {w : World} {B : Nat} {V : Nat → Prop} {v : Value} {ds : List SD} (h : w.ownsRow B 44 3 v ds.length (sds ds)) (hV : ∀ d ∈ ds, SV w V d) (hB : ∀ x, B ≤ x → V x) : ∃ a c, v = .slice a ds.length c ∧ Sl w V a ds.length (ds.map (·.s)) ∧ ds.length ≤ c ∧ c ≤ maxLen ∧ (a = none → c = 0) := by
  obtain ⟨a, c, rfl, h1, h2, h3, h4⟩ := own_addr h
  refine ⟨a, c, rfl, ⟨by simp, ?_⟩, h1, h2, h3⟩
  rcases h4 with ⟨_, h0⟩ | ⟨g, rfl, hg, _, hc⟩
  · exact .inl h0
  · refine .inr ⟨g, 0, rfl, hB g hg, fun i hi => ?_⟩
    have e : (ds.map (·.s)).getD i default = ds[i].s := by simp [List.getD, hi]
    have hd := hV ds[i] (List.getElem_mem hi)
    rw [e, Nat.zero_add]
    refine ⟨ds[i].ka, ds[i].kc, ds[i].va, ds[i].vc, hc _ _ ?_, hc _ _ ?_, hc _ _ ?_, hd.1, hd.2⟩
    · exact sds_get ds i hi 0 (by decide)
    · exact sds_get ds i hi 1 (by decide)
    · exact sds_get ds i hi 2 (by decide)
theorem Rl.ofOwn {w : World} {B : Nat} {V : Nat → Prop} {v : Value} {ds : List RD} (h : w.ownsRow B 55 2 v ds.length (rds ds)) (hV : ∀ d ∈ ds, RV2 w V d) (hB : ∀ x, B ≤ x → V x) : ∃ a c, v = .slice a ds.length c ∧ Rl w V a ds.length (ds.map (·.s)) ∧ ds.length ≤ c ∧ c ≤ maxLen ∧ (a = none → c = 0) := by
  obtain ⟨a, c, rfl, h1, h2, h3, h4⟩ := own_addr h
  refine ⟨a, c, rfl, ⟨by simp, ?_⟩, h1, h2, h3⟩
  rcases h4 with ⟨_, h0⟩ | ⟨g, rfl, hg, _, hc⟩
  · exact .inl h0
  · refine .inr ⟨g, 0, rfl, hB g hg, fun i hi => ?_⟩
    have e : (ds.map (·.s)).getD i ([], []) = ds[i].s := by simp [List.getD, hi]
    have hd := hV ds[i] (List.getElem_mem hi)
    rw [e, Nat.zero_add]
    refine ⟨ds[i].ka, ds[i].kc, ds[i].va, ds[i].vc, hc _ _ ?_, hc _ _ ?_, hd.1, hd.2⟩
    · exact rds_get ds i hi 0 (by decide)
    · exact rds_get ds i hi 1 (by decide)

/-! A reader, whole or broken. -/
def Rs (w : World) (r g : Nat) (st : Option (List Int)) (tot : Nat) : Prop := match st with
  | some zs => Rd w r g zs ((tot : Int) - zs.length) ∧ zs.length ≤ tot ∧ Okb zs
  | none => ∃ p e, Rb w r p e
def gt (W : Nat) (st : Option (List Int)) : Int × Option (List Int) := match st with
  | none => (0, none)
  | some zs => if W ≤ zs.length then (val (zs.take W), some (zs.drop W)) else (0, none)
def tk (m : Nat) (st : Option (List Int)) : List Int × Option (List Int) := match st with
  | none => ([], none)
  | some zs => if m ≤ zs.length then (zs.take m, some (zs.drop m)) else ([], none)
def rdT (st : Option (List Int)) : Sx × Option (List Int) :=
  (⟨(tk (gt 1 (gt 1 st).2).1.toNat (gt 2 (gt 1 (gt 1 st).2).2).2).1, (tk (gt 2 (gt 1 (gt 1 st).2).2).1.toNat (tk (gt 1 (gt 1 st).2).1.toNat (gt 2 (gt 1 (gt 1 st).2).2).2).2).1, decide ((gt 1 st).1 = 0)⟩, (tk (gt 2 (gt 1 (gt 1 st).2).2).1.toNat (tk (gt 1 (gt 1 st).2).1.toNat (gt 2 (gt 1 (gt 1 st).2).2).2).2).2)
theorem val1 (x : Int) : val [x] = x := by simp [val]
theorem val2 (x y : Int) : val [x, y] = x * 256 + y := by simp [val]
theorem rdT_eq : ∀ (zs : List Int), zs ≠ [] → rdT (some zs) = rd1 zs
  | [], h => absurd rfl h
  | [x], _ => by simp [rdT, gt, tk, rd1, val1]
  | [x, a], _ => by simp [rdT, gt, tk, rd1, val1]
  | [x, a, b], _ => by simp [rdT, gt, tk, rd1, val1]
  | x :: a :: b :: c :: r, _ => by
    have e1 : gt 1 (some (x :: a :: b :: c :: r)) = (x, some (a :: b :: c :: r)) := by simp [gt, val1]
    have e2 : gt 1 (some (a :: b :: c :: r)) = (a, some (b :: c :: r)) := by simp [gt, val1]
    have e3 : gt 2 (some (b :: c :: r)) = (b * 256 + c, some r) := by simp [gt, val2]
    unfold rdT
    simp only [e1, e2, e3]
    unfold rd1
    simp only
    by_cases h1 : r.length < a.toNat
    · rw [if_pos h1]
      have e4 : tk a.toNat (some r) = ([], none) := by unfold tk; simp only; rw [if_neg (by omega)]
      simp only [e4]
      simp [tk]
    · rw [if_neg h1]
      have e4 : tk a.toNat (some r) = (r.take a.toNat, some (r.drop a.toNat)) := by unfold tk; simp only; rw [if_pos (by omega)]
      simp only [e4]
      by_cases h2 : (r.drop a.toNat).length < (b * 256 + c).toNat
      · rw [if_pos h2]
        have e5 : tk (b * 256 + c).toNat (some (r.drop a.toNat)) = ([], none) := by unfold tk; simp only; rw [if_neg (by omega)]
        simp only [e5]
      · rw [if_neg h2]
        have e5 : tk (b * 256 + c).toNat (some (r.drop a.toNat)) = ((r.drop a.toNat).take (b * 256 + c).toNat, some ((r.drop a.toNat).drop (b * 256 + c).toNat)) := by unfold tk; simp only; rw [if_pos (by omega)]
        simp only [e5]
theorem gt_bound (W : Nat) (st : Option (List Int)) (h : ∀ zs, st = some zs → Okb zs) : 0 ≤ (gt W st).1 ∧ (gt W st).1 < 256 ^ W := by
  have hp : (0 : Int) < 256 ^ W := Int.pow_pos (by decide)
  cases st with
  | none => exact ⟨Int.le_refl _, hp⟩
  | some zs =>
    unfold gt
    simp only
    split
    · exact val_w (by assumption) (fun z hz => h zs rfl z (List.mem_of_mem_take hz))
    · exact ⟨Int.le_refl _, hp⟩
theorem Rs.okb {w : World} {r g tot : Nat} {st : Option (List Int)} (h : Rs w r g st tot) : ∀ zs, st = some zs → Okb zs := by
  intro zs e
  subst e
  exact h.2.2
theorem okb_drop {zs : List Int} (h : Okb zs) (n : Nat) : Okb (zs.drop n) := fun z hz => h z (List.mem_of_mem_drop hz)
theorem okb_take {zs : List Int} (h : Okb zs) (n : Nat) : Okb (zs.take n) := fun z hz => h z (List.mem_of_mem_take hz)
theorem rs_get8 (r g tot : Nat) (st : Option (List Int)) (w : World) (h : Rs w r g st tot) (ht : tot ≤ 400000000) :
    Calls Tryz.prog 91 #[.pointer (some ⟨r, 0, none⟩)] w fun en w' => en = .returned (.int .u8 (gt 1 st).1) ∧ Rs w' r g (gt 1 st).2 tot ∧ Only r w w' := by
  cases st with
  | none =>
    obtain ⟨p, e, hb⟩ := h
    refine (get8_broken r p e w hb).mono ?_
    rintro en w' ⟨rfl, rfl⟩
    exact ⟨rfl, ⟨p, e, hb⟩, Only.refl _ _⟩
  | some zs =>
    obtain ⟨h1, h2, h3⟩ := h
    by_cases hl : 1 ≤ zs.length
    · have e : gt 1 (some zs) = (val (zs.take 1), some (zs.drop 1)) := by unfold gt; simp only; rw [if_pos hl]
      rw [e]
      refine (get8_whole r g zs _ w h1 hl (by omega) (by omega) (by omega)).mono ?_
      rintro en w' ⟨rfl, q1, q2⟩
      refine ⟨rfl, ⟨?_, by simp; omega, okb_drop h3 _⟩, q2⟩
      have e2 : ((tot : Int) - (zs.drop 1).length) = (tot : Int) - zs.length + 1 := by simp; omega
      rw [e2]
      exact q1
    · have e : gt 1 (some zs) = (0, none) := by unfold gt; simp only; rw [if_neg hl]
      rw [e]
      refine (get8_short r g zs _ w h1 (by omega)).mono ?_
      rintro en w' ⟨rfl, q1, q2⟩
      exact ⟨rfl, ⟨_, _, q1⟩, q2⟩
theorem rs_get16 (r g tot : Nat) (st : Option (List Int)) (w : World) (h : Rs w r g st tot) (ht : tot ≤ 400000000) :
    Calls Tryz.prog 92 #[.pointer (some ⟨r, 0, none⟩)] w fun en w' => en = .returned (.int .u16 (gt 2 st).1) ∧ Rs w' r g (gt 2 st).2 tot ∧ Only r w w' := by
  cases st with
  | none =>
    obtain ⟨p, e, hb⟩ := h
    refine (get16_broken r p e w hb).mono ?_
    rintro en w' ⟨rfl, rfl⟩
    exact ⟨rfl, ⟨p, e, hb⟩, Only.refl _ _⟩
  | some zs =>
    obtain ⟨h1, h2, h3⟩ := h
    by_cases hl : 2 ≤ zs.length
    · have e : gt 2 (some zs) = (val (zs.take 2), some (zs.drop 2)) := by unfold gt; simp only; rw [if_pos hl]
      rw [e]
      refine (get16_whole r g zs _ w h1 hl (by omega) (by omega) (by omega)).mono ?_
      rintro en w' ⟨rfl, q1, q2⟩
      refine ⟨rfl, ⟨?_, by simp; omega, okb_drop h3 _⟩, q2⟩
      have e2 : ((tot : Int) - (zs.drop 2).length) = (tot : Int) - zs.length + 2 := by simp; omega
      rw [e2]
      exact q1
    · have e : gt 2 (some zs) = (0, none) := by unfold gt; simp only; rw [if_neg hl]
      rw [e]
      refine (get16_short r g zs _ w h1 (by omega)).mono ?_
      rintro en w' ⟨rfl, q1, q2⟩
      exact ⟨rfl, ⟨_, _, q1⟩, q2⟩
theorem lies_nil (w : World) (g : Nat) : Lies w g none 0 0 [] := ⟨rfl, Nat.le_refl _, by unfold maxLen; omega, by simp, .inl ⟨rfl, rfl, rfl⟩⟩
theorem rs_bytes (r g tot : Nat) (m : Int) (st : Option (List Int)) (w : World) (h : Rs w r g st tot) (ht : tot ≤ 400000000) (hm : 0 ≤ m) :
    Calls Tryz.prog 93 #[.pointer (some ⟨r, 0, none⟩), .int .i64 m] w fun en w' => ∃ a n, n = (tk m.toNat st).1.length ∧ en = .returned (.slice a n n) ∧ Lies w' g a n n (tk m.toNat st).1 ∧ Rs w' r g (tk m.toNat st).2 tot ∧ Only r w w' := by
  obtain ⟨k, rfl⟩ := Int.eq_ofNat_of_zero_le hm
  simp only [Int.toNat_natCast]
  cases st with
  | none =>
    obtain ⟨p, e, hb⟩ := h
    refine (bytes_broken r k p e w hb).mono ?_
    rintro en w' ⟨rfl, rfl⟩
    exact ⟨none, 0, rfl, rfl, lies_nil _ _, ⟨p, e, hb⟩, Only.refl _ _⟩
  | some zs =>
    obtain ⟨h1, h2, h3⟩ := h
    by_cases hl : k ≤ zs.length
    · have e : tk k (some zs) = (zs.take k, some (zs.drop k)) := by unfold tk; simp only; rw [if_pos hl]
      rw [e]
      refine (bytes_whole r g k zs _ w h1 hl (by omega) (by omega) (by omega)).mono ?_
      rintro en w' ⟨a, rfl, q0, q1, q2⟩
      refine ⟨a, k, by simp; omega, rfl, q0, ⟨?_, by simp; omega, okb_drop h3 _⟩, q2⟩
      have e2 : ((tot : Int) - (zs.drop k).length) = (tot : Int) - zs.length + k := by simp; omega
      rw [e2]
      exact q1
    · have e : tk k (some zs) = ([], none) := by unfold tk; simp only; rw [if_neg hl]
      rw [e]
      refine (bytes_breaks r g k zs _ w h1 10 (.inr ⟨by omega, by omega, rfl⟩)).mono ?_
      rintro en w' ⟨rfl, q1, q2⟩
      exact ⟨none, 0, rfl, rfl, lies_nil _ _, ⟨_, _, q1⟩, q2⟩
def leftS (st : Option (List Int)) : Nat := (st.getD []).length
theorem rs_left (r g tot : Nat) (st : Option (List Int)) (w : World) (h : Rs w r g st tot) :
    Calls Tryz.prog 74 #[.pointer (some ⟨r, 0, none⟩)] w fun en w' => en = .returned (.int .i64 (leftS st)) ∧ w' = w := by
  cases st with
  | none =>
    obtain ⟨p, e, hb⟩ := h
    exact left_broken r p e w hb
  | some zs => exact left_whole r g zs _ w h.1
end Go.Proofs.YteeapmcpbmjpmaaGreat
