import Derived.Test.YtblcpdffiafgnaaGreatDoorWT
import Derived.Test.YtblcpdffiafgnaaGreatDoorD1
namespace Go.Proofs.YtblcpdffiafgnaaGreatDoor
set_option maxRecDepth 100000
set_option linter.unusedVariables false

/-- The sectors of a device, decoded. -/
def dv (M : Nat → List Int) : Dcd := fun i => gs (M i)
theorem dv_lay1 (M : Nat → List Int) (i : Nat) {x : Sec} (hm : May x) (hb : By x.l) : dv (lay1 M (i, ps x)) = up (dv M) i x := by
  funext j
  unfold dv lay1 up
  by_cases h : j = i
  · rw [if_pos h, if_pos h, gs_ps hm hb]
  · rw [if_neg h, if_neg h]
/-- Whatever of what pends comes to last, the device is as A says. -/
def Fu (S : Nat → List Int) (P : List (Nat × List Int)) (A : Dcd → Prop) : Prop := ∀ P', P'.Sublist P → A (dv (layA S P'))
theorem Fu.nil {S : Nat → List Int} {A : Dcd → Prop} (h : A (dv S)) : Fu S [] A := fun P' hp => by
  obtain rfl := List.sublist_nil.1 hp
  exact h
theorem Fu.cache {S : Nat → List Int} {P : List (Nat × List Int)} {A : Dcd → Prop} (h : Fu S P A) : A (dv (layA S P)) := h P (List.Sublist.refl _)
theorem Fu.weak {S : Nat → List Int} {P : List (Nat × List Int)} {A B : Dcd → Prop} (h : Fu S P A) (hAB : ∀ D, A D → B D) : Fu S P B := fun P' hp => hAB _ (h P' hp)
theorem keepL_sub : ∀ (P : List (Nat × List Int)) (ks : List Bool), (keepL P ks).Sublist P
  | [], ks => by rw [keepL_nil']; exact List.Sublist.refl _
  | p :: P, [] => by rw [keepL_nil]; exact List.nil_sublist _
  | p :: P, true :: ks => (keepL_sub P ks).cons_cons p
  | p :: P, false :: ks => (keepL_sub P ks).cons p
theorem Fu.crash {S : Nat → List Int} {P : List (Nat × List Int)} {A : Dcd → Prop} (h : Fu S P A) (ks : List Bool) : Fu (layA S (keepL P ks)) [] A := Fu.nil (h _ (keepL_sub P ks))
theorem Fu.flush {S : Nat → List Int} {P : List (Nat × List Int)} {A : Dcd → Prop} (h : Fu S P A) : Fu (layA S P) [] A := Fu.nil h.cache
theorem sub_snoc {α : Type} {P P' : List α} {x : α} (h : P'.Sublist (P ++ [x])) : P'.Sublist P ∨ ∃ R, R.Sublist P ∧ P' = R ++ [x] := by
  obtain ⟨R, T, rfl, h1, h2⟩ := List.sublist_append_iff.1 h
  rcases List.sublist_cons_iff.1 h2 with h3 | ⟨r, rfl, h3⟩
  · obtain rfl := List.sublist_nil.1 h3
    exact .inl (by rw [List.append_nil]; exact h1)
  · obtain rfl := List.sublist_nil.1 h3
    exact .inr ⟨R, h1, rfl⟩
theorem Fu.write {S : Nat → List Int} {P : List (Nat × List Int)} {A B : Dcd → Prop} (h : Fu S P A) {i : Nat} {x : Sec} (hm : May x) (hb : By x.l) (h1 : ∀ D, A D → B D) (h2 : ∀ D, A D → B (up D i x)) : Fu S (P ++ [(i, ps x)]) B := fun P' hp => by
  rcases sub_snoc hp with hp | ⟨R, hR, rfl⟩
  · exact h1 _ (h P' hp)
  · rw [layA_snoc, dv_lay1 _ _ hm hb]
    exact h2 _ (h R hR)

/-! Operations that may be refused. -/
/-- Writes, one behind the other, up to the first that is refused. -/
def wrs : St → List (Nat × List Int) → Int × St
  | s, [] => (0, s)
  | s, (i, z) :: r => if opE s = 0 then wrs { opS s with P := s.P ++ [(i, z)] } r else (opE s, opS s)
/-- and a flush. -/
def wfl (s : St) (ws : List (Nat × List Int)) : Int × St :=
  if (wrs s ws).1 = 0 then (opE (wrs s ws).2, if opE (wrs s ws).2 = 0 then { opS (wrs s ws).2 with S := layA (wrs s ws).2.S (wrs s ws).2.P, P := [] } else opS (wrs s ws).2) else wrs s ws
/-- Two rounds of it: the second one, if nothing was refused. -/
def two (s : St) (v w : List (Nat × List Int)) : Int × St := if (wfl s v).1 = 0 then wfl (wfl s v).2 w else wfl s v
theorem opS_S' (s : St) : (opS s).S = s.S := by unfold opS; split <;> rfl
theorem opS_P' (s : St) : (opS s).P = s.P := by unfold opS; split <;> rfl
theorem wrs_S : ∀ (ws : List (Nat × List Int)) (s : St), (wrs s ws).2.S = s.S
  | [], s => rfl
  | (i, z) :: r, s => by
    unfold wrs
    split
    · rw [wrs_S r]; exact opS_S' s
    · exact opS_S' s
/-- What pends behind it is a beginning of the writes; all of them, if none was refused. -/
theorem wrs_P : ∀ (ws : List (Nat × List Int)) (s : St), ∃ k, k ≤ ws.length ∧ (wrs s ws).2.P = s.P ++ ws.take k ∧ ((wrs s ws).1 = 0 → k = ws.length)
  | [], s => ⟨0, Nat.le_refl _, by simp [wrs], fun _ => rfl⟩
  | (i, z) :: r, s => by
    unfold wrs
    split
    · obtain ⟨k, h1, h2, h3⟩ := wrs_P r { opS s with P := s.P ++ [(i, z)] }
      exact ⟨k + 1, by simp; omega, by rw [h2]; simp, fun h => by simp [h3 h]⟩
    · rename_i hne
      exact ⟨0, Nat.zero_le _, by rw [opS_P']; simp, fun h => absurd h hne⟩
theorem wfl_is (s : St) (ws : List (Nat × List Int)) (hP : s.P = []) : ((wfl s ws).1 = 0 → (wfl s ws).2.S = layA s.S ws ∧ (wfl s ws).2.P = []) ∧ ((wfl s ws).1 ≠ 0 → (wfl s ws).2.S = s.S ∧ ∃ k, k ≤ ws.length ∧ (wfl s ws).2.P = ws.take k) := by
  obtain ⟨k, h1, h2, h3⟩ := wrs_P ws s
  rw [hP, List.nil_append] at h2
  have hS := wrs_S ws s
  unfold wfl
  by_cases h0 : (wrs s ws).1 = 0
  · rw [if_pos h0]
    have hk := h3 h0
    subst hk
    rw [List.take_of_length_le (Nat.le_refl _)] at h2
    refine ⟨fun h => ?_, fun h => ?_⟩
    · simp only at h
      simp only
      rw [if_pos h, h2, hS]
      exact ⟨rfl, rfl⟩
    · simp only at h
      simp only
      rw [if_neg h, opS_S', opS_P', hS, h2]
      exact ⟨rfl, ws.length, Nat.le_refl _, (List.take_of_length_le (Nat.le_refl _)).symm⟩
  · rw [if_neg h0]
    exact ⟨fun h => absurd h h0, fun _ => ⟨hS, k, h1, h2⟩⟩
/-- The heart of P12.8: junk first, then one sector that makes it whole. -/
theorem two_whole {A B : Dcd → Prop} (s : St) (v : List (Nat × List Int)) (i : Nat) (x : Sec) (hP : s.P = []) (hv : Fu s.S v A) (hm : May x) (hb : By x.l) (hB : A (dv (layA s.S v)) → B (up (dv (layA s.S v)) i x)) :
    ((two s v [(i, ps x)]).1 = 0 → (two s v [(i, ps x)]).2.P = [] ∧ B (dv (two s v [(i, ps x)]).2.S)) ∧ ((two s v [(i, ps x)]).1 ≠ 0 → Fu (two s v [(i, ps x)]).2.S (two s v [(i, ps x)]).2.P (fun D => A D ∨ B D)) := by
  obtain ⟨a1, a2⟩ := wfl_is s v hP
  unfold two
  by_cases h0 : (wfl s v).1 = 0
  · rw [if_pos h0]
    obtain ⟨q1, q2⟩ := a1 h0
    obtain ⟨b1, b2⟩ := wfl_is (wfl s v).2 [(i, ps x)] q2
    have hA : A (dv (layA s.S v)) := hv.cache
    refine ⟨fun h => ?_, fun h => ?_⟩
    · obtain ⟨r1, r2⟩ := b1 h
      refine ⟨r2, ?_⟩
      rw [r1, q1, show layA (layA s.S v) [(i, ps x)] = lay1 (layA s.S v) (i, ps x) from rfl, dv_lay1 _ _ hm hb]
      exact hB hA
    · obtain ⟨r1, k, r2, r3⟩ := b2 h
      rw [r1, r3, q1]
      have f0 : Fu (layA s.S v) [] (fun D => D = dv (layA s.S v)) := Fu.nil rfl
      have f1 : Fu (layA s.S v) ([] ++ [(i, ps x)]) (fun D => A D ∨ B D) := f0.write hm hb (fun D hD => .inl (by rw [hD]; exact hA)) (fun D hD => .inr (by rw [hD]; exact hB hA))
      intro P' hp
      exact f1 P' (hp.trans (List.take_sublist _ _))
  · rw [if_neg h0]
    refine ⟨fun h => absurd h h0, fun _ => ?_⟩
    obtain ⟨q1, k, q2, q3⟩ := a2 h0
    rw [q1, q3]
    exact fun P' hp => .inl (hv P' (hp.trans (List.take_sublist _ _)))
end Go.Proofs.YtblcpdffiafgnaaGreatDoor
namespace Go.Proofs.YtblcpdffiafgnaaGreatDoor
set_option maxRecDepth 100000
set_option linter.unusedVariables false

/-- The writes of the pieces of a string. -/
def pw (N e n p : Nat) (tx : List Int) (k : Nat) : List (Nat × List Int) := (List.range k).map fun i => (sct N e (p + i), ps ⟨t2, e, n, (p + i : Nat), pce tx i⟩)
theorem pw_succ (N e n p : Nat) (tx : List Int) (k : Nat) : pw N e n p tx (k + 1) = pw N e n p tx k ++ [(sct N e (p + k), ps ⟨t2, e, n, (p + k : Nat), pce tx k⟩)] := by
  unfold pw
  rw [List.range_succ, List.map_append]
  rfl
def mq (x : Nat) : Prop := 1 ≤ x ∧ x ≤ 4611686018427387904
theorem may2 {e n p : Nat} {b : List Int} (he : mq e) (hn : mq n) (hp : p ≤ 8191) (hb : b.length ≤ 480) {T : ByteArray} (hT : isT T) : May ⟨T, e, n, p, b⟩ := by
  refine ⟨hT, ⟨?_, ?_⟩, ⟨?_, ?_⟩, ⟨?_, ?_⟩, hb⟩ <;> simp only <;> unfold mq at * <;> omega
theorem pce_le (s : List Int) (i : Nat) : (pce s i).length ≤ 480 := by rw [pce_length]; omega
theorem pce_by {s : List Int} (h : By s) (i : Nat) : By (pce s i) := (h.drop _).take _
theorem isT2 : isT t2 := .inr (.inl rfl)
/-- Behind all of them the pieces stand. -/
theorem pw_laid {N e n p : Nat} {tx : List Int} (S : Nat → List Int) (he : mq e) (hn : mq n) (hb : By tx) : ∀ (k : Nat), p + k ≤ 8192 → ∀ i, i < k → dv (layA S (pw N e n p tx k)) (sct N e (p + i)) = some ⟨t2, e, n, (p + i : Nat), pce tx i⟩
  | 0, _, i, hi => by omega
  | k + 1, hk, i, hi => by
    rw [pw_succ, layA_snoc, dv_lay1 _ _ (may2 he hn (by omega) (pce_le _ _) isT2) (pce_by hb _)]
    by_cases e1 : i = k
    · subst e1
      exact up_same _ _ _
    · rw [up_other _ _ (sct_pl (by omega))]
      exact pw_laid S he hn hb k (by omega) i (by omega)
/-- While they are written the account stays what it is. -/
theorem pw_junk {N e s : Nat} {st : List Int} {l : List (List Int)} {tx : List Int} {S : Nat → List Int} (h : Qt (dv S) N e s st l) (he : mq e) (hn : mq (s + l.length)) (hb : By tx) : ∀ (k : Nat), ends l (pcN st.length) + k ≤ roo N → Fu S (pw N e (s + l.length) (ends l (pcN st.length)) tx k) (fun D => Qt D N e s st l)
  | 0, _ => Fu.nil h
  | k + 1, hk => by
    have hR : roo N ≤ 4095 := by unfold roo; have := h.hN; omega
    rw [pw_succ]
    exact (pw_junk h he hn hb k (by omega)).write (may2 he hn (by omega) (pce_le _ _) isT2) (pce_by hb _) (fun D hD => hD) (fun D hD => hD.junk (by omega) (by omega) _)
theorem pw_junk2 {N e s : Nat} {st : List Int} {l : List (List Int)} {tx : List Int} {S : Nat → List Int} (h : Qt (dv S) N e s st l) (he : mq (e + 1)) (hn : mq (s + l.length)) (hb : By tx) : ∀ (k : Nat), k ≤ roo N → Fu S (pw N (e + 1) (s + l.length) 0 tx k) (fun D => Qt D N e s st l)
  | 0, _ => Fu.nil h
  | k + 1, hk => by
    have hR : roo N ≤ 4095 := by unfold roo; have := h.hN; omega
    rw [pw_succ]
    exact (pw_junk2 h he hn hb k (by omega)).write (may2 he hn (by omega) (pce_le _ _) isT2) (pce_by hb _) (fun D hD => hD) (fun D hD => by
      have := hD.junk2 (q := k) (by omega) (pce tx k)
      rw [Nat.zero_add]
      exact this)
/-- An Append: what it answers, and how the device stands. -/
def apR (s : St) (N e n p : Nat) (tx : List Int) : Int × St :=
  if tx.length ≤ 480 then wfl s [(sct N e p, ps ⟨t4, e, n, p, tx⟩)] else two s (pw N e n p tx (pcN tx.length)) [(sct N e (p + pcN tx.length), ps ⟨t3, e, n, (p + pcN tx.length : Nat), edb tx⟩)]
/-- A Checkpoint. -/
def ckp (s : St) (N e n : Nat) (st : List Int) : Int × St := two s (pw N (e + 1) n 0 st (pcN st.length)) [((e + 1) % 2, ps ⟨t1, (e + 1 : Nat), n, ((e + 1) % 2 : Nat), sup N st⟩)]
theorem edb_by (tx : List Int) : By (edb tx) := By.app (By.app (be_byte _ _) (be_byte _ _)) (be_byte _ _)
theorem sup_by (N : Nat) (st : List Int) : By (sup N st) := By.app (By.app (By.app (be_byte _ _) (be_byte _ _)) (be_byte _ _)) (be_byte _ _)
theorem edb_length (tx : List Int) : (edb tx).length = 10 := by simp only [edb, List.length_append, be_length]
theorem sup_length (N : Nat) (st : List Int) : (sup N st).length = 16 := by simp only [sup, List.length_append, be_length]
/-- P12.8, one Append: whole or not at all, whatever is refused and whatever survives. -/
theorem append_whole {s : St} {N e s0 : Nat} {st tx : List Int} {l : List (List Int)} (hP : s.P = []) (h : Qt (dv s.S) N e s0 st l) (he : mq e) (hn : mq (s0 + l.length)) (hb : By tx) (h0 : 0 < tx.length) (h1 : tx.length ≤ 4800) (hr : ends l (pcN st.length) + ned tx.length ≤ roo N) :
    ((apR s N e (s0 + l.length) (ends l (pcN st.length)) tx).1 = 0 → (apR s N e (s0 + l.length) (ends l (pcN st.length)) tx).2.P = [] ∧ Qt (dv (apR s N e (s0 + l.length) (ends l (pcN st.length)) tx).2.S) N e s0 st (l ++ [tx])) ∧
    ((apR s N e (s0 + l.length) (ends l (pcN st.length)) tx).1 ≠ 0 → Fu (apR s N e (s0 + l.length) (ends l (pcN st.length)) tx).2.S (apR s N e (s0 + l.length) (ends l (pcN st.length)) tx).2.P (fun D => Qt D N e s0 st l ∨ Qt D N e s0 st (l ++ [tx]))) := by
  have hR : roo N ≤ 4095 := by unfold roo; have := h.hN; omega
  unfold apR
  by_cases h480 : tx.length ≤ 480
  · rw [if_pos h480]
    have hn1 := ned_one h0 h480
    have hm : May ⟨t4, e, (s0 + l.length : Nat), (ends l (pcN st.length) : Nat), tx⟩ := may2 he hn (by omega) h480 (.inr (.inr (.inr rfl)))
    obtain ⟨b1, b2⟩ := wfl_is s [(sct N e (ends l (pcN st.length)), ps ⟨t4, e, (s0 + l.length : Nat), (ends l (pcN st.length) : Nat), tx⟩)] hP
    refine ⟨fun q => ?_, fun q => ?_⟩
    · obtain ⟨r1, r2⟩ := b1 q
      refine ⟨r2, ?_⟩
      rw [r1, show layA s.S [(sct N e (ends l (pcN st.length)), ps ⟨t4, e, (s0 + l.length : Nat), (ends l (pcN st.length) : Nat), tx⟩)] = lay1 s.S (sct N e (ends l (pcN st.length)), ps ⟨t4, e, (s0 + l.length : Nat), (ends l (pcN st.length) : Nat), tx⟩) from rfl, dv_lay1 _ _ hm hb]
      exact h.one h0 h480 hn.2 (by omega)
    · obtain ⟨r1, k, r2, r3⟩ := b2 q
      rw [r1, r3]
      have f0 : Fu s.S [] (fun D => Qt D N e s0 st l) := Fu.nil h
      have f1 := f0.write (B := fun D => Qt D N e s0 st l ∨ Qt D N e s0 st (l ++ [tx])) (i := sct N e (ends l (pcN st.length))) hm hb (fun D hD => .inl hD) (fun D hD => .inr (hD.one h0 h480 hn.2 (by omega)))
      exact fun P' hp => f1 P' (hp.trans (List.take_sublist _ _))
  · rw [if_neg h480]
    obtain ⟨k1, k2, k3⟩ := ned_more (by omega) h1
    have hm : May ⟨t3, e, (s0 + l.length : Nat), (ends l (pcN st.length) + pcN tx.length : Nat), edb tx⟩ := may2 he hn (by omega) (by rw [edb_length]; omega) (.inr (.inr (.inl rfl)))
    exact two_whole (A := fun D => Qt D N e s0 st l) (B := fun D => Qt D N e s0 st (l ++ [tx])) s (pw N e (s0 + l.length) (ends l (pcN st.length)) tx (pcN tx.length)) (sct N e (ends l (pcN st.length) + pcN tx.length)) _ hP (pw_junk h he hn hb _ (by omega)) hm (edb_by tx) (fun hA => hA.more (by omega) h1 hn.2 hr (fun i hi => pw_laid s.S he hn hb _ (by omega) i hi))
/-- P12.8, one Checkpoint. -/
theorem check_whole {s : St} {N e s0 : Nat} {st st' : List Int} {l : List (List Int)} (hP : s.P = []) (h : Qt (dv s.S) N e s0 st l) (he : mq (e + 1)) (hn : mq (s0 + l.length)) (hb : By st') (hK : pcN st'.length + 11 ≤ roo N) :
    ((ckp s N e (s0 + l.length) st').1 = 0 → (ckp s N e (s0 + l.length) st').2.P = [] ∧ Qt (dv (ckp s N e (s0 + l.length) st').2.S) N (e + 1) (s0 + l.length) st' []) ∧
    ((ckp s N e (s0 + l.length) st').1 ≠ 0 → Fu (ckp s N e (s0 + l.length) st').2.S (ckp s N e (s0 + l.length) st').2.P (fun D => Qt D N e s0 st l ∨ Qt D N (e + 1) (s0 + l.length) st' [])) := by
  have hR : roo N ≤ 4095 := by unfold roo; have := h.hN; omega
  have hm : May ⟨t1, (e + 1 : Nat), (s0 + l.length : Nat), ((e + 1) % 2 : Nat), sup N st'⟩ := may2 he hn (by omega) (by rw [sup_length]; omega) (.inl rfl)
  exact two_whole (A := fun D => Qt D N e s0 st l) (B := fun D => Qt D N (e + 1) (s0 + l.length) st' []) s (pw N (e + 1) (s0 + l.length) 0 st' (pcN st'.length)) ((e + 1) % 2) _ hP (pw_junk2 h he hn hb _ (by omega)) hm (sup_by N st') (fun hA => hA.turn hb hK (fun i hi => by
    have := pw_laid (N := N) (p := 0) s.S he hn hb (pcN st'.length) (by omega) i hi
    rw [Nat.zero_add] at this
    exact this))
end Go.Proofs.YtblcpdffiafgnaaGreatDoor
namespace Go.Proofs.YtblcpdffiafgnaaGreatDoor
set_option maxRecDepth 100000
set_option linter.unusedVariables false

/-! An Open as a program of reads: the same for the code and for the document, whatever is refused. -/
inductive Rp (α : Type) where
  | ret : α → Rp α
  | rd : Nat → (Option Sec → Rp α) → Rp α
def Rp.bind {α β : Type} : Rp α → (α → Rp β) → Rp β
  | .ret a, f => f a
  | .rd i k, f => .rd i fun x => (k x).bind f
/-- What it tells of these sectors. -/
def Rp.eval {α : Type} (D : Dcd) : Rp α → α
  | .ret a => a
  | .rd i k => (k (D i)).eval D
theorem Rp.eval_bind {α β : Type} (D : Dcd) (f : α → Rp β) : ∀ r : Rp α, (r.bind f).eval D = (f (r.eval D)).eval D
  | .ret a => rfl
  | .rd i k => Rp.eval_bind D f (k (D i))
/-- How many reads it does. -/
def Rp.cost {α : Type} (D : Dcd) : Rp α → Nat
  | .ret _ => 0
  | .rd i k => (k (D i)).cost D + 1
theorem Rp.cost_bind {α β : Type} (D : Dcd) (f : α → Rp β) : ∀ r : Rp α, (r.bind f).cost D = r.cost D + (f (r.eval D)).cost D
  | .ret a => by simp [Rp.bind, Rp.cost, Rp.eval]
  | .rd i k => by simp only [Rp.bind, Rp.cost, Rp.eval]; rw [Rp.cost_bind D f (k (D i))]; omega
/-- At a device, up to the first operation that is refused: its answer (or the error), the device behind it. -/
def Rp.run {α : Type} : Rp α → St → (Except Int α) × St
  | .ret a, s => (.ok a, s)
  | .rd i k, s => if opE s = 0 then (k (gs (layA s.S s.P i))).run (opS s) else (.error (opE s), opS s)
theorem Rp.run_bind {α β : Type} (f : α → Rp β) : ∀ (r : Rp α) (s : St), (r.bind f).run s = match r.run s with
    | (.ok a, s') => (f a).run s'
    | (.error e, s') => (.error e, s')
  | .ret a, s => rfl
  | .rd i k, s => by
    simp only [Rp.bind, Rp.run]
    split
    · exact Rp.run_bind f _ _
    · rfl
/-- Reads turn nothing of what lasts and of what pends. -/
theorem Rp.run_SP {α : Type} : ∀ (r : Rp α) (s : St), (r.run s).2.S = s.S ∧ (r.run s).2.P = s.P
  | .ret a, s => ⟨rfl, rfl⟩
  | .rd i k, s => by
    unfold Rp.run
    split
    · have := Rp.run_SP (k (gs (layA s.S s.P i))) (opS s)
      rw [opS_S', opS_P'] at this
      exact this
    · exact ⟨opS_S' s, opS_P' s⟩
/-- What was answered is what the sectors tell. -/
theorem Rp.run_ok {α : Type} : ∀ (r : Rp α) (s : St) (a : α), (r.run s).1 = .ok a → a = r.eval (dv (layA s.S s.P))
  | .ret a, s, b, h => by cases h; rfl
  | .rd i k, s, b, h => by
    unfold Rp.run at h
    split at h
    · have := Rp.run_ok (k (gs (layA s.S s.P i))) (opS s) b h
      rw [opS_S', opS_P'] at this
      exact this
    · cases h
/-- What a sector is right as; its body. -/
def rx (x : Option Sec) (T : ByteArray) (e q p : Nat) : Option (List Int) :=
  match x with
  | some s => if s.T = T ∧ s.e = e ∧ s.q = q ∧ s.p = p then some s.l else none
  | none => none
theorem ri_rx (D : Dcd) (i : Nat) (T : ByteArray) (e q p : Nat) : ri D i T e q p = rx (D i) T e q p := rfl
def txP (N e s : Nat) : Nat → Nat → Nat → List Int → Bool → Rp (Option (List Int × Nat))
  | 0, _, _, _, _ => .ret none
  | f + 1, p, k, tx, full => .rd (sct N e p) fun x =>
    match rx x t4 e s p with
    | some one => .ret (if k = 0 ∧ 0 < one.length then some (one, p + 1) else none)
    | none =>
      match rx x t3 e s p with
      | some last => .ret (if 1 < k ∧ last = edb tx then some (tx, p + 1) else none)
      | none =>
        match rx x t2 e s p with
        | some body => if full = false ∨ k = 10 ∨ body.length = 0 ∨ (k = 0 ∧ body.length ≠ 480) then .ret none else txP N e s f (p + 1) (k + 1) (tx ++ body) (body.length == 480)
        | none => .ret none
theorem txP_eval (D : Dcd) (N e s : Nat) : ∀ (f p k : Nat) (tx : List Int) (full : Bool), (txP N e s f p k tx full).eval D = txR D N e s f p k tx full
  | 0, _, _, _, _ => rfl
  | f + 1, p, k, tx, full => by
    unfold txP txR
    simp only [Rp.eval, ri_rx]
    cases h4 : rx (D (sct N e p)) t4 e s p with
    | some one => rfl
    | none =>
      simp only
      cases h3 : rx (D (sct N e p)) t3 e s p with
      | some last => rfl
      | none =>
        simp only
        cases h2 : rx (D (sct N e p)) t2 e s p with
        | none => rfl
        | some body =>
          simp only
          split
          · rfl
          · exact txP_eval D N e s f _ _ _ _
def lgP (N e : Nat) : Nat → Nat → Nat → Rp (List (List Int) × Nat × Nat)
  | 0, s, p => .ret ([], s, p)
  | f + 1, s, p => if 4611686018427387904 < s then .ret ([], s, p) else (txP N e s (roo N - p) p 0 [] true).bind fun r =>
    match r with
    | some (tx, p') => (lgP N e f (s + 1) p').bind fun r => .ret (tx :: r.1, r.2)
    | none => .ret ([], s, p)
theorem lgP_eval (D : Dcd) (N e : Nat) : ∀ (f s p : Nat), (lgP N e f s p).eval D = lgR D N e f s p
  | 0, s, p => rfl
  | f + 1, s, p => by
    unfold lgP lgR
    by_cases hs : 4611686018427387904 < s
    · rw [if_pos hs, if_pos hs]
      rfl
    rw [if_neg hs, if_neg hs, Rp.eval_bind, txP_eval]
    cases h : txR D N e s (roo N - p) p 0 [] true with
    | none => rfl
    | some r =>
      obtain ⟨tx, p'⟩ := r
      simp only
      rw [Rp.eval_bind, lgP_eval D N e f (s + 1) p']
      rfl
def cnX (x : Option Sec) (N pl : Nat) : Option Sp :=
  match x with
  | some x =>
    if x.T = t1 ∧ x.p = pl ∧ x.e % 2 = pl ∧ x.l.length = 16 ∧ val (sl x.l 0 4) = N ∧ val (sl x.l 4 4) = pcN (val (sl x.l 8 4)).toNat ∧ val (sl x.l 4 4) + 11 ≤ roo N then
      some ⟨x.e.toNat, x.q.toNat, (val (sl x.l 4 4)).toNat, (val (sl x.l 8 4)).toNat, (val (sl x.l 12 4)).toNat⟩
    else none
  | none => none
theorem cnt_cnX (D : Dcd) (N pl : Nat) : cnt D N pl = cnX (D pl) N pl := rfl
def ckP (N : Nat) (x : Sp) : Nat → Nat → List Int → Rp (Option (List Int))
  | 0, _, l => .ret (some l)
  | m + 1, i, l => .rd (sct N x.e i) fun y =>
    match rx y t2 x.e x.s i with
    | some body => if body.length = min 480 (x.L - 480 * i) then ckP N x m (i + 1) (l ++ body) else .ret none
    | none => .ret none
theorem ckP_eval (D : Dcd) (N : Nat) (x : Sp) : ∀ (m i : Nat) (l : List Int), (ckP N x m i l).eval D = ckR D N x m i l
  | 0, _, _ => rfl
  | m + 1, i, l => by
    unfold ckP ckR
    simp only [Rp.eval, ri_rx]
    cases h : rx (D (sct N x.e i)) t2 x.e x.s i with
    | none => rfl
    | some body =>
      simp only
      split
      · exact ckP_eval D N x m _ _
      · rfl
def tkP (N : Nat) (x : Sp) : Rp (Option (List Int)) := (ckP N x x.K 0 []).bind fun r => .ret (match r with
  | some l => if updc 0 l = x.m then some l else none
  | none => none)
theorem tkP_eval (D : Dcd) (N : Nat) (x : Sp) : (tkP N x).eval D = tak D N x := by
  unfold tkP tak
  rw [Rp.eval_bind, ckP_eval]
  rfl
/-- The first of these superblocks that is taken. -/
def fsP (N : Nat) : List Sp → Rp (Option (Sp × List Int))
  | [] => .ret none
  | a :: l => (tkP N a).bind fun r =>
    match r with
    | some st => .ret (some (a, st))
    | none => fsP N l
def two12 (a b : Option Sp) : List Sp :=
  match a, b with
  | some a, some b => if a.e < b.e then [b, a] else [a, b]
  | some a, none => [a]
  | none, some b => [b]
  | none, none => []
def fnP (N : Nat) : Rp (Option (Sp × List Int)) := .rd 0 fun x => .rd 1 fun y => fsP N (two12 (cnX x N 0) (cnX y N 1))
theorem fsP_eval (D : Dcd) (N : Nat) : ∀ l : List Sp, (fsP N l).eval D = match l with
    | [] => none
    | a :: l => match tak D N a with
      | some st => some (a, st)
      | none => (fsP N l).eval D
  | [] => rfl
  | a :: l => by
    conv => lhs; unfold fsP
    rw [Rp.eval_bind, tkP_eval]
    simp only
    cases h : tak D N a with
    | none => simp only
    | some st => simp only [Rp.eval]
theorem fnP_eval (D : Dcd) (N : Nat) : (fnP N).eval D = fnd D N := by
  unfold fnP fnd
  simp only [Rp.eval, ← cnt_cnX]
  cases h0 : cnt D N 0 with
  | none =>
    cases h1 : cnt D N 1 with
    | none => rfl
    | some b =>
      simp only [two12, fst2]
      rw [fsP_eval]
      simp only
      cases tak D N b with
      | none => rfl
      | some l => rfl
  | some a =>
    cases h1 : cnt D N 1 with
    | none =>
      simp only [two12, fst2]
      rw [fsP_eval]
      simp only
      cases tak D N a with
      | none => rfl
      | some l => rfl
    | some b =>
      simp only [two12]
      split
      · rw [fsP_eval]
        simp only [fst2]
        cases tak D N b with
        | some l => rfl
        | none =>
          simp only
          rw [fsP_eval]
          simp only
          cases tak D N a with
          | none => rfl
          | some l => rfl
      · rw [fsP_eval]
        simp only [fst2]
        cases tak D N a with
        | some l => rfl
        | none =>
          simp only
          rw [fsP_eval]
          simp only
          cases tak D N b with
          | none => rfl
          | some l => rfl
/-- An Open, behind its claim. -/
def onP (N : Nat) : Rp (Option (List Int × List (List Int) × Nat × Nat × Nat)) := (fnP N).bind fun r =>
  match r with
  | some (x, st) => (lgP N x.e (roo N + 1) x.s x.K).bind fun r => .ret (some (st, r.1, x.e, r.2.1, r.2.2))
  | none => .ret none
theorem onP_eval (D : Dcd) (N : Nat) : (onP N).eval D = opn D N := by
  unfold onP opn
  rw [Rp.eval_bind, fnP_eval]
  cases fnd D N with
  | none => rfl
  | some r =>
    obtain ⟨x, st⟩ := r
    simp only
    rw [Rp.eval_bind, lgP_eval]
    rfl
/-- P12.8: an Open that answers OK tells what stands there. -/
theorem open_tells {s : St} {N : Nat} {A : Dcd → Prop} (h : Fu s.S s.P A) {r : Option (List Int × List (List Int) × Nat × Nat × Nat)} (hr : ((onP N).run s).1 = .ok r) : ∃ D, A D ∧ D = dv (layA s.S s.P) ∧ r = opn D N :=
  ⟨_, h.cache, rfl, by rw [Rp.run_ok _ _ _ hr, onP_eval]⟩
end Go.Proofs.YtblcpdffiafgnaaGreatDoor
namespace Go.Proofs.YtblcpdffiafgnaaGreatDoor
set_option maxRecDepth 100000
open Go.RowKit
set_option linter.unusedVariables false

theorem pieces0_ (n : Int) (w : World) (hn : n ≤ 9223372036854775807) : Calls Tryz.prog 22 #[.int .i64 n] w fun e w' => e = .returned (.int .i64 (pcN n.toNat)) ∧ w' = w := by
  by_cases h : n < 1
  · have e0 : ((pcN n.toNat : Nat) : Int) = 0 := by unfold pcN; omega
    rw [e0]
    go_enter Tryz.func22, Tryz.ntmps22
    go_wp2_with fail
    go_ret
    exact ⟨rfl, rfl⟩
  · have e0 : ((pcN n.toNat : Nat) : Int) = (n - 1) / 480 + 1 := by unfold pcN; omega
    have e1 : (n - 1).tdiv 480 = (n - 1) / 480 := Int.tdiv_eq_ediv_of_nonneg (by omega)
    have e2 : 1 ≤ n := by omega
    have h1 : 0 ≤ (n - 1) / 480 := by omega
    have h2 : (n - 1) / 480 ≤ 19215358410114116 := by omega
    rw [e0]
    go_enter Tryz.func22, Tryz.ntmps22
    go_wp2_with fail
    go_ret
    exact ⟨rfl, rfl⟩
theorem need0_ (n : Int) (w : World) (hn : n ≤ 9223372036854775807) : Calls Tryz.prog 23 #[.int .i64 n] w fun e w' => e = .returned (.int .i64 (ned n.toNat)) ∧ w' = w := by
  by_cases h : n < 1
  · have e0 : ((ned n.toNat : Nat) : Int) = 0 := by unfold ned; rw [if_pos (by omega)]; rfl
    rw [e0]
    go_enter Tryz.func23, Tryz.ntmps23
    go_wp2_with fail
    go_ret
    exact ⟨rfl, rfl⟩
  by_cases hb : 4800 < n
  · have e0 : ((ned n.toNat : Nat) : Int) = 0 := by unfold ned; rw [if_pos (by omega)]; rfl
    rw [e0]
    go_enter Tryz.func23, Tryz.ntmps23
    go_wp2_with fail
    go_ret
    exact ⟨rfl, rfl⟩
  by_cases hs : n ≤ 480
  · have e0 : ((ned n.toNat : Nat) : Int) = 1 := by rw [ned_one (by omega) (by omega)]; rfl
    rw [e0]
    go_enter Tryz.func23, Tryz.ntmps23
    go_wp2_with fail
    go_ret
    exact ⟨rfl, rfl⟩
  · obtain ⟨k1, k2, k3⟩ := ned_more (n := n.toNat) (by omega) (by omega)
    have e0 : ((ned n.toNat : Nat) : Int) = (pcN n.toNat : Nat) + 1 := by rw [k1]; rfl
    have kp := pieces0_ n w hn
    obtain ⟨P, HP⟩ : ∃ P : Nat, Hid (pcN n.toNat = P) := ⟨_, rfl⟩
    rw [e0]
    rw [HP.out] at kp k3 ⊢
    clear k1 k2 e0
    go_enter Tryz.func23, Tryz.ntmps23
    go_wp2_with fail
    refine kp.mono ?_
    rintro e w' ⟨rfl, hw⟩
    obtain rfl := hw.symm
    go_wp2_with fail
    go_ret
    exact ⟨rfl, rfl⟩
/-- A number that goes on where nothing was refused. -/
def inc (E : Int) (x k : Nat) : Nat := if E = 0 then x + k else x
theorem inc_y (x k : Nat) : inc 0 x k = x + k := rfl
theorem inc_n {E : Int} (h : E ≠ 0) (x k : Nat) : inc E x k = x := if_neg h
end Go.Proofs.YtblcpdffiafgnaaGreatDoor
