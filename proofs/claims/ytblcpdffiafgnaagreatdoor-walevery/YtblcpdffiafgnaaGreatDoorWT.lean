import Derived.Test.YtblcpdffiafgnaaGreatDoorSP
namespace Go.Proofs.YtblcpdffiafgnaaGreatDoor
set_option maxRecDepth 100000
set_option linter.unusedVariables false

/-! Chapter 12 without code: what stands on a device by its decoded sectors (D), what an Open tells of it, and what keeps that. -/
def pcN (n : Nat) : Nat := (n + 479) / 480
def ned (n : Nat) : Nat := if n = 0 ∨ 4800 < n then 0 else if n ≤ 480 then 1 else pcN n + 1
def pce (s : List Int) (i : Nat) : List Int := (s.drop (480 * i)).take 480
def sup (N : Nat) (st : List Int) : List Int := be 4 N ++ be 4 (pcN st.length) ++ be 4 st.length ++ be 4 (updc 0 st)
def edb (tx : List Int) : List Int := be 2 (pcN tx.length) ++ be 4 tx.length ++ be 4 (updc 0 tx)
def roo (N : Nat) : Nat := (N - 2) / 2
def sct (N e p : Nat) : Nat := 2 + e % 2 * roo N + p
abbrev Dcd := Nat → Option Sec
/-- A sector is right as that; its body. -/
def ri (D : Dcd) (i : Nat) (T : ByteArray) (e q p : Nat) : Option (List Int) :=
  match D i with
  | some s => if s.T = T ∧ s.e = e ∧ s.q = q ∧ s.p = p then some s.l else none
  | none => none
theorem ri_some {D : Dcd} {i : Nat} {T : ByteArray} {e q p : Nat} {l : List Int} (h : D i = some ⟨T, e, q, p, l⟩) : ri D i T e q p = some l := by simp [ri, h]
theorem ri_is {D : Dcd} {i : Nat} {T : ByteArray} {e q p : Nat} {l : List Int} (h : ri D i T e q p = some l) : D i = some ⟨T, e, q, p, l⟩ := by
  unfold ri at h
  cases hd : D i with
  | none => rw [hd] at h; cases h
  | some s =>
    rw [hd] at h
    simp only at h
    split at h
    · rename_i k
      obtain ⟨k1, k2, k3, k4⟩ := k
      obtain rfl := Option.some.inj h
      cases s
      simp_all
    · cases h
theorem ri_other {D : Dcd} {i : Nat} {T T' : ByteArray} {e q p e' q' p' : Nat} {l : List Int} (h : D i = some ⟨T, e, q, p, l⟩) (hT : T ≠ T') : ri D i T' e' q' p' = none := by
  simp [ri, h, hT]
theorem t4_t2 : t4 ≠ t2 := by decide
theorem t3_t2 : t3 ≠ t2 := by decide
theorem t2_t4 : t2 ≠ t4 := by decide
theorem t2_t3 : t2 ≠ t3 := by decide
theorem t1_t2 : t1 ≠ t2 := by decide
theorem t4_t3 : t4 ≠ t3 := by decide
theorem t3_t4 : t3 ≠ t4 := by decide

/-- The transaction that begins at a place: the walk of the chapter, f places far. -/
def txR (D : Dcd) (N e s : Nat) : Nat → Nat → Nat → List Int → Bool → Option (List Int × Nat)
  | 0, _, _, _, _ => none
  | f + 1, p, k, tx, full =>
    match ri D (sct N e p) t4 e s p with
    | some one => if k = 0 ∧ 0 < one.length then some (one, p + 1) else none
    | none =>
      match ri D (sct N e p) t3 e s p with
      | some last => if 1 < k ∧ last = edb tx then some (tx, p + 1) else none
      | none =>
        match ri D (sct N e p) t2 e s p with
        | some body => if full = false ∨ k = 10 ∨ body.length = 0 ∨ (k = 0 ∧ body.length ≠ 480) then none else txR D N e s f (p + 1) (k + 1) (tx ++ body) (body.length == 480)
        | none => none
/-- Nothing but pieces of that epoch and seq from a place on: no transaction. -/
theorem txR_none {D : Dcd} {N e s : Nat} : ∀ (f p k : Nat) (tx : List Int) (full : Bool), (∀ q, p ≤ q → q < p + f → ri D (sct N e q) t4 e s q = none ∧ ri D (sct N e q) t3 e s q = none) → txR D N e s f p k tx full = none
  | 0, _, _, _, _, _ => rfl
  | f + 1, p, k, tx, full, h => by
    obtain ⟨h4, h3⟩ := h p (Nat.le_refl _) (by omega)
    unfold txR
    rw [h4, h3]
    simp only
    cases h2 : ri D (sct N e p) t2 e s p with
    | none => rfl
    | some body =>
      simp only
      split
      · rfl
      · exact txR_none f (p + 1) (k + 1) _ _ (fun q h1 h2 => h q (by omega) (by omega))
theorem txR_one {D : Dcd} {N e s p : Nat} {tx : List Int} (f : Nat) (hf : 0 < f) (h : D (sct N e p) = some ⟨t4, e, s, p, tx⟩) (h0 : 0 < tx.length) : txR D N e s f p 0 [] true = some (tx, p + 1) := by
  obtain ⟨f, rfl⟩ : ∃ g, f = g + 1 := ⟨f - 1, by omega⟩
  unfold txR
  rw [ri_some h]
  simp [h0]
theorem pce_length (s : List Int) (i : Nat) : (pce s i).length = min 480 (s.length - 480 * i) := by simp [pce]
theorem pce_take (s : List Int) (i : Nat) : s.take (480 * i) ++ pce s i = s.take (480 * (i + 1)) := by
  rw [pce, show 480 * (i + 1) = 480 * i + 480 from by omega, List.take_add]
theorem pcN_lt {n i : Nat} (h : i < pcN n) : 480 * i < n := by unfold pcN at h; omega
theorem pcN_ge {n i : Nat} (h : pcN n ≤ i) : n ≤ 480 * i := by unfold pcN at h; omega
/-- A transaction of several pieces is read from its i-th piece on. -/
theorem txR_more {D : Dcd} {N e s p : Nat} {tx : List Int} (hk : 2 ≤ pcN tx.length) (hk1 : pcN tx.length ≤ 10) (hp : ∀ i, i < pcN tx.length → D (sct N e (p + i)) = some ⟨t2, e, s, (p + i : Nat), pce tx i⟩) (he : D (sct N e (p + pcN tx.length)) = some ⟨t3, e, s, (p + pcN tx.length : Nat), edb tx⟩) :
    ∀ (m i f : Nat), i + m = pcN tx.length → m < f → txR D N e s f (p + i) i (tx.take (480 * i)) (decide (i < pcN tx.length) || decide (480 * i ≤ tx.length)) = some (tx, p + pcN tx.length + 1)
  | 0, i, f, hi, hf => by
    obtain ⟨f, rfl⟩ : ∃ g, f = g + 1 := ⟨f - 1, by omega⟩
    have hi' : i = pcN tx.length := by omega
    subst hi'
    unfold txR
    rw [ri_other he t3_t4, ri_some he]
    have ht : tx.take (480 * pcN tx.length) = tx := List.take_of_length_le (pcN_ge (Nat.le_refl _))
    rw [ht]
    simp only
    rw [if_pos ⟨by omega, trivial⟩]
  | m + 1, i, f, hi, hf => by
    obtain ⟨f, rfl⟩ : ∃ g, f = g + 1 := ⟨f - 1, by omega⟩
    have hil : i < pcN tx.length := by omega
    have hx := hp i hil
    have hlt := pcN_lt hil
    unfold txR
    rw [ri_other hx t2_t4, ri_other hx t2_t3, ri_some hx]
    simp only
    rw [pce_length]
    have hfull : (decide (i < pcN tx.length) || decide (480 * i ≤ tx.length)) = true := by simp [hil]
    rw [hfull, if_neg (by
      rintro (h | h | h | ⟨h1, h2⟩)
      · cases h
      · omega
      · omega
      · have := pcN_lt (show 1 < pcN tx.length by omega)
        omega), pce_take]
    have ih := txR_more hk hk1 hp he m (i + 1) f (by omega) (by omega)
    rw [show p + (i + 1) = p + i + 1 from by omega] at ih
    rw [← ih]
    congr 1
    by_cases hl : i + 1 < pcN tx.length
    · have := pcN_lt hl
      rw [show (min 480 (tx.length - 480 * i) == 480) = true from by simp; omega]
      simp [hl]
    · have hge := pcN_ge (n := tx.length) (i := i + 1) (by omega)
      by_cases h480 : 480 * (i + 1) ≤ tx.length
      · rw [show (min 480 (tx.length - 480 * i) == 480) = true from by simp; omega]
        simp [h480]
      · rw [show (min 480 (tx.length - 480 * i) == 480) = false from by simp; omega]
        simp [hl, h480]
end Go.Proofs.YtblcpdffiafgnaaGreatDoor
namespace Go.Proofs.YtblcpdffiafgnaaGreatDoor
set_option maxRecDepth 100000
set_option linter.unusedVariables false

/-- A transaction stands at a place, whole. -/
def Tx (D : Dcd) (N e s p : Nat) (tx : List Int) : Prop :=
  (0 < tx.length ∧ tx.length ≤ 480 ∧ D (sct N e p) = some ⟨t4, e, s, p, tx⟩) ∨
  (480 < tx.length ∧ tx.length ≤ 4800 ∧ (∀ i, i < pcN tx.length → D (sct N e (p + i)) = some ⟨t2, e, s, (p + i : Nat), pce tx i⟩) ∧ D (sct N e (p + pcN tx.length)) = some ⟨t3, e, s, (p + pcN tx.length : Nat), edb tx⟩)
theorem ned_one {n : Nat} (h0 : 0 < n) (h1 : n ≤ 480) : ned n = 1 := by unfold ned; rw [if_neg (by omega), if_pos h1]
theorem ned_more {n : Nat} (h0 : 480 < n) (h1 : n ≤ 4800) : ned n = pcN n + 1 ∧ 2 ≤ pcN n ∧ pcN n ≤ 10 := by
  unfold ned pcN
  rw [if_neg (by omega), if_neg (by omega)]
  omega
theorem Tx.read {D : Dcd} {N e s p : Nat} {tx : List Int} (h : Tx D N e s p tx) (f : Nat) (hf : ned tx.length ≤ f) : txR D N e s f p 0 [] true = some (tx, p + ned tx.length) := by
  rcases h with ⟨h0, h1, hd⟩ | ⟨h0, h1, hp, he⟩
  · rw [ned_one h0 h1] at hf ⊢
    exact txR_one f (by omega) hd h0
  · obtain ⟨k1, k2, k3⟩ := ned_more h0 h1
    have := txR_more k2 k3 hp he (pcN tx.length) 0 f (by omega) (by omega)
    rw [k1, ← Nat.add_assoc]
    simpa [show 0 < pcN tx.length by omega] using this
theorem Tx.len {D : Dcd} {N e s p : Nat} {tx : List Int} (h : Tx D N e s p tx) : 0 < tx.length ∧ 0 < ned tx.length := by
  rcases h with ⟨h0, h1, hd⟩ | ⟨h0, h1, hp, he⟩
  · rw [ned_one h0 h1]; omega
  · obtain ⟨k1, k2, k3⟩ := ned_more h0 h1
    omega
/-- All transactions from a place and a seq on, at most f of them. -/
def lgR (D : Dcd) (N e : Nat) : Nat → Nat → Nat → List (List Int) × Nat × Nat
  | 0, s, p => ([], s, p)
  | f + 1, s, p =>
    if 4611686018427387904 < s then ([], s, p) else
    match txR D N e s (roo N - p) p 0 [] true with
    | some (tx, p') => let r := lgR D N e f (s + 1) p'; (tx :: r.1, r.2)
    | none => ([], s, p)
/-- Transactions that stand one behind another. -/
def Ld (D : Dcd) (N e : Nat) : List (List Int) → Nat → Nat → Prop
  | [], _, p => p ≤ roo N
  | tx :: l, s, p => Tx D N e s p tx ∧ Ld D N e l (s + 1) (p + ned tx.length)
def ends (l : List (List Int)) (p : Nat) : Nat := l.foldl (fun p tx => p + ned tx.length) p
theorem ends_cons (tx : List Int) (l : List (List Int)) (p : Nat) : ends (tx :: l) p = ends l (p + ned tx.length) := rfl
theorem ends_le : ∀ (l : List (List Int)) (p : Nat), p ≤ ends l p
  | [], p => Nat.le_refl _
  | tx :: l, p => by rw [ends_cons]; have := ends_le l (p + ned tx.length); omega
theorem Ld.room {D : Dcd} {N e : Nat} : ∀ {l : List (List Int)} {s p : Nat}, Ld D N e l s p → ends l p ≤ roo N
  | [], _, _, h => h
  | tx :: l, s, p, h => by rw [ends_cons]; exact Ld.room h.2
/-- No transaction of that seq begins at that place or behind it. -/
def No (D : Dcd) (N e s p : Nat) : Prop := ∀ q, p ≤ q → q < roo N → ri D (sct N e q) t4 e s q = none ∧ ri D (sct N e q) t3 e s q = none
theorem lgR_ld {D : Dcd} {N e : Nat} : ∀ (l : List (List Int)) (s p f : Nat), Ld D N e l s p → No D N e (s + l.length) (ends l p) → s + l.length ≤ 4611686018427387905 → l.length < f → lgR D N e f s p = (l, s + l.length, ends l p)
  | [], s, p, f, h, hn, hq, hf => by
    obtain ⟨f, rfl⟩ : ∃ g, f = g + 1 := ⟨f - 1, by omega⟩
    unfold lgR
    have hn' : No D N e s p := hn
    by_cases hs : 4611686018427387904 < s
    · rw [if_pos hs]
      rfl
    rw [if_neg hs, txR_none (s := s) (roo N - p) p 0 [] true (fun q h1 h2 => hn' q h1 (by omega))]
    rfl
  | tx :: l, s, p, f, h, hn, hq, hf => by
    obtain ⟨f, rfl⟩ : ∃ g, f = g + 1 := ⟨f - 1, by omega⟩
    have hr := Ld.room h.2
    have hl := ends_le l (p + ned tx.length)
    have hq' : s + 1 + l.length ≤ 4611686018427387905 := by simp at hq; omega
    unfold lgR
    rw [if_neg (by omega), h.1.read (roo N - p) (by omega)]
    simp only
    rw [lgR_ld l (s + 1) (p + ned tx.length) f h.2 (by
      have e1 : s + 1 + l.length = s + (tx :: l).length := by simp; omega
      rw [e1]; exact hn) hq' (by simpa using hf)]
    simp [ends_cons]
    omega
/-- One more behind them. -/
theorem Ld.snoc {D : Dcd} {N e : Nat} {tx : List Int} : ∀ {l : List (List Int)} {s p : Nat}, Ld D N e l s p → Tx D N e (s + l.length) (ends l p) tx → ends l p + ned tx.length ≤ roo N → Ld D N e (l ++ [tx]) s p
  | [], s, p, h, ht, hr => ⟨ht, hr⟩
  | x :: l, s, p, h, ht, hr => by
    refine ⟨h.1, Ld.snoc h.2 ?_ (by rw [ends_cons] at hr; exact hr)⟩
    rw [ends_cons] at ht
    have e1 : s + 1 + l.length = s + (x :: l).length := by simp; omega
    rw [e1]; exact ht
theorem ends_snoc (l : List (List Int)) (tx : List Int) (p : Nat) : ends (l ++ [tx]) p = ends l p + ned tx.length := by simp [ends]
/-- It is kept where the sectors that it lies in are. -/
theorem Tx.keep {D D' : Dcd} {N e s p : Nat} {tx : List Int} (h : Tx D N e s p tx) (hd : ∀ q, p ≤ q → q < p + ned tx.length → D' (sct N e q) = D (sct N e q)) : Tx D' N e s p tx := by
  rcases h with ⟨h0, h1, hx⟩ | ⟨h0, h1, hp, he⟩
  · have := ned_one h0 h1
    exact .inl ⟨h0, h1, by rw [hd p (Nat.le_refl _) (by omega)]; exact hx⟩
  · obtain ⟨k1, k2, k3⟩ := ned_more h0 h1
    exact .inr ⟨h0, h1, fun i hi => by rw [hd (p + i) (by omega) (by omega)]; exact hp i hi, by rw [hd _ (by omega) (by omega)]; exact he⟩
theorem Ld.keep {D D' : Dcd} {N e : Nat} : ∀ {l : List (List Int)} {s p : Nat}, Ld D N e l s p → (∀ q, p ≤ q → q < ends l p → D' (sct N e q) = D (sct N e q)) → Ld D' N e l s p
  | [], _, _, h, _ => h
  | tx :: l, s, p, h, hd => by
    have hl := ends_le l (p + ned tx.length)
    rw [ends_cons] at hd
    exact ⟨h.1.keep (fun q h1 h2 => hd q h1 (by omega)), h.2.keep (fun q h1 h2 => hd q (by omega) h2)⟩
end Go.Proofs.YtblcpdffiafgnaaGreatDoor
namespace Go.Proofs.YtblcpdffiafgnaaGreatDoor
set_option maxRecDepth 100000
set_option linter.unusedVariables false

/-- What a superblock says. -/
structure Sp where
  e : Nat
  s : Nat
  K : Nat
  L : Nat
  m : Nat
def cnt (D : Dcd) (N pl : Nat) : Option Sp :=
  match D pl with
  | some x =>
    if x.T = t1 ∧ x.p = pl ∧ x.e % 2 = pl ∧ x.l.length = 16 ∧ val (sl x.l 0 4) = N ∧ val (sl x.l 4 4) = pcN (val (sl x.l 8 4)).toNat ∧ val (sl x.l 4 4) + 11 ≤ roo N then
      some ⟨x.e.toNat, x.q.toNat, (val (sl x.l 4 4)).toNat, (val (sl x.l 8 4)).toNat, (val (sl x.l 12 4)).toNat⟩
    else none
  | none => none
/-- Its string, piece by piece. -/
def ckR (D : Dcd) (N : Nat) (x : Sp) : Nat → Nat → List Int → Option (List Int)
  | 0, _, l => some l
  | m + 1, i, l =>
    match ri D (sct N x.e i) t2 x.e x.s i with
    | some body => if body.length = min 480 (x.L - 480 * i) then ckR D N x m (i + 1) (l ++ body) else none
    | none => none
def tak (D : Dcd) (N : Nat) (x : Sp) : Option (List Int) :=
  match ckR D N x x.K 0 [] with
  | some l => if updc 0 l = x.m then some l else none
  | none => none
def fst2 (D : Dcd) (N : Nat) : Option Sp → Option Sp → Option (Sp × List Int)
  | some a, b =>
    match tak D N a with
    | some l => some (a, l)
    | none => match b with
      | some b => (tak D N b).map fun l => (b, l)
      | none => none
  | none, some b => (tak D N b).map fun l => (b, l)
  | none, none => none
def fnd (D : Dcd) (N : Nat) : Option (Sp × List Int) :=
  match cnt D N 0, cnt D N 1 with
  | some a, some b => if a.e < b.e then fst2 D N (some b) (some a) else fst2 D N (some a) (some b)
  | a, b => fst2 D N a b
/-- What an Open tells: the string, the transactions, the epoch, the next seq, the place. -/
def opn (D : Dcd) (N : Nat) : Option (List Int × List (List Int) × Nat × Nat × Nat) :=
  match fnd D N with
  | some (x, st) => let r := lgR D N x.e (roo N + 1) x.s x.K; some (st, r.1, x.e, r.2.1, r.2.2)
  | none => none
/-- A device on which a safe log of the epoch e stands with this account; behind its end, and in the other region, just what attempts that were given up have left. -/
structure Qt (D : Dcd) (N e s : Nat) (st : List Int) (l : List (List Int)) : Prop where
  he : 1 ≤ e
  sp : D (e % 2) = some ⟨t1, e, s, (e % 2 : Nat), sup N st⟩
  oth : ∀ x, D ((e + 1) % 2) = some x → x.T = t1 → x.e < e
  ck : ∀ i, i < pcN st.length → D (sct N e i) = some ⟨t2, e, s, i, pce st i⟩
  hK : pcN st.length + 11 ≤ roo N
  ld : Ld D N e l s (pcN st.length)
  no : ∀ q, ends l (pcN st.length) ≤ q → q < roo N → ∀ x, D (sct N e q) = some x → x.e = e → x.q ≤ (s + l.length : Nat) ∧ (x.q = (s + l.length : Nat) → x.T = t2)
  cur : ∀ q, q < roo N → ∀ x, D (sct N e q) = some x → x.e ≤ e
  nxt : ∀ q, q < roo N → ∀ x, D (sct N (e + 1) q) = some x → x.e ≤ e ∨ (x.e = (e + 1 : Nat) ∧ x.T = t2 ∧ x.q ≤ (s + l.length : Nat))
  bst : By st
  hN : N ≤ 8192
  hq : s + l.length ≤ 4611686018427387905
theorem sup_vals {N : Nat} {st : List Int} (hN : N ≤ 8192) (hb : By st) (hl : st.length < 4294967296) : (sup N st).length = 16 ∧ val (sl (sup N st) 0 4) = N ∧ val (sl (sup N st) 4 4) = pcN st.length ∧ val (sl (sup N st) 8 4) = st.length ∧ val (sl (sup N st) 12 4) = updc 0 st := by
  have L := fun j x => be_length j x
  have hs := updc_lt (by omega : (0 : Nat) < 4294967296) hb
  have hp : pcN st.length < 4294967296 := by unfold pcN; omega
  have E : sup N st = be 4 N ++ (be 4 (pcN st.length) ++ (be 4 st.length ++ be 4 (updc 0 st))) := by simp only [sup, List.append_assoc]
  refine ⟨by simp only [sup, List.length_append, L], ?_, ?_, ?_, ?_⟩
  · have h0 := sl_mid (i := 0) (A := ([] : List Int)) (B := be 4 (N : Int)) (C := be 4 (pcN st.length) ++ (be 4 st.length ++ be 4 (updc 0 st))) rfl (L _ _)
    rw [List.nil_append] at h0
    rw [E, h0, val_be, Int.emod_eq_of_lt (by omega) (by omega)]
  · rw [E, sl_mid (L _ _) (L _ _), val_be, Int.emod_eq_of_lt (by omega) (by omega)]
  · rw [E, ← List.append_assoc, sl_mid (by simp only [List.length_append, L]) (L _ _), val_be, Int.emod_eq_of_lt (by omega) (by omega)]
  · rw [E, ← List.append_assoc, ← List.append_assoc, ← List.append_nil (be 4 (updc 0 st : Int)), sl_mid (by simp only [List.length_append, L]) (L _ _), val_be, Int.emod_eq_of_lt (by omega) (by omega)]
theorem ckR_yes {D : Dcd} {N : Nat} {x : Sp} {st : List Int} (hL : x.L = st.length) (hp : ∀ i, i < pcN st.length → D (sct N x.e i) = some ⟨t2, x.e, x.s, i, pce st i⟩) : ∀ (m i : Nat), i + m = pcN st.length → ckR D N x m i (st.take (480 * i)) = some st
  | 0, i, h => by
    unfold ckR
    rw [List.take_of_length_le (pcN_ge (by omega))]
  | m + 1, i, h => by
    unfold ckR
    rw [ri_some (hp i (by omega))]
    simp only
    rw [if_pos (by rw [pce_length, hL]), pce_take]
    exact ckR_yes hL hp m (i + 1) (by omega)
theorem Qt.no_ {D : Dcd} {N e s : Nat} {st : List Int} {l : List (List Int)} (h : Qt D N e s st l) : No D N e (s + l.length) (ends l (pcN st.length)) := by
  intro q h1 h2
  constructor
  · cases hr : ri D (sct N e q) t4 e (s + l.length) q with
    | none => rfl
    | some b => exact absurd ((h.no q h1 h2 _ (ri_is hr) rfl).2 rfl) t4_t2
  · cases hr : ri D (sct N e q) t3 e (s + l.length) q with
    | none => rfl
    | some b => exact absurd ((h.no q h1 h2 _ (ri_is hr) rfl).2 rfl) t3_t2
theorem ends_len {D : Dcd} {N e : Nat} : ∀ {l : List (List Int)} {s p : Nat}, Ld D N e l s p → p + l.length ≤ ends l p
  | [], _, p, _ => Nat.le_refl _
  | tx :: l, s, p, h => by
    have := ends_len h.2
    have := h.1.len.2
    rw [ends_cons]
    simp only [List.length_cons]
    omega
theorem cnt_is {D : Dcd} {N pl : Nat} {x : Sp} (h : cnt D N pl = some x) : ∃ y, D pl = some y ∧ y.T = t1 ∧ x.e = y.e.toNat := by
  unfold cnt at h
  cases hd : D pl with
  | none => rw [hd] at h; cases h
  | some y =>
    rw [hd] at h
    simp only at h
    split at h
    · rename_i k
      obtain rfl := Option.some.inj h
      exact ⟨y, rfl, k.1, rfl⟩
    · cases h
/-- An Open tells just that account. -/
theorem Qt.opn {D : Dcd} {N e s : Nat} {st : List Int} {l : List (List Int)} (h : Qt D N e s st l) : opn D N = some (st, l, e, s + l.length, ends l (pcN st.length)) := by
  have hR : roo N ≤ 4095 := by unfold roo; have := h.hN; omega
  have hlen : st.length < 4294967296 := by have := h.hK; unfold pcN at this; omega
  obtain ⟨v0, v1, v2, v3, v4⟩ := sup_vals h.hN h.bst hlen
  have hc : cnt D N (e % 2) = some ⟨e, s, pcN st.length, st.length, updc 0 st⟩ := by
    unfold cnt
    rw [h.sp]
    dsimp only
    rw [if_pos ⟨rfl, rfl, by omega, v0, v1, by rw [v2, v3, Int.toNat_natCast], by rw [v2]; have := h.hK; omega⟩]
    simp [v2, v3, v4]
  have ho : ∀ x, cnt D N ((e + 1) % 2) = some x → x.e < e := by
    intro x hx
    obtain ⟨y, q1, q2, q3⟩ := cnt_is hx
    have := h.oth y q1 q2
    have := h.he
    omega
  have ht : tak D N ⟨e, s, pcN st.length, st.length, updc 0 st⟩ = some st := by
    unfold tak
    have := ckR_yes (x := ⟨e, s, pcN st.length, st.length, updc 0 st⟩) rfl h.ck (pcN st.length) 0 (by omega)
    simp only [Nat.mul_zero, List.take_zero] at this
    rw [this]
    simp
  have hf : fnd D N = some (⟨e, s, pcN st.length, st.length, updc 0 st⟩, st) := by
    unfold fnd
    by_cases he : e % 2 = 0
    · rw [he] at hc
      have e1 : (e + 1) % 2 = 1 := by omega
      rw [e1] at ho
      rw [hc]
      cases h1 : cnt D N 1 with
      | none => simp only [fst2, ht]
      | some b =>
        have := ho b h1
        simp only
        rw [if_neg (by omega)]
        simp only [fst2, ht]
    · have he1 : e % 2 = 1 := by omega
      rw [he1] at hc
      have e1 : (e + 1) % 2 = 0 := by omega
      rw [e1] at ho
      rw [hc]
      cases h1 : cnt D N 0 with
      | none => simp only [fst2, ht, Option.map]
      | some b =>
        have := ho b h1
        simp only
        rw [if_pos (by omega)]
        simp only [fst2, ht]
  have hle := ends_len h.ld
  have hro := h.ld.room
  unfold Go.Proofs.YtblcpdffiafgnaaGreatDoor.opn
  rw [hf]
  simp only
  rw [lgR_ld l s (pcN st.length) (roo N + 1) h.ld h.no_ h.hq (by omega)]
end Go.Proofs.YtblcpdffiafgnaaGreatDoor
namespace Go.Proofs.YtblcpdffiafgnaaGreatDoor
set_option maxRecDepth 100000
set_option linter.unusedVariables false

/-- One sector is written. -/
def up (D : Dcd) (i : Nat) (x : Sec) : Dcd := fun j => if j = i then some x else D j
theorem up_same (D : Dcd) (i : Nat) (x : Sec) : up D i x i = some x := if_pos rfl
theorem up_other (D : Dcd) {i j : Nat} (x : Sec) (h : j ≠ i) : up D i x j = D j := if_neg h
theorem sct_ge (N e q : Nat) : 2 ≤ sct N e q := by unfold sct; generalize e % 2 * roo N = z; omega
theorem sct_sup (N e q i : Nat) : i % 2 ≠ sct N e q := by have := sct_ge N e q; omega
theorem sct_pl {N e q q' : Nat} (h : q ≠ q') : sct N e q ≠ sct N e q' := by unfold sct; omega
theorem sct_rg {N e q q' : Nat} (h : q < roo N) (h' : q' < roo N) : sct N (e + 1) q ≠ sct N e q' := by
  unfold sct
  by_cases he : e % 2 = 0
  · rw [he, show (e + 1) % 2 = 1 from by omega]; omega
  · rw [show e % 2 = 1 from by omega, show (e + 1) % 2 = 0 from by omega]; omega
theorem sct_two (N e q : Nat) : sct N (e + 1 + 1) q = sct N e q := by unfold sct; rw [show (e + 1 + 1) % 2 = e % 2 from by omega]
section
variable {D : Dcd} {N e s : Nat} {st : List Int} {l : List (List Int)}
/-- What an attempt leaves behind the end of the log. -/
theorem Qt.junk (h : Qt D N e s st l) {q : Nat} (h1 : ends l (pcN st.length) ≤ q) (h2 : q < roo N) (b : List Int) : Qt (up D (sct N e q) ⟨t2, e, (s + l.length : Nat), q, b⟩) N e s st l := by
  have hle := ends_le l (pcN st.length)
  refine ⟨h.he, by rw [up_other _ _ (sct_sup _ _ _ _)]; exact h.sp, fun x hx => ?_, fun i hi => by rw [up_other _ _ (sct_pl (by omega))]; exact h.ck i hi, h.hK, h.ld.keep (fun r r1 r2 => up_other _ _ (sct_pl (by omega))), fun r r1 r2 x hx he => ?_, fun r r1 x hx => ?_, fun r r1 x hx => ?_, h.bst, h.hN, h.hq⟩
  · rw [up_other _ _ (sct_sup _ _ _ _)] at hx
    exact h.oth x hx
  · by_cases e1 : r = q
    · subst e1
      rw [up_same] at hx
      obtain rfl := Option.some.inj hx
      exact ⟨Int.le_refl _, fun _ => rfl⟩
    · rw [up_other _ _ (sct_pl e1)] at hx
      exact h.no r r1 r2 x hx he
  · by_cases e1 : r = q
    · subst e1
      rw [up_same] at hx
      obtain rfl := Option.some.inj hx
      exact Int.le_refl _
    · rw [up_other _ _ (sct_pl e1)] at hx
      exact h.cur r r1 x hx
  · rw [up_other _ _ (sct_rg r1 h2)] at hx
    exact h.nxt r r1 x hx
/-- What an attempt at a checkpoint leaves in the other region. -/
theorem Qt.junk2 (h : Qt D N e s st l) {q : Nat} (h2 : q < roo N) (b : List Int) : Qt (up D (sct N (e + 1) q) ⟨t2, (e + 1 : Nat), (s + l.length : Nat), q, b⟩) N e s st l := by
  have hro := h.ld.room
  have hle := ends_le l (pcN st.length)
  refine ⟨h.he, by rw [up_other _ _ (sct_sup _ _ _ _)]; exact h.sp, fun x hx => ?_, fun i hi => by rw [up_other _ _ (sct_rg h2 (by omega)).symm]; exact h.ck i hi, h.hK, h.ld.keep (fun r r1 r2 => up_other _ _ (sct_rg h2 (by omega)).symm), fun r r1 r2 x hx he => ?_, fun r r1 x hx => ?_, fun r r1 x hx => ?_, h.bst, h.hN, h.hq⟩
  · rw [up_other _ _ (sct_sup _ _ _ _)] at hx
    exact h.oth x hx
  · rw [up_other _ _ (sct_rg h2 r2).symm] at hx
    exact h.no r r1 r2 x hx he
  · rw [up_other _ _ (sct_rg h2 r1).symm] at hx
    exact h.cur r r1 x hx
  · by_cases e1 : r = q
    · subst e1
      rw [up_same] at hx
      obtain rfl := Option.some.inj hx
      exact .inr ⟨rfl, rfl, Int.le_refl _⟩
    · rw [up_other _ _ (sct_pl e1)] at hx
      exact h.nxt r r1 x hx
/-- A transaction has come to stand whole behind the log's end: its last sector was written. -/
theorem Qt.grow (h : Qt D N e s st l) {tx : List Int} {q : Nat} {x : Sec} (hq : q + 1 = ends l (pcN st.length) + ned tx.length) (hxe : x.e = e) (hxq : x.q = (s + l.length : Nat)) (hr : ends l (pcN st.length) + ned tx.length ≤ roo N) (hn : 0 < ned tx.length) (hqn : s + l.length ≤ 4611686018427387904) (ht : Tx (up D (sct N e q) x) N e (s + l.length) (ends l (pcN st.length)) tx) : Qt (up D (sct N e q) x) N e s st (l ++ [tx]) := by
  have hle := ends_le l (pcN st.length)
  have hq2 : q < roo N := by omega
  have hlen : s + (l ++ [tx]).length = s + l.length + 1 := by simp; omega
  refine ⟨h.he, by rw [up_other _ _ (sct_sup _ _ _ _)]; exact h.sp, fun y hy => ?_, fun i hi => by rw [up_other _ _ (sct_pl (by omega))]; exact h.ck i hi, h.hK, Ld.snoc (h.ld.keep (fun r r1 r2 => up_other _ _ (sct_pl (by omega)))) ht hr, fun r r1 r2 y hy he => ?_, fun r r1 y hy => ?_, fun r r1 y hy => ?_, h.bst, h.hN, by rw [hlen]; omega⟩
  · rw [up_other _ _ (sct_sup _ _ _ _)] at hy
    exact h.oth y hy
  · rw [ends_snoc] at r1
    rw [up_other _ _ (sct_pl (by omega))] at hy
    have := (h.no r (by omega) r2 y hy he).1
    rw [hlen]
    exact ⟨by omega, fun q => by omega⟩
  · by_cases e1 : r = q
    · subst e1
      rw [up_same] at hy
      obtain rfl := Option.some.inj hy
      omega
    · rw [up_other _ _ (sct_pl e1)] at hy
      exact h.cur r r1 y hy
  · rw [up_other _ _ (sct_rg r1 hq2)] at hy
    rcases h.nxt r r1 y hy with k | ⟨k1, k2, k3⟩
    · exact .inl k
    · exact .inr ⟨k1, k2, by rw [hlen]; omega⟩
theorem Qt.one (h : Qt D N e s st l) {tx : List Int} (h0 : 0 < tx.length) (h1 : tx.length ≤ 480) (hqn : s + l.length ≤ 4611686018427387904) (hr : ends l (pcN st.length) + 1 ≤ roo N) : Qt (up D (sct N e (ends l (pcN st.length))) ⟨t4, e, (s + l.length : Nat), (ends l (pcN st.length) : Nat), tx⟩) N e s st (l ++ [tx]) := by
  have hn := ned_one h0 h1
  exact h.grow (by omega) rfl rfl (by omega) (by omega) hqn (.inl ⟨h0, h1, up_same _ _ _⟩)
theorem Qt.more (h : Qt D N e s st l) {tx : List Int} (h0 : 480 < tx.length) (h1 : tx.length ≤ 4800) (hqn : s + l.length ≤ 4611686018427387904) (hr : ends l (pcN st.length) + ned tx.length ≤ roo N) (hp : ∀ i, i < pcN tx.length → D (sct N e (ends l (pcN st.length) + i)) = some ⟨t2, e, (s + l.length : Nat), (ends l (pcN st.length) + i : Nat), pce tx i⟩) :
    Qt (up D (sct N e (ends l (pcN st.length) + pcN tx.length)) ⟨t3, e, (s + l.length : Nat), (ends l (pcN st.length) + pcN tx.length : Nat), edb tx⟩) N e s st (l ++ [tx]) := by
  obtain ⟨k1, k2, k3⟩ := ned_more h0 h1
  exact h.grow (by omega) rfl rfl hr (by omega) hqn (.inr ⟨h0, h1, fun i hi => by rw [up_other _ _ (sct_pl (by omega))]; exact hp i hi, up_same _ _ _⟩)
/-- A checkpoint has come to stand: its superblock was written. -/
theorem Qt.turn (h : Qt D N e s st l) {st' : List Int} (hb : By st') (hK : pcN st'.length + 11 ≤ roo N) (hp : ∀ i, i < pcN st'.length → D (sct N (e + 1) i) = some ⟨t2, (e + 1 : Nat), (s + l.length : Nat), i, pce st' i⟩) :
    Qt (up D ((e + 1) % 2) ⟨t1, (e + 1 : Nat), (s + l.length : Nat), ((e + 1) % 2 : Nat), sup N st'⟩) N (e + 1) (s + l.length) st' [] := by
  refine ⟨by omega, up_same _ _ _, fun x hx ht => ?_, fun i hi => by rw [up_other _ _ (sct_sup _ _ _ _).symm]; exact hp i hi, hK, (by show pcN st'.length ≤ roo N; omega), fun r r1 r2 x hx he => ?_, fun r r1 x hx => ?_, fun r r1 x hx => ?_, hb, h.hN, by simpa using h.hq⟩
  · rw [show (e + 1 + 1) % 2 = e % 2 from by omega] at hx
    rw [up_other _ _ (by omega), h.sp] at hx
    obtain rfl := Option.some.inj hx
    show (e : Int) < (e + 1 : Nat)
    omega
  · rw [up_other _ _ (sct_sup _ _ _ _).symm] at hx
    simp only [List.length_nil, Nat.add_zero]
    rcases h.nxt r r2 x hx with k | ⟨k1, k2, k3⟩
    · omega
    · exact ⟨k3, fun _ => k2⟩
  · rw [up_other _ _ (sct_sup _ _ _ _).symm] at hx
    rcases h.nxt r r1 x hx with k | ⟨k1, k2, k3⟩
    · omega
    · omega
  · rw [up_other _ _ (sct_sup _ _ _ _).symm, sct_two] at hx
    have := h.cur r r1 x hx
    exact .inl (by omega)
end
/-- A device of zeros, formatted. -/
theorem Qt.first {D : Dcd} {N : Nat} (hD : ∀ i, D i = none) (h1 : 32 ≤ N) (h2 : N ≤ 8192) : Qt (up D 1 ⟨t1, 1, 1, 1, sup N []⟩) N 1 1 [] [] := by
  have hr : 15 ≤ roo N := by unfold roo; omega
  have h0 : ∀ e q, up D 1 ⟨t1, 1, 1, 1, sup N []⟩ (sct N e q) = none := fun e q => by
    have := sct_ge N e q
    rw [up_other _ _ (by omega), hD]
  refine ⟨by omega, up_same _ _ _, fun x hx => ?_, fun i hi => absurd hi (by simp [pcN]), (by show pcN 0 + 11 ≤ roo N; unfold pcN; omega), (by show pcN 0 ≤ roo N; unfold pcN; omega), fun r _ _ x hx => ?_, fun r _ x hx => ?_, fun r _ x hx => ?_, fun z hz => by simp at hz, h2, by simp⟩
  · rw [up_other _ _ (by decide), hD] at hx
    cases hx
  · rw [h0] at hx; cases hx
  · rw [h0] at hx; cases hx
  · rw [h0] at hx; cases hx
end Go.Proofs.YtblcpdffiafgnaaGreatDoor
