import Derived.Test.YtblcpdffiafgnaaGreatDoorZB
import Derived.Deep.RegionHeld
import Derived.Deep.RegionHeldLaw
namespace Go.Proofs.YtblcpdffiafgnaaGreatDoor
set_option linter.unusedSimpArgs false
set_option maxRecDepth 100000
open Go.RowKit Go.Shelf
set_option linter.unusedVariables false
set_option linter.unusedSimpArgs false
variable {Ee : Ex}

/-- What a step of the kind K makes of a town. -/
def Ts (K : Int) (dat : List Int) (fs : List (Int × Int)) (ks : List Bool) (T T' : Tp) : Prop :=
  (K = 2 ∧ T' = opT T) ∨ (K = 3 ∧ T' = sfT T) ∨ ((K = 4 ∨ K = 5) ∧ ∃ d, By d ∧ (K = 4 → d = dat) ∧ T' = apT T d) ∨ ((K = 6 ∨ K = 7) ∧ ∃ d, By d ∧ (K = 6 → d = dat) ∧ T' = ckT T d) ∨ (K = 9 ∧ T' = arT T fs) ∨ (K = 10 ∧ T' = crT T ks) ∨ ((K < 2 ∨ K = 8 ∨ 10 < K) ∧ T' = T)
theorem Ts.tv {K : Int} {dat : List Int} {fs : List (Int × Int)} {ks : List Bool} {T T' : Tp} {n : Nat} (h : Ts K dat fs ks T T') (hv : Tv T n) (hn : n ≤ 1000000) : Tv T' (n + 1) := by
  rcases h with ⟨_, rfl⟩ | ⟨_, rfl⟩ | ⟨_, d, hb, _, rfl⟩ | ⟨_, d, hb, _, rfl⟩ | ⟨_, rfl⟩ | ⟨_, rfl⟩ | ⟨_, rfl⟩
  · exact hv.opens
  · exact hv.safes
  · exact hv.app hn hb
  · exact hv.ck hn hb
  · exact (hv.arm fs).up (by omega)
  · exact (hv.crash ks).up (by omega)
  · exact hv.up (by omega)
/-- Bytes that are handed in: they lie before w0, or behind all that may be written. -/
def Od (w0 : World) (R : Nat → Prop) (a : Option Addr) (m : Nat) : Prop := ∀ ad, a = some ad → 0 < m → ¬ R ad.block
/-! The middle of a step: an Append or a Checkpoint of a log that is there. -/
section
variable {w0 w : World} {t d g : Nat} {l : Value} {Q R : Nat → Prop} {s1 x1 s2 x2 s3 x3 : Value} {T : Tp} {n : Nat} {ep nx pl : Nat}
/-- An Append as the town's step calls it: the error, and what is there ahead of settles. -/
def apE (T : Tp) (tx : List Int) : Int :=
  match T.lg with
  | none => 0
  | some (ep, nx, pl) => if T.safe = false then 115 else if aE true tx.length nx pl (roo T.s.n) ≠ 0 then aE true tx.length nx pl (roo T.s.n) else (apR T.s T.s.n ep nx pl tx).1
def apM (T : Tp) (tx : List Int) : Tp :=
  match T.lg with
  | none => T
  | some (ep, nx, pl) => if T.safe = false then T else if aE true tx.length nx pl (roo T.s.n) ≠ 0 then T else
    if (apR T.s T.s.n ep nx pl tx).1 = 0 then { T with s := (apR T.s T.s.n ep nx pl tx).2, lg := some (ep, nx + 1, pl + ned tx.length) } else { T with s := (apR T.s T.s.n ep nx pl tx).2, lg := some (0, 0, 0) }
def ckE (T : Tp) (st : List Int) : Int :=
  match T.lg with
  | none => 0
  | some (ep, nx, pl) => if T.safe = false then 115 else if kE true st.length ep nx (roo T.s.n) ≠ 0 then kE true st.length ep nx (roo T.s.n) else (ckp T.s T.s.n ep nx st).1
def ckM (T : Tp) (st : List Int) : Tp :=
  match T.lg with
  | none => T
  | some (ep, nx, pl) => if T.safe = false then T else if kE true st.length ep nx (roo T.s.n) ≠ 0 then T else
    if (ckp T.s T.s.n ep nx st).1 = 0 then { T with s := (ckp T.s T.s.n ep nx st).2, lg := some (ep + 1, nx, pcN st.length) } else { T with s := (ckp T.s T.s.n ep nx st).2, lg := some (0, 0, 0) }
/-- What is left of a step: the town behind the call, and that accounts which lay out of R lie there still. -/
def Tm (Ee : Ex) (w0 w w' : World) (t d g : Nat) (l : Value) (Q R : Nat → Prop) (s1 x1 s2 x2 s3 x3 : Value) (T' : Tp) : Prop := ∃ Q' R', Ti Ee w0 w' t d g l Q' R' s1 x1 s2 x2 s3 x3 T' ∧ Fr (Qg Q g) w w' ∧ (∀ b, Q' b → Q b ∨ (w.heap.size ≤ b ∧ b < w'.heap.size)) ∧ (∀ b, R b → R' b) ∧ (∀ b, R' b → R b ∨ (w.heap.size ≤ b ∧ b < w'.heap.size))
theorem Tm.same {T' : Tp} (H : Ti Ee w0 w t d g l Q R s1 x1 s2 x2 s3 x3 T') {w' : World} (hb : Below w.heap.size w w') : Tm Ee w0 w w' t d g l Q R s1 x1 s2 x2 s3 x3 T' := ⟨Q, R, H.below hb, .ofB hb, fun b q => .inl q, fun b q => q, fun b q => .inl q⟩
theorem edd_k (s : St) : edd s.k false s = false := by unfold edd; simp
theorem app_mid (H : Ti Ee w0 w t d g l Q R s1 x1 s2 x2 s3 x3 T) (hv : Tv T n) (hn : n ≤ 150) (hlg : T.lg = some (ep, nx, pl)) (a : Option Addr) (m c : Nat) (tx : List Int) (hb : Bs w a m tx) (hq : ∀ ad, a = some ad → 0 < m → ¬ R ad.block) (hmc : m ≤ c) (hcm : c ≤ maxLen) (hmm : m ≤ 9223372036854775807) :
    Calls Tryz.prog 20 #[l, .slice a m c] w fun en w' => en = .returned (.int .i64 (apE T tx)) ∧ Tm Ee w0 w w' t d g l Q R s1 x1 s2 x2 s3 x3 (apM T tx) := by
  obtain ⟨p1, p2, p3, p4, p5⟩ := hv.pl hlg
  obtain ⟨e1, q1, gt, rg⟩ := H.wq hlg p2
  subst e1
  obtain rfl : tx.length = m := hb.1
  unfold apE apM
  rw [hlg]
  simp only
  cases hsf : T.safe with
  | false =>
    rw [hsf] at q1
    rw [if_pos rfl, if_pos rfl]
    have ka := wapp_no q1 a tx.length c hmm p1 (by rw [Bool.false_and, show aE false tx.length nx pl (roo T.s.n) = 115 from rfl]; decide)
    rw [Bool.false_and, show aE false tx.length nx pl (roo T.s.n) = 115 from rfl] at ka
    refine ka.mono ?_
    rintro en w' ⟨rfl, hd⟩
    exact ⟨rfl, Tm.same H hd.below⟩
  | true =>
    rw [hsf] at q1
    rw [if_neg (show ¬ true = false by simp), if_neg (show ¬ true = false by simp)]
    by_cases hE : aE true tx.length nx pl (roo T.s.n) = 0
    · rw [if_neg (fun q => q hE), if_neg (fun q => q hE)]
      obtain ⟨m1, m2, m3, m4⟩ := aE_ok hE
      obtain ⟨c1, c2, c3, c4, c5⟩ := apR_n T.s T.s.n ep nx pl tx m2
      have ka := wapp_ q1 rfl a tx.length c tx hb (fun ad ha h0 => ⟨fun q => hq ad ha h0 (H.qr _ q), fun q => hq ad ha h0 (q ▸ rg)⟩) hmc hcm m1 m2 ⟨by omega, by omega⟩ ⟨by omega, by omega⟩ m4 (by have := hv.c; omega) (by have := hv.P; omega)
      refine ka.mono ?_
      rintro en w' ⟨rfl, z⟩
      refine ⟨rfl, ?_⟩
      have htq : ¬ Qg Q g t := fun q => by
        rcases q with q | q
        · exact H.qt q
        · exact gt q.symm
      have tn1 := H.tn.fr z.f htq
      rw [hsf] at tn1
      by_cases h0 : (apR T.s T.s.n ep nx pl tx).1 = 0
      · rw [if_pos h0]
        rw [h0] at z
        have T1 := H.wz hlg p2 z c2 (some (ep, inc 0 nx 1, inc 0 pl (ned tx.length))) true (.inr ⟨rfl, rfl, rfl⟩) tn1
        exact ⟨_, _, T1, z.f, fun b q => q, fun b q => .inl q, fun b q => q⟩
      · rw [if_neg h0]
        have T1 := H.wz hlg p2 z c2 (some (0, 0, 0)) true (.inl rfl) tn1
        exact ⟨_, _, T1, z.f, fun b q => q, fun b q => .inl q, fun b q => q⟩
    · rw [if_pos hE, if_pos hE]
      have ka := wapp_no q1 a tx.length c hmm p1 (by rw [edd_k]; exact hE)
      rw [edd_k] at ka
      refine ka.mono ?_
      rintro en w' ⟨rfl, hd⟩
      exact ⟨rfl, Tm.same H hd.below⟩
theorem ck_mid (H : Ti Ee w0 w t d g l Q R s1 x1 s2 x2 s3 x3 T) (hv : Tv T n) (hn : n ≤ 150) (hlg : T.lg = some (ep, nx, pl)) (a : Option Addr) (m c : Nat) (tx : List Int) (hb : Bs w a m tx) (hq : ∀ ad, a = some ad → 0 < m → ¬ R ad.block) (hmc : m ≤ c) (hcm : c ≤ maxLen) (hmm : m ≤ 9223372036854775807) :
    Calls Tryz.prog 25 #[l, .slice a m c] w fun en w' => en = .returned (.int .i64 (ckE T tx)) ∧ Tm Ee w0 w w' t d g l Q R s1 x1 s2 x2 s3 x3 (ckM T tx) := by
  obtain ⟨p1, p2, p3, p4, p5⟩ := hv.pl hlg
  obtain ⟨e1, q1, gt, rg⟩ := H.wq hlg p2
  subst e1
  obtain rfl : tx.length = m := hb.1
  unfold ckE ckM
  rw [hlg]
  simp only
  cases hsf : T.safe with
  | false =>
    rw [hsf] at q1
    rw [if_pos rfl, if_pos rfl]
    have ka := wchk_no q1 a tx.length c hmm (by rw [Bool.false_and, show kE false tx.length ep nx (roo T.s.n) = 115 from rfl]; decide)
    rw [Bool.false_and, show kE false tx.length ep nx (roo T.s.n) = 115 from rfl] at ka
    refine ka.mono ?_
    rintro en w' ⟨rfl, hd⟩
    exact ⟨rfl, Tm.same H hd.below⟩
  | true =>
    rw [hsf] at q1
    rw [if_neg (show ¬ true = false by simp), if_neg (show ¬ true = false by simp)]
    by_cases hE : kE true tx.length ep nx (roo T.s.n) = 0
    · rw [if_neg (fun q => q hE), if_neg (fun q => q hE)]
      have m1 := kE_ok hE
      obtain ⟨c1, c2, c3, c4, c5⟩ := ckp_n T.s T.s.n ep nx tx
      have ka := wchk_ q1 rfl a tx.length c tx hb (fun ad ha h0 => ⟨fun q => hq ad ha h0 (H.qr _ q), fun q => hq ad ha h0 (q ▸ rg)⟩) hmc hcm ⟨by omega, by omega⟩ ⟨by omega, by omega⟩ m1 (by have := hv.c; omega) (by have := hv.P; omega)
      refine ka.mono ?_
      rintro en w' ⟨rfl, z⟩
      refine ⟨rfl, ?_⟩
      have htq : ¬ Qg Q g t := fun q => by
        rcases q with q | q
        · exact H.qt q
        · exact gt q.symm
      have tn1 := H.tn.fr z.f htq
      rw [hsf] at tn1
      by_cases h0 : (ckp T.s T.s.n ep nx tx).1 = 0
      · rw [if_pos h0]
        rw [h0] at z
        have T1 := H.wz hlg p2 z c2 (some (inc 0 ep 1, nx, if (0 : Int) = 0 then pcN tx.length else pl)) true (.inr ⟨rfl, rfl, rfl⟩) tn1
        exact ⟨_, _, T1, z.f, fun b q => q, fun b q => .inl q, fun b q => q⟩
      · rw [if_neg h0]
        have T1 := H.wz hlg p2 z c2 (some (0, 0, 0)) true (.inl rfl) tn1
        exact ⟨_, _, T1, z.f, fun b q => q, fun b q => .inl q, fun b q => q⟩
    · rw [if_pos hE, if_pos hE]
      have ka := wchk_no q1 a tx.length c hmm (by rw [edd_k]; exact hE)
      rw [edd_k] at ka
      refine ka.mono ?_
      rintro en w' ⟨rfl, hd⟩
      exact ⟨rfl, Tm.same H hd.below⟩
end
/-- What settles makes of it. -/
theorem apM_st {T : Tp} {n : Nat} (hv : Tv T n) (hn : n ≤ 1000000) (hsf : T.safe = true) (tx : List Int) : stT (apM T tx) (apE T tx) (T.A.1, T.A.2 ++ [tx]) = apT T tx ∨ T.lg = none := by
  cases hlg : T.lg with
  | none => exact .inr rfl
  | some y =>
    refine .inl ?_
    obtain ⟨ep, nx, pl⟩ := y
    obtain ⟨p1, p2, p3, p4, p5⟩ := hv.pl hlg
    unfold apM apE apT
    rw [hlg]
    simp only [hsf, Bool.true_eq_false, if_false]
    by_cases hE : aE true tx.length nx pl (roo T.s.n) = 0
    · simp only [hE, ne_eq, not_true_eq_false, if_false]
      obtain ⟨m1, m2, m3, m4⟩ := aE_ok hE
      obtain ⟨c1, c2, c3, c4, c5⟩ := apR_n T.s T.s.n ep nx pl tx m2
      unfold stT
      by_cases h0 : (apR T.s T.s.n ep nx pl tx).1 = 0
      · simp only [h0, if_true]
      · simp only [h0, if_false, if_pos (c5.resolve_left h0)]
    · simp only [hE, ne_eq, not_false_eq_true, if_true]
      have := (aE_is (m := tx.length) (pl := pl) (R := roo T.s.n) (show nx ≤ 1000000 by omega)).resolve_left hE
      unfold stT
      rw [if_neg hE, if_neg (by omega)]
theorem ckM_st {T : Tp} {n : Nat} (hv : Tv T n) (hn : n ≤ 1000000) (hsf : T.safe = true) (st : List Int) : stT (ckM T st) (ckE T st) (st, []) = ckT T st ∨ T.lg = none := by
  cases hlg : T.lg with
  | none => exact .inr rfl
  | some y =>
    refine .inl ?_
    obtain ⟨ep, nx, pl⟩ := y
    obtain ⟨p1, p2, p3, p4, p5⟩ := hv.pl hlg
    unfold ckM ckE ckT
    rw [hlg]
    simp only [hsf, Bool.true_eq_false, if_false]
    by_cases hE : kE true st.length ep nx (roo T.s.n) = 0
    · simp only [hE, ne_eq, not_true_eq_false, if_false]
      obtain ⟨c1, c2, c3, c4, c5⟩ := ckp_n T.s T.s.n ep nx st
      unfold stT
      by_cases h0 : (ckp T.s T.s.n ep nx st).1 = 0
      · simp only [h0, if_true]
      · simp only [h0, if_false, if_pos (c5.resolve_left h0)]
    · simp only [hE, ne_eq, not_false_eq_true, if_true]
      have := (kE_is (m := st.length) (R := roo T.s.n) (show nx ≤ 1000000 by omega) (show ep ≤ 1000000 by omega)).resolve_left hE
      unfold stT
      rw [if_neg hE, if_neg (by omega)]
theorem apE_is {T : Tp} {n : Nat} (hv : Tv T n) (hn : n ≤ 1000000) (hsf : T.safe = true) (tx : List Int) : apE T tx = 0 ∨ apE T tx = 111 ∨ apE T tx = 112 ∨ apE T tx = 103 ∨ apE T tx = 104 := by
  unfold apE
  split
  · exact .inl rfl
  · rename_i ep nx pl hlg
    obtain ⟨p1, p2, p3, p4, p5⟩ := hv.pl hlg
    rw [if_neg (by rw [hsf]; simp)]
    by_cases hE : aE true tx.length nx pl (roo T.s.n) = 0
    · rw [if_neg (fun q => q hE)]
      obtain ⟨m1, m2, m3, m4⟩ := aE_ok hE
      have := (apR_n T.s T.s.n ep nx pl tx m2).2.2.2.2
      omega
    · rw [if_pos hE]
      have := (aE_is (m := tx.length) (pl := pl) (R := roo T.s.n) (show nx ≤ 1000000 by omega)).resolve_left hE
      omega
theorem ckE_is {T : Tp} {n : Nat} (hv : Tv T n) (hn : n ≤ 1000000) (hsf : T.safe = true) (st : List Int) : ckE T st = 0 ∨ ckE T st = 111 ∨ ckE T st = 112 ∨ ckE T st = 103 ∨ ckE T st = 104 := by
  unfold ckE
  split
  · exact .inl rfl
  · rename_i ep nx pl hlg
    obtain ⟨p1, p2, p3, p4, p5⟩ := hv.pl hlg
    rw [if_neg (by rw [hsf]; simp)]
    by_cases hE : kE true st.length ep nx (roo T.s.n) = 0
    · rw [if_neg (fun q => q hE)]
      have := (ckp_n T.s T.s.n ep nx st).2.2.2.2
      omega
    · rw [if_pos hE]
      have := (kE_is (m := st.length) (R := roo T.s.n) (show nx ≤ 1000000 by omega) (show ep ≤ 1000000 by omega)).resolve_left hE
      omega
end Go.Proofs.YtblcpdffiafgnaaGreatDoor
namespace Go.Proofs.YtblcpdffiafgnaaGreatDoor
set_option linter.unusedSimpArgs false
set_option maxRecDepth 100000
open Go.RowKit Go.Shelf
set_option linter.unusedVariables false
set_option linter.unusedSimpArgs false
variable {Ee : Ex}

/-- An Op's cells. -/
abbrev opC (K N : Int) (old : Bool) (da : Option Addr) (dn dc : Nat) (fa : Option Addr) (fm fc : Nat) (ka : Option Addr) (kn kc : Nat) (z1 z2 z3 z4 z5 : Value) : Array Value := #[.int .i64 K, .int .i64 N, .bool old, .slice da dn dc, .slice fa fm fc, .slice ka kn kc, z1, z2, z3, z4, z5]
/-- One block more may turn: it is new. -/
theorem Ti.grow {w0 w w' : World} {t d g g1 : Nat} {l : Value} {Q R : Nat → Prop} {s1 x1 s2 x2 s3 x3 : Value} {T : Tp} (h : Ti Ee w0 w t d g l Q R s1 x1 s2 x2 s3 x3 T) (hb : Below w.heap.size w w') (h1 : w.heap.size ≤ g1) (h2 : g1 < w'.heap.size) : Ti Ee w0 w' t d g l Q (fun b => R b ∨ b = g1) s1 x1 s2 x2 s3 x3 T := by
  have hr : ∀ b, (R b ∨ b = g1) → R b ∨ (w.heap.size ≤ b ∧ b < w'.heap.size) := fun b q => by
    rcases q with q | q
    · exact .inl q
    · exact .inr ⟨by omega, by omega⟩
  have F : Fr R w w' := .ofB hb
  refine h.turn F (h.tn.below hb) (h.dv.below hb) ?_ (fun b q => .inl (h.qr b q)) (fun b q => .inl q) h.qt hr (h.a1.fr F hr) (h.a2.fr F hr) (h.a3.fr F hr)
  have hl := (h.below hb).lg
  revert hl
  cases T.lg with
  | none => exact id
  | some y =>
    obtain ⟨ep, nx, pl⟩ := y
    exact fun hl => ⟨hl.1, fun he => ⟨(hl.2 he).1, (hl.2 he).2.1, (hl.2 he).2.2.1, (hl.2 he).2.2.2.1, .inl (hl.2 he).2.2.2.2⟩⟩
/-- A block of R that is none of the town's, the device's, the log's has turned. -/
theorem Ti.other {w0 w w' : World} {t d g g1 : Nat} {l : Value} {Q R : Nat → Prop} {s1 x1 s2 x2 s3 x3 : Value} {T : Tp} (h : Ti Ee w0 w t d g l Q R s1 x1 s2 x2 s3 x3 T) (F : Fr (fun b => b = g1) w w') (h1 : R g1) (h2 : g1 ≠ t) (h3 : ¬ Q g1) (h4 : g ≠ g1) : Ti Ee w0 w' t d g l Q R s1 x1 s2 x2 s3 x3 T := by
  have F' : Fr R w w' := F.weak (fun b _ q => q ▸ h1)
  have hr : ∀ b, R b → R b ∨ (w.heap.size ≤ b ∧ b < w'.heap.size) := fun b q => .inl q
  refine h.turn F' (h.tn.fr F (fun q => h2 q.symm)) (h.dv.fr F (fun b hb q => h3 (q ▸ hb))) ?_ h.qr (fun b q => q) h.qt hr (h.a1.fr F' hr) (h.a2.fr F' hr) (h.a3.fr F' hr)
  have hl := h.lg
  revert hl
  cases T.lg with
  | none => exact id
  | some y =>
    obtain ⟨ep, nx, pl⟩ := y
    exact fun hl => ⟨hl.1, fun he => ⟨(hl.2 he).1, (hl.2 he).2.1.at (F.same g (hl.2 he).2.1.lt h4), (hl.2 he).2.2⟩⟩
theorem fr_setRow (w : World) (g : Nat) (ds : Array Value) : Fr (fun b => b = g) w (w.setRow g ds) := ⟨rfl, rfl, rfl, by simp [World.setRow], fun b _ hn => setRow_other w g b ds hn⟩
section
variable (w0 w : World) (t : Nat) (T : Tp) (n : Nat) (K N : Int) (old : Bool) (da : Option Addr) (dn dc : Nat) (dat : List Int) (fa : Option Addr) (fm fc : Nat) (fs : List (Int × Int)) (ka : Option Addr) (kn kc : Nat) (ks : List Bool) (z1 z2 z3 z4 z5 : Value)
/-- What a step asks of its Op. -/
structure Oo : Prop where
  hd : Bs w da dn dat
  hdq : ∀ ad, da = some ad → 0 < dn → ad.block < w0.heap.size
  hdc : dn ≤ dc
  hdm : dc ≤ maxLen
  hdn : dn ≤ 140737488351232
  hf : Fs w fa fm fs
  hfm : fm * 16 ≤ 140737488355328
  hk : Bl w ka kn ks
  hkq : ∀ ad, ka = some ad → 0 < kn → ad.block < w0.heap.size
  hkn : kn ≤ 140737488355328
theorem Bl.below {w w' : World} {a : Option Addr} {n : Nat} {ks : List Bool} (h : Bl w a n ks) (hb : Below w.heap.size w w') : Bl w' a n ks := by
  refine ⟨h.1, ?_⟩
  rcases h.2 with h0 | ⟨b, off, e, hc⟩
  · exact .inl h0
  · exact .inr ⟨b, off, e, fun i hi => (hb.cell (p := ⟨b, off + i, none⟩) (World.block_lt_of_cell? w _ (hc i hi))).trans (hc i hi)⟩
set_option maxHeartbeats 8000000 in
theorem step_2 (h : Tw Ee w0 w t T) (hv : Tv T n) (hn : n ≤ 150) (ho : Oo w0 w da dn dc dat fa fm fs ka kn ks) :
    Calls Tryz.prog 10 #[.pointer (some ⟨t, 0, none⟩), .agg (opC 2 N old da dn dc fa fm fc ka kn kc z1 z2 z3 z4 z5)] w fun en w' => en = .returned (.bool true) ∧ ∃ T', Ts 2 dat fs ks T T' ∧ Tw Ee w0 w' t T' := by
  have B1 : Below w.heap.size w (w.alloc (.cells (opC 2 N old da dn dc fa fm fc ka kn kc z1 z2 z3 z4 z5) 33)) := (Below.refl _ _).alloc (Nat.le_refl _) _
  have r0 : (w.alloc (.cells (opC 2 N old da dn dc fa fm fc ka kn kc z1 z2 z3 z4 z5) 33)).heap[w.heap.size]? = some (.cells (opC 2 N old da dn dc fa fm fc ka kn kc z1 z2 z3 z4 z5) 33 (0, 0)) := World.alloc_heap_new w _
  obtain ⟨W, HW⟩ : ∃ W, w.alloc (.cells (opC 2 N old da dn dc fa fm fc ka kn kc z1 z2 z3 z4 z5) 33) = W := ⟨_, rfl⟩
  rw [HW] at B1 r0
  have c0 : W.cell? ⟨w.heap.size, 0, none⟩ = some (.int .i64 2) := (cell_of_row _ _ 0 _ _ (0, 0) r0).trans rfl
  have c3 : W.cell? ⟨w.heap.size, 3, none⟩ = some (.slice da dn dc) := (cell_of_row _ _ 3 _ _ (0, 0) r0).trans rfl
  have ko := opens_ w0 W t T n (h.below B1) hv hn
  clear h r0 B1
  go_enter Tryz.func10, Tryz.ntmps10
  go_wp2_with fail
  refine ko.mono ?_
  rintro en w1 ⟨rfl, h1⟩
  simp only
  have HF := hid h1
  clear ko h1
  go_wp2_with fail
  go_ret
  exact ⟨rfl, _, .inl ⟨rfl, rfl⟩, HF.out⟩
set_option maxHeartbeats 8000000 in
theorem step_3 (h : Tw Ee w0 w t T) (hv : Tv T n) (hn : n ≤ 150) (ho : Oo w0 w da dn dc dat fa fm fs ka kn ks) :
    Calls Tryz.prog 10 #[.pointer (some ⟨t, 0, none⟩), .agg (opC 3 N old da dn dc fa fm fc ka kn kc z1 z2 z3 z4 z5)] w fun en w' => en = .returned (.bool true) ∧ ∃ T', Ts 3 dat fs ks T T' ∧ Tw Ee w0 w' t T' := by
  have B1 : Below w.heap.size w (w.alloc (.cells (opC 3 N old da dn dc fa fm fc ka kn kc z1 z2 z3 z4 z5) 33)) := (Below.refl _ _).alloc (Nat.le_refl _) _
  have r0 : (w.alloc (.cells (opC 3 N old da dn dc fa fm fc ka kn kc z1 z2 z3 z4 z5) 33)).heap[w.heap.size]? = some (.cells (opC 3 N old da dn dc fa fm fc ka kn kc z1 z2 z3 z4 z5) 33 (0, 0)) := World.alloc_heap_new w _
  obtain ⟨W, HW⟩ : ∃ W, w.alloc (.cells (opC 3 N old da dn dc fa fm fc ka kn kc z1 z2 z3 z4 z5) 33) = W := ⟨_, rfl⟩
  rw [HW] at B1 r0
  have c0 : W.cell? ⟨w.heap.size, 0, none⟩ = some (.int .i64 3) := (cell_of_row _ _ 0 _ _ (0, 0) r0).trans rfl
  have c3 : W.cell? ⟨w.heap.size, 3, none⟩ = some (.slice da dn dc) := (cell_of_row _ _ 3 _ _ (0, 0) r0).trans rfl
  have ko := safes_ w0 W t T n (h.below B1) hv hn
  clear h r0 B1
  go_enter Tryz.func10, Tryz.ntmps10
  go_wp2_with fail
  refine ko.mono ?_
  rintro en w1 ⟨rfl, h1⟩
  simp only
  have HF := hid h1
  clear ko h1
  go_wp2_with fail
  go_ret
  exact ⟨rfl, _, .inr (.inl ⟨rfl, rfl⟩), HF.out⟩
set_option maxHeartbeats 8000000 in
theorem step_10 (h : Tw Ee w0 w t T) (hv : Tv T n) (hn : n ≤ 150) (ho : Oo w0 w da dn dc dat fa fm fs ka kn ks) :
    Calls Tryz.prog 10 #[.pointer (some ⟨t, 0, none⟩), .agg (opC 10 N old da dn dc fa fm fc ka kn kc z1 z2 z3 z4 z5)] w fun en w' => en = .returned (.bool true) ∧ ∃ T', Ts 10 dat fs ks T T' ∧ Tw Ee w0 w' t T' := by
  have B1 : Below w.heap.size w (w.alloc (.cells (opC 10 N old da dn dc fa fm fc ka kn kc z1 z2 z3 z4 z5) 33)) := (Below.refl _ _).alloc (Nat.le_refl _) _
  have r0 : (w.alloc (.cells (opC 10 N old da dn dc fa fm fc ka kn kc z1 z2 z3 z4 z5) 33)).heap[w.heap.size]? = some (.cells (opC 10 N old da dn dc fa fm fc ka kn kc z1 z2 z3 z4 z5) 33 (0, 0)) := World.alloc_heap_new w _
  obtain ⟨W, HW⟩ : ∃ W, w.alloc (.cells (opC 10 N old da dn dc fa fm fc ka kn kc z1 z2 z3 z4 z5) 33) = W := ⟨_, rfl⟩
  rw [HW] at B1 r0
  have c0 : W.cell? ⟨w.heap.size, 0, none⟩ = some (.int .i64 10) := (cell_of_row _ _ 0 _ _ (0, 0) r0).trans rfl
  have c3 : W.cell? ⟨w.heap.size, 3, none⟩ = some (.slice da dn dc) := (cell_of_row _ _ 3 _ _ (0, 0) r0).trans rfl
  have c5 : W.cell? ⟨w.heap.size, 5, none⟩ = some (.slice ka kn kc) := (cell_of_row _ _ 5 _ _ (0, 0) r0).trans rfl
  have hkb := ho.hk.below B1
  have ko := tcrash_ w0 W t T n (h.below B1) hv hn ka kn kc ks hkb ho.hkq ho.hkn
  clear h r0 B1
  go_enter Tryz.func10, Tryz.ntmps10
  go_wp2_with fail
  refine ko.mono ?_
  rintro en w1 ⟨rfl, h1⟩
  simp only
  have HF := hid h1
  clear ko h1
  go_wp2_with fail
  go_ret
  exact ⟨rfl, _, .inr (.inr (.inr (.inr (.inr (.inl ⟨rfl, rfl⟩))))), HF.out⟩
end
end Go.Proofs.YtblcpdffiafgnaaGreatDoor
namespace Go.Proofs.YtblcpdffiafgnaaGreatDoor
set_option linter.unusedSimpArgs false
set_option maxRecDepth 100000
open Go.RowKit Go.Shelf
set_option linter.unusedVariables false
set_option linter.unusedSimpArgs false
variable {Ee : Ex}

section
variable (w0 w : World) (t : Nat) (T : Tp) (n : Nat) (K N : Int) (old : Bool) (da : Option Addr) (dn dc : Nat) (dat : List Int) (fa : Option Addr) (fm fc : Nat) (fs : List (Int × Int)) (ka : Option Addr) (kn kc : Nat) (ks : List Bool) (z1 z2 z3 z4 z5 : Value)
set_option maxHeartbeats 8000000 in
theorem step_0 (h : Tw Ee w0 w t T) (hv : Tv T n) (hn : n ≤ 150) (ho : Oo w0 w da dn dc dat fa fm fs ka kn ks) (hK : K < 2 ∨ K = 8 ∨ 10 < K) :
    Calls Tryz.prog 10 #[.pointer (some ⟨t, 0, none⟩), .agg (opC K N old da dn dc fa fm fc ka kn kc z1 z2 z3 z4 z5)] w fun en w' => en = .returned (.bool true) ∧ ∃ T', Ts K dat fs ks T T' ∧ Tw Ee w0 w' t T' := by
  have B1 : Below w.heap.size w (w.alloc (.cells (opC K N old da dn dc fa fm fc ka kn kc z1 z2 z3 z4 z5) 33)) := (Below.refl _ _).alloc (Nat.le_refl _) _
  have r0 : (w.alloc (.cells (opC K N old da dn dc fa fm fc ka kn kc z1 z2 z3 z4 z5) 33)).heap[w.heap.size]? = some (.cells (opC K N old da dn dc fa fm fc ka kn kc z1 z2 z3 z4 z5) 33 (0, 0)) := World.alloc_heap_new w _
  obtain ⟨W, HW⟩ : ∃ W, w.alloc (.cells (opC K N old da dn dc fa fm fc ka kn kc z1 z2 z3 z4 z5) 33) = W := ⟨_, rfl⟩
  rw [HW] at B1 r0
  have c0 : W.cell? ⟨w.heap.size, 0, none⟩ = some (.int .i64 K) := (cell_of_row _ _ 0 _ _ (0, 0) r0).trans rfl
  have c3 : W.cell? ⟨w.heap.size, 3, none⟩ = some (.slice da dn dc) := (cell_of_row _ _ 3 _ _ (0, 0) r0).trans rfl
  have HF := hid (h.below B1)
  have k2 : (K == 2) = false := by simp; omega
  have k3 : (K == 3) = false := by simp; omega
  have k4 : (K == 4) = false := by simp; omega
  have k5 : (K == 5) = false := by simp; omega
  have k6 : (K == 6) = false := by simp; omega
  have k7 : (K == 7) = false := by simp; omega
  have k9 : (K == 9) = false := by simp; omega
  have k10 : (K == 10) = false := by simp; omega
  have HK := hid hK
  clear h r0 B1 hK ho
  go_enter Tryz.func10, Tryz.ntmps10
  go_wp2_with fail
  go_ret
  exact ⟨rfl, _, .inr (.inr (.inr (.inr (.inr (.inr ⟨HK.out, rfl⟩))))), HF.out⟩
end
end Go.Proofs.YtblcpdffiafgnaaGreatDoor
namespace Go.Proofs.YtblcpdffiafgnaaGreatDoor
set_option linter.unusedSimpArgs false
set_option maxRecDepth 100000
open Go.RowKit Go.Shelf
set_option linter.unusedVariables false
set_option linter.unusedSimpArgs false
variable {Ee : Ex}

section
variable (w0 w : World) (t : Nat) (T : Tp) (n : Nat) (K N : Int) (old : Bool) (da : Option Addr) (dn dc : Nat) (dat : List Int) (fa : Option Addr) (fm fc : Nat) (fs : List (Int × Int)) (ka : Option Addr) (kn kc : Nat) (ks : List Bool) (z1 z2 z3 z4 z5 : Value)
set_option maxHeartbeats 8000000 in
theorem step_9 (h : Tw Ee w0 w t T) (hv : Tv T n) (hn : n ≤ 150) (ho : Oo w0 w da dn dc dat fa fm fs ka kn ks) :
    Calls Tryz.prog 10 #[.pointer (some ⟨t, 0, none⟩), .agg (opC 9 N old da dn dc fa fm fc ka kn kc z1 z2 z3 z4 z5)] w fun en w' => en = .returned (.bool true) ∧ ∃ T', Ts 9 dat fs ks T T' ∧ Tw Ee w0 w' t T' := by
  have B1 : Below w.heap.size w (w.alloc (.cells (opC 9 N old da dn dc fa fm fc ka kn kc z1 z2 z3 z4 z5) 33)) := (Below.refl _ _).alloc (Nat.le_refl _) _
  have r0 : (w.alloc (.cells (opC 9 N old da dn dc fa fm fc ka kn kc z1 z2 z3 z4 z5) 33)).heap[w.heap.size]? = some (.cells (opC 9 N old da dn dc fa fm fc ka kn kc z1 z2 z3 z4 z5) 33 (0, 0)) := World.alloc_heap_new w _
  obtain ⟨W, HW⟩ : ∃ W, w.alloc (.cells (opC 9 N old da dn dc fa fm fc ka kn kc z1 z2 z3 z4 z5) 33) = W := ⟨_, rfl⟩
  rw [HW] at B1 r0
  have c0 : W.cell? ⟨w.heap.size, 0, none⟩ = some (.int .i64 9) := (cell_of_row _ _ 0 _ _ (0, 0) r0).trans rfl
  have c3 : W.cell? ⟨w.heap.size, 3, none⟩ = some (.slice da dn dc) := (cell_of_row _ _ 3 _ _ (0, 0) r0).trans rfl
  have c4 : W.cell? ⟨w.heap.size, 4, none⟩ = some (.slice fa fm fc) := (cell_of_row _ _ 4 _ _ (0, 0) r0).trans rfl
  obtain ⟨d, g, l, Q, R, s1, x1, s2, x2, s3, x3, H⟩ := h
  have H1 := H.below B1
  have d0 : W.cell? ⟨t, 0, none⟩ = some (.pointer (some ⟨d, 0, none⟩)) := H1.tn.cell 0
  have kc : ∀ wx, Drawn W wx → Calls Tryz.prog 16 #[.pointer (some ⟨d, 0, none⟩), .slice fa fm fc] wx fun en w' => en = .returned (.int .i64 (arE T.s fs)) ∧ Dev w' d (arS T.s fs) (fun b => Q b ∨ (W.heap.size ≤ b ∧ b < w'.heap.size)) ∧ Fr Q W w' := fun wx hx => by
    have hz : wx.heap.size = W.heap.size := by rw [hx.heap]
    have := arm_ d T.s Q fa fm fc fs wx (H1.dv.below hx.below) ((ho.hf.below B1).below hx.below) ho.hfm
    rw [hz] at this
    refine this.mono ?_
    rintro en w' ⟨rfl, D, F⟩
    exact ⟨rfl, D, ⟨F.os.trans hx.os, F.tape.trans hx.tape, F.output.trans hx.output, by have := F.size; omega, fun b hb hn => (F.same b (by omega) hn).trans (by rw [hx.heap])⟩⟩
  obtain ⟨E, HE⟩ : ∃ E, arE T.s fs = E := ⟨_, rfl⟩
  rw [HE] at kc
  have HH := hid H1
  have hlw : w.heap.size < W.heap.size := (Array.getElem?_eq_some_iff.1 r0).1
  have hQ0 : Hid (¬ Q w.heap.size) := fun q => by have := H.dv.lt _ q; omega
  have htl := H1.tn.lt
  have hQt := hid H1.qt
  have D0 := hid d0
  have C4 := hid c4
  have KC := hid kc
  clear H H1 r0 B1 kc HE ho hv
  go_enter Tryz.func10, Tryz.ntmps10
  go_wp2_with fail
  go_region_held (fun wx => wx.cell? ⟨t, 0, none⟩ = some (.pointer (some ⟨d, 0, none⟩)) ∧ wx.cell? ⟨w.heap.size, 4, none⟩ = some (.slice fa fm fc)) (go_keep) (first | (go_at_call 16; refine (KC.out _ (by exact ⟨rfl, rfl, rfl, rfl⟩)).mono ?_; rintro e w2 ⟨rfl, D2, F2⟩; have u1 : w2.cell? ⟨t, 0, none⟩ = some (.pointer (some ⟨d, 0, none⟩)) := (World.cell?_of_block (w := W) (a := ⟨t, 0, none⟩) (F2.same t htl hQt.out)).trans D0.out; have u2 : w2.cell? ⟨w.heap.size, 4, none⟩ = some (.slice fa fm fc) := (World.cell?_of_block (w := W) (a := ⟨w.heap.size, 4, none⟩) (F2.same w.heap.size hlw hQ0.out)).trans C4.out))
  have T1 := HH.out.dev (w' := w2) F2 D2 (arS_is T.s fs).2.1
  have HF : Hid (Tw Ee w0 w2 t (arT T fs)) := ⟨_, _, _, _, _, _, _, _, _, _, _, T1⟩
  clear D2 F2 T1 u1 u2
  go_wp2_with fail
  go_ret
  exact ⟨rfl, _, .inr (.inr (.inr (.inr (.inl ⟨rfl, rfl⟩)))), HF.out⟩
end
end Go.Proofs.YtblcpdffiafgnaaGreatDoor
