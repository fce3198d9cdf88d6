import Derived.Test.YtkeogggeefnoeaaGreatDoorPD
import Derived.Test.YtkeogggeefnoeaaGreatDoorPMath
import Derived.Lib.AppendStr
import Derived.Test.YtkeogggeefnoeaaGreatDoorP18
namespace Go.Proofs.YtkeogggeefnoeaaGreatDoor
set_option linter.unusedSimpArgs false
set_option maxRecDepth 100000
set_option linter.unusedVariables false

/-! What was read can be written, but where it would be too long. -/
def Wok {α : Type} (r : R α) : Prop := (∃ y, r = .ok y) ∨ r = .error 221
theorem nTx_num {w : List Nat} {n : Nat} (h : numv w = some n) : Wok (nTx (n : Int)) := by
  have := (numv_some h).2
  refine .inl ⟨[dgs (n : Int).toNat 1], ?_⟩
  unfold nTx
  rw [if_pos (by omega)]
theorem nTx_zero : Wok (nTx 0) := .inl ⟨_, rfl⟩
/-- The field can be written. -/
def cGd (c : Chg) (f : Nat) : Prop := ∃ y, cTx c f = .ok y
theorem nTx_get {w : List Nat} {n : Nat} (h : numv w = some n) : ∃ y, nTx (n : Int) = .ok y := by
  have := (numv_some h).2
  refine ⟨[dgs (n : Int).toNat 1], ?_⟩
  unfold nTx
  rw [if_pos (by omega)]
def cLet (f : Nat) : Prop := f = 108 ∨ f = 115 ∨ f = 75 ∨ f = 80
theorem cFil_ok {c c' : Chg} {f : Nat} {w : List Nat} (hf : cLet f) (hc : ChgOk c) (h : cFil c f w = .ok c') : ChgOk c' ∧ c'.kd = c.kd ∧ cGd c' f ∧ ∀ g, cLet g → g ≠ f → (cHas c' g = cHas c g) ∧ (cGd c g → cGd c' g) := by
  obtain ⟨kd, lk, sd, key, F, H, L, B⟩ := c
  rcases hf with rfl | rfl | rfl | rfl
  · unfold cFil at h
    rw [if_neg (by decide), if_neg (by decide)] at h
    split at h
    · cases h
    · rename_i n hn
      cases h
      refine ⟨hc, rfl, nTx_get hn, fun g hg hne => ?_⟩
      rcases hg with rfl | rfl | rfl | rfl <;> first | exact absurd rfl hne | exact ⟨rfl, id⟩
  · unfold cFil at h
    rw [if_neg (by decide), if_neg (by decide)] at h
    split at h
    · cases h
    · rename_i n hn
      cases h
      refine ⟨hc, rfl, nTx_get hn, fun g hg hne => ?_⟩
      rcases hg with rfl | rfl | rfl | rfl <;> first | exact absurd rfl hne | exact ⟨rfl, id⟩
  · unfold cFil at h
    rw [if_pos rfl] at h
    split at h
    · cases h
    · rename_i b hb
      cases h
      refine ⟨⟨hexv_lt hb, hc.2⟩, rfl, ⟨_, rfl⟩, fun g hg hne => ?_⟩
      rcases hg with rfl | rfl | rfl | rfl <;> first | exact absurd rfl hne | exact ⟨rfl, id⟩
  · unfold cFil at h
    rw [if_neg (by decide), if_pos rfl] at h
    split at h
    · rename_i he
      cases h
      have hp := pf_fore w he
      refine ⟨⟨hc.1, hp.2.2⟩, rfl, ?_, fun g hg hne => ?_⟩
      · refine ⟨[tp (rF w) (rH w) (rL w) (rB w)], ?_⟩
        unfold cTx
        rw [if_neg (by decide), if_pos rfl]
        simp only
        rw [if_pos hp.1]
      · rcases hg with rfl | rfl | rfl | rfl <;> first | exact absurd rfl hne | exact ⟨rfl, id⟩
    · cases h
theorem cRun_ok : ∀ (fs : List Nat) (ws : List (List Nat)) (c c' : Chg), fs.length ≤ ws.length → fs.Nodup → (∀ f ∈ fs, cLet f) → ChgOk c → cRun c fs ws = .ok c' → ChgOk c' ∧ c'.kd = c.kd ∧ (∀ f ∈ fs, cGd c' f) ∧ ∀ g, cLet g → g ∉ fs → (cHas c' g = cHas c g) ∧ (cGd c g → cGd c' g)
  | [], _, c, c', _, _, _, hc, h => by cases h; exact ⟨hc, rfl, by simp, fun g _ _ => ⟨rfl, id⟩⟩
  | f :: fs, [], c, c', hl, _, _, _, _ => by simp at hl
  | f :: fs, w :: ws, c, c', hl, hd, hlt, hc, h => by
    rw [cRun] at h
    split at h
    · cases h
    · rename_i c1 h1
      obtain ⟨a1, a2, a3, a4⟩ := cFil_ok (hlt f List.mem_cons_self) hc h1
      rw [List.nodup_cons] at hd
      obtain ⟨b1, b2, b3, b4⟩ := cRun_ok fs ws c1 c' (by simpa using hl) hd.2 (fun g hg => hlt g (List.mem_cons_of_mem _ hg)) a1 h
      refine ⟨b1, b2.trans a2, fun g hg => ?_, fun g hg hn => ?_⟩
      · rcases List.mem_cons.1 hg with rfl | hg
        · exact (b4 _ (hlt _ List.mem_cons_self) hd.1).2 a3
        · exact b3 g hg
      · have hn1 : g ≠ f := fun e => hn (by rw [e]; simp)
        have hn2 : g ∉ fs := fun e => hn (List.mem_cons_of_mem _ e)
        exact ⟨(b4 g hg hn2).1.trans (a4 g hg hn1).1, fun e => (b4 g hg hn2).2 ((a4 g hg hn1).2 e)⟩
theorem catR_get {α : Type} {f : α → R (List (List Nat))} : ∀ (l : List α), (∀ x ∈ l, ∃ y, f x = .ok y) → ∃ y, catR f l = .ok y
  | [], _ => ⟨_, rfl⟩
  | x :: l, h => by
    obtain ⟨y, hy⟩ := h x List.mem_cons_self
    obtain ⟨r, hr⟩ := catR_get l fun z hz => h z (List.mem_cons_of_mem _ hz)
    refine ⟨y ++ r, ?_⟩
    rw [catR, hy, hr]
theorem cKd_in {n : List Nat} : cKd n ≤ 5 := by
  unfold cKd cNm
  simp only [List.map_cons, List.map_nil]
  unfold fndN; split; · omega
  unfold fndN; split; · omega
  unfold fndN; split; · omega
  unfold fndN; split; · omega
  unfold fndN; split; · omega
  unfold fndN; split; · omega
  unfold fndN; omega
theorem cFm_let {k : Nat} (h1 : k ≠ 0) (h : k ≤ 5) : (cFm k).Nodup ∧ ∀ f ∈ cFm k, cLet f := by
  rcases (show k = 1 ∨ k = 2 ∨ k = 3 ∨ k = 4 ∨ k = 5 by omega) with rfl | rfl | rfl | rfl | rfl <;> exact ⟨by decide, by simp [cFm, cNm, cLet]⟩
theorem chgv_ok {ws : List (List Nat)} {c : Chg} (h : chgv ws = .ok c) : ChgOk c ∧ ∃ y, chgW c = .ok y := by
  cases ws with
  | nil => cases h
  | cons n ws =>
    rw [chgv] at h
    split at h
    · cases h
    · rename_i h0
      split at h
      · cases h
      · rename_i hl
        have hk := @cKd_in n
        generalize cKd n = k at *
        obtain ⟨d1, d2⟩ := cFm_let h0 hk
        have hc0 : ChgOk (chg0 (k : Int)) := ⟨by simp [chg0], by unfold InU chg0; simp, by unfold InU chg0; simp⟩
        obtain ⟨b1, b2, b3, b4⟩ := cRun_ok _ _ _ _ (by omega) d1 d2 hc0 h
        refine ⟨b1, ?_⟩
        have hkd : c.kd = (k : Int) := b2
        have hs : cSpr c (cFm k) = false := by
          unfold cSpr
          rw [List.any_eq_false]
          intro g hg
          by_cases hm : g ∈ cFm k
          · simp [List.contains_iff_mem, hm]
          · have hgl : cLet g := by simpa [cAll, cLet] using hg
            rw [(b4 g hgl hm).1]
            have : cHas (chg0 (k : Int)) g = false := by rcases hgl with rfl | rfl | rfl | rfl <;> rfl
            rw [this]
            simp
        obtain ⟨y, hy⟩ := catR_get (f := cTx c) (cFm k) b3
        refine ⟨(cNm.getD k ([], [])).1 :: y, ?_⟩
        unfold chgW
        rw [hkd, if_pos (by omega), Int.toNat_natCast, hs, hy]
        rfl
theorem mapR_get {α β : Type} {f : α → R β} : ∀ (l : List α), (∀ x ∈ l, ∃ y, f x = .ok y) → ∃ r, mapR f l = .ok r
  | [], _ => ⟨_, rfl⟩
  | x :: l, h => by
    obtain ⟨y, hy⟩ := h x List.mem_cons_self
    obtain ⟨r, hr⟩ := mapR_get l fun z hz => h z (List.mem_cons_of_mem _ hz)
    refine ⟨y :: r, ?_⟩
    rw [mapR, hy, hr]
theorem mapR_all {α β : Type} {f : α → R β} {P : β → Prop} (hf : ∀ x y, f x = .ok y → P y) : ∀ (l : List α) (r : List β), mapR f l = .ok r → ∀ y ∈ r, P y
  | [], r, h, y, hy => by cases h; simp at hy
  | x :: l, r, h, y, hy => by
    rw [mapR] at h
    split at h
    · cases h
    · rename_i y' hy'
      split at h
      · cases h
      · rename_i r' hr
        cases h
        rcases List.mem_cons.1 hy with rfl | hy
        · exact hf x _ hy'
        · exact mapR_all hf l r' hr y hy
theorem chsv_ok {ws : List (List Nat)} {l : List Chg} (h : chsv ws = .ok l) : (∀ c ∈ l, ChgOk c) ∧ Wok (chsW l) := by
  have hP : ∀ c ∈ l, ChgOk c ∧ ∃ y, chgW c = .ok y := by
    unfold chsv at h
    split at h
    · cases h; simp
    · exact mapR_all (fun x y e => chgv_ok e) _ _ h
  refine ⟨fun c hc => (hP c hc).1, ?_⟩
  obtain ⟨r, hr⟩ := mapR_get (f := chgW) l fun c hc => (hP c hc).2
  unfold Wok chsW
  rw [hr]
  simp only
  split
  · exact .inr rfl
  · exact .inl ⟨_, rfl⟩
theorem fltv_ok : ∀ (ws : List (List Nat)) (l : List (Int × Int)), fltv ws = .ok l → ∃ y, fltW l = .ok y
  | [], l, h => by cases h; exact ⟨_, rfl⟩
  | [_], l, h => by
    rw [fltv] at h
    · cases h; exact ⟨_, rfl⟩
    · intro a b l' e; simp at e
  | a :: b :: ws, l, h => by
    rw [fltv] at h
    split at h
    · cases h
    · rename_i h0
      split at h
      · cases h
      · rename_i n hn
        split at h
        · cases h
        · rename_i r hr
          cases h
          obtain ⟨y, hy⟩ := fltv_ok ws r hr
          obtain ⟨z, hz⟩ := nTx_get hn
          have hk : fKd a ≤ 2 := by
            unfold fKd fNm
            unfold fndN; split; · omega
            unfold fndN; split; · omega
            unfold fndN; split; · omega
            unfold fndN; omega
          refine ⟨fNm.getD ((fKd a : Nat) : Int).toNat [] :: (z ++ y), ?_⟩
          rw [fltW, if_pos (by omega), hz, hy]
def sGd (o : Opp) (f : Nat) : Prop := Wok (sTx o f)
def sLet (f : Nat) : Prop := f = 97 ∨ f = 107 ∨ f = 116 ∨ f = 120 ∨ f = 108 ∨ f = 98 ∨ f = 119 ∨ f = 72 ∨ f = 83 ∨ f = 66 ∨ f = 70 ∨ f = 67
theorem sFil_ok {o o' : Opp} {f : Nat} {ws : List (List Nat)} (hf : sLet f) (hc : OppOk o) (h : sFil o f ws = .ok o') : OppOk o' ∧ o'.kd = o.kd ∧ sGd o' f ∧ ∀ g, sLet g → g ≠ f → (sHas o' g = sHas o g) ∧ (sGd o g → sGd o' g) := by
  obtain ⟨kd, a, k, t, x, lk, d, sec, nano, bl, wi, ch, fl, kp⟩ := o
  obtain ⟨q1, q2, q3⟩ := hc
  simp only at q1 q2 q3
  rcases hf with rfl | rfl | rfl | rfl | rfl | rfl | rfl | rfl | rfl | rfl | rfl | rfl
  iterate 7
    · have h : (match numv (ws.getD 0 []) with | none => .error 223 | some n => .ok (sNum _ _ n) : R Opp) = .ok o' := h
      split at h
      · cases h
      · rename_i n hn
        cases h
        refine ⟨⟨q1, q2, q3⟩, rfl, .inl (nTx_get hn), fun g hg hne => ?_⟩
        rcases hg with rfl | rfl | rfl | rfl | rfl | rfl | rfl | rfl | rfl | rfl | rfl | rfl <;> first | exact absurd rfl hne | exact ⟨rfl, id⟩
  · have h : (match hexv (ws.getD 0 []) with | none => .error 225 | some b => .ok (⟨kd, a, k, t, x, lk, b, sec, nano, bl, wi, ch, fl, kp⟩ : Opp) : R Opp) = .ok o' := h
    split at h
    · cases h
    · rename_i b hb
      cases h
      refine ⟨⟨hexv_lt hb, q2, q3⟩, rfl, .inl ⟨_, rfl⟩, fun g hg hne => ?_⟩
      rcases hg with rfl | rfl | rfl | rfl | rfl | rfl | rfl | rfl | rfl | rfl | rfl | rfl <;> first | exact absurd rfl hne | exact ⟨rfl, id⟩
  · have h : (if xe (ws.getD 0 []) = 0 then .ok (⟨kd, a, k, t, x, lk, d, xs (ws.getD 0 []), xn (ws.getD 0 []), bl, wi, ch, fl, kp⟩ : Opp) else .error 60 : R Opp) = .ok o' := h
    split at h
    · rename_i he
      cases h
      have hp := st_fore _ he
      refine ⟨⟨q1, hp.2.2, q3⟩, rfl, .inl ?_, fun g hg hne => ?_⟩
      · refine ⟨[pr (xs (ws.getD 0 [])) (xn (ws.getD 0 []))], ?_⟩
        show (if vld (xs (ws.getD 0 [])) (xn (ws.getD 0 [])) then .ok [pr (xs (ws.getD 0 [])) (xn (ws.getD 0 []))] else .error 60 : R (List (List Nat))) = _
        rw [if_pos hp.1]
      · rcases hg with rfl | rfl | rfl | rfl | rfl | rfl | rfl | rfl | rfl | rfl | rfl | rfl <;> first | exact absurd rfl hne | exact ⟨rfl, id⟩
    · cases h
  · have h : (match bitv (ws.getD 0 []) with | none => .error 223 | some b => .ok (⟨kd, a, k, t, x, lk, d, sec, nano, bl, wi, ch, fl, b⟩ : Opp) : R Opp) = .ok o' := h
    split at h
    · cases h
    · rename_i b hb
      cases h
      refine ⟨⟨q1, q2, q3⟩, rfl, .inl ⟨_, rfl⟩, fun g hg hne => ?_⟩
      rcases hg with rfl | rfl | rfl | rfl | rfl | rfl | rfl | rfl | rfl | rfl | rfl | rfl <;> first | exact absurd rfl hne | exact ⟨rfl, id⟩
  · have h : (match fltv ws with | .error e => .error e | .ok l => .ok (⟨kd, a, k, t, x, lk, d, sec, nano, bl, wi, ch, l, kp⟩ : Opp) : R Opp) = .ok o' := h
    split at h
    · cases h
    · rename_i l hl
      cases h
      refine ⟨⟨q1, q2, q3⟩, rfl, .inl (fltv_ok _ _ hl), fun g hg hne => ?_⟩
      rcases hg with rfl | rfl | rfl | rfl | rfl | rfl | rfl | rfl | rfl | rfl | rfl | rfl <;> first | exact absurd rfl hne | exact ⟨rfl, id⟩
  · have h : (match chsv ws with | .error e => .error e | .ok l => .ok (⟨kd, a, k, t, x, lk, d, sec, nano, bl, wi, l, fl, kp⟩ : Opp) : R Opp) = .ok o' := h
    split at h
    · cases h
    · rename_i l hl
      cases h
      have := chsv_ok hl
      refine ⟨⟨q1, q2, this.1⟩, rfl, this.2, fun g hg hne => ?_⟩
      rcases hg with rfl | rfl | rfl | rfl | rfl | rfl | rfl | rfl | rfl | rfl | rfl | rfl <;> first | exact absurd rfl hne | exact ⟨rfl, id⟩
theorem sRun_ok : ∀ (fs : List Nat) (ws : List (List Nat)) (c c' : Opp), fs.Nodup → (∀ f ∈ fs, sLet f) → OppOk c → sRun c fs ws = .ok c' → OppOk c' ∧ c'.kd = c.kd ∧ (∀ f ∈ fs, sGd c' f) ∧ ∀ g, sLet g → g ∉ fs → (sHas c' g = sHas c g) ∧ (sGd c g → sGd c' g)
  | [], _, c, c', _, _, hc, h => by rw [sRun] at h; cases h; exact ⟨hc, rfl, by simp, fun g _ _ => ⟨rfl, id⟩⟩
  | f :: fs, ws, c, c', hd, hlt, hc, h => by
    rw [sRun] at h
    split at h
    · cases h
    · rename_i c1 h1
      obtain ⟨a1, a2, a3, a4⟩ := sFil_ok (hlt f List.mem_cons_self) hc h1
      rw [List.nodup_cons] at hd
      obtain ⟨b1, b2, b3, b4⟩ := sRun_ok fs _ c1 c' hd.2 (fun g hg => hlt g (List.mem_cons_of_mem _ hg)) a1 h
      refine ⟨b1, b2.trans a2, fun g hg => ?_, fun g hg hn => ?_⟩
      · rcases List.mem_cons.1 hg with rfl | hg
        · exact (b4 _ (hlt _ List.mem_cons_self) hd.1).2 a3
        · exact b3 g hg
      · have hn1 : g ≠ f := fun e => hn (by rw [e]; simp)
        have hn2 : g ∉ fs := fun e => hn (List.mem_cons_of_mem _ e)
        exact ⟨(b4 g hg hn2).1.trans (a4 g hg hn1).1, fun e => (b4 g hg hn2).2 ((a4 g hg hn1).2 e)⟩
theorem catR_wok {α : Type} {f : α → R (List (List Nat))} : ∀ (l : List α), (∀ x ∈ l, Wok (f x)) → Wok (catR f l)
  | [], _ => .inl ⟨_, rfl⟩
  | x :: l, h => by
    have ih := catR_wok l fun z hz => h z (List.mem_cons_of_mem _ hz)
    unfold Wok
    rw [catR]
    rcases h x List.mem_cons_self with ⟨y, hy⟩ | hy
    · rw [hy]
      rcases ih with ⟨r, hr⟩ | hr
      · rw [hr]; exact .inl ⟨_, rfl⟩
      · rw [hr]; exact .inr rfl
    · rw [hy]; exact .inr rfl
theorem mapR_wok {α β : Type} {f : α → R β} : ∀ (l : List α), (∀ x ∈ l, Wok (f x)) → Wok (mapR f l)
  | [], _ => .inl ⟨_, rfl⟩
  | x :: l, h => by
    have ih := mapR_wok l fun z hz => h z (List.mem_cons_of_mem _ hz)
    unfold Wok
    rw [mapR]
    rcases h x List.mem_cons_self with ⟨y, hy⟩ | hy
    · rw [hy]
      rcases ih with ⟨r, hr⟩ | hr
      · rw [hr]; exact .inl ⟨_, rfl⟩
      · rw [hr]; exact .inr rfl
    · rw [hy]; exact .inr rfl
theorem sKd_in {n : List Nat} : sKd n ≤ 14 := by
  unfold sKd sNm
  simp only [List.map_cons, List.map_nil]
  iterate 15 (unfold fndN; split; · omega)
  unfold fndN; omega
theorem k14 {k : Nat} (h : k ≠ 0) (h2 : k ≤ 14) : k = 1 ∨ k = 2 ∨ k = 3 ∨ k = 4 ∨ k = 5 ∨ k = 6 ∨ k = 7 ∨ k = 8 ∨ k = 9 ∨ k = 10 ∨ k = 11 ∨ k = 12 ∨ k = 13 ∨ k = 14 := by omega
theorem sFm_let {k : Nat} (h1 : k ≠ 0) (h : k ≤ 14) : (sFm k).Nodup ∧ ∀ f ∈ sFm k, sLet f := by
  rcases k14 h1 h with rfl | rfl | rfl | rfl | rfl | rfl | rfl | rfl | rfl | rfl | rfl | rfl | rfl | rfl <;> exact ⟨by decide, by simp [sFm, sNm, sLet]⟩
theorem stpv_ok {ws : List (List Nat)} {o : Opp} (h : stpv ws = .ok o) : OppOk o ∧ Wok (stpW o) := by
  cases ws with
  | nil => cases h
  | cons n ws =>
    rw [stpv] at h
    split at h
    · cases h
    · rename_i h0
      split at h
      · rename_i hl
        have hk := @sKd_in n
        generalize sKd n = k at *
        obtain ⟨d1, d2⟩ := sFm_let h0 hk
        have hc0 : OppOk (opp0 (k : Int)) := ⟨by simp [opp0], by simp [opp0], by simp [opp0]⟩
        obtain ⟨b1, b2, b3, b4⟩ := sRun_ok _ _ _ _ d1 d2 hc0 h
        refine ⟨b1, ?_⟩
        have hkd : o.kd = (k : Int) := b2
        have hs : sSpr o (sFm k) = false := by
          unfold sSpr
          rw [List.any_eq_false]
          intro g hg
          by_cases hm : g ∈ sFm k
          · simp [List.contains_iff_mem, hm]
          · have hgl : sLet g := by simpa [sAll, sLet] using hg
            rw [(b4 g hgl hm).1]
            have : sHas (opp0 (k : Int)) g = false := by rcases hgl with rfl | rfl | rfl | rfl | rfl | rfl | rfl | rfl | rfl | rfl | rfl | rfl <;> rfl
            rw [this]
            simp
        have hw := catR_wok (f := sTx o) (sFm k) b3
        unfold Wok stpW
        rw [hkd, if_pos (by omega), Int.toNat_natCast, hs, if_neg (by simp)]
        rcases hw with ⟨y, hy⟩ | hy
        · rw [hy]; exact .inl ⟨_, rfl⟩
        · rw [hy]; exact .inr rfl
      · cases h
def OkO (s : Option Scr) : Prop := ∀ s', s = some s' → (∃ y, nTx s'.sec = .ok y) ∧ s'.ops.length ≤ 2000 ∧ ∀ o ∈ s'.ops, OppOk o ∧ Wok (stpW o)
theorem linv_ok {s s' : Option Scr} {l : List Nat} (hs : OkO s) (h : linv s l = .ok s') : OkO s' := by
  unfold linv at h
  split at h
  · split at h
    · cases h; exact hs
    · cases s with
      | none =>
        simp only at h
        split at h
        · cases h
        · rename_i n hn
          cases h
          intro s' e
          cases e
          refine ⟨?_, by simp, by simp⟩
          unfold fstv at hn
          split at hn
          · cases hn
          · split at hn
            · cases hn
            · split at hn
              · cases hn
              · rename_i m hm
                cases hn
                exact nTx_get hm
      | some s =>
        simp only at h
        split at h
        · cases h
        · rename_i hm
          split at h
          · cases h
          · rename_i o ho
            cases h
            intro s' e
            cases e
            obtain ⟨h1, h2, h3⟩ := hs s rfl
            refine ⟨h1, by simp; omega, fun x hx => ?_⟩
            rcases List.mem_append.1 hx with hx | hx
            · exact h3 x hx
            · rw [List.mem_singleton.1 hx]
              exact stpv_ok ho
  · cases h
/-! No error is 0. -/
def Nz {α : Type} (r : R α) : Prop := r ≠ .error 0
theorem mapR_nz {α β : Type} {f : α → R β} (hf : ∀ x, Nz (f x)) : ∀ l : List α, Nz (mapR f l)
  | [] => by intro h; cases h
  | x :: l => by
    intro h
    rw [mapR] at h
    split at h
    · rename_i e he
      cases h
      exact hf x he
    · split at h
      · rename_i e he
        cases h
        exact mapR_nz hf l he
      · cases h
theorem cFil_nz (c : Chg) (f : Nat) (w : List Nat) : Nz (cFil c f w) := by
  intro h
  unfold cFil at h
  split at h
  · split at h <;> cases h
  · split at h
    · split at h <;> cases h
    · split at h <;> cases h
theorem cRun_nz : ∀ (fs : List Nat) (ws : List (List Nat)) (c : Chg), Nz (cRun c fs ws)
  | [], _, c => by intro h; rw [cRun] at h; cases h
  | _ :: _, [], c => by intro h; rw [cRun] at h; cases h
  | f :: fs, w :: ws, c => by
    intro h
    rw [cRun] at h
    split at h
    · rename_i e he
      cases h
      exact cFil_nz _ _ _ he
    · exact cRun_nz fs ws _ h
theorem chgv_nz (ws : List (List Nat)) : Nz (chgv ws) := by
  intro h
  cases ws with
  | nil => cases h
  | cons n ws =>
    rw [chgv] at h
    split at h
    · cases h
    · split at h
      · cases h
      · exact cRun_nz _ _ _ h
theorem chsv_nz (ws : List (List Nat)) : Nz (chsv ws) := by
  intro h
  unfold chsv at h
  split at h
  · cases h
  · exact mapR_nz chgv_nz _ h
theorem fltv_nz : ∀ ws : List (List Nat), Nz (fltv ws)
  | [] => by intro h; cases h
  | [_] => by
    intro h
    rw [fltv] at h
    · cases h
    · intro a b l' e; simp at e
  | a :: b :: ws => by
    intro h
    rw [fltv] at h
    split at h
    · cases h
    · split at h
      · cases h
      · split at h
        · rename_i e he
          cases h
          exact fltv_nz ws he
        · cases h
theorem sFil_nz (c : Opp) (f : Nat) (ws : List (List Nat)) : Nz (sFil c f ws) := by
  intro h
  unfold sFil at h
  split at h
  · split at h <;> cases h
  split at h
  · split at h <;> cases h
  split at h
  · split at h <;> cases h
  split at h
  · split at h
    · rename_i e he
      cases h
      exact fltv_nz _ he
    · cases h
  split at h
  · split at h
    · rename_i e he
      cases h
      exact chsv_nz _ he
    · cases h
  · split at h <;> cases h
theorem sRun_nz : ∀ (fs : List Nat) (ws : List (List Nat)) (c : Opp), Nz (sRun c fs ws)
  | [], _, c => by intro h; rw [sRun] at h; cases h
  | f :: fs, ws, c => by
    intro h
    rw [sRun] at h
    split at h
    · rename_i e he
      cases h
      exact sFil_nz _ _ _ he
    · exact sRun_nz fs _ _ h
theorem stpv_nz (ws : List (List Nat)) : Nz (stpv ws) := by
  intro h
  cases ws with
  | nil => cases h
  | cons n ws =>
    rw [stpv] at h
    split at h
    · cases h
    · split at h
      · exact sRun_nz _ _ _ h
      · cases h
theorem fstv_nz (ws : List (List Nat)) : Nz (fstv ws) := by
  intro h
  unfold fstv at h
  split at h
  · cases h
  split at h
  · cases h
  split at h <;> cases h
theorem linv_nz (s : Option Scr) (l : List Nat) : Nz (linv s l) := by
  intro h
  unfold linv at h
  split at h
  · split at h
    · cases h
    · cases s with
      | none =>
        simp only at h
        split at h
        · rename_i e he
          cases h
          exact fstv_nz _ he
        · cases h
      | some s =>
        simp only at h
        split at h
        · cases h
        · split at h
          · rename_i e he
            cases h
            exact stpv_nz _ he
          · cases h
  · cases h
/-- What lines answer. -/
theorem lnsv_ok : ∀ (ls : List (List Nat)) (s : Option Scr) (i : Nat) (r : Scr) (n e : Nat), OkO s → lnsv s i ls = (r, n, e) → (e = 0 → OkO (some r) ∧ n = 0) ∧ (e ≠ 0 → r = scr0)
  | [], s, i, r, n, e, hs, h => by
    cases s with
    | none =>
      cases h
      exact ⟨fun e => by simp at e, fun _ => rfl⟩
    | some s =>
      cases h
      exact ⟨fun _ => ⟨hs, rfl⟩, fun e => absurd rfl e⟩
  | l :: ls, s, i, r, n, e, hs, h => by
    rw [lnsv] at h
    split at h
    · rename_i e' he
      cases h
      refine ⟨fun e0 => ?_, fun _ => rfl⟩
      subst e0
      exact absurd he (linv_nz s l)
    · rename_i s' he
      exact lnsv_ok ls s' (i + 1) r n e (linv_ok hs he) h
/-- P22.6: what Parse reads Print writes, but where it would be too long; beside an error nothing. -/
theorem scr_canon (t : List Nat) : ((scrv t).2.2 = 0 → ScrOk (scrv t).1 ∧ Wok (scrW (scrv t).1)) ∧ ((scrv t).2.2 ≠ 0 → (scrv t).1 = scr0) := by
  unfold scrv
  split
  · exact ⟨fun e => by simp at e, fun _ => rfl⟩
  · obtain ⟨⟨r, n, e⟩, hr⟩ : ∃ z, lnsv none 1 (cutL [] t) = z := ⟨_, rfl⟩
    rw [hr]
    obtain ⟨h1, h2⟩ := lnsv_ok _ none 1 r n e (fun s' e => by cases e) hr
    refine ⟨fun e0 => ?_, h2⟩
    obtain ⟨h3, h4⟩ := h1 e0
    obtain ⟨⟨y, hy⟩, q2, q3⟩ := h3 r rfl
    refine ⟨fun o ho => (q3 o ho).1, ?_⟩
    show Wok (scrW r)
    unfold Wok scrW
    rw [hy]
    simp only
    rw [if_neg (by omega)]
    rcases mapR_wok (f := stpW) r.ops fun o ho => (q3 o ho).2 with ⟨ls, hl⟩ | hl
    · rw [hl]
      simp only
      split
      · exact .inr rfl
      · exact .inl ⟨_, rfl⟩
    · rw [hl]; exact .inr rfl
/-! The first fault. -/
theorem cutL_app : ∀ (t cur b : List Nat), cutL cur (t ++ 10 :: b) = cutL cur t ++ cutL [] b
  | [], cur, b => by show cutL cur (10 :: b) = cur :: cutL [] b; rw [cutL, if_pos rfl]
  | x :: t, cur, b => by
    show cutL cur (x :: (t ++ 10 :: b)) = _
    rw [cutL, cutL]
    split
    · rw [cutL_app t [] b]; rfl
    · exact cutL_app t _ b
theorem lnsv_app : ∀ (ls ms : List (List Nat)) (s : Option Scr) (i : Nat), (lnsv s i ls).2.2 ≠ 0 → (lnsv s i ls).2.1 ≠ 0 → lnsv s i (ls ++ ms) = lnsv s i ls
  | [], ms, s, i, h, h2 => by
    cases s with
    | none => exact absurd rfl h2
    | some s => exact absurd rfl h
  | l :: ls, ms, s, i, h, h2 => by
    show lnsv s i (l :: (ls ++ ms)) = _
    rw [lnsv] at h h2 ⊢
    rw [lnsv]
    split
    · rfl
    · rename_i s' he
      rw [he] at h h2
      exact lnsv_app ls ms s' (i + 1) h h2
/-- P22.1: the first fault is told, whatever stands behind. -/
theorem scr_fault (t b : List Nat) (hl : t.length + b.length < 1048576) (h : (scrv t).2.2 ≠ 0) (h2 : (scrv t).2.1 ≠ 0) : scrv (t ++ 10 :: b) = scrv t := by
  have e1 : scrv t = lnsv none 1 (cutL [] t) := by unfold scrv; rw [if_neg (by omega)]
  have e2 : scrv (t ++ 10 :: b) = lnsv none 1 (cutL [] (t ++ 10 :: b)) := by
    unfold scrv
    rw [if_neg (by rw [List.length_append, List.length_cons]; omega)]
  rw [e1] at h h2 ⊢
  rw [e2, cutL_app]
  exact lnsv_app _ _ _ _ h h2
end Go.Proofs.YtkeogggeefnoeaaGreatDoor
namespace Go.Proofs.YtkeogggeefnoeaaGreatDoor
set_option linter.unusedSimpArgs false
set_option maxRecDepth 100000
set_option linter.unusedVariables false

/-! Noise. -/
/-- May blanks be laid around each word, and a comment at each line's end? -/
def plainT (t : List Nat) : Bool := t.all fun x => decide (x = 10 ∨ x = 32 ∨ (33 ≤ x ∧ x ≤ 126 ∧ x ≠ 35))
def nz1 (x : Nat) : List Nat := if x = 10 then [9, 35, 0, 120, 35, 255, 10, 9, 10, 32] else if x = 32 then [32, 9] else [x]
def noisyT (t : List Nat) : List Nat := 32 :: t.flatMap nz1
def nzc : List Nat := [9, 35, 0, 120, 35, 255]
def nzl (l : List Nat) : List Nat := 32 :: l.flatMap nz1
/-- A line of plain text. -/
def PlL (l : List Nat) : Prop := ∀ x ∈ l, x = 32 ∨ (33 ≤ x ∧ x ≤ 126 ∧ x ≠ 35)
theorem spl_cons (cur : List Nat) (x : Nat) (l : List Nat) : spl cur (x :: l) = if blk x then (if cur = [] then spl [] l else cur :: spl [] l) else spl (cur ++ [x]) l := by rw [spl]
theorem spl_end (cur : List Nat) : spl cur [] = if cur = [] then [] else [cur] := by rw [spl]
theorem lnsv_cons (s : Option Scr) (i : Nat) (l : List Nat) (ls : List (List Nat)) : lnsv s i (l :: ls) = match linv s l with
    | .error e => (scr0, i, e)
    | .ok s' => lnsv s' (i + 1) ls := by rw [lnsv]; cases linv s l <;> rfl
theorem spl_nil : ∀ (l cur : List Nat), spl cur (l ++ [9]) = spl cur l
  | [], cur => by
    show spl cur [9] = _
    rw [spl_cons, if_pos (show blk 9 = true by decide), spl_end, spl_end]
    split <;> rfl
  | x :: l, cur => by
    show spl cur (x :: (l ++ [9])) = _
    rw [spl_cons, spl_cons]
    split
    · split
      · exact spl_nil l []
      · rw [spl_nil l []]
    · exact spl_nil l _
theorem spl_nz : ∀ (l cur : List Nat), PlL l → spl cur (l.flatMap nz1) = spl cur l
  | [], cur, _ => rfl
  | x :: l, cur, h => by
    have hl : PlL l := fun y hy => h y (List.mem_cons_of_mem _ hy)
    have hx := h x List.mem_cons_self
    rw [List.flatMap_cons]
    unfold nz1
    by_cases h32 : x = 32
    · subst h32
      rw [if_neg (by decide), if_pos rfl]
      show spl cur (32 :: 9 :: l.flatMap nz1) = _
      rw [spl_cons, if_pos (show blk 32 = true by decide), spl_cons cur 32 l, if_pos (show blk 32 = true by decide)]
      have e : spl [] (9 :: l.flatMap nz1) = spl [] l := by
        rw [spl_cons, if_pos (show blk 9 = true by decide), if_pos rfl]
        exact spl_nz l [] hl
      split
      · exact e
      · rw [e]
    · rw [if_neg (by omega), if_neg h32]
      show spl cur (x :: l.flatMap nz1) = _
      have hb : ¬ (blk x = true) := by unfold blk; simp; omega
      rw [spl_cons, if_neg hb, spl_cons cur x l, if_neg hb]
      exact spl_nz l _ hl
theorem nz_no : ∀ l : List Nat, PlL l → ∀ x ∈ l.flatMap nz1, x ≠ 35 ∧ (blk x || wch x) = true
  | l, h, x, hx => by
    obtain ⟨y, hy, hx⟩ := List.mem_flatMap.1 hx
    have := h y hy
    unfold nz1 at hx
    split at hx
    · omega
    · split at hx
      · simp at hx
        rcases hx with rfl | rfl <;> exact ⟨by decide, by decide⟩
      · rw [List.mem_singleton.1 hx]
        refine ⟨by omega, ?_⟩
        have e : wch y = true := decide_eq_true (by omega)
        rw [e]; simp
theorem pl_no {l : List Nat} (h : PlL l) : ∀ x ∈ l, x ≠ 35 ∧ (blk x || wch x) = true := fun x hx => by
  have := h x hx
  refine ⟨by omega, ?_⟩
  rcases this with rfl | e
  · decide
  · have e : wch x = true := decide_eq_true (by omega)
    rw [e]; simp
theorem line_pl {l : List Nat} (h : PlL l) : sgood l = true ∧ said l = l := by
  have hs := said_id l fun x hx => (pl_no h x hx).1
  refine ⟨?_, hs⟩
  unfold sgood
  rw [hs, List.all_eq_true]
  exact fun x hx => (pl_no h x hx).2
theorem said_nzl {l : List Nat} (h : PlL l) : said (nzl l) = nzl l := said_id _ fun x hx => by
  rcases List.mem_cons.1 hx with rfl | hx
  · decide
  · exact (nz_no l h x hx).1
theorem wds_nzl {l : List Nat} (h : PlL l) : spl [] (nzl l) = spl [] l := by
  unfold nzl
  rw [spl_cons, if_pos (show blk 32 = true by decide), if_pos rfl]
  exact spl_nz l [] h
theorem good_nzl {l : List Nat} (h : PlL l) : ∀ x ∈ nzl l, (blk x || wch x) = true := fun x hx => by
  rcases List.mem_cons.1 hx with rfl | hx
  · decide
  · exact (nz_no l h x hx).2
theorem linv_last {l : List Nat} (h : PlL l) (s : Option Scr) : linv s (nzl l) = linv s l := by
  have h1 := line_pl h
  have g : sgood (nzl l) = true := by
    unfold sgood
    rw [said_nzl h, List.all_eq_true]
    exact good_nzl h
  have w : wds (nzl l) = wds l := by
    unfold wds
    rw [said_nzl h, h1.2, wds_nzl h]
  unfold linv
  rw [g, h1.1, w]
theorem said_c {l : List Nat} (h : PlL l) : said (nzl l ++ nzc) = nzl l ++ [9] := by
  rw [said_cut _ _ fun x hx => by
    rcases List.mem_cons.1 hx with rfl | hx
    · decide
    · exact (nz_no l h x hx).1]
  rfl
theorem linv_noise {l : List Nat} (h : PlL l) (s : Option Scr) : linv s (nzl l ++ nzc) = linv s l := by
  have h1 := line_pl h
  have g : sgood (nzl l ++ nzc) = true := by
    unfold sgood
    rw [said_c h, List.all_eq_true]
    intro x hx
    rcases List.mem_append.1 hx with hx | hx
    · exact good_nzl h x hx
    · rw [List.mem_singleton.1 hx]; decide
  have w : wds (nzl l ++ nzc) = wds l := by
    unfold wds
    rw [said_c h, h1.2, spl_nil, wds_nzl h]
  unfold linv
  rw [g, h1.1, w]
theorem linv_tab (s : Option Scr) : linv s [9] = .ok s := rfl
def nls : List (List Nat) → List (List Nat)
  | [] => []
  | [l] => [nzl l]
  | l :: l' :: ls => (nzl l ++ nzc) :: [9] :: nls (l' :: ls)
def twice (r : Scr × Nat × Nat) : Scr × Nat × Nat := (r.1, if r.2.1 = 0 then 0 else 2 * r.2.1 - 1, r.2.2)
theorem lnsv_noise : ∀ (ls : List (List Nat)) (s : Option Scr) (i : Nat), (∀ l ∈ ls, PlL l) → 1 ≤ i → lnsv s (2 * i - 1) (nls ls) = twice (lnsv s i ls)
  | [], s, i, _, _ => by cases s <;> rfl
  | [l], s, i, h, hi => by
    show lnsv s (2 * i - 1) [nzl l] = _
    rw [lnsv_cons, lnsv_cons, linv_last (h l (by simp))]
    split
    · unfold twice; rw [if_neg (by show i ≠ 0; omega)]
    · rename_i s' _
      cases s' <;> rfl
  | l :: l' :: ls, s, i, h, hi => by
    show lnsv s (2 * i - 1) ((nzl l ++ nzc) :: [9] :: nls (l' :: ls)) = twice (lnsv s i (l :: l' :: ls))
    rw [lnsv_cons, linv_noise (h l (by simp)), lnsv_cons s i l]
    split
    · unfold twice; rw [if_neg (by show i ≠ 0; omega)]
    · rename_i s' _
      show lnsv s' (2 * i - 1 + 1) ([9] :: nls (l' :: ls)) = _
      rw [lnsv_cons, linv_tab]
      show lnsv s' (2 * i - 1 + 1 + 1) (nls (l' :: ls)) = _
      rw [show 2 * i - 1 + 1 + 1 = 2 * (i + 1) - 1 by omega]
      exact lnsv_noise (l' :: ls) s' (i + 1) (fun x hx => h x (List.mem_cons_of_mem _ hx)) (by omega)
theorem cutL_skip : ∀ (l cur m : List Nat), 10 ∉ l → cutL cur (l ++ m) = cutL (cur ++ l) m
  | [], cur, m, _ => by simp
  | x :: l, cur, m, h => by
    show cutL cur (x :: (l ++ m)) = _
    rw [cutL, if_neg (fun e => h (by rw [e]; simp)), cutL_skip l _ m fun e => h (List.mem_cons_of_mem _ e)]
    simp
theorem nz_ten (l : List Nat) (h : 10 ∉ l) : 10 ∉ l.flatMap nz1 := fun e => by
  obtain ⟨y, hy, e⟩ := List.mem_flatMap.1 e
  unfold nz1 at e
  split at e
  · rename_i h0; exact h (h0 ▸ hy)
  · split at e
    · simp at e
    · exact h (List.mem_singleton.1 e ▸ hy)
theorem cutL_ne : ∀ (t cur : List Nat), ∃ l ls, cutL cur t = l :: ls
  | [], cur => ⟨cur, [], rfl⟩
  | x :: t, cur => by
    rw [cutL]
    split
    · exact ⟨_, _, rfl⟩
    · exact cutL_ne t _
/-- The lines of a noisy text. -/
theorem cutL_noise : ∀ (t cur : List Nat), 10 ∉ cur → cutL (nzl cur) (t.flatMap nz1) = nls (cutL cur t)
  | [], cur, _ => rfl
  | x :: t, cur, h => by
    rw [List.flatMap_cons]
    by_cases h10 : x = 10
    · subst h10
      have hl : nls (cutL cur (10 :: t)) = (nzl cur ++ nzc) :: [9] :: nls (cutL [] t) := by
        rw [cutL, if_pos rfl]
        obtain ⟨l, ls, e⟩ := cutL_ne t []
        rw [e]
        rfl
      rw [hl]
      show cutL (nzl cur) (nzc ++ 10 :: 9 :: 10 :: 32 :: t.flatMap nz1) = _
      rw [cutL_line nzc _ _ (by decide)]
      congr 1
      show cutL [] ([9] ++ 10 :: 32 :: t.flatMap nz1) = _
      rw [cutL_line [9] _ _ (by decide)]
      congr 1
      show cutL [] (32 :: t.flatMap nz1) = _
      rw [cutL, if_neg (by decide)]
      exact cutL_noise t [] (by simp)
    · have e1 : cutL cur (x :: t) = cutL (cur ++ [x]) t := by rw [cutL, if_neg h10]
      rw [e1, ← cutL_noise t (cur ++ [x]) (by simp [h, Ne.symm h10]), cutL_skip _ _ _ (by
        have := nz_ten [x] (by simp [Ne.symm h10])
        simpa using this)]
      congr 1
      unfold nzl
      rw [List.flatMap_append]
      simp
theorem cutL_pl : ∀ (t cur : List Nat), plainT t = true → PlL cur → ∀ l ∈ cutL cur t, PlL l
  | [], cur, _, hc, l, hl => by rw [List.mem_singleton.1 hl]; exact hc
  | x :: t, cur, h, hc, l, hl => by
    unfold plainT at h
    rw [List.all_cons, Bool.and_eq_true] at h
    have hx := of_decide_eq_true h.1
    rw [cutL] at hl
    split at hl
    · rcases List.mem_cons.1 hl with rfl | hl
      · exact hc
      · exact cutL_pl t [] h.2 (by intro y hy; simp at hy) l hl
    · rename_i h10
      refine cutL_pl t _ h.2 (fun y hy => ?_) l hl
      rcases List.mem_append.1 hy with hy | hy
      · exact hc y hy
      · rw [List.mem_singleton.1 hy]; omega
theorem nz_len : ∀ t : List Nat, (t.flatMap nz1).length ≤ 10 * t.length
  | [] => by simp
  | x :: t => by
    have ih := nz_len t
    rw [List.flatMap_cons, List.length_append]
    have : (nz1 x).length ≤ 10 := by
      unfold nz1
      split
      · simp
      · split <;> simp
    simp only [List.length_cons]
    omega
/-- P22.6: noise changes nothing but the lines' numbers. -/
theorem scr_noise (t : List Nat) (hl : t.length ≤ 60000) (hp : plainT t = true) : scrv (noisyT t) = twice (scrv t) := by
  have hn := nz_len t
  have e1 : scrv t = lnsv none 1 (cutL [] t) := by unfold scrv; rw [if_neg (by omega)]
  have e2 : scrv (noisyT t) = lnsv none 1 (cutL [] (noisyT t)) := by
    unfold scrv
    rw [if_neg (by unfold noisyT; rw [List.length_cons]; omega)]
  rw [e1, e2]
  have e3 : cutL [] (noisyT t) = nls (cutL [] t) := by
    unfold noisyT
    rw [cutL, if_neg (by decide)]
    exact cutL_noise t [] (by simp)
  rw [e3]
  exact lnsv_noise _ none 1 (cutL_pl t [] hp (by intro y hy; simp at hy)) (Nat.le_refl _)
end Go.Proofs.YtkeogggeefnoeaaGreatDoor
namespace Go.Proofs.YtkeogggeefnoeaaGreatDoor
set_option linter.unusedSimpArgs false
open Go.RowKit
set_option linter.unusedVariables false
set_option maxRecDepth 100000

/-! Scripts in memory. -/
/-- A row that can be read, what it holds by its cells. -/
def Ls (w : World) (V : Nat → Prop) (a : Option Addr) (n sz : Nat) (f : Nat → List Value) : Prop :=
  n = 0 ∨ ∃ b off, a = some ⟨b, off, none⟩ ∧ V b ∧ b < w.heap.size ∧ ∀ i, i < n → ∀ j v, (f i)[j]? = some v → w.cell? ⟨b, off + i * sz + j, none⟩ = some v
theorem Ls.step {w w' : World} {V : Nat → Prop} {a : Option Addr} {n sz : Nat} {f : Nat → List Value} (h : Ls w V a n sz f) (hk : ∀ x, x < w.heap.size → V x → w'.heap[x]? = w.heap[x]?) (hs : w.heap.size ≤ w'.heap.size) : Ls w' V a n sz f := by
  rcases h with h | ⟨b, off, e, hV, hb, hc⟩
  · exact .inl h
  · exact .inr ⟨b, off, e, hV, by omega, fun i hi j v hv => (World.cell?_of_block (w := w) (a := ⟨b, off + i * sz + j, none⟩) (hk b hb hV)).trans (hc i hi j v hv)⟩
theorem Ls.wide {w : World} {V V' : Nat → Prop} {a : Option Addr} {n sz : Nat} {f : Nat → List Value} (h : Ls w V a n sz f) (hV : ∀ x, x < w.heap.size → V x → V' x) : Ls w V' a n sz f := by
  rcases h with h | ⟨b, off, e, hv, hb, hc⟩
  · exact .inl h
  · exact .inr ⟨b, off, e, hV b hb hv, hb, hc⟩
theorem Ls.at {w : World} {V : Nat → Prop} {a : Option Addr} {n sz i : Nat} {f : Nat → List Value} (h : Ls w V a n sz f) (hi : i < n) : ∃ b off, a = some ⟨b, off, none⟩ ∧ ∀ j v, (f i)[j]? = some v → w.cell? ⟨b, off + i * sz + j, none⟩ = some v := by
  rcases h with h | ⟨b, off, e, hV, hb, hc⟩
  · omega
  · exact ⟨b, off, e, hc i hi⟩
/-- A change, a step with where their lists lie. -/
structure CD where
  c : Chg
  a : Option Addr
  p : Nat
structure OD where
  o : Opp
  da : Option Addr
  dp : Nat
  ca : Option Addr
  cp : Nat
  fa : Option Addr
  fp : Nat
  ka : Option Addr
  kp : Nat
def cd0 : CD := ⟨chg0 0, none, 0⟩
def od0 : OD := ⟨opp0 0, none, 0, none, 0, none, 0, none, 0⟩
def cdc (x : CD) : List Value := [.int .i64 x.c.kd, .int .i64 x.c.lk, .int .i64 x.c.sd, .slice x.a x.c.key.length x.p, .int .i64 x.c.f, .int .u64 x.c.h, .int .u64 x.c.l, .int .i64 x.c.b]
def odc (x : OD) : List Value := [.int .i64 x.o.kd, .int .i64 x.o.a, .int .i64 x.o.k, .int .i64 x.o.t, .int .i64 x.o.x, .int .i64 x.o.lk, .slice x.da x.o.d.length x.dp, .int .i64 x.o.sec, .int .i64 x.o.nano, .int .i64 x.o.bl, .int .i64 x.o.wi, .slice x.ca x.o.ch.length x.cp, .slice x.fa x.o.fl.length x.fp, .slice x.ka x.o.kp.length x.kp]
section
variable (w : World) (V : Nat → Prop)
def Vc (x : CD) : Prop := Vs w V x.a x.c.key.length x.p (ic x.c.key)
def Cs (a : Option Addr) (n : Nat) (l : List Chg) : Prop := ∃ cs : List CD, cs.map (·.c) = l ∧ cs.length = n ∧ Ls w V a n 8 (fun i => cdc (cs.getD i cd0)) ∧ ∀ x ∈ cs, Vc w V x
def Fts (a : Option Addr) (n : Nat) (l : List (Int × Int)) : Prop := l.length = n ∧ Ls w V a n 2 (fun i => [.int .i64 (l.getD i (0, 0)).1, .int .i64 (l.getD i (0, 0)).2])
def Kps (a : Option Addr) (n : Nat) (l : List Bool) : Prop := l.length = n ∧ Ls w V a n 1 (fun i => [.bool (l.getD i false)])
structure Vo (x : OD) : Prop where
  d : Vs w V x.da x.o.d.length x.dp (ic x.o.d)
  c : Cs w V x.ca x.o.ch.length x.o.ch
  f : Fts w V x.fa x.o.fl.length x.o.fl
  k : Kps w V x.ka x.o.kp.length x.o.kp
  kc : x.o.kp.length ≤ x.kp
def Ops (a : Option Addr) (n : Nat) (l : List Opp) : Prop := ∃ os : List OD, os.map (·.o) = l ∧ os.length = n ∧ Ls w V a n 14 (fun i => odc (os.getD i od0)) ∧ ∀ x ∈ os, Vo w V x
end
section
variable {w w' : World} {V V' : Nat → Prop} {a : Option Addr} {n : Nat}
theorem Vc.step {x : CD} (h : Vc w V x) (hk : ∀ x, x < w.heap.size → V x → w'.heap[x]? = w.heap[x]?) : Vc w' V x := Vs.step h fun k h1 h2 _ => hk k h1 h2
theorem Vc.wide {x : CD} (h : Vc w V x) (hV : ∀ x, x < w.heap.size → V x → V' x) : Vc w V' x := Vs.wide h hV
theorem Cs.step {l : List Chg} (h : Cs w V a n l) (hk : ∀ x, x < w.heap.size → V x → w'.heap[x]? = w.heap[x]?) (hs : w.heap.size ≤ w'.heap.size) : Cs w' V a n l := by
  obtain ⟨cs, h1, h2, h3, h4⟩ := h
  exact ⟨cs, h1, h2, h3.step hk hs, fun x hx => (h4 x hx).step hk⟩
theorem Cs.wide {l : List Chg} (h : Cs w V a n l) (hV : ∀ x, x < w.heap.size → V x → V' x) : Cs w V' a n l := by
  obtain ⟨cs, h1, h2, h3, h4⟩ := h
  exact ⟨cs, h1, h2, h3.wide hV, fun x hx => (h4 x hx).wide hV⟩
theorem Vo.step {x : OD} (h : Vo w V x) (hk : ∀ x, x < w.heap.size → V x → w'.heap[x]? = w.heap[x]?) (hs : w.heap.size ≤ w'.heap.size) : Vo w' V x :=
  ⟨h.d.step fun k h1 h2 _ => hk k h1 h2, h.c.step hk hs, ⟨h.f.1, h.f.2.step hk hs⟩, ⟨h.k.1, h.k.2.step hk hs⟩, h.kc⟩
theorem Vo.wide {x : OD} (h : Vo w V x) (hV : ∀ x, x < w.heap.size → V x → V' x) : Vo w V' x :=
  ⟨h.d.wide hV, h.c.wide hV, ⟨h.f.1, h.f.2.wide hV⟩, ⟨h.k.1, h.k.2.wide hV⟩, h.kc⟩
theorem Ops.step {l : List Opp} (h : Ops w V a n l) (hk : ∀ x, x < w.heap.size → V x → w'.heap[x]? = w.heap[x]?) (hs : w.heap.size ≤ w'.heap.size) : Ops w' V a n l := by
  obtain ⟨cs, h1, h2, h3, h4⟩ := h
  exact ⟨cs, h1, h2, h3.step hk hs, fun x hx => (h4 x hx).step hk hs⟩
theorem Ops.wide {l : List Opp} (h : Ops w V a n l) (hV : ∀ x, x < w.heap.size → V x → V' x) : Ops w V' a n l := by
  obtain ⟨cs, h1, h2, h3, h4⟩ := h
  exact ⟨cs, h1, h2, h3.wide hV, fun x hx => (h4 x hx).wide hV⟩
theorem Vo.on {x : OD} (h : Vo w V x) (hb : Below w.heap.size w w') : Vo w' V x := h.step (fun k hk _ => hb.block k hk) hb.size
theorem Ops.on {l : List Opp} (h : Ops w V a n l) (hb : Below w.heap.size w w') : Ops w' V a n l := h.step (fun k hk _ => hb.block k hk) hb.size
theorem Cs.on {l : List Chg} (h : Cs w V a n l) (hb : Below w.heap.size w w') : Cs w' V a n l := h.step (fun k hk _ => hb.block k hk) hb.size
end
/-! A page. -/
def PM : Nat := 1048577
theorem strCells_sb (l : List Nat) (h : ∀ x ∈ l, x < 256) : Lib.strCells (sb l) = cells (ic l) := by
  unfold Lib.strCells sb cells ic
  rw [List.map_map]
  simp only [List.map_map]
  apply List.map_congr_left
  intro x hx
  have := h x hx
  simp only [Function.comp]
  congr 1
  show ((UInt8.ofNat x).toNat : Int) = x
  rw [UInt8.toNat_ofNat']
  omega
/-- A page that was made since w0: its text T, as far as it is kept; Kk: what else stands as it was. -/
structure Pg (Kk : Nat → Obj → Prop) (w0 w : World) (g : Nat) (T : List Nat) : Prop where
  blk : ∃ v, w.heap[g]? = some (.cells #[v] 42 (0, 0)) ∧ w.ownsRow w0.heap.size 5 1 v (T.take PM).length (cells (ic (T.take PM)))
  lo : w0.heap.size ≤ g
  bel : Below w0.heap.size w0 w
  byt : ∀ x ∈ T, x < 256
  kp : ∀ j B, Kk j B → w.heap[j]? = some B ∧ j ≠ g ∧ ∀ vs, B ≠ Obj.cells vs 5
theorem Pg.cell {Kk : Nat → Obj → Prop} {w0 w : World} {g : Nat} {T : List Nat} (h : Pg Kk w0 w g T) : ∃ v n, n = (T.take PM).length ∧ n ≤ 1048577 ∧ w.cell? ⟨g, 0, none⟩ = some v ∧ w.frozen? ⟨g, 0, none⟩ = false ∧ w.heap[g]? = some (.cells #[v] 42 (0, 0)) ∧ w.ownsRow w0.heap.size 5 1 v n (cells (ic (T.take PM))) ∧ v.ownBlock ≠ some g := by
  obtain ⟨v, h1, h2⟩ := h.blk
  refine ⟨v, _, rfl, by rw [List.length_take]; unfold PM; omega, (cell_of_row _ _ 0 _ _ (0, 0) h1).trans rfl, by simp [World.frozen?, h1], h1, h2, fun e => ?_⟩
  rcases h2.2 with ⟨e1, _⟩ | ⟨g', cap, cur, e1, _, hg, _⟩
  · rw [e1] at e; simp [Value.ownBlock] at e
  · rw [e1] at e
    obtain rfl : g' = g := by simpa [Value.ownBlock] using e
    rw [h1] at hg
    simp at hg
theorem Pg.on {Kk : Nat → Obj → Prop} {w0 w w' : World} {g : Nat} {T : List Nat} (h : Pg Kk w0 w g T) (hb : Below w.heap.size w w') : Pg Kk w0 w' g T := by
  obtain ⟨v, h1, h2⟩ := h.blk
  exact ⟨⟨v, (hb.block g (Array.getElem?_eq_some_iff.1 h1).1).trans h1, own_bel h2 hb⟩, h.lo, bel_bel h.bel h.bel.size hb, h.byt, fun j B hj => by
    obtain ⟨a, b, c⟩ := h.kp j B hj
    exact ⟨(hb.block j (Array.getElem?_eq_some_iff.1 a).1).trans a, b, c⟩⟩
theorem take_add (T t : List Nat) : T.take PM ++ t.take (PM - (T.take PM).length) = (T ++ t).take PM := by
  rw [List.take_append, List.length_take]
  congr 2
  omega
/-- append of a text to a row of bytes of one's own, in a region that draws its order. -/
theorem step_appStr {w : World} {ops : Array Oper} {o : Oper} {act : Act} {K : Act → World → Prop} {Q : Exit → Act → World → Prop} {E : Prop} (hgd : o.guard = none) (s x : Operand)
    (ho : o.op = .call { callee := .builtin .append, args := #[s, x], argTypes := #[40, 9] })
    (base : Nat) (v : Value) (n : Nat) (X : List Int) (hs : act.eval s = v) (hown : w.ownsRow base 5 1 v n (cells X)) (S : List Nat) (hS : ∀ x ∈ S, x < 256) (hx : act.eval x = .string (sb S)) (m : Nat) (hm : Hid (S.length = m)) (hlen : n + m ≤ 140737488355328) (hbase : base ≤ w.heap.size)
    (h : ∀ v' w', w'.ownsRow base 5 1 v' (n + m) (cells (X ++ ic S)) → w.grownBy w' v.ownBlock → K (act.put o.dst v') w') : if Region.wanted o (yielded ops act.tmps) = true then Oper.wp Tryz.prog o act w K Q else E := by
  have hw : Region.wanted o (yielded ops act.tmps) = true := by simp [Region.wanted, hgd]
  rw [if_pos hw]
  obtain ⟨i5, hi, hz0, hz1, hz2⟩ := info_parts info5
  have hsz : (sb S).size = m := (sb_size S).trans hm.out
  obtain ⟨v', w', hr, h1, h2, _⟩ := Lib.run_append_own_string (P := Tryz.prog) w base 40 9 o.type 5 i5 Tryz.underlying40 Tryz.underlying9 hi hz0 hz1 hz2 v n (cells X) hown (sb S) (by rw [hsz]; unfold maxLen; omega) (by rw [hsz]; omega) hbase
  rw [hsz, strCells_sb S hS, ← cells_append] at h1
  unfold Oper.wp execOp
  simp only [ho, resolve, invoke, builtin, Sem.run_bind, Sem.run_pure, Result.andThen_ok, List.map_toArray, List.map_cons, List.map_nil, hs, hx, hr]
  exact h v' w' h1 h2
end Go.Proofs.YtkeogggeefnoeaaGreatDoor
namespace Go.Proofs.YtkeogggeefnoeaaGreatDoor
set_option linter.unusedSimpArgs false
set_option maxRecDepth 100000
open Go.RowKit
set_option linter.unusedVariables false

/-! The landed package: a number without its lowest bits. -/
def cl (x : Int) (k : Nat) : Int := x / 2 ^ k * 2 ^ k
theorem cl_zero (x : Int) : cl x 0 = x := by unfold cl; rw [Int.pow_zero, Int.ediv_one, Int.mul_one]
theorem cl_le {x : Int} (h : 0 ≤ x) (k : Nat) : 0 ≤ cl x k ∧ cl x k ≤ x := by
  have hp := pow_pos2 k
  unfold cl
  refine ⟨Int.mul_nonneg (Int.ediv_nonneg h (by omega)) (by omega), Int.ediv_mul_le x (by omega)⟩
theorem cl_in {x : Int} (h : InU x) (k : Nat) : InU (cl x k) := by
  have := cl_le h.1 k
  exact ⟨this.1, Int.le_trans this.2 h.2⟩
theorem pow_le2 {a b : Nat} (h : a ≤ b) : (2 : Int) ^ a ≤ 2 ^ b := by
  obtain ⟨m, rfl⟩ : ∃ m, b = a + m := ⟨b - a, by omega⟩
  rw [Int.pow_add]
  have h1 := pow_pos2 a
  have h2 := pow_pos2 m
  have : 2 ^ a * 1 ≤ (2 : Int) ^ a * 2 ^ m := Int.mul_le_mul_of_nonneg_left (by omega) (by omega)
  omega
theorem cl_big {x : Int} (h : InU x) {k : Nat} (hk : 64 ≤ k) : cl x k = 0 := by
  have h1 := pow_le2 hk
  have : (2 : Int) ^ 64 = 18446744073709551616 := by decide
  unfold cl
  rw [Int.ediv_eq_zero_of_lt h.1 (by have := h.2; omega), Int.zero_mul]
theorem cl_ad {H L : Int} (hH : InU H) (hL : InU L) (k : Nat) (hk : k ≤ 128) : ad (cl H (k - 64)) (cl L k) = cl (ad H L) k := by
  by_cases h : k ≤ 64
  · obtain ⟨m, hm⟩ : ∃ m, 64 = k + m := ⟨64 - k, by omega⟩
    rw [show k - 64 = 0 from by omega, cl_zero]
    unfold ad cl
    have e0 : (18446744073709551616 : Int) = 2 ^ k * 2 ^ m := by rw [← Int.pow_add, ← hm]; decide
    have e1 : H * 18446744073709551616 = 2 ^ k * (H * 2 ^ m) := by rw [e0, Int.mul_left_comm]
    rw [e1, Int.add_comm (2 ^ k * (H * 2 ^ m)) L, Int.add_mul_ediv_left _ _ (by have := pow_pos2 k; omega), Int.add_mul, Int.mul_comm (H * 2 ^ m) (2 ^ k)]
    omega
  · obtain ⟨m, rfl⟩ : ∃ m, k = 64 + m := ⟨k - 64, by omega⟩
    rw [cl_big hL (by omega), Nat.add_sub_cancel_left]
    unfold ad cl
    have e : (H * 18446744073709551616 + L) / 2 ^ (64 + m) = H / 2 ^ m := by
      rw [Int.pow_add, ← Int.ediv_ediv_of_nonneg (by decide)]
      have h1 : (H * 18446744073709551616 + L) / 2 ^ 64 = H := by
        unfold InU at hL
        have : (2 : Int) ^ 64 = 18446744073709551616 := by decide
        rw [this]
        omega
      rw [h1]
    rw [e, Int.pow_add, show (2 : Int) ^ 64 = 18446744073709551616 from by decide, Int.add_zero, ← Int.mul_assoc, Int.mul_right_comm]
theorem ad_inj {H L H' L' : Int} (hL : InU L) (hL' : InU L') (h : ad H L = ad H' L') : H = H' ∧ L = L' := by
  unfold ad InU at *
  omega
theorem cl_same {A : Int} (k : Nat) : cl A k = A ↔ A % 2 ^ k = 0 := by
  have := Int.mul_ediv_add_emod A (2 ^ k)
  unfold cl
  rw [Int.mul_comm] at this
  omega
theorem cl_eq {A A' : Int} (k : Nat) (h : A % 2 ^ k = 0) : cl A' k = A ↔ A / 2 ^ k = A' / 2 ^ k := by
  have h1 := (cl_same k).2 h
  have hp := pow_pos2 k
  constructor
  · intro e
    unfold cl at e
    rw [← e, Int.mul_ediv_cancel _ (by omega)]
  · intro e
    rw [← h1]
    unfold cl
    rw [e]
/-- An address's first bits. -/
def bh (F B : Int) : Int := (if F = 4 then 32 else 128) - B
def bH (F H B : Int) : Int := cl H (bh F B - 64).toNat
def bL (F L B : Int) : Int := cl L (bh F B).toNat
theorem nb_va {F H L : Int} (h : va F H L = true) : (nb F : Int) = if F = 4 then 32 else 128 := by
  have hF := of_decide_eq_true (show decide _ = true from h)
  unfold nb
  rcases hF with rfl | ⟨rfl, _⟩
  · rfl
  · rfl
theorem bh_nat {F H L B : Int} (h : va F H L = true) (hB : 0 ≤ B ∧ B ≤ nb F) : (bh F B).toNat = nb F - B.toNat ∧ (bh F B - 64).toNat = nb F - B.toNat - 64 ∧ nb F - B.toNat ≤ 128 := by
  have h1 := nb_va h
  have h2 := nb_le F
  unfold bh
  rw [← h1]
  omega
theorem vp_begin {F H L B : Int} (h : va F H L = true) (hH : InU H) (hL : InU L) (hB : 0 ≤ B ∧ B ≤ nb F) : vp F H L B = decide (bH F H B = H ∧ bL F L B = L) := by
  obtain ⟨e1, e2, hk⟩ := bh_nat h hB
  have hc := cl_ad hH hL _ hk
  have hs := cl_same (A := ad H L) (nb F - B.toNat)
  unfold vp bH bL
  rw [h, Bool.true_and, e1, e2]
  refine decide_eq_decide.2 ⟨fun h => ?_, fun h => ⟨hB.1, hB.2, ?_⟩⟩
  · rw [hs.2 h.2.2] at hc
    exact ad_inj (cl_in hL _) hL hc
  · rw [h.1, h.2] at hc
    exact hs.1 hc.symm
theorem ho_begin {F H L B F' H' L' : Int} (h : vp F H L B = true) (h' : va F' H' L' = true) (hH : InU H) (hL : InU L) (hH' : InU H') (hL' : InU L') : ho F H L B F' H' L' = decide (F' = F ∧ bH F' H' B = H ∧ bL F' L' B = L) := by
  obtain ⟨hv, hB0, hB1, hm⟩ := vp_in h
  unfold ho
  rw [h, h', Bool.true_and, Bool.true_and]
  by_cases e : F' = F
  · subst e
    obtain ⟨e1, e2, hk⟩ := bh_nat h' ⟨hB0, hB1⟩
    have hc := cl_ad hH' hL' _ hk
    have hs := cl_eq (A' := ad H' L') _ hm
    unfold bH bL
    rw [e1, e2]
    refine decide_eq_decide.2 ⟨fun h => ⟨rfl, ?_⟩, fun h => ⟨rfl, ?_⟩⟩
    · rw [hs.2 h.2] at hc
      exact ad_inj (cl_in hL' _) hL hc
    · rw [h.2.1, h.2.2] at hc
      exact hs.1 hc.symm
  · rw [decide_eq_false (fun h => e h.1.symm), decide_eq_false (fun h => e h.1)]
end Go.Proofs.YtkeogggeefnoeaaGreatDoor
