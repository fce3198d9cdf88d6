import Derived.Test.YtkeogggeefnoeaaGreatDoorPA
namespace Go.Proofs.YtkeogggeefnoeaaGreatDoor
set_option linter.unusedSimpArgs false
set_option maxRecDepth 100000
set_option linter.unusedVariables false

/-! What a script is. -/
structure Chg where
  kd : Int
  lk : Int
  sd : Int
  key : List Nat
  f : Int
  h : Int
  l : Int
  b : Int
structure Opp where
  kd : Int
  a : Int
  k : Int
  t : Int
  x : Int
  lk : Int
  d : List Nat
  sec : Int
  nano : Int
  bl : Int
  wi : Int
  ch : List Chg
  fl : List (Int × Int)
  kp : List Bool
structure Scr where
  sec : Int
  ops : List Opp
def chg0 (k : Int) : Chg := ⟨k, 0, 0, [], 0, 0, 0, 0⟩
def opp0 (k : Int) : Opp := ⟨k, 0, 0, 0, 0, 0, [], 0, 0, 0, 0, [], [], []⟩
def scr0 : Scr := ⟨0, []⟩
/-! The tables: names and letters of fields. -/
def cNm : List (List Nat × List Nat) := [([], []), ([97, 100, 100], [108, 75, 115]), ([114, 101, 109, 111, 118, 101], [108]), ([115, 101, 116, 107, 101, 121], [108, 75, 115]), ([97, 108, 108, 111, 119], [108, 80]), ([100, 101, 110, 121], [108, 80])]
def sNm : List (List Nat × List Nat) := [([], []),
  ([99, 111, 109, 109, 105, 116], [97, 67]),
  ([115, 101, 110, 100], [97, 72]),
  ([114, 101, 107, 101, 121], [97, 108]),
  ([116, 105, 99, 107], [97, 83]),
  ([103, 105, 118, 101], [107]),
  ([100, 114, 111, 112], [107]),
  ([99, 111, 112, 121], [107]),
  ([102, 108, 105, 112], [107, 116, 120]),
  ([106, 117, 110, 107], [97, 72]),
  ([97, 114, 109], [97, 70]),
  ([99, 114, 97, 115, 104], [97, 66]),
  ([98, 111, 111, 116], [97, 98, 119]),
  ([108, 111, 111, 107], [97]),
  ([114, 117, 110], [107])]
def fNm : List (List Nat) := [[], [112, 111, 119, 101, 114], [105, 111]]
/-- Where a name stands, 0: nowhere. -/
def fndN (i : Nat) (n : List Nat) : List (List Nat) → Nat
  | [] => 0
  | m :: l => if m = n then i else fndN (i + 1) n l
def cKd (n : List Nat) : Nat := fndN 0 n (cNm.map (·.1))
def sKd (n : List Nat) : Nat := fndN 0 n (sNm.map (·.1))
def fKd (n : List Nat) : Nat := fndN 0 n fNm
def cFm (k : Nat) : List Nat := (cNm.getD k ([], [])).2
def sFm (k : Nat) : List Nat := (sNm.getD k ([], [])).2
/-! Reading. -/
abbrev R (α : Type) := Except Nat α
/-- Each of them, the first error. -/
def mapR {α β : Type} (f : α → R β) : List α → R (List β)
  | [] => .ok []
  | x :: l => match f x with
    | .error e => .error e
    | .ok y => match mapR f l with
      | .error e => .error e
      | .ok r => .ok (y :: r)
def cNum (c : Chg) (f : Nat) (n : Int) : Chg := if f = 108 then { c with lk := n } else { c with sd := n }
def cFil (c : Chg) (f : Nat) (w : List Nat) : R Chg :=
  if f = 75 then match hexv w with
    | none => .error 225
    | some b => .ok { c with key := b }
  else if f = 80 then (if rE w = 0 then .ok { c with f := rF w, h := rH w, l := rL w, b := rB w } else .error 70)
  else match numv w with
    | none => .error 223
    | some n => .ok (cNum c f n)
def cRun (c : Chg) : List Nat → List (List Nat) → R Chg
  | [], _ => .ok c
  | _ :: _, [] => .ok c
  | f :: fs, w :: ws => match cFil c f w with
    | .error e => .error e
    | .ok c' => cRun c' fs ws
/-- One change. -/
def chgv : List (List Nat) → R Chg
  | [] => .error 222
  | n :: ws => if cKd n = 0 then .error 222 else if ws.length ≠ (cFm (cKd n)).length then .error 226 else cRun (chg0 (cKd n)) (cFm (cKd n)) ws
/-- The words ahead of, between and behind the commas. -/
def pcs (cur : List (List Nat)) : List (List Nat) → List (List (List Nat))
  | [] => [cur]
  | x :: l => if x = [44] then cur :: pcs [] l else pcs (cur ++ [x]) l
def chsv (ws : List (List Nat)) : R (List Chg) := if ws = [] then .ok [] else mapR chgv (pcs [] ws)
/-- Pairs of words. -/
def fltv : List (List Nat) → R (List (Int × Int))
  | a :: b :: l => if fKd a = 0 then .error 222 else match numv b with
    | none => .error 223
    | some n => match fltv l with
      | .error e => .error e
      | .ok r => .ok (((n : Int), (fKd a : Int)) :: r)
  | _ => .ok []
def sNum (o : Opp) (f : Nat) (n : Int) : Opp :=
  if f = 97 then { o with a := n } else if f = 107 then { o with k := n } else if f = 116 then { o with t := n } else if f = 120 then { o with x := n } else if f = 108 then { o with lk := n } else if f = 98 then { o with bl := n } else { o with wi := n }
/-- A field of a step, by the words from its own on. -/
def sFil (o : Opp) (f : Nat) (ws : List (List Nat)) : R Opp :=
  if f = 72 then match hexv (ws.getD 0 []) with
    | none => .error 225
    | some b => .ok { o with d := b }
  else if f = 83 then (if xe (ws.getD 0 []) = 0 then .ok { o with sec := xs (ws.getD 0 []), nano := xn (ws.getD 0 []) } else .error 60)
  else if f = 66 then match bitv (ws.getD 0 []) with
    | none => .error 223
    | some b => .ok { o with kp := b }
  else if f = 70 then match fltv ws with
    | .error e => .error e
    | .ok l => .ok { o with fl := l }
  else if f = 67 then match chsv ws with
    | .error e => .error e
    | .ok l => .ok { o with ch := l }
  else match numv (ws.getD 0 []) with
    | none => .error 223
    | some n => .ok (sNum o f n)
def sRun (o : Opp) : List Nat → List (List Nat) → R Opp
  | [], _ => .ok o
  | f :: fs, ws => match sFil o f ws with
    | .error e => .error e
    | .ok o' => sRun o' fs (ws.drop 1)
/-- May so many words stand for these letters? -/
def sFit (fs : List Nat) (n : Nat) : Bool :=
  if fs.getD (fs.length - 1) 0 = 67 then decide (fs.length - 1 ≤ n)
  else if fs.getD (fs.length - 1) 0 = 70 then decide (fs.length - 1 ≤ n ∧ (n - (fs.length - 1)) % 2 = 0)
  else decide (n = fs.length)
/-- One step. -/
def stpv : List (List Nat) → R Opp
  | [] => .error 222
  | n :: ws => if sKd n = 0 then .error 222 else if sFit (sFm (sKd n)) ws.length then sRun (opp0 (sKd n)) (sFm (sKd n)) ws else .error 226
def cul : List Nat := [99, 117, 108, 118, 101, 114, 116]
/-- The first line. -/
def fstv (ws : List (List Nat)) : R Int :=
  if ws.getD 0 [] ≠ cul then .error 227 else if ws.length ≠ 2 then .error 226 else match numv (ws.getD 1 []) with
    | none => .error 223
    | some n => .ok n
/-- One line. -/
def linv (s : Option Scr) (l : List Nat) : R (Option Scr) :=
  if sgood l then
    if wds l = [] then .ok s else match s with
    | none => match fstv (wds l) with
      | .error e => .error e
      | .ok n => .ok (some ⟨n, []⟩)
    | some s => if 2000 ≤ s.ops.length then .error 221 else match stpv (wds l) with
      | .error e => .error e
      | .ok o => .ok (some { s with ops := s.ops ++ [o] })
  else .error 224
/-- Line by line, numbered from i on. -/
def lnsv (s : Option Scr) (i : Nat) : List (List Nat) → Scr × Nat × Nat
  | [] => match s with
    | none => (scr0, 0, 227)
    | some s => (s, 0, 0)
  | l :: ls => match linv s l with
    | .error e => (scr0, i, e)
    | .ok s' => lnsv s' (i + 1) ls
/-- A text's lines. -/
def cutL (cur : List Nat) : List Nat → List (List Nat)
  | [] => [cur]
  | x :: l => if x = 10 then cur :: cutL [] l else cutL (cur ++ [x]) l
def scrv (t : List Nat) : Scr × Nat × Nat := if 1048576 < t.length then (scr0, 0, 221) else lnsv none 1 (cutL [] t)
/-- ParseChanges. -/
def pchv (t : List Nat) : R (List Chg) := if 1048576 < t.length then .error 221 else if 10 ∈ t then .error 224 else if sgood t then chsv (wds t) else .error 224
/-! Writing: a step's words. -/
def nTx (n : Int) : R (List (List Nat)) := if 0 ≤ n ∧ n ≤ 4294967295 then .ok [dgs n.toNat 1] else .error 223
def cGet (c : Chg) (f : Nat) : Int := if f = 108 then c.lk else c.sd
def cTx (c : Chg) (f : Nat) : R (List (List Nat)) :=
  if f = 75 then .ok [hxt c.key]
  else if f = 80 then (if vp c.f c.h c.l c.b then .ok [tp c.f c.h c.l c.b] else .error 70)
  else nTx (cGet c f)
def cHas (c : Chg) (f : Nat) : Bool :=
  if f = 75 then decide (c.key ≠ []) else if f = 80 then decide (¬ (c.f = 0 ∧ c.h = 0 ∧ c.l = 0 ∧ c.b = 0)) else decide (cGet c f ≠ 0)
def cAll : List Nat := [108, 115, 75, 80]
def cSpr (c : Chg) (fs : List Nat) : Bool := cAll.any fun f => !fs.contains f && cHas c f
/-- Field by field, the first error. -/
def catR {α : Type} (f : α → R (List (List Nat))) : List α → R (List (List Nat))
  | [] => .ok []
  | x :: l => match f x with
    | .error e => .error e
    | .ok y => match catR f l with
      | .error e => .error e
      | .ok r => .ok (y ++ r)
def chgW (c : Chg) : R (List (List Nat)) :=
  if 1 ≤ c.kd ∧ c.kd ≤ 5 then
    if cSpr c (cFm c.kd.toNat) then .error 228 else match catR (cTx c) (cFm c.kd.toNat) with
      | .error e => .error e
      | .ok ws => .ok ((cNm.getD c.kd.toNat ([], [])).1 :: ws)
  else .error 222
/-- Changes with commas between. -/
def joc : List (List (List Nat)) → List (List Nat)
  | [] => []
  | [x] => x
  | x :: l => x ++ [44] :: joc l
def chsW (l : List Chg) : R (List (List Nat)) := match mapR chgW l with
  | .error e => .error e
  | .ok ws => if 1048576 < (jsp (joc ws)).length then .error 221 else .ok (joc ws)
def fltW : List (Int × Int) → R (List (List Nat))
  | [] => .ok []
  | (at', kd) :: l => if 1 ≤ kd ∧ kd ≤ 2 then match nTx at' with
      | .error e => .error e
      | .ok n => match fltW l with
        | .error e => .error e
        | .ok r => .ok (fNm.getD kd.toNat [] :: (n ++ r))
    else .error 222
def sGet (o : Opp) (f : Nat) : Int :=
  if f = 97 then o.a else if f = 107 then o.k else if f = 116 then o.t else if f = 120 then o.x else if f = 108 then o.lk else if f = 98 then o.bl else o.wi
def sTx (o : Opp) (f : Nat) : R (List (List Nat)) :=
  if f = 72 then .ok [hxt o.d]
  else if f = 83 then (if vld o.sec o.nano then .ok [pr o.sec o.nano] else .error 60)
  else if f = 66 then .ok [bitt o.kp]
  else if f = 70 then fltW o.fl
  else if f = 67 then chsW o.ch
  else nTx (sGet o f)
def sHas (o : Opp) (f : Nat) : Bool :=
  if f = 72 then decide (o.d ≠ []) else if f = 83 then decide (¬ (o.sec = 0 ∧ o.nano = 0)) else if f = 66 then decide (o.kp ≠ []) else if f = 70 then decide (o.fl ≠ []) else if f = 67 then decide (o.ch ≠ []) else decide (sGet o f ≠ 0)
def sAll : List Nat := [97, 107, 116, 120, 108, 98, 119, 72, 83, 66, 70, 67]
def sSpr (o : Opp) (fs : List Nat) : Bool := sAll.any fun f => !fs.contains f && sHas o f
def stpW (o : Opp) : R (List (List Nat)) :=
  if 1 ≤ o.kd ∧ o.kd ≤ 14 then
    if sSpr o (sFm o.kd.toNat) then .error 228 else match catR (sTx o) (sFm o.kd.toNat) with
      | .error e => .error e
      | .ok ws => .ok ((sNm.getD o.kd.toNat ([], [])).1 :: ws)
  else .error 222
/-- Lines, each ended. -/
def lnT (ls : List (List (List Nat))) : List Nat := ls.flatMap fun ws => jsp ws ++ [10]
def scrW (s : Scr) : R (List Nat) := match nTx s.sec with
  | .error e => .error e
  | .ok n => if 2000 < s.ops.length then .error 221 else match mapR stpW s.ops with
    | .error e => .error e
    | .ok ls => if 1048576 < (lnT ((cul :: n) :: ls)).length then .error 221 else .ok (lnT ((cul :: n) :: ls))
def pchW (l : List Chg) : R (List Nat) := match chsW l with
  | .error e => .error e
  | .ok ws => .ok (jsp ws)
end Go.Proofs.YtkeogggeefnoeaaGreatDoor
namespace Go.Proofs.YtkeogggeefnoeaaGreatDoor
set_option linter.unusedSimpArgs false
set_option maxRecDepth 100000
set_option linter.unusedVariables false

/-! What was written is read. -/
def ChgOk (c : Chg) : Prop := (∀ x ∈ c.key, x < 256) ∧ InU c.h ∧ InU c.l
def OppOk (o : Opp) : Prop := (∀ x ∈ o.d, x < 256) ∧ o.sec ≤ 9223372036854775807 ∧ ∀ c ∈ o.ch, ChgOk c
def ScrOk (s : Scr) : Prop := ∀ o ∈ s.ops, OppOk o
/-- A word that is no comma. -/
def Wc (w : List Nat) : Prop := Wd w ∧ w ≠ [44]
theorem dgs_ne (n : Nat) : dgs n 1 ≠ [] := by
  intro e
  have h := dl_length (dn n 1) n
  unfold dgs at e
  rw [e] at h
  unfold dn at h
  simp at h
  omega
theorem chars_wc {w : List Nat} (h0 : w ≠ []) (h : ∀ x ∈ w, 45 ≤ x ∧ x ≤ 126) : Wc w := by
  refine ⟨⟨h0, fun x hx => ⟨decide_eq_true ?_, ?_⟩⟩, fun e => ?_⟩
  · have := h x hx; omega
  · have := h x hx; omega
  · have := h 44 (by rw [e]; simp); omega
theorem dgs_wc (n : Nat) : Wc (dgs n 1) := chars_wc (dgs_ne n) fun x hx => by
  have := dl_digit _ _ x hx
  omega
theorem hxt_wc (b : List Nat) (h : ∀ x ∈ b, x < 256) : Wc (hxt b) := by
  have h1 := hxt_wd b h
  refine ⟨h1, fun e => ?_⟩
  unfold hxt at e
  split at e
  · simp at e
  · rename_i h0
    cases b with
    | nil => exact h0 rfl
    | cons x b => simp [hx] at e
theorem bitt_wc (b : List Bool) : Wc (bitt b) := by
  refine ⟨bitt_wd b, fun e => ?_⟩
  unfold bitt at e
  split at e
  · simp at e
  · cases b with
    | nil => simp at e
    | cons x b => cases x <;> simp [b1] at e
theorem pr_wc {s n : Int} (h : vld s n = true) : Wc (pr s n) := by
  have := st_chars s n h
  exact chars_wc (fun e => by rw [e] at this; simp at this) fun x hx => by have := this.2 x hx; omega
theorem tp_wc {F H L B : Int} (h : vp F H L B = true) : Wc (tp F H L B) := by
  have := pf_chars F H L B h
  exact chars_wc (fun e => by rw [e] at this; simp at this) fun x hx => by have := this.2 x hx; omega
theorem nTx_ok {n : Int} {ws : List (List Nat)} (h : nTx n = .ok ws) : ∃ w, ws = [w] ∧ Wc w ∧ numv w = some n.toNat ∧ (n.toNat : Int) = n := by
  unfold nTx at h
  split at h
  · rename_i h0
    cases h
    exact ⟨_, rfl, dgs_wc _, numv_dgs (by omega), by omega⟩
  · cases h
/-! Changes. -/
def cPut (c0 : Chg) (f : Nat) (c : Chg) : Chg :=
  if f = 75 then { c0 with key := c.key } else if f = 80 then { c0 with f := c.f, h := c.h, l := c.l, b := c.b } else cNum c0 f (cGet c f)
theorem cTx_ok {c : Chg} {f : Nat} {ws : List (List Nat)} (hc : ChgOk c) (h : cTx c f = .ok ws) : ∃ w, ws = [w] ∧ Wc w ∧ ∀ c0, cFil c0 f w = .ok (cPut c0 f c) := by
  unfold cTx at h
  unfold cFil cPut
  by_cases h1 : f = 75
  · rw [if_pos h1] at h
    cases h
    refine ⟨_, rfl, hxt_wc _ hc.1, fun c0 => ?_⟩
    rw [if_pos h1, if_pos h1, hexv_hxt _ hc.1]
  · rw [if_neg h1] at h
    by_cases h2 : f = 80
    · rw [if_pos h2] at h
      split at h
      · rename_i hv
        cases h
        refine ⟨_, rfl, tp_wc hv, fun c0 => ?_⟩
        have := pf_back _ _ _ _ hv hc.2.1 hc.2.2
        rw [if_neg h1, if_neg h1, if_pos h2, if_pos h2, if_pos this.2.2.2.2, this.1, this.2.1, this.2.2.1, this.2.2.2.1]
      · cases h
    · rw [if_neg h2] at h
      obtain ⟨w, rfl, hw, hn, he⟩ := nTx_ok h
      refine ⟨w, rfl, hw, fun c0 => ?_⟩
      rw [if_neg h1, if_neg h1, if_neg h2, if_neg h2, hn]
      show Except.ok (cNum c0 f ((cGet c f).toNat : Int)) = _
      rw [he]
theorem catC_ok {c : Chg} (hc : ChgOk c) : ∀ (fs : List Nat) (ws : List (List Nat)), catR (cTx c) fs = .ok ws → ws.length = fs.length ∧ (∀ w ∈ ws, Wc w) ∧ ∀ c0, cRun c0 fs ws = .ok (fs.foldl (fun c0 f => cPut c0 f c) c0)
  | [], ws, h => by
    cases h
    exact ⟨rfl, by simp, fun c0 => rfl⟩
  | f :: fs, ws, h => by
    rw [catR] at h
    split at h
    · cases h
    · rename_i y hy
      split at h
      · cases h
      · rename_i r hr
        cases h
        obtain ⟨w, rfl, hw, hf⟩ := cTx_ok hc hy
        obtain ⟨i1, i2, i3⟩ := catC_ok hc fs r hr
        refine ⟨by simp [i1], fun x hx => ?_, fun c0 => ?_⟩
        · rcases List.mem_cons.1 hx with rfl | hx
          · exact hw
          · exact i2 x hx
        · show cRun c0 (f :: fs) (w :: r) = _
          rw [cRun, hf c0]
          exact i3 _
theorem kd5 {k : Int} (h : 1 ≤ k ∧ k ≤ 5) : k = 1 ∨ k = 2 ∨ k = 3 ∨ k = 4 ∨ k = 5 := by omega
theorem cPut_all {c : Chg} (hk : 1 ≤ c.kd ∧ c.kd ≤ 5) (hs : cSpr c (cFm c.kd.toNat) = false) : (cFm c.kd.toNat).foldl (fun c0 f => cPut c0 f c) (chg0 c.kd) = c := by
  obtain ⟨kd, lk, sd, key, f, h, l, b⟩ := c
  simp only at hk hs ⊢
  rcases kd5 hk with rfl | rfl | rfl | rfl | rfl <;>
    · simp [cFm, cNm, cSpr, cAll, cHas, cGet] at hs
      simp [cFm, cNm, cPut, cNum, cGet, chg0, hs]
theorem cKd_nm {k : Int} (h : 1 ≤ k ∧ k ≤ 5) : cKd (cNm.getD k.toNat ([], [])).1 = k.toNat ∧ Wc (cNm.getD k.toNat ([], [])).1 := by
  rcases kd5 h with rfl | rfl | rfl | rfl | rfl <;> exact ⟨by decide, ⟨by decide, by decide⟩, by decide⟩
/-- A change that was written is read. -/
theorem chgW_ok {c : Chg} {ws : List (List Nat)} (hc : ChgOk c) (h : chgW c = .ok ws) : ws ≠ [] ∧ (∀ w ∈ ws, Wc w) ∧ chgv ws = .ok c := by
  unfold chgW at h
  split at h
  · rename_i hk
    split at h
    · cases h
    · rename_i hs
      split at h
      · cases h
      · rename_i r hr
        cases h
        obtain ⟨i1, i2, i3⟩ := catC_ok hc _ _ hr
        have hn := cKd_nm hk
        refine ⟨by simp, fun x hx => ?_, ?_⟩
        · rcases List.mem_cons.1 hx with rfl | hx
          · exact hn.2
          · exact i2 x hx
        · rw [chgv, hn.1, if_neg (by omega), if_neg (by simp [i1]), i3, show ((c.kd.toNat : Nat) : Int) = c.kd from by omega, cPut_all hk (by simpa using hs)]
  · cases h
theorem pcs_skip : ∀ (x : List (List Nat)) (cur l : List (List Nat)), (∀ w ∈ x, w ≠ [44]) → pcs cur (x ++ l) = pcs (cur ++ x) l
  | [], cur, l, _ => by simp
  | w :: x, cur, l, h => by
    show pcs cur (w :: (x ++ l)) = _
    rw [pcs, if_neg (h w List.mem_cons_self), pcs_skip x _ l fun y hy => h y (List.mem_cons_of_mem _ hy)]
    simp
theorem pcs_joc : ∀ (wss : List (List (List Nat))), wss ≠ [] → (∀ ws ∈ wss, ∀ w ∈ ws, w ≠ [44]) → pcs [] (joc wss) = wss
  | [], h, _ => absurd rfl h
  | [x], _, h => by
    show pcs [] x = _
    have := pcs_skip x [] [] (h x (by simp))
    rw [List.append_nil] at this
    rw [this, pcs]
    simp
  | x :: y :: l, _, h => by
    show pcs [] (x ++ [44] :: joc (y :: l)) = _
    rw [pcs_skip x [] _ (h x (by simp)), pcs, if_pos rfl, pcs_joc (y :: l) (by simp) fun ws hws => h ws (List.mem_cons_of_mem _ hws)]
    simp
theorem joc_ne : ∀ (wss : List (List (List Nat))), wss ≠ [] → (∀ ws ∈ wss, ws ≠ []) → joc wss ≠ []
  | [], h, _ => absurd rfl h
  | [x], _, h => h x (by simp)
  | x :: y :: l, _, h => by
    show x ++ _ ≠ []
    have := h x (by simp)
    simp
theorem joc_wd : ∀ (wss : List (List (List Nat))), (∀ ws ∈ wss, ∀ w ∈ ws, Wd w) → ∀ w ∈ joc wss, Wd w
  | [], _, w, hw => by simp [joc] at hw
  | [x], h, w, hw => h x (by simp) w hw
  | x :: y :: l, h, w, hw => by
    have hw : w ∈ x ++ [44] :: joc (y :: l) := hw
    rcases List.mem_append.1 hw with hw | hw
    · exact h x (by simp) w hw
    · rcases List.mem_cons.1 hw with rfl | hw
      · exact ⟨by decide, by decide⟩
      · exact joc_wd (y :: l) (fun ws hws => h ws (List.mem_cons_of_mem _ hws)) w hw
theorem mapR_ok {α β : Type} {f : α → R β} {g : β → R α} {P : α → Prop} {Q : β → Prop} (hf : ∀ x y, P x → f x = .ok y → Q y ∧ g y = .ok x) : ∀ (l : List α) (r : List β), (∀ x ∈ l, P x) → mapR f l = .ok r → r.length = l.length ∧ (∀ y ∈ r, Q y) ∧ mapR g r = .ok l
  | [], r, _, h => by cases h; exact ⟨rfl, by simp, rfl⟩
  | x :: l, r, hp, h => by
    rw [mapR] at h
    split at h
    · cases h
    · rename_i y hy
      split at h
      · cases h
      · rename_i r' hr
        cases h
        obtain ⟨a1, a2⟩ := hf x y (hp x List.mem_cons_self) hy
        obtain ⟨i1, i2, i3⟩ := mapR_ok hf l r' (fun z hz => hp z (List.mem_cons_of_mem _ hz)) hr
        refine ⟨by simp [i1], fun z hz => ?_, ?_⟩
        · rcases List.mem_cons.1 hz with rfl | hz
          · exact a1
          · exact i2 z hz
        · rw [mapR, a2, i3]
theorem chsJ_ok {l : List Chg} {wss : List (List (List Nat))} (hl : ∀ c ∈ l, ChgOk c) (h : mapR chgW l = .ok wss) : (∀ w ∈ joc wss, Wd w) ∧ chsv (joc wss) = .ok l := by
  obtain ⟨i1, i2, i3⟩ := mapR_ok (f := chgW) (g := chgv) (P := ChgOk) (Q := fun ws => ws ≠ [] ∧ ∀ w ∈ ws, Wc w) (fun x y hx hy => by
    obtain ⟨a, b, c⟩ := chgW_ok hx hy
    exact ⟨⟨a, b⟩, c⟩) l wss hl h
  refine ⟨joc_wd wss fun ws hws w hw => ((i2 ws hws).2 w hw).1, ?_⟩
  unfold chsv
  by_cases h0 : wss = []
  · subst h0
    cases l with
    | nil => rfl
    | cons c l => simp at i1
  · rw [if_neg (joc_ne wss h0 fun ws hws => (i2 ws hws).1), pcs_joc wss h0 fun ws hws w hw => ((i2 ws hws).2 w hw).2]
    exact i3
theorem chsW_ok {l : List Chg} {ws : List (List Nat)} (hl : ∀ c ∈ l, ChgOk c) (h : chsW l = .ok ws) : (∀ w ∈ ws, Wd w) ∧ chsv ws = .ok l ∧ (jsp ws).length ≤ 1048576 := by
  unfold chsW at h
  split at h
  · cases h
  · rename_i wss hm
    split at h
    · cases h
    · rename_i hn
      cases h
      have := chsJ_ok hl hm
      exact ⟨this.1, this.2, by omega⟩
/-! Faults. -/
theorem fltW_ok : ∀ (l : List (Int × Int)) (ws : List (List Nat)), fltW l = .ok ws → (∀ w ∈ ws, Wd w) ∧ fltv ws = .ok l ∧ ws.length % 2 = 0
  | [], ws, h => by cases h; exact ⟨by simp, rfl, rfl⟩
  | (p, k) :: l, ws, h => by
    rw [fltW] at h
    split at h
    · rename_i hk
      split at h
      · cases h
      · rename_i n hn
        split at h
        · cases h
        · rename_i r hr
          cases h
          obtain ⟨w, rfl, hw, h1, h2⟩ := nTx_ok hn
          obtain ⟨i1, i2, i3⟩ := fltW_ok l r hr
          have hk' : fKd (fNm.getD k.toNat []) = k.toNat ∧ Wd (fNm.getD k.toNat []) ∧ k.toNat ≠ 0 := by
            rcases (show k = 1 ∨ k = 2 by omega) with rfl | rfl <;> exact ⟨by decide, ⟨by decide, by decide⟩, by decide⟩
          refine ⟨fun x hx => ?_, ?_, ?_⟩
          · rcases List.mem_cons.1 hx with rfl | hx
            · exact hk'.2.1
            · rcases List.mem_cons.1 hx with rfl | hx
              · exact hw.1
              · exact i1 x hx
          · show fltv (_ :: w :: r) = _
            rw [fltv, hk'.1, if_neg hk'.2.2, h1, i2, show ((k.toNat : Nat) : Int) = k from by omega]
            show Except.ok (((p.toNat : Int), k) :: l) = _
            rw [h2]
          · show (_ :: w :: r).length % 2 = 0
            simp; omega
    · cases h
end Go.Proofs.YtkeogggeefnoeaaGreatDoor
namespace Go.Proofs.YtkeogggeefnoeaaGreatDoor
set_option linter.unusedSimpArgs false
set_option maxRecDepth 100000
set_option linter.unusedVariables false

/-! Steps. -/
def sPut (o0 : Opp) (f : Nat) (o : Opp) : Opp :=
  if f = 72 then { o0 with d := o.d } else if f = 83 then { o0 with sec := o.sec, nano := o.nano } else if f = 66 then { o0 with kp := o.kp } else if f = 70 then { o0 with fl := o.fl } else if f = 67 then { o0 with ch := o.ch } else sNum o0 f (sGet o f)
theorem sTx_one {o : Opp} {f : Nat} {ws : List (List Nat)} (ho : OppOk o) (h70 : f ≠ 70) (h67 : f ≠ 67) (h : sTx o f = .ok ws) : ∃ w, ws = [w] ∧ Wd w ∧ ∀ o0 l, sFil o0 f (w :: l) = .ok (sPut o0 f o) := by
  unfold sTx at h
  unfold sFil sPut
  by_cases h1 : f = 72
  · rw [if_pos h1] at h
    cases h
    refine ⟨_, rfl, hxt_wd _ ho.1, fun o0 l => ?_⟩
    rw [if_pos h1, if_pos h1, List.getD_cons_zero, hexv_hxt _ ho.1]
  rw [if_neg h1] at h
  by_cases h2 : f = 83
  · rw [if_pos h2] at h
    split at h
    · rename_i hv
      cases h
      refine ⟨_, rfl, (pr_wc hv).1, fun o0 l => ?_⟩
      have := st_back _ _ hv ho.2.1
      rw [if_neg h1, if_neg h1, if_pos h2, if_pos h2, List.getD_cons_zero, if_pos this.2.2, this.1, this.2.1]
    · cases h
  rw [if_neg h2] at h
  by_cases h3 : f = 66
  · rw [if_pos h3] at h
    cases h
    refine ⟨_, rfl, bitt_wd _, fun o0 l => ?_⟩
    rw [if_neg h1, if_neg h1, if_neg h2, if_neg h2, if_pos h3, if_pos h3, List.getD_cons_zero, bitv_bitt]
  rw [if_neg h3, if_neg h70, if_neg h67] at h
  obtain ⟨w, rfl, hw, hn, he⟩ := nTx_ok h
  refine ⟨w, rfl, hw.1, fun o0 l => ?_⟩
  rw [if_neg h1, if_neg h1, if_neg h2, if_neg h2, if_neg h3, if_neg h3, if_neg h70, if_neg h70, if_neg h67, if_neg h67, List.getD_cons_zero, hn]
  show Except.ok (sNum o0 f ((sGet o f).toNat : Int)) = _
  rw [he]
theorem sTx_last {o : Opp} {f : Nat} {ws : List (List Nat)} (ho : OppOk o) (hf : f = 70 ∨ f = 67) (h : sTx o f = .ok ws) : (∀ w ∈ ws, Wd w) ∧ (f = 70 → ws.length % 2 = 0) ∧ ∀ o0, sFil o0 f ws = .ok (sPut o0 f o) := by
  rcases hf with rfl | rfl
  · have h : fltW o.fl = .ok ws := h
    obtain ⟨h1, h2, h3⟩ := fltW_ok _ _ h
    refine ⟨h1, fun _ => h3, fun o0 => ?_⟩
    show (match fltv ws with | .error e => .error e | .ok l => .ok { o0 with fl := l } : R Opp) = _
    rw [h2]
    rfl
  · have h : chsW o.ch = .ok ws := h
    obtain ⟨h1, h2, h3⟩ := chsW_ok ho.2.2 h
    refine ⟨h1, fun e => by simp at e, fun o0 => ?_⟩
    show (match chsv ws with | .error e => .error e | .ok l => .ok { o0 with ch := l } : R Opp) = _
    rw [h2]
    rfl
/-- Letters of which the last one alone may be one of many words. -/
def Lts : List Nat → Prop
  | [] => True
  | [_] => True
  | f :: g :: fs => (f ≠ 70 ∧ f ≠ 67) ∧ Lts (g :: fs)
def Fit (fs : List Nat) (n : Nat) : Prop := match fs with
  | [] => n = 0
  | [f] => if f = 67 then True else if f = 70 then n % 2 = 0 else n = 1
  | _ :: g :: fs => 1 ≤ n ∧ Fit (g :: fs) (n - 1)
theorem catR_one {α : Type} {f : α → R (List (List Nat))} {x : α} {l : List α} {ws : List (List Nat)} (h : catR f (x :: l) = .ok ws) : ∃ y r, f x = .ok y ∧ catR f l = .ok r ∧ ws = y ++ r := by
  rw [catR] at h
  split at h
  · cases h
  · rename_i y hy
    split at h
    · cases h
    · rename_i r hr
      cases h
      exact ⟨y, r, hy, hr, rfl⟩
theorem catS_ok {o : Opp} (ho : OppOk o) : ∀ (fs : List Nat) (ws : List (List Nat)), Lts fs → catR (sTx o) fs = .ok ws → Fit fs ws.length ∧ (∀ w ∈ ws, Wd w) ∧ ∀ o0, sRun o0 fs ws = .ok (fs.foldl (fun o0 f => sPut o0 f o) o0)
  | [], ws, _, h => by
    cases h
    exact ⟨rfl, by simp, fun o0 => rfl⟩
  | [f], ws, _, h => by
    obtain ⟨y, r, hy, hr, rfl⟩ := catR_one h
    cases hr
    rw [List.append_nil]
    by_cases hf : f = 70 ∨ f = 67
    · obtain ⟨i1, i2, i3⟩ := sTx_last ho hf hy
      refine ⟨?_, i1, fun o0 => ?_⟩
      · unfold Fit
        split
        · trivial
        · split
          · rename_i h0; exact i2 h0
          · omega
      · rw [sRun, i3]
        rfl
    · have hf : f ≠ 70 ∧ f ≠ 67 := by omega
      obtain ⟨w, rfl, hw, i3⟩ := sTx_one ho hf.1 hf.2 hy
      refine ⟨?_, by simpa using hw, fun o0 => ?_⟩
      · unfold Fit
        rw [if_neg hf.2, if_neg hf.1]
        rfl
      · rw [sRun, i3]
        rfl
  | f :: g :: fs, ws, hl, h => by
    obtain ⟨y, r, hy, hr, rfl⟩ := catR_one h
    obtain ⟨w, rfl, hw, i3⟩ := sTx_one ho hl.1.1 hl.1.2 hy
    obtain ⟨j1, j2, j3⟩ := catS_ok ho (g :: fs) r hl.2 hr
    refine ⟨⟨by simp, by simpa using j1⟩, fun x hx => ?_, fun o0 => ?_⟩
    · rcases List.mem_cons.1 hx with rfl | hx
      · exact hw
      · exact j2 x hx
    · show sRun o0 (f :: g :: fs) (w :: r) = _
      rw [sRun, i3]
      exact j3 _
theorem kd14 {k : Int} (h : 1 ≤ k ∧ k ≤ 14) : k = 1 ∨ k = 2 ∨ k = 3 ∨ k = 4 ∨ k = 5 ∨ k = 6 ∨ k = 7 ∨ k = 8 ∨ k = 9 ∨ k = 10 ∨ k = 11 ∨ k = 12 ∨ k = 13 ∨ k = 14 := by omega
theorem sPut_all {o : Opp} (hk : 1 ≤ o.kd ∧ o.kd ≤ 14) (hs : sSpr o (sFm o.kd.toNat) = false) : (sFm o.kd.toNat).foldl (fun o0 f => sPut o0 f o) (opp0 o.kd) = o := by
  obtain ⟨kd, a, k, t, x, lk, d, sec, nano, bl, wi, ch, fl, kp⟩ := o
  simp only at hk hs ⊢
  rcases kd14 hk with rfl | rfl | rfl | rfl | rfl | rfl | rfl | rfl | rfl | rfl | rfl | rfl | rfl | rfl <;>
    · simp [sFm, sNm, sSpr, sAll, sHas, sGet] at hs
      simp [sFm, sNm, sPut, sNum, sGet, opp0, hs]
theorem sKd_nm {k : Int} (h : 1 ≤ k ∧ k ≤ 14) : sKd (sNm.getD k.toNat ([], [])).1 = k.toNat ∧ Wd (sNm.getD k.toNat ([], [])).1 ∧ Lts (sFm k.toNat) := by
  rcases kd14 h with rfl | rfl | rfl | rfl | rfl | rfl | rfl | rfl | rfl | rfl | rfl | rfl | rfl | rfl <;> exact ⟨by decide, ⟨by decide, by decide⟩, by simp [Lts, sFm, sNm]⟩
theorem sFit_of {k : Int} (h : 1 ≤ k ∧ k ≤ 14) {n : Nat} (hn : Fit (sFm k.toNat) n) : sFit (sFm k.toNat) n = true := by
  rcases kd14 h with rfl | rfl | rfl | rfl | rfl | rfl | rfl | rfl | rfl | rfl | rfl | rfl | rfl | rfl <;>
    · simp [Fit, sFm, sNm] at hn
      simp [sFit, sFm, sNm]
      try omega
/-- A step that was written is read. -/
theorem stpW_ok {o : Opp} {ws : List (List Nat)} (ho : OppOk o) (h : stpW o = .ok ws) : (ws ≠ [] ∧ ∀ w ∈ ws, Wd w) ∧ stpv ws = .ok o := by
  unfold stpW at h
  split at h
  · rename_i hk
    split at h
    · cases h
    · rename_i hs
      split at h
      · cases h
      · rename_i r hr
        cases h
        have hn := sKd_nm hk
        obtain ⟨i1, i2, i3⟩ := catS_ok ho _ _ hn.2.2 hr
        refine ⟨⟨by simp, fun x hx => ?_⟩, ?_⟩
        · rcases List.mem_cons.1 hx with rfl | hx
          · exact hn.2.1
          · exact i2 x hx
        · rw [stpv, hn.1, if_neg (by omega), if_pos (sFit_of hk i1), i3, show ((o.kd.toNat : Nat) : Int) = o.kd from by omega, sPut_all hk (by simpa using hs)]
  · cases h
/-! Lines. -/
theorem cutL_line : ∀ (l cur m : List Nat), 10 ∉ l → cutL cur (l ++ 10 :: m) = (cur ++ l) :: cutL [] m
  | [], cur, m, _ => by show cutL cur (10 :: m) = _; rw [cutL, if_pos rfl, List.append_nil]
  | x :: l, cur, m, h => by
    show cutL cur (x :: (l ++ 10 :: m)) = _
    rw [cutL, if_neg (fun e => h (by rw [e]; simp)), cutL_line l _ m fun e => h (List.mem_cons_of_mem _ e)]
    simp
theorem jsp_ten {ws : List (List Nat)} (h : ∀ w ∈ ws, Wd w) : 10 ∉ jsp ws := fun e => by
  rcases jsp_no h 10 e with h | h
  · omega
  · have := of_decide_eq_true (show decide _ = true from h.1)
    omega
theorem cutL_lnT : ∀ (ls : List (List (List Nat))), (∀ ws ∈ ls, ∀ w ∈ ws, Wd w) → cutL [] (lnT ls) = ls.map jsp ++ [[]]
  | [], _ => rfl
  | ws :: ls, h => by
    show cutL [] ((jsp ws ++ [10]) ++ lnT ls) = _
    rw [List.append_assoc]
    show cutL [] (jsp ws ++ 10 :: lnT ls) = _
    rw [cutL_line _ _ _ (jsp_ten (h ws List.mem_cons_self)), cutL_lnT ls fun x hx => h x (List.mem_cons_of_mem _ hx)]
    rfl
theorem linv_nil (s : Option Scr) : linv s [] = .ok s := rfl
theorem linv_step {s : Scr} {ws : List (List Nat)} {o : Opp} (hw : ws ≠ [] ∧ ∀ w ∈ ws, Wd w) (hs : stpv ws = .ok o) (hn : s.ops.length < 2000) : linv (some s) (jsp ws) = .ok (some { s with ops := s.ops ++ [o] }) := by
  have := wds_jsp ws hw.2
  unfold linv
  rw [if_pos this.1, this.2, if_neg hw.1]
  simp only
  rw [if_neg (by omega), hs]
theorem lnsv_steps : ∀ (ls : List (List (List Nat))) (os : List Opp) (s : Scr) (i : Nat), (∀ ws ∈ ls, ws ≠ [] ∧ ∀ w ∈ ws, Wd w) → mapR stpv ls = .ok os → s.ops.length + os.length ≤ 2000 → lnsv (some s) i (ls.map jsp ++ [[]]) = (⟨s.sec, s.ops ++ os⟩, 0, 0)
  | [], os, s, i, _, h, _ => by
    cases h
    show lnsv (some s) i [[]] = _
    rw [lnsv, linv_nil]
    simp only
    rw [lnsv]
    simp
  | ws :: ls, os, s, i, hw, h, hn => by
    rw [mapR] at h
    split at h
    · cases h
    · rename_i o ho
      split at h
      · cases h
      · rename_i r hr
        cases h
        simp only [List.length_cons] at hn
        show lnsv (some s) i (jsp ws :: (ls.map jsp ++ [[]])) = _
        rw [lnsv, linv_step (hw ws List.mem_cons_self) ho (by omega)]
        simp only
        rw [lnsv_steps ls r _ (i + 1) (fun x hx => hw x (List.mem_cons_of_mem _ hx)) hr (by simp; omega)]
        simp
theorem linv_first {n : Int} {ws : List (List Nat)} (h : nTx n = .ok ws) : (∀ w ∈ cul :: ws, Wd w) ∧ linv none (jsp (cul :: ws)) = .ok (some ⟨n, []⟩) := by
  obtain ⟨w, rfl, hw, hn, he⟩ := nTx_ok h
  have hc : ∀ x ∈ [cul, w], Wd x := by
    intro x hx
    simp at hx
    rcases hx with rfl | rfl
    · exact ⟨by decide, by decide⟩
    · exact hw.1
  refine ⟨hc, ?_⟩
  have := wds_jsp _ hc
  unfold linv
  rw [if_pos this.1, this.2, if_neg (by simp)]
  simp only
  have : fstv [cul, w] = .ok n := by
    unfold fstv
    rw [if_neg (by simp), if_neg (by simp)]
    show (match numv w with | none => .error 223 | some n => .ok (n : Int) : R Int) = _
    rw [hn]
    show Except.ok ((n.toNat : Nat) : Int) = _
    rw [he]
  rw [this]
/-- P22.6: what Print writes Parse reads. -/
theorem scr_round {s : Scr} {T : List Nat} (hs : ScrOk s) (h : scrW s = .ok T) : scrv T = (s, 0, 0) ∧ T.length ≤ 1048576 := by
  unfold scrW at h
  split at h
  · cases h
  · rename_i n hn
    split at h
    · cases h
    · rename_i hm
      split at h
      · cases h
      · rename_i ls hl
        split at h
        · cases h
        · rename_i ht
          cases h
          refine ⟨?_, by omega⟩
          obtain ⟨f1, f2⟩ := linv_first hn
          obtain ⟨i1, i2, i3⟩ := mapR_ok (f := stpW) (g := stpv) (P := OppOk) (Q := fun ws => ws ≠ [] ∧ ∀ w ∈ ws, Wd w) (fun x y hx hy => stpW_ok hx hy) _ _ hs hl
          unfold scrv
          rw [if_neg ht, cutL_lnT _ fun ws hws => by
            rcases List.mem_cons.1 hws with rfl | hws
            · exact f1
            · exact (i2 ws hws).2]
          show lnsv none 1 (jsp (cul :: n) :: (ls.map jsp ++ [[]])) = _
          rw [lnsv, f2]
          simp only
          rw [lnsv_steps ls s.ops ⟨s.sec, []⟩ 2 i2 i3 (by simp; omega)]
          simp
/-- A list of changes likewise. -/
theorem pch_round {l : List Chg} {T : List Nat} (hl : ∀ c ∈ l, ChgOk c) (h : pchW l = .ok T) : pchv T = .ok l := by
  unfold pchW at h
  split at h
  · cases h
  · rename_i ws hw
    cases h
    obtain ⟨h1, h2, h3⟩ := chsW_ok hl hw
    have := wds_jsp _ h1
    unfold pchv
    rw [if_neg (by omega), if_neg (jsp_ten h1), if_pos this.1, this.2, h2]
end Go.Proofs.YtkeogggeefnoeaaGreatDoor
