import Derived.Test.YtejokaehdfcjlaaGreatDoorSMath
import Derived.Test.YtejokaehdfcjlaaGreatDoorTold
namespace Go.Proofs.YtejokaehdfcjlaaGreatDoor
set_option maxRecDepth 100000
set_option linter.unusedVariables false

/-- The bytes of a text, and the text of bytes. -/
def tb (S : ByteArray) : List Int := S.data.toList.map fun x => (x.toNat : Int)
def bt (l : List Int) : ByteArray := ⟨(l.map fun z => UInt8.ofNat z.toNat).toArray⟩
theorem tb_length (S : ByteArray) : (tb S).length = S.size := by show _ = S.data.size; simp [tb]
theorem tb_byte (S : ByteArray) : ∀ z ∈ tb S, 0 ≤ z ∧ z ≤ 255 := by
  intro z hz
  obtain ⟨x, _, rfl⟩ := List.mem_map.1 hz
  have : x.toNat < 256 := x.toNat_lt
  omega
theorem bt_tb (S : ByteArray) : bt (tb S) = S := by
  apply ByteArray.ext
  apply Array.ext'
  simp [bt, tb]
  rw [show ((fun z : Int => UInt8.ofNat z.toNat) ∘ fun x : UInt8 => (x.toNat : Int)) = id from by funext x; simp]
  simp
theorem tb_bt (l : List Int) (h : ∀ z ∈ l, 0 ≤ z ∧ z ≤ 255) : tb (bt l) = l := by
  simp only [tb, bt, List.map_map]
  conv => rhs; rw [← List.map_id l]
  apply List.map_congr_left
  intro z hz
  have := h z hz
  simp
  omega

/-- A sector. -/
structure Sec where
  T : ByteArray
  e : Int
  q : Int
  p : Int
  l : List Int

def t1 : ByteArray := ⟨#[67, 86, 83, 49]⟩
def t2 : ByteArray := ⟨#[67, 86, 68, 49]⟩
def t3 : ByteArray := ⟨#[67, 86, 67, 49]⟩
def t4 : ByteArray := ⟨#[67, 86, 79, 49]⟩
/-- One of the four tags. -/
def isT (T : ByteArray) : Prop := T = t1 ∨ T = t2 ∨ T = t3 ∨ T = t4
instance (T : ByteArray) : Decidable (isT T) := by unfold isT; infer_instance
theorem isT_size {T : ByteArray} (h : isT T) : T.size = 4 := by rcases h with rfl | rfl | rfl | rfl <;> rfl
/-- May there be such a sector? -/
def May (s : Sec) : Prop := isT s.T ∧ (1 ≤ s.e ∧ s.e ≤ 4611686018427387904) ∧ (1 ≤ s.q ∧ s.q ≤ 4611686018427387904) ∧ (0 ≤ s.p ∧ s.p ≤ 8191) ∧ s.l.length ≤ 480
instance (s : Sec) : Decidable (May s) := by unfold May; infer_instance
def By (l : List Int) : Prop := ∀ z ∈ l, 0 ≤ z ∧ z ≤ 255
theorem By.app {a b : List Int} (h : By a) (k : By b) : By (a ++ b) := fun z hz => by rcases List.mem_append.1 hz with h1 | h1; exact h z h1; exact k z h1
theorem By.zeros (n : Nat) : By (List.replicate n 0) := fun z hz => by rw [List.eq_of_mem_replicate hz]; omega
theorem By.take {a : List Int} (h : By a) (n : Nat) : By (a.take n) := fun z hz => h z (List.mem_of_mem_take hz)
theorem By.drop {a : List Int} (h : By a) (n : Nat) : By (a.drop n) := fun z hz => h z (List.mem_of_mem_drop hz)
/-- The bytes ahead of the sum. -/
def hd (s : Sec) : List Int := tb s.T ++ (be 8 s.e ++ (be 8 s.q ++ (be 4 s.p ++ (be 2 s.l.length ++ ([0, 0] ++ (s.l ++ List.replicate (480 - s.l.length) 0))))))
/-- All of them. -/
def ps (s : Sec) : List Int := hd s ++ be 4 (updc 0 (hd s))
theorem hd_by {s : Sec} (h : By s.l) : By (hd s) :=
  By.app (tb_byte _) (By.app (be_byte _ _) (By.app (be_byte _ _) (By.app (be_byte _ _) (By.app (be_byte _ _) (By.app (By.zeros 2) (By.app h (By.zeros _)))))))
theorem ps_by {s : Sec} (h : By s.l) : By (ps s) := By.app (hd_by h) (be_byte _ _)
theorem hd_length {s : Sec} (h : May s) : (hd s).length = 508 := by
  have h1 := isT_size h.1
  have h2 := h.2.2.2.2
  simp only [hd, List.length_append, tb_length, be_length, List.length_replicate, List.length_cons, List.length_nil]
  omega
theorem ps_length {s : Sec} (h : May s) : (ps s).length = 512 := by
  rw [ps, List.length_append, hd_length h, be_length]
theorem sum_lt {s : Sec} (h : By s.l) : updc 0 (hd s) < 4294967296 := updc_lt (by omega) (hd_by h)

/-- The stretch of a list from i on, n of it. -/
def sl (b : List Int) (i n : Nat) : List Int := (b.drop i).take n
theorem sl_by {b : List Int} (h : By b) (i n : Nat) : By (sl b i n) := (h.drop i).take n
theorem sl_length {b : List Int} {i n : Nat} (h : i + n ≤ b.length) : (sl b i n).length = n := by simp [sl]; omega
theorem sl_mid {A B C : List Int} {i n : Nat} (hi : A.length = i) (hn : B.length = n) : sl (A ++ (B ++ C)) i n = B := by
  subst hi hn
  simp [sl]
/-- What the fields tell. -/
def us (b : List Int) : Nat := (val (sl b 24 2)).toNat
def rs (b : List Int) : Sec := ⟨bt (sl b 0 4), val (sl b 4 8), val (sl b 12 8), val (sl b 20 4), sl b 28 (us b)⟩
def gs (b : List Int) : Option Sec := if b.length = 512 ∧ May (rs b) ∧ ps (rs b) = b then some (rs b) else none

theorem val_bd {b : List Int} (h : By b) {i n : Nat} (hl : i + n ≤ b.length) : 0 ≤ val (sl b i n) ∧ val (sl b i n) < 256 ^ n := by
  have := val_bound (sl b i n) (sl_by h i n)
  rwa [sl_length hl] at this

theorem rs_ps {s : Sec} (h : May s) (hb : By s.l) : rs (ps s) = s := by
  obtain ⟨h1, ⟨e0, e1⟩, ⟨q0, q1⟩, ⟨p0, p1⟩, h5⟩ := h
  have hT : (tb s.T).length = 4 := by rw [tb_length]; exact isT_size h1
  have E : ps s = tb s.T ++ (be 8 s.e ++ (be 8 s.q ++ (be 4 s.p ++ (be 2 s.l.length ++ ([0, 0] ++ (s.l ++ (List.replicate (480 - s.l.length) 0 ++ be 4 (updc 0 (hd s))))))))) := by
    simp only [ps, hd, List.append_assoc]
  have L := fun j x => be_length j x
  have a0 : sl (ps s) 0 4 = tb s.T := by rw [E]; exact sl_mid (A := []) rfl hT
  have a1 : sl (ps s) 4 8 = be 8 s.e := by rw [E]; exact sl_mid hT (L _ _)
  have a2 : sl (ps s) 12 8 = be 8 s.q := by
    rw [E, ← List.append_assoc]; exact sl_mid (by rw [List.length_append, hT, L]) (L _ _)
  have a3 : sl (ps s) 20 4 = be 4 s.p := by
    rw [E, ← List.append_assoc, ← List.append_assoc]; exact sl_mid (by simp only [List.length_append, hT, L]) (L _ _)
  have a4 : sl (ps s) 24 2 = be 2 s.l.length := by
    rw [E, ← List.append_assoc, ← List.append_assoc, ← List.append_assoc]; exact sl_mid (by simp only [List.length_append, hT, L]) (L _ _)
  have a5 : sl (ps s) 28 s.l.length = s.l := by
    rw [E, ← List.append_assoc, ← List.append_assoc, ← List.append_assoc, ← List.append_assoc, ← List.append_assoc]
    exact sl_mid (by simp only [List.length_append, hT, L, List.length_cons, List.length_nil]) rfl
  have u : us (ps s) = s.l.length := by
    unfold us; rw [a4, val_be, Int.emod_eq_of_lt (by omega) (by omega)]; omega
  unfold rs
  rw [a0, a1, a2, a3, u, a5, bt_tb, val_be, val_be, val_be, Int.emod_eq_of_lt (by omega) (by omega), Int.emod_eq_of_lt (by omega) (by omega), Int.emod_eq_of_lt (by omega) (by omega)]
theorem gs_ps {s : Sec} (h : May s) (hb : By s.l) : gs (ps s) = some s := by
  unfold gs
  rw [if_pos ⟨ps_length h, by rw [rs_ps h hb]; exact h, by rw [rs_ps h hb]⟩, rs_ps h hb]
theorem gs_some {b : List Int} {s : Sec} (h : gs b = some s) : b.length = 512 ∧ May s ∧ ps s = b ∧ s = rs b := by
  unfold gs at h
  split at h
  · rename_i k
    obtain rfl := Option.some.inj h
    exact ⟨k.1, k.2.1, k.2.2, rfl⟩
  · cases h
theorem ps_inj {s t : Sec} (hs : May s) (ht : May t) (bs : By s.l) (bt : By t.l) (h : ps s = ps t) : s = t := by
  rw [← rs_ps hs bs, h, rs_ps ht bt]

/-- What a sum tells of a sector. -/
theorem be4_inj {a b : Nat} (ha : a < 4294967296) (hb : b < 4294967296) (h : be 4 (a : Int) = be 4 (b : Int)) : a = b := by
  have e := congrArg val h
  rw [val_be, val_be, Int.emod_eq_of_lt (by omega) (by omega), Int.emod_eq_of_lt (by omega) (by omega)] at e
  omega
theorem ps_parts {s t : Sec} (hs : May s) (ht : May t) {H : List Int} {S : List Int} (hH : H.length = 508) (e : ps t = H ++ S) : hd t = H ∧ be 4 (updc 0 (hd t)) = S :=
  List.append_inj e (by rw [hd_length ht, hH])
theorem turned_head {s : Sec} (hs : May s) (bs : By s.l) {i x : Nat} (hi : i < 508) (hx : 0 < x) (hx1 : x < 256) :
    gs ((ps s).set i ((((ps s).getD i 0).toNat ^^^ x : Nat) : Int)) = none := by
  cases hg : gs ((ps s).set i ((((ps s).getD i 0).toNat ^^^ x : Nat) : Int)) with
  | none => rfl
  | some t =>
    exfalso
    obtain ⟨_, ht, hp, _⟩ := gs_some hg
    have hl := hd_length hs
    have e1 : (ps s).getD i 0 = (hd s).getD i 0 := by
      simp only [ps, List.getD]; rw [List.getElem?_append_left (by omega)]
    rw [e1, show (ps s).set i ((((hd s).getD i 0).toNat ^^^ x : Nat) : Int) = (hd s).set i ((((hd s).getD i 0).toNat ^^^ x : Nat) : Int) ++ be 4 (updc 0 (hd s)) from by rw [ps, List.set_append_left _ _ (by omega)]] at hp
    obtain ⟨p1, p2⟩ := ps_parts hs ht (by simp [hl]) hp
    have hb : By (hd t) := by
      rw [p1]
      intro z hz
      rcases List.mem_or_eq_of_mem_set hz with h | rfl
      · exact hd_by bs z h
      · have := getD_byte (hd_by bs) i
        have h8 := Nat.xor_lt_two_pow (n := 8) (show ((hd s).getD i 0).toNat < 2 ^ 8 by omega) (show x < 2 ^ 8 by omega)
        omega
    have q := be4_inj (updc_lt (by omega) hb) (sum_lt bs) p2
    rw [p1] at q
    have h1 := upd_set (hd s) i x (0 ^^^ 4294967295) (hd_by bs) (by omega)
    unfold updc at q
    rw [h1] at q
    have e2 := congrArg (· ^^^ 4294967295) q
    simp only [Nat.xor_assoc, Nat.xor_self, Nat.xor_zero] at e2
    have e3 := congrArg (upd (0 ^^^ 4294967295) (hd s) ^^^ ·) e2
    simp only [xor_cancel, Nat.xor_self] at e3
    have := stps_nz _ (by omega) e3
    omega
theorem set_ne {b : List Int} {i : Nat} {v : Int} (hi : i < b.length) (h : b.getD i 0 ≠ v) : b.set i v ≠ b := by
  intro e
  have := congrArg (fun l => l.getD i 0) e
  simp [List.getD, hi] at this
  apply h
  simp [List.getD, hi, this]
theorem xor_ne {a x : Nat} (h : 0 < x) : a ^^^ x ≠ a := by
  intro e
  have := congrArg (a ^^^ ·) e
  simp only [xor_cancel, Nat.xor_self] at this
  omega
theorem turned_sum {s : Sec} (hs : May s) (bs : By s.l) {i : Nat} {v : Int} (hi : 508 ≤ i) (hi1 : i < 512) (hv : (ps s).getD i 0 ≠ v) :
    gs ((ps s).set i v) = none := by
  cases hg : gs ((ps s).set i v) with
  | none => rfl
  | some t =>
    exfalso
    obtain ⟨_, ht, hp, _⟩ := gs_some hg
    have hl := hd_length hs
    have e0 : (ps s).set i v = hd s ++ (be 4 (updc 0 (hd s))).set (i - 508) v := by rw [ps, List.set_append_right _ _ (by omega), hl]
    obtain ⟨p1, p2⟩ := ps_parts hs ht hl (hp.trans e0)
    have : ps t = ps s := by rw [ps, p1, ps]
    rw [this] at hp
    exact set_ne (by rw [ps_length hs]; exact hi1) hv hp.symm
/-- One byte turned. -/
theorem turned {s : Sec} (hs : May s) (bs : By s.l) {i x : Nat} (hi : i < 512) (hx : 0 < x) (hx1 : x < 256) :
    gs ((ps s).set i ((((ps s).getD i 0).toNat ^^^ x : Nat) : Int)) = none := by
  by_cases h : i < 508
  · exact turned_head hs bs h hx hx1
  · refine turned_sum hs bs (by omega) hi fun e => ?_
    have hb := getD_byte (ps_by bs) i
    have : ((ps s).getD i 0).toNat = ((ps s).getD i 0).toNat ^^^ x := by
      generalize (ps s).getD i 0 = y at *
      omega
    exact xor_ne hx this.symm
/-- Bits turned within 32 neighbouring ones ahead of the sum. -/
theorem burst {s : Sec} (hs : May s) (bs : By s.l) {m pat : Nat} (hm : m < 4064) :
    gs (bur (hd s) m pat 32 ++ be 4 (updc 0 (hd s))) = if trn 4064 m pat 32 then none else some s := by
  have hl := hd_length hs
  have ht := burst_told (hd s) m pat (hd_by bs) (by omega)
  rw [show 8 * (hd s).length = 4064 from by omega] at ht
  by_cases htr : trn 4064 m pat 32 = true
  · rw [if_pos htr]
    cases hg : gs (bur (hd s) m pat 32 ++ be 4 (updc 0 (hd s))) with
    | none => rfl
    | some t =>
      exfalso
      obtain ⟨_, hmt, hp, _⟩ := gs_some hg
      obtain ⟨p1, p2⟩ := ps_parts hs hmt (by rw [bur_length]; exact hl) hp
      have hb : By (hd t) := by rw [p1]; exact bur_byte (hd_by bs) m pat 32
      have q := be4_inj (updc_lt (by omega) hb) (sum_lt bs) p2
      rw [p1] at q
      exact ht.2 htr q.symm
  · rw [if_neg htr]
    have hi : inn 4064 m pat 32 = 0 := by
      have := (trn_inn 4064 m pat 32)
      by_cases h0 : inn 4064 m pat 32 = 0
      · exact h0
      · exact absurd (this.2 h0) htr
    have hz : ∀ i, i ≤ 32 → trn 4064 m pat i = false := by
      intro i hi
      cases hti : trn 4064 m pat i with
      | false => rfl
      | true =>
        exfalso
        apply htr
        have up : ∀ k j, trn 4064 m pat j = true → trn 4064 m pat (j + k) = true := by
          intro k
          induction k with
          | zero => intro j h; exact h
          | succ k ih => intro j h; rw [← Nat.add_assoc, trn]; split; rfl; exact ih j h
        have := up (32 - i) i hti
        rwa [show i + (32 - i) = 32 from by omega] at this
    have hbz : ∀ i, i ≤ 32 → bur (hd s) m pat i = hd s := by
      intro i
      induction i with
      | zero => intro _; rfl
      | succ i ih =>
        intro h
        have := hz (i + 1) h
        rw [trn] at this
        rw [bur]
        by_cases c : pat / 2 ^ i % 2 = 1 ∧ m + i < 4064
        · rw [if_pos c] at this; cases this
        · rw [if_neg (by rw [show 8 * (hd s).length = 4064 from by omega]; exact c)]; exact ih (by omega)
    rw [hbz 32 (Nat.le_refl _)]
    exact gs_ps hs bs
end Go.Proofs.YtejokaehdfcjlaaGreatDoor
