import Derived.Test.YteeapmcpbmjpmaaGreatTA
namespace Go.Proofs.YteeapmcpbmjpmaaGreat
set_option maxRecDepth 100000
open Go.RowKit Go.Maps
set_option linter.unusedVariables false

/-! Rows in a map. -/
def RV (v : Value) : Option (DataW Value × List MemPlace) := match v with
  | .slice a n c => some (.held (.slice a n c), [])
  | _ => none
theorem RV_mk (a : Option Addr) (n c : Nat) : RV (.slice a n c) = some (.held (.slice a n c), []) := rfl
theorem RV_inv {v : Value} {y : DataW Value × List MemPlace} (h : RV v = some y) : ∃ a n c, v = .slice a n c ∧ y = (.held (.slice a n c), []) := by
  unfold RV at h
  split at h
  · exact ⟨_, _, _, rfl, (Option.some.inj h).symm⟩
  · cases h
theorem law9 : Keyed Tryz.prog 9 := string_keyed Tryz.underlying9
def litK (k : List Int) : Lit := .string (Lib.bytesOf k)
theorem litK_inj {k k' : List Int} (h : Okb k) (h' : Okb k') (e : litK k = litK k') : k = k' := by
  have e1 : Lib.bytesOf k = Lib.bytesOf k' := by injection e
  refine (str_eq h h').1 ?_
  apply ByteArray.ext
  show (Lib.bytesOf k).toArray = (Lib.bytesOf k').toArray
  rw [e1]
theorem key_str {k : List Int} (hn : k.length ≤ maxLen) : keyOf Tryz.prog 9 (.string (strOfNums k)) = some (litK k) := by
  have := WideMaps.keyOf_string_mk (P := Tryz.prog) (k := 9) Tryz.underlying9 (s := strOfNums k) (by rw [strOfNums_size]; exact hn)
  rw [this]
  rfl
/-- The bytes of a key that a map holds. -/
def ofU (l : List UInt8) : List Int := l.map fun b => (b.toNat : Int)
theorem ofU_okb (l : List UInt8) : Okb (ofU l) := by
  intro z hz
  obtain ⟨b, _, rfl⟩ := List.mem_map.1 hz
  have := b.toNat_lt
  omega
theorem bytesOf_ofU (l : List UInt8) : Lib.bytesOf (ofU l) = l := by
  unfold Lib.bytesOf ofU
  rw [List.map_map]
  conv => rhs; rw [← List.map_id l]
  refine List.map_congr_left fun b _ => ?_
  simp
theorem str_ofU (l : List UInt8) : strOfNums (ofU l) = ⟨l.toArray⟩ := by
  apply ByteArray.ext
  show (Lib.bytesOf (ofU l)).toArray = _
  rw [bytesOf_ofU]
/-- A value in memory that nobody writes. -/
structure Vs (w : World) (V : Nat → Prop) (a : Option Addr) (n c : Nat) (v : List Int) : Prop where
  bs : Bs w a n v
  nc : n ≤ c
  cm : c ≤ maxLen
  nil : a = none → c = 0
  lies : ∀ ad, a = some ad → 0 < n → V ad.block
theorem Bs.at_block {w : World} {a : Option Addr} {n : Nat} {v : List Int} (h : Bs w a n v) {ad : Addr} (e : a = some ad) (hn : 0 < n) : ad.block < w.heap.size ∧ ∀ es cl, w.heap[ad.block]? ≠ some (.map es cl) := by
  rcases h.2.2 with h0 | ⟨b, off, rfl, hc⟩
  · omega
  · obtain rfl := Option.some.inj e
    refine ⟨World.block_lt_of_cell? w _ (hc 0 hn), fun es cl he => ?_⟩
    have := hc 0 hn
    simp [World.cell?, he] at this
theorem Bs.same_block {w w' : World} {a : Option Addr} {n : Nat} {v : List Int} (h : Bs w a n v) (hk : ∀ ad, a = some ad → 0 < n → w'.heap[ad.block]? = w.heap[ad.block]?) : Bs w' a n v := by
  refine ⟨h.1, h.2.1, ?_⟩
  rcases h.2.2 with h0 | ⟨b, off, rfl, hc⟩
  · exact .inl h0
  · by_cases h0 : n = 0
    · exact .inl h0
    · refine .inr ⟨b, off, rfl, fun i hi => ?_⟩
      rw [← hc i hi]
      exact World.cell?_of_block (w := w) (a := ⟨b, off + i, none⟩) (hk ⟨b, off, none⟩ rfl (by omega))
theorem Vs.step {w w' : World} {V : Nat → Prop} {a : Option Addr} {n c : Nat} {v : List Int} (h : Vs w V a n c v) (hk : ∀ x, x < w.heap.size → V x → (∀ es cl, w.heap[x]? ≠ some (.map es cl)) → w'.heap[x]? = w.heap[x]?) : Vs w' V a n c v :=
  ⟨h.bs.same_block fun ad e hn => hk _ (h.bs.at_block e hn).1 (h.lies ad e hn) (h.bs.at_block e hn).2, h.nc, h.cm, h.nil, h.lies⟩
theorem Vs.wide {w : World} {V V' : Nat → Prop} {a : Option Addr} {n c : Nat} {v : List Int} (h : Vs w V a n c v) (hV : ∀ x, x < w.heap.size → V x → V' x) : Vs w V' a n c v :=
  ⟨h.bs, h.nc, h.cm, h.nil, fun ad e hn => hV _ (h.bs.at_block e hn).1 (h.lies ad e hn)⟩
theorem Vs.ofOwn {w : World} {B n : Nat} {v : Value} {zs : List Int} (h : w.ownsRow B 5 1 v n (cells zs)) (hb : Okb zs) : ∃ a c, v = .slice a n c ∧ Vs w (fun x => B ≤ x) a n c zs := by
  obtain ⟨a, cap, rfl, h1, h2, h3, h4⟩ := own_form h hb
  refine ⟨a, cap, rfl, h1, h2, h3, h4, fun ad e hn => ?_⟩
  obtain ⟨g, cap', e', _, _, hg, _⟩ := own_head h hn
  obtain ⟨rfl, _⟩ : a = some ⟨g, 0, none⟩ ∧ cap = cap' := by simpa using e'
  obtain rfl := Option.some.inj e
  exact hg
/-- What a map holds. -/
structure Dm (w : World) (V : Nat → Prop) (D : DataW Value) (M : Tab) : Prop where
  size : Maps.size D = M.length
  has : ∀ k, Okb k → Maps.has D (litK k) = (look M k).isSome
  val : ∀ k v, look M k = some v → ∃ a n c, (∀ z, D.atKey (litK k) z = .held (.slice a n c)) ∧ Vs w V a n c v
def Mp (w : World) (b : Nat) (V : Nat → Prop) (M : Tab) : Prop := ∃ D : DataW Value, w.ownsMap Tryz.prog 9 RV b (Maps.size D) D ∧ Dm w V D M
theorem tight {w : World} {b n : Nat} {D : DataW Value} (h : w.ownsMap Tryz.prog 9 RV b n D) : w.ownsMap Tryz.prog 9 RV b (Maps.size D) D := by
  obtain ⟨es, clock, hb, F, hs, hD⟩ := h
  refine ⟨es, clock, hb, F, ?_, hD⟩
  rw [hD]
  simp [Maps.size, length_sorted]
theorem Mp.isMap {w : World} {b : Nat} {V : Nat → Prop} {M : Tab} (h : Mp w b V M) : ∃ es cl, w.heap[b]? = some (.map es cl) := by
  obtain ⟨D, ⟨es, cl, hb, _⟩, _⟩ := h
  exact ⟨es, cl, hb⟩
theorem Mp.lt {w : World} {b : Nat} {V : Nat → Prop} {M : Tab} (h : Mp w b V M) : b < w.heap.size := by
  obtain ⟨es, cl, hb⟩ := h.isMap
  exact (Array.getElem?_eq_some_iff.1 hb).1
theorem own_same {w w' : World} {b n : Nat} {D : DataW Value} (h : w.ownsMap Tryz.prog 9 RV b n D) (hk : w'.heap[b]? = w.heap[b]?) : w'.ownsMap Tryz.prog 9 RV b n D := by
  obtain ⟨es, clock, hb, F, hs, hD⟩ := h
  exact ⟨es, clock, hk.trans hb, F, hs, hD⟩
theorem Dm.step {w w' : World} {V : Nat → Prop} {D : DataW Value} {M : Tab} (h : Dm w V D M) (hk : ∀ x, x < w.heap.size → V x → (∀ es cl, w.heap[x]? ≠ some (.map es cl)) → w'.heap[x]? = w.heap[x]?) : Dm w' V D M :=
  ⟨h.size, h.has, fun k v e => by
    obtain ⟨a, n, c, h1, h2⟩ := h.val k v e
    exact ⟨a, n, c, h1, h2.step hk⟩⟩
theorem Dm.wide {w : World} {V V' : Nat → Prop} {D : DataW Value} {M : Tab} (h : Dm w V D M) (hV : ∀ x, x < w.heap.size → V x → V' x) : Dm w V' D M :=
  ⟨h.size, h.has, fun k v e => by
    obtain ⟨a, n, c, h1, h2⟩ := h.val k v e
    exact ⟨a, n, c, h1, h2.wide hV⟩⟩
/-- It stands while others are written. -/
theorem Mp.step {w w' : World} {b : Nat} {V : Nat → Prop} {M : Tab} (h : Mp w b V M) (hb : w'.heap[b]? = w.heap[b]?) (hk : ∀ x, x < w.heap.size → V x → (∀ es cl, w.heap[x]? ≠ some (.map es cl)) → w'.heap[x]? = w.heap[x]?) : Mp w' b V M := by
  obtain ⟨D, h1, h2⟩ := h
  exact ⟨D, own_same h1 hb, h2.step hk⟩
theorem Mp.wide {w : World} {b : Nat} {V V' : Nat → Prop} {M : Tab} (h : Mp w b V M) (hV : ∀ x, x < w.heap.size → V x → V' x) : Mp w b V' M := by
  obtain ⟨D, h1, h2⟩ := h
  exact ⟨D, h1, h2.wide hV⟩
theorem Mp.below {w w' : World} {b : Nat} {V : Nat → Prop} {M : Tab} (h : Mp w b V M) (hg : Below w.heap.size w w') : Mp w' b V M :=
  h.step (hg.block b h.lt) fun x hx _ _ => hg.block x hx
/-- .. while another map is written. -/
theorem Mp.other {w w' : World} {b b' : Nat} {V : Nat → Prop} {M : Tab} (h : Mp w b V M) (hg : w.grownBy w' (some b')) (hm : ∃ es cl, w.heap[b']? = some (.map es cl)) (hne : b ≠ b') : Mp w' b V M :=
  h.step (hg.block b h.lt (by simpa using hne)) fun x hx _ hx' => hg.block x hx (by
    obtain ⟨es, cl, e⟩ := hm
    intro f
    obtain rfl := Option.some.inj f
    exact hx' es cl e)
theorem vs_none (w : World) (V : Nat → Prop) : Vs w V none 0 0 [] := ⟨⟨rfl, by simp, .inl rfl⟩, Nat.le_refl _, by unfold maxLen; omega, fun _ => rfl, fun ad e => by cases e⟩
theorem zero27 (w : World) : (zeroValue 35).run Tryz.prog w = .ok (.slice none 0 0) w := by kernel_rfl
/-- v, ok := m[k]. -/
theorem wp_look {w : World} {ops : Array Oper} {rest : List Oper} {o : Oper} {a : Act} {Q : Exit → Act → World → Prop} (hg : o.guard = none) (m x : Operand) (hop : o.op = Op.lookup 50 m x true)
    (b : Nat) (V : Nat → Prop) (M : Tab) (hm : a.eval m = .map (some b)) (hM : Mp w b V M) (k : List Int) (hk : Okb k) (hkl : k.length ≤ maxLen) (hx : a.eval x = .string (strOfNums k))
    (hK : ∀ p n c, Vs w V p n c ((look M k).getD []) → wpList Tryz.prog ops Q rest (a.put o.dst (.tuple #[.slice p n c, .bool (look M k).isSome])) w) :
    wpList Tryz.prog ops Q (o :: rest) a w := by
  obtain ⟨D, h1, h2⟩ := hM
  refine wpList_lookup_own_ok w hg m x 50 hop 9 35 law9 Tryz.underlying50 RV (zero27 w) (.held (.slice none 0 0)) [] rfl b _ D hm h1 _ (litK k) hx (key_str hkl) ?_
  intro v ps hv
  rw [h2.has k hk]
  obtain ⟨p, n, c, rfl, e⟩ := RV_inv hv
  have e1 : D.atKey (litK k) (.held (.slice none 0 0)) = .held (.slice p n c) := congrArg Prod.fst e
  refine hK p n c ?_
  cases hl : look M k with
  | some v =>
    obtain ⟨p', n', c', h3, h4⟩ := h2.val k v hl
    rw [h3] at e1
    obtain ⟨rfl, rfl, rfl⟩ : p' = p ∧ n' = n ∧ c' = c := by simpa using e1
    exact h4
  | none =>
    have hn : Maps.has D (litK k) = false := by rw [h2.has k hk, hl]; rfl
    rw [atKey_of_not_has hn] at e1
    obtain ⟨rfl, rfl, rfl⟩ : none = p ∧ 0 = n ∧ 0 = c := by simpa using e1
    exact vs_none w V
theorem litK_key (k : List Int) : WideAt.IsKeyLit (litK k) := trivial
theorem Mp.put {w w' : World} {b n : Nat} {V : Nat → Prop} {M : Tab} {D : DataW Value} {k v : List Int} {p : Option Addr} {m c : Nat} (hD : w.ownsMap Tryz.prog 9 RV b n D) (h : Dm w V D M) (hS : Srt M) (hk : Okb k) (hkM : ∀ q ∈ M, Okb q.1) (hv : Vs w V p m c v)
    {n' : Nat} (hown : w'.ownsMap Tryz.prog 9 RV b n' (D.put (litK k) (.held (.slice p m c)))) (hg : w.grownBy w' (some b)) : Mp w' b V (ins k v M) := by
  have hT := hD.tidy law9
  obtain ⟨es, cl, hb, _⟩ := id hD
  have hst : ∀ {p : Option Addr} {m c : Nat} {v : List Int}, Vs w V p m c v → Vs w' V p m c v := fun h => h.step fun x hx _ hx' => hg.block x hx (by
    intro f
    obtain rfl := Option.some.inj f
    exact hx' es cl hb)
  refine ⟨_, tight hown, ?_, ?_, ?_⟩
  · rw [size_put hT, h.has k hk, len_ins k v M hS, h.size]
    cases look M k <;> simp
  · intro k' hk'
    rw [look_ins k v M hS]
    by_cases e : k = k'
    · subst e
      rw [has_put_same hT.isMap (litK_key k), if_pos rfl]
      rfl
    · rw [has_put_other (fun f => e (litK_inj hk hk' f.symm)), if_neg e, h.has k' hk']
  · intro k' v' hl
    rw [look_ins k v M hS] at hl
    by_cases e : k = k'
    · subst e
      rw [if_pos rfl] at hl
      obtain rfl := Option.some.inj hl
      exact ⟨p, m, c, fun z => atKey_put_same hT.isMap (litK_key k) _ _, hst hv⟩
    · rw [if_neg e] at hl
      obtain ⟨p', m', c', h1, h2⟩ := h.val k' v' hl
      refine ⟨p', m', c', fun z => ?_, hst h2⟩
      rw [atKey_put_other (fun f => e (litK_inj hk (hkM _ (look_mem hl)) f.symm)), h1]
theorem Mp.drop {w w' : World} {b n : Nat} {V : Nat → Prop} {M : Tab} {D : DataW Value} {k : List Int} (hD : w.ownsMap Tryz.prog 9 RV b n D) (h : Dm w V D M) (hS : Srt M) (hk : Okb k) (hkM : ∀ q ∈ M, Okb q.1)
    {n' : Nat} (hown : w'.ownsMap Tryz.prog 9 RV b n' (D.del (litK k))) (hg : w.grownBy w' (some b)) : Mp w' b V (del k M) := by
  have hT := hD.tidy law9
  obtain ⟨es, cl, hb, _⟩ := id hD
  have hst : ∀ {p : Option Addr} {m c : Nat} {v : List Int}, Vs w V p m c v → Vs w' V p m c v := fun h => h.step fun x hx _ hx' => hg.block x hx (by
    intro f
    obtain rfl := Option.some.inj f
    exact hx' es cl hb)
  refine ⟨_, tight hown, ?_, ?_, ?_⟩
  · have h1 := size_del (k := litK k) hT
    have h2 := len_del k M hS
    rw [h.has k hk, h.size] at h1
    omega
  · intro k' hk'
    rw [look_del]
    by_cases e : k = k'
    · subst e
      rw [has_del_same, if_pos rfl]
      rfl
    · rw [has_del_other (fun f => e (litK_inj hk hk' f.symm)), if_neg e, h.has k' hk']
  · intro k' v' hl
    rw [look_del] at hl
    by_cases e : k = k'
    · rw [if_pos e] at hl; cases hl
    · rw [if_neg e] at hl
      obtain ⟨p', m', c', h1, h2⟩ := h.val k' v' hl
      refine ⟨p', m', c', fun z => ?_, hst h2⟩
      rw [atKey_del_other (fun f => e (litK_inj hk (hkM _ (look_mem hl)) f.symm)), h1]
/-! Its methods. -/
theorem look_len {M : Tab} (hT : Tok M) (k : List Int) : ((look M k).getD []).length ≤ 480 := by
  cases e : look M k with
  | none => simp
  | some v => exact (hT.val _ (look_mem e)).2
set_option maxHeartbeats 400000 in
theorem get_0 (b : Nat) (V : Nat → Prop) (M : Tab) (a : Option Addr) (n c : Nat) (k v : List Int) (t : Bool) (w : World) (hv : Hid ((look M k).getD [] = v)) (ht : Hid ((look M k).isSome = t)) (hM : Mp w b V M) (hT : Tok M) (hk : Bs w a n k) (hn : n ≤ maxLen) :
    Calls Tryz.prog 12 #[.map (some b), .slice a n c] w fun e w' => ∃ u, e = .returned (.tuple #[u, .bool t]) ∧ w'.ownsRow w.heap.size 5 1 u v.length (cells v) ∧ Below w.heap.size w w' := by
  have hs := run_str (c := c) hk
  have HKO := hid hk.2.1
  have HKL : Hid (k.length ≤ maxLen) := by rw [hk.1]; exact hn
  have HVL : Hid (v.length ≤ 480) := by rw [← hv.out]; exact look_len hT k
  have HM := hid hM
  clear hk hn hT hM
  go_enter Tryz.func12, Tryz.ntmps12
  go_wp2_with (first | (at_lookup; refine wp_look rfl _ _ rfl b V M rfl HM.out k HKO.out HKL.out rfl ?_; intro p m d hvs; rw [hv.out] at hvs; rw [ht.out]) | fail)
  have hl := hvs.bs.1
  subst hl
  refine (bclone_ p v.length d v _ hvs.bs hvs.nil hvs.nc (by have := HVL.out; omega)).mono ?_
  rintro e w1 ⟨v1, rfl, o1, g1⟩
  clear hvs hs HM
  go_wp2_with fail
  go_ret2
  exact ⟨v1, rfl, o1, g1⟩
theorem get_ (b : Nat) (V : Nat → Prop) (M : Tab) (a : Option Addr) (n c : Nat) (k : List Int) (w : World) (hM : Mp w b V M) (hT : Tok M) (hk : Bs w a n k) (hn : n ≤ maxLen) :
    Calls Tryz.prog 12 #[.map (some b), .slice a n c] w fun e w' => ∃ v, e = .returned (.tuple #[v, .bool (look M k).isSome]) ∧ w'.ownsRow w.heap.size 5 1 v ((look M k).getD []).length (cells ((look M k).getD [])) ∧ Below w.heap.size w w' :=
  get_0 b V M a n c k _ _ w rfl rfl hM hT hk hn
set_option maxHeartbeats 400000 in
theorem put_ (b : Nat) (V : Nat → Prop) (M : Tab) (a p : Option Addr) (n c m d : Nat) (k v : List Int) (w : World) (hM : Mp w b V M) (hT : Tok M) (hk : Bs w a n k) (hn : n ≤ maxLen) (hv : Bs w p m v) (hp : p = none → d = 0) (hmd : m ≤ d) (hm : m ≤ 100000000) (hML : M.length ≤ 1000000000) :
    Calls Tryz.prog 40 #[.map (some b), .slice a n c, .slice p m d] w fun e w' => e = .returned (.tuple #[]) ∧ Mp w' b (fun x => V x ∨ w.heap.size ≤ x) (ins k v M) ∧ w.grownBy w' (some b) := by
  have HKL : Hid (k.length ≤ maxLen) := by rw [hk.1]; exact hn
  have HV := hid hv
  have HK := hid hk
  obtain ⟨D, hD, hDm⟩ := hM
  have HD := hid hD
  have HDM := hid hDm
  have HT := hid hT
  have HML : Hid (Maps.size D < maxLen) := by
    show Maps.size D < maxLen
    rw [hDm.size]; unfold maxLen; omega
  have hcl := fun w1 (h1 : Bs w1 p m v) => bclone_ p m d v w1 h1 hp hmd hm
  have hs0 : (convert 35 9 (.slice a n c)).run Tryz.prog w.drew = .ok (.string (strOfNums k)) w.drew := run_str (by exact hk)
  clear hD hDm hn hT hv hk
  obtain ⟨s, HS⟩ : ∃ s, Hid (strOfNums k = s) := ⟨_, rfl⟩
  rw [HS.out] at hs0
  go_enter Tryz.func40, Tryz.ntmps40
  go_wp2_with fail
  go_region_held (fun wx => (convert 35 9 (.slice a n c)).run Tryz.prog wx = .ok (.string s) wx) (first | exact hs0 | exact hs1 | exact hs2) (first | (go_at_call 41; refine (hcl _ (by exact HV.out)).mono ?_; rintro e w1 ⟨v1, rfl, o1, g1⟩; obtain ⟨p1, c1, rfl, hvs⟩ := Vs.ofOwn o1 HV.out.2.1; have G1 : Below w.heap.size w w1 := ⟨g1.os, g1.tape, g1.output, g1.size, g1.block⟩; have hD1 := own_same HD.out (G1.block b HD.out.lt); have hs1 : (convert 35 9 (.slice a n c)).run Tryz.prog w1 = .ok (.string s) w1 := HS.out ▸ run_str (HK.out.below G1); obtain ⟨w2, hrun, ho2, hg2⟩ := hD1.update law9 Tryz.underlying50 HML.out (key_str HKL.out) (RV_mk p1 m c1); rw [HS.out] at hrun; have hK2 := (HK.out.below G1).same_block (w' := w2) (fun ad e hn => hg2.block _ ((HK.out.below G1).at_block e hn).1 (by obtain ⟨es, cl, hb, _⟩ := hD1; intro f; obtain rfl := Option.some.inj f; exact ((HK.out.below G1).at_block e hn).2 es cl hb)); have hs2 : (convert 35 9 (.slice a n c)).run Tryz.prog w2 = .ok (.string s) w2 := HS.out ▸ run_str hK2; have H1 := hid hD1; have H2 := hid hvs; have H3 := hid ho2; have H4 := hid hg2; have H5 := hid G1; clear hD1 hvs ho2 hg2 G1 hK2 g1 o1))
  go_wp2_with fail
  go_end0
  have hDm1 : Dm w1 (fun x => V x ∨ w.heap.size ≤ x) D M := (HDM.out.step fun x hx _ _ => H5.out.block x hx).wide fun x _ h => .inl h
  exact ⟨rfl, Mp.put H1.out hDm1 HT.out.srt HK.out.2.1 (fun q hq => (HT.out.key q hq).1) (H2.out.wide fun x _ h => .inr h) H3.out H4.out, ((grown_of_below H5.out).but (some b)).andThen H4.out (fun j e => .inr e)⟩
end Go.Proofs.YteeapmcpbmjpmaaGreat
