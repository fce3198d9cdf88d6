import Derived.Test.YtcbmgpmjnehjdaaGreatRO
import Derived.Test.YtcbmgpmjnehjdaaGreatWQ
import Derived.Lib.BytesEntry
import Derived.Laws.BytesArg
import Derived.Laws.Externs
import Derived.Laws.IdiomStrings
import Derived.Lib.SlBytesConst
import Derived.Maps.RangeWalk
import Derived.Maps.OwnSet
import Derived.Deep.RegionHeld
import Derived.Deep.RegionHeldLaw
import Derived.Deep.AppendLies
import Derived.Deep.AppendSrc
namespace Go.Proofs.YtcbmgpmjnehjdaaGreat
set_option maxRecDepth 100000
open Go.RowKit Go.Maps
set_option linter.unusedVariables false

theorem Bs.okb {w : World} {a : Option Addr} {n : Nat} {zs : List Int} (h : Bs w a n zs) : Okb zs := h.2.1

/-! The library: bytes.Compare. -/
def cmpB (xs ys : List Int) : Int := if lx xs ys then -1 else if lx ys xs then 1 else 0
theorem cmpB_lt (xs ys : List Int) : cmpB xs ys < 0 ↔ lx xs ys = true := by
  unfold cmpB
  split
  · rename_i h; exact ⟨fun _ => h, fun _ => by decide⟩
  · rename_i h
    constructor
    · intro h'; split at h' <;> omega
    · intro h'; exact absurd h' h
theorem cmpB_le (xs ys : List Int) : cmpB xs ys ≤ 0 ↔ lx ys xs = false := by
  unfold cmpB
  split
  · rename_i h; exact ⟨fun _ => lx_asym h, fun _ => by decide⟩
  · rename_i h
    split
    · rename_i h'; rw [h']; exact ⟨fun h => by omega, fun h => by cases h⟩
    · rename_i h'; exact ⟨fun _ => by simpa using h', fun _ => by decide⟩
theorem u8_lt {a b : Int} (ha : 0 ≤ a ∧ a ≤ 255) (hb : 0 ≤ b ∧ b ≤ 255) : UInt8.ofNat a.toNat < UInt8.ofNat b.toNat ↔ a < b := by
  rw [UInt8.lt_iff_toNat_lt]
  simp
  omega
theorem str_ne {xs ys : List Int} (hx : Okb xs) (hy : Okb ys) (i : Nat) (h1 : i < xs.length) (h2 : i < ys.length) : ((strOfNums xs)[i]! != (strOfNums ys)[i]!) = (xs.getD i 0 != ys.getD i 0) := by
  rw [str_at xs i h1, str_at ys i h2]
  by_cases e : xs.getD i 0 = ys.getD i 0
  · rw [e]; simp
  · rw [bne_iff_ne.2 e]
    exact bne_iff_ne.2 fun f => e (u8_inj (okb_at hx i) (okb_at hy i) f)
theorem cmp_eq {xs ys : List Int} (hx : Okb xs) (hy : Okb ys) : Extern.BytealgCompare.cmp (strOfNums xs) (strOfNums ys) = cmpB xs ys := by
  unfold Extern.BytealgCompare.cmp
  rw [strOfNums_size, strOfNums_size]
  cases e : (List.range (min xs.length ys.length)).find? fun i => (strOfNums xs)[i]! != (strOfNums ys)[i]! with
  | some i =>
    rw [List.find?_range_eq_some] at e
    obtain ⟨e1, e2, e3⟩ := e
    have hi := List.mem_range.1 e2
    rw [str_ne hx hy i (by omega) (by omega), bne_iff_ne] at e1
    have hb : ∀ j, j < i → xs.getD j 0 = ys.getD j 0 := fun j hj => by
      have := e3 j hj
      rw [str_ne hx hy j (by omega) (by omega)] at this
      simpa using this
    have q1 := lx_at xs ys i (by omega) (by omega) hb e1
    have q2 := lx_at ys xs i (by omega) (by omega) (fun j hj => (hb j hj).symm) (Ne.symm e1)
    simp only
    unfold cmpB
    rw [q1, q2, str_at xs i (by omega), str_at ys i (by omega)]
    by_cases hl : xs.getD i 0 < ys.getD i 0
    · rw [if_pos ((u8_lt (okb_at hx i) (okb_at hy i)).2 hl), if_pos (decide_eq_true hl)]
    · rw [if_neg (fun h => hl ((u8_lt (okb_at hx i) (okb_at hy i)).1 h)), if_neg (by simpa using hl), if_pos (decide_eq_true (by omega))]
  | none =>
    rw [List.find?_range_eq_none] at e
    have hb : ∀ j, j < xs.length → j < ys.length → xs.getD j 0 = ys.getD j 0 := fun j h1 h2 => by
      have := e j (by omega)
      rw [str_ne hx hy j h1 h2] at this
      simpa using this
    have q1 := lx_all xs ys hb
    have q2 := lx_all ys xs (fun j h1 h2 => (hb j h2 h1).symm)
    simp only
    unfold cmpB
    rw [q1, q2]
    by_cases h1 : xs.length < ys.length
    · simp [h1]
    · by_cases h2 : ys.length < xs.length
      · simp [h1, h2]
      · simp [h1, h2]
theorem run_bytesOf {w : World} {a : Option Addr} {n c : Nat} {zs : List Int} (h : Bs w a n zs) : (Extern.Bytes.bytesOf (.slice a n c)).run Tryz.prog w = .ok (strOfNums zs) w := by
  rcases h.2.2 with h0 | ⟨b, off, rfl, hc⟩
  · subst h0
    obtain rfl : zs = [] := List.eq_nil_of_length_eq_zero h.1
    cases a with
    | none => simp [Extern.Bytes.bytesOf]; rfl
    | some x => simp [Extern.Bytes.bytesOf, Extern.Bytes.loadBytes]; rfl
  · have hl := Lib.run_loadBytesX (P := Tryz.prog) w zs ⟨b, off, none⟩ .empty (fun j x hj => by
      have hjl : j < zs.length := (List.getElem?_eq_some_iff.1 hj).1
      rw [Addr.add_lit, hc j (by have := h.1; omega), List.getD_eq_getElem?_getD, hj]
      rfl)
    rw [h.1] at hl
    simp only [Extern.Bytes.bytesOf]
    rw [hl]
    congr 1
    apply ByteArray.ext
    show (#[] : Array UInt8) ++ (Lib.bytesOf zs).toArray = _
    simp [strOfNums, Lib.bytesOf]
theorem run_compare {w : World} {a b : Option Addr} {n c m d : Nat} {xs ys : List Int} (hx : Bs w a n xs) (hy : Bs w b m ys) :
    (Extern.BytealgCompare.compare #[.slice a n c, .slice b m d]).run Tryz.prog w = .ok (.int .i64 (cmpB xs ys)) w := by
  have e : Extern.BytealgCompare.compare #[.slice a n c, .slice b m d] = (Extern.Bytes.bytesOf (.slice a n c) >>= fun u => Extern.Bytes.bytesOf (.slice b m d) >>= fun v => pure (goInt (Extern.BytealgCompare.cmp u v))) := rfl
  rw [e]
  simp only [Sem.run_bind, run_bytesOf hx, run_bytesOf hy, Result.andThen, Sem.run_pure, cmp_eq hx.2.1 hy.2.1]
  rfl
set_option maxHeartbeats 400000 in
theorem bcmp_ (a b : Option Addr) (n c m d : Nat) (xs ys : List Int) (w : World) (hx : Bs w a n xs) (hy : Bs w b m ys) :
    Calls Tryz.prog 51 #[.slice a n c, .slice b m d] w fun e w' => e = .returned (.int .i64 (cmpB xs ys)) ∧ w' = w := by
  have hr := fun c d => run_compare (c := c) (d := d) hx hy
  clear hx hy
  go_enter Tryz.func51, Tryz.ntmps51
  go_wp2
  rw [run_callFunc_extern Tryz.func88 (by kernel_rfl) (by kernel_rfl) (by kernel_rfl) (e := Extern.BytealgCompare.compare) (by kernel_rfl), hr]
  simp only [Result.andThen]
  rw [Oper.upon_value]
  go_wp2
  go_ret
  exact ⟨rfl, rfl⟩

/-! culvertref.Less. -/
set_option maxHeartbeats 800000 in
theorem refLess_some (b off c b' off' c' n m : Nat) (l r : List Int) (w : World) (h1 : l.length = n) (h2 : r.length = m) (hn : n ≤ 1000000000) (hm : m ≤ 1000000000) (hl : ∀ i, i < n → w.cell? ⟨b, off + i, none⟩ = some (.int .u8 (l.getD i 0))) (hr : ∀ i, i < m → w.cell? ⟨b', off' + i, none⟩ = some (.int .u8 (r.getD i 0))) :
    Calls Tryz.prog 71 #[.slice (some ⟨b, off, none⟩) n c, .slice (some ⟨b', off', none⟩) m c'] w fun e w' => e = .returned (.bool (lx l r)) ∧ ∃ nq, w' = w.drewN nq := by
  have HL := hid hl
  have HR := hid hr
  have H1 := hid h1
  have H2 := hid h2
  clear hl hr h1 h2
  go_enter Tryz.func71, Tryz.ntmps71
  go_wp2_with fail
  go_loopw [5] (fun i wr => ∃ j nq : Nat, j ≤ n ∧ j ≤ m ∧ i = .int .i64 j ∧ Hid (∀ i, i < j → l.getD i 0 = r.getD i 0) ∧ wr = w.drewN nq) (fun i _ => n - (intOf i).toNat)
  case atStart => exact ⟨0, 0, by omega, by omega, rfl, fun i hi => by omega, rfl⟩
  case round =>
    obtain ⟨j, nq, hj, hjm, rfl, HE, rfl⟩ := hrel
    by_cases hlt : j < n
    · have hI : (j : Int) < n := by omega
      by_cases hlm : j < m
      · have hM : (j : Int) < m := by omega
        have c1 := HL.out j hlt
        have c2 := HR.out j hlm
        by_cases he : l.getD j 0 = r.getD j 0
        · have HE2 : Hid (∀ i, i < j + 1 → l.getD i 0 = r.getD i 0) := fun i hi => by
            by_cases e : i = j
            · rw [e]; exact he
            · exact HE.out i (by omega)
          rw [he] at c1
          generalize r.getD j 0 = y at *
          have hne : (y != y) = false := by simp
          clear he
          go_wp2_with fail
          go_region
          go_wp2_with fail
          go_roundw
          case rel => exact ⟨j + 1, _, by omega, by omega, by go_num, HE2, rfl⟩
          case measure => simp [intOf]; omega
        · have HX := hid (lx_at l r j (by rw [H1.out]; exact hlt) (by rw [H2.out]; exact hlm) HE.out he)
          have hne : (l.getD j 0 != r.getD j 0) = true := bne_iff_ne.2 he
          generalize l.getD j 0 = x at *
          generalize r.getD j 0 = y at *
          clear he
          go_wp2_with fail
          go_region
          go_wp2_with fail
          go_region
          go_wp2_with fail
          go_ret
          exact ⟨by rw [HX.out]; rfl, _, rfl⟩
      · have hM : ¬ (j : Int) < m := by omega
        have HX := hid (lx_all l r (fun i hi hi' => HE.out i (by rw [H2.out] at hi'; omega)))
        rw [H1.out, H2.out] at HX
        go_wp2_with fail
        go_ret
        exact ⟨by rw [HX.out]; rfl, _, rfl⟩
    · have hI : ¬ (j : Int) < n := by omega
      have HX := hid (lx_all l r (fun i hi hi' => HE.out i (by rw [H1.out] at hi; omega)))
      rw [H1.out, H2.out] at HX
      go_wp2_with fail
      go_ret
      exact ⟨by rw [HX.out]; rfl, _, rfl⟩
end Go.Proofs.YtcbmgpmjnehjdaaGreat
namespace Go.Proofs.YtcbmgpmjnehjdaaGreat
set_option maxRecDepth 100000
open Go.RowKit Go.Maps
set_option linter.unusedVariables false

/-! Rows in a map. -/
def RV (v : Value) : Option (DataW Value × List MemPlace) := match v with
  | .slice a n c => some (.held (.slice a n c), [])
  | _ => none
theorem RV_mk (a : Option Addr) (n c : Nat) : RV (.slice a n c) = some (.held (.slice a n c), []) := rfl
theorem RV_inv {v : Value} {y : DataW Value × List MemPlace} (h : RV v = some y) : ∃ a n c, v = .slice a n c ∧ y = (.held (.slice a n c), []) := by
  unfold RV at h
  split at h
  · exact ⟨_, _, _, rfl, (Option.some.inj h).symm⟩
  · cases h
theorem law9 : Keyed Tryz.prog 9 := string_keyed Tryz.underlying9
def litK (k : List Int) : Lit := .string (Lib.bytesOf k)
theorem litK_inj {k k' : List Int} (h : Okb k) (h' : Okb k') (e : litK k = litK k') : k = k' := by
  have e1 : Lib.bytesOf k = Lib.bytesOf k' := by injection e
  refine (str_eq h h').1 ?_
  apply ByteArray.ext
  show (Lib.bytesOf k).toArray = (Lib.bytesOf k').toArray
  rw [e1]
theorem key_str {k : List Int} (hn : k.length ≤ maxLen) : keyOf Tryz.prog 9 (.string (strOfNums k)) = some (litK k) := by
  have := WideMaps.keyOf_string_mk (P := Tryz.prog) (k := 9) Tryz.underlying9 (s := strOfNums k) (by rw [strOfNums_size]; exact hn)
  rw [this]
  rfl
/-- The bytes of a key that a map holds. -/
def ofU (l : List UInt8) : List Int := l.map fun b => (b.toNat : Int)
theorem ofU_okb (l : List UInt8) : Okb (ofU l) := by
  intro z hz
  obtain ⟨b, _, rfl⟩ := List.mem_map.1 hz
  have := b.toNat_lt
  omega
theorem bytesOf_ofU (l : List UInt8) : Lib.bytesOf (ofU l) = l := by
  unfold Lib.bytesOf ofU
  rw [List.map_map]
  conv => rhs; rw [← List.map_id l]
  refine List.map_congr_left fun b _ => ?_
  simp
theorem str_ofU (l : List UInt8) : strOfNums (ofU l) = ⟨l.toArray⟩ := by
  apply ByteArray.ext
  show (Lib.bytesOf (ofU l)).toArray = _
  rw [bytesOf_ofU]
/-- What a map holds. -/
structure Dm (w : World) (V : Nat → Prop) (D : DataW Value) (M : Tab) : Prop where
  size : Maps.size D = M.length
  has : ∀ k, Okb k → Maps.has D (litK k) = (look M k).isSome
  val : ∀ k v, look M k = some v → ∃ a n c, (∀ z, D.atKey (litK k) z = .held (.slice a n c)) ∧ Vs w V a n c v
def Mp (w : World) (b : Nat) (V : Nat → Prop) (M : Tab) : Prop := ∃ D : DataW Value, w.ownsMap Tryz.prog 9 RV b (Maps.size D) D ∧ Dm w V D M
theorem tight {w : World} {b n : Nat} {D : DataW Value} (h : w.ownsMap Tryz.prog 9 RV b n D) : w.ownsMap Tryz.prog 9 RV b (Maps.size D) D := by
  obtain ⟨es, clock, hb, F, hs, hD⟩ := h
  refine ⟨es, clock, hb, F, ?_, hD⟩
  rw [hD]
  simp [Maps.size, length_sorted]
theorem Mp.isMap {w : World} {b : Nat} {V : Nat → Prop} {M : Tab} (h : Mp w b V M) : ∃ es cl, w.heap[b]? = some (.map es cl) := by
  obtain ⟨D, ⟨es, cl, hb, _⟩, _⟩ := h
  exact ⟨es, cl, hb⟩
theorem Mp.lt {w : World} {b : Nat} {V : Nat → Prop} {M : Tab} (h : Mp w b V M) : b < w.heap.size := by
  obtain ⟨es, cl, hb⟩ := h.isMap
  exact (Array.getElem?_eq_some_iff.1 hb).1
theorem own_same {w w' : World} {b n : Nat} {D : DataW Value} (h : w.ownsMap Tryz.prog 9 RV b n D) (hk : w'.heap[b]? = w.heap[b]?) : w'.ownsMap Tryz.prog 9 RV b n D := by
  obtain ⟨es, clock, hb, F, hs, hD⟩ := h
  exact ⟨es, clock, hk.trans hb, F, hs, hD⟩
theorem Dm.step {w w' : World} {V : Nat → Prop} {D : DataW Value} {M : Tab} (h : Dm w V D M) (hk : ∀ x, x < w.heap.size → V x → (∀ es cl, w.heap[x]? ≠ some (.map es cl)) → w'.heap[x]? = w.heap[x]?) : Dm w' V D M :=
  ⟨h.size, h.has, fun k v e => by
    obtain ⟨a, n, c, h1, h2⟩ := h.val k v e
    exact ⟨a, n, c, h1, h2.step hk⟩⟩
theorem Dm.wide {w : World} {V V' : Nat → Prop} {D : DataW Value} {M : Tab} (h : Dm w V D M) (hV : ∀ x, x < w.heap.size → V x → V' x) : Dm w V' D M :=
  ⟨h.size, h.has, fun k v e => by
    obtain ⟨a, n, c, h1, h2⟩ := h.val k v e
    exact ⟨a, n, c, h1, h2.wide hV⟩⟩
/-- It stands while others are written. -/
theorem Mp.step {w w' : World} {b : Nat} {V : Nat → Prop} {M : Tab} (h : Mp w b V M) (hb : w'.heap[b]? = w.heap[b]?) (hk : ∀ x, x < w.heap.size → V x → (∀ es cl, w.heap[x]? ≠ some (.map es cl)) → w'.heap[x]? = w.heap[x]?) : Mp w' b V M := by
  obtain ⟨D, h1, h2⟩ := h
  exact ⟨D, own_same h1 hb, h2.step hk⟩
theorem Mp.wide {w : World} {b : Nat} {V V' : Nat → Prop} {M : Tab} (h : Mp w b V M) (hV : ∀ x, x < w.heap.size → V x → V' x) : Mp w b V' M := by
  obtain ⟨D, h1, h2⟩ := h
  exact ⟨D, h1, h2.wide hV⟩
theorem Mp.below {w w' : World} {b : Nat} {V : Nat → Prop} {M : Tab} (h : Mp w b V M) (hg : Below w.heap.size w w') : Mp w' b V M :=
  h.step (hg.block b h.lt) fun x hx _ _ => hg.block x hx
/-- .. while another map is written. -/
theorem Mp.other {w w' : World} {b b' : Nat} {V : Nat → Prop} {M : Tab} (h : Mp w b V M) (hg : w.grownBy w' (some b')) (hm : ∃ es cl, w.heap[b']? = some (.map es cl)) (hne : b ≠ b') : Mp w' b V M :=
  h.step (hg.block b h.lt (by simpa using hne)) fun x hx _ hx' => hg.block x hx (by
    obtain ⟨es, cl, e⟩ := hm
    intro f
    obtain rfl := Option.some.inj f
    exact hx' es cl e)
theorem zero27 (w : World) : (zeroValue 52).run Tryz.prog w = .ok (.slice none 0 0) w := by kernel_rfl
/-- v, ok := m[k]. -/
theorem wp_look {w : World} {ops : Array Oper} {rest : List Oper} {o : Oper} {a : Act} {Q : Exit → Act → World → Prop} (hg : o.guard = none) (m x : Operand) (hop : o.op = Op.lookup 48 m x true)
    (b : Nat) (V : Nat → Prop) (M : Tab) (hm : a.eval m = .map (some b)) (hM : Mp w b V M) (k : List Int) (hk : Okb k) (hkl : k.length ≤ maxLen) (hx : a.eval x = .string (strOfNums k))
    (hK : ∀ p n c, Vs w V p n c ((look M k).getD []) → wpList Tryz.prog ops Q rest (a.put o.dst (.tuple #[.slice p n c, .bool (look M k).isSome])) w) :
    wpList Tryz.prog ops Q (o :: rest) a w := by
  obtain ⟨D, h1, h2⟩ := hM
  refine wpList_lookup_own_ok w hg m x 48 hop 9 52 law9 Tryz.underlying48 RV (zero27 w) (.held (.slice none 0 0)) [] rfl b _ D hm h1 _ (litK k) hx (key_str hkl) ?_
  intro v ps hv
  rw [h2.has k hk]
  obtain ⟨p, n, c, rfl, e⟩ := RV_inv hv
  have e1 : D.atKey (litK k) (.held (.slice none 0 0)) = .held (.slice p n c) := congrArg Prod.fst e
  refine hK p n c ?_
  cases hl : look M k with
  | some v =>
    obtain ⟨p', n', c', h3, h4⟩ := h2.val k v hl
    rw [h3] at e1
    obtain ⟨rfl, rfl, rfl⟩ : p' = p ∧ n' = n ∧ c' = c := by simpa using e1
    exact h4
  | none =>
    have hn : Maps.has D (litK k) = false := by rw [h2.has k hk, hl]; rfl
    rw [atKey_of_not_has hn] at e1
    obtain ⟨rfl, rfl, rfl⟩ : none = p ∧ 0 = n ∧ 0 = c := by simpa using e1
    exact vs_none w V
theorem litK_key (k : List Int) : WideAt.IsKeyLit (litK k) := trivial
theorem Mp.put {w w' : World} {b n : Nat} {V : Nat → Prop} {M : Tab} {D : DataW Value} {k v : List Int} {p : Option Addr} {m c : Nat} (hD : w.ownsMap Tryz.prog 9 RV b n D) (h : Dm w V D M) (hS : Srt M) (hk : Okb k) (hkM : ∀ q ∈ M, Okb q.1) (hv : Vs w V p m c v)
    {n' : Nat} (hown : w'.ownsMap Tryz.prog 9 RV b n' (D.put (litK k) (.held (.slice p m c)))) (hg : w.grownBy w' (some b)) : Mp w' b V (ins k v M) := by
  have hT := hD.tidy law9
  obtain ⟨es, cl, hb, _⟩ := id hD
  have hst : ∀ {p : Option Addr} {m c : Nat} {v : List Int}, Vs w V p m c v → Vs w' V p m c v := fun h => h.step fun x hx _ hx' => hg.block x hx (by
    intro f
    obtain rfl := Option.some.inj f
    exact hx' es cl hb)
  refine ⟨_, tight hown, ?_, ?_, ?_⟩
  · rw [size_put hT, h.has k hk, len_ins k v M hS, h.size]
    cases look M k <;> simp
  · intro k' hk'
    rw [look_ins k v M hS]
    by_cases e : k = k'
    · subst e
      rw [has_put_same hT.isMap (litK_key k), if_pos rfl]
      rfl
    · rw [has_put_other (fun f => e (litK_inj hk hk' f.symm)), if_neg e, h.has k' hk']
  · intro k' v' hl
    rw [look_ins k v M hS] at hl
    by_cases e : k = k'
    · subst e
      rw [if_pos rfl] at hl
      obtain rfl := Option.some.inj hl
      exact ⟨p, m, c, fun z => atKey_put_same hT.isMap (litK_key k) _ _, hst hv⟩
    · rw [if_neg e] at hl
      obtain ⟨p', m', c', h1, h2⟩ := h.val k' v' hl
      refine ⟨p', m', c', fun z => ?_, hst h2⟩
      rw [atKey_put_other (fun f => e (litK_inj hk (hkM _ (look_mem hl)) f.symm)), h1]
theorem Mp.drop {w w' : World} {b n : Nat} {V : Nat → Prop} {M : Tab} {D : DataW Value} {k : List Int} (hD : w.ownsMap Tryz.prog 9 RV b n D) (h : Dm w V D M) (hS : Srt M) (hk : Okb k) (hkM : ∀ q ∈ M, Okb q.1)
    {n' : Nat} (hown : w'.ownsMap Tryz.prog 9 RV b n' (D.del (litK k))) (hg : w.grownBy w' (some b)) : Mp w' b V (del k M) := by
  have hT := hD.tidy law9
  obtain ⟨es, cl, hb, _⟩ := id hD
  have hst : ∀ {p : Option Addr} {m c : Nat} {v : List Int}, Vs w V p m c v → Vs w' V p m c v := fun h => h.step fun x hx _ hx' => hg.block x hx (by
    intro f
    obtain rfl := Option.some.inj f
    exact hx' es cl hb)
  refine ⟨_, tight hown, ?_, ?_, ?_⟩
  · have h1 := size_del (k := litK k) hT
    have h2 := len_del k M hS
    rw [h.has k hk, h.size] at h1
    omega
  · intro k' hk'
    rw [look_del]
    by_cases e : k = k'
    · subst e
      rw [has_del_same, if_pos rfl]
      rfl
    · rw [has_del_other (fun f => e (litK_inj hk hk' f.symm)), if_neg e, h.has k' hk']
  · intro k' v' hl
    rw [look_del] at hl
    by_cases e : k = k'
    · rw [if_pos e] at hl; cases hl
    · rw [if_neg e] at hl
      obtain ⟨p', m', c', h1, h2⟩ := h.val k' v' hl
      refine ⟨p', m', c', fun z => ?_, hst h2⟩
      rw [atKey_del_other (fun f => e (litK_inj hk (hkM _ (look_mem hl)) f.symm)), h1]
/-! Its methods. -/
theorem look_len {M : Tab} (hT : Tok M) (k : List Int) : ((look M k).getD []).length ≤ 480 := by
  cases e : look M k with
  | none => simp
  | some v => exact (hT.val _ (look_mem e)).2
end Go.Proofs.YtcbmgpmjnehjdaaGreat
