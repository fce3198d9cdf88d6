import Derived.Test.YtnmklleoilicdaaXG
namespace Go.Proofs.Ytnmklleoilicdaa
set_option maxRecDepth 100000
open Go.RowKit Go.Shelf Go.Maps
set_option linter.unusedVariables false

/-- A copy of sets, the k-th value's bytes in a block of their own. -/
structure S2 (w wr : World) (v : Value) (ds : List SD) (k g : Nat) : Prop where
  sw : Sw w wr v ds
  ks : ∀ d ∈ ds, Vs wr (fun x => v.ownBlock ≠ some x ∧ x ≠ g) d.ka d.s.k.length d.kc d.s.k
  vs : ∀ j d, ds[j]? = some d → j ≠ k → Vs wr (fun x => v.ownBlock ≠ some x ∧ x ≠ g) d.va d.s.v.length d.vc d.s.v
  y : ∃ d, ds[k]? = some d ∧ d.va = some ⟨g, 0, none⟩ ∧ Yr wr g d.s.v.length d.s.v
  lo : w.heap.size ≤ g
theorem S2.below {w wr w2 : World} {v : Value} {ds : List SD} {k g : Nat} (h : S2 w wr v ds k g) (hb : Below wr.heap.size wr w2) : S2 w w2 v ds k g := by
  obtain ⟨d, h1, h2, h3⟩ := h.y
  exact ⟨h.sw.below hb, fun d hd => (h.ks d hd).lift hb (fun _ _ h => h), fun j d hd hj => (h.vs j d hd hj).lift hb (fun _ _ h => h), ⟨d, h1, h2, h3.below hb⟩, h.lo⟩
theorem S2.app {w w3 w5 : World} {v v5 : Value} {ds : List SD} {d : SD} {o : Obj} {k g : Nat} (h : S2 w w3 v ds k g) (hd : SV w3 (fun x => w.heap.size ≤ x ∧ v.ownBlock ≠ some x) d) (hd2 : SV w3 (fun x => v.ownBlock ≠ some x ∧ x ≠ g) d) (ho : w5.ownsRow w.heap.size 37 3 v5 (ds ++ [d]).length (sds (ds ++ [d]))) (hg : (w3.alloc o).grownBy w5 v.ownBlock) (hl : v5.ownBlock = v.ownBlock ∨ v5.ownBlock = some (w3.alloc o).heap.size) : S2 w w5 v5 (ds ++ [d]) k g := by
  have hB := (Below.refl w3.heap.size w3).alloc (Nat.le_refl _) o
  have hsz := hB.size
  have hsame : ∀ x, x < w3.heap.size → v.ownBlock ≠ some x → w5.heap[x]? = w3.heap[x]? := fun x hx hn => (hg.block x (by omega) (fun e => hn e.symm)).trans (hB.block x hx)
  have hnew : ∀ x, x < w3.heap.size → v.ownBlock ≠ some x → v5.ownBlock ≠ some x := fun x hx hn e => by
    rcases hl with f | f
    · exact hn (f.symm.trans e)
    · rw [e] at f
      have := Option.some.inj f
      omega
  have hvs : ∀ {a : Option Addr} {n c : Nat} {z : List Int}, Vs w3 (fun x => v.ownBlock ≠ some x ∧ x ≠ g) a n c z → Vs w5 (fun x => v5.ownBlock ≠ some x ∧ x ≠ g) a n c z := fun {a n c z} h => by
    have h2 := h.wide (V' := fun x => x < w3.heap.size ∧ v.ownBlock ≠ some x ∧ x ≠ g) fun x hx hh => ⟨hx, hh⟩
    have h3 := h2.step (w' := w5) fun x hx hh _ => hsame x hx hh.2.1
    exact h3.wide fun x _ hh => ⟨hnew x hh.1 hh.2.1, hh.2.2⟩
  obtain ⟨dk, h1, h2, h3⟩ := h.y
  have hk : k < ds.length := (List.getElem?_eq_some_iff.1 h1).1
  refine ⟨h.sw.app hd ho hg hl, fun d' hd' => ?_, fun j d' hd' hj => ?_, ⟨dk, by rw [List.getElem?_append_left hk]; exact h1, h2, h3.same (hsame g h3.lt (Yr.ne h.sw.own h3 (by decide)))⟩, h.lo⟩
  · rcases List.mem_append.1 hd' with h' | h'
    · exact hvs (h.ks d' h')
    · rw [List.mem_singleton] at h'
      subst h'
      exact hvs hd2.1
  · by_cases hlt : j < ds.length
    · rw [List.getElem?_append_left hlt] at hd'
      exact hvs (h.vs j d' hd' hj)
    · rw [List.getElem?_append_right (by omega)] at hd'
      have : j - ds.length = 0 := by
        have := (List.getElem?_eq_some_iff.1 hd').1
        simp at this
        omega
      rw [this] at hd'
      simp at hd'
      subst hd'
      exact hvs hd2.2
/-- The k-th set itself is laid behind. -/
theorem S2.start {w w3 w5 : World} {v v5 : Value} {ds : List SD} {d : SD} {o : Obj} {g : Nat} (h : Sw w w3 v ds) (hd : SV w3 (fun x => w.heap.size ≤ x ∧ v.ownBlock ≠ some x) d) (hg1 : ∀ d ∈ ds, SV w3 (fun x => v.ownBlock ≠ some x ∧ x ≠ g) d) (hkk : Vs w3 (fun x => v.ownBlock ≠ some x ∧ x ≠ g) d.ka d.s.k.length d.kc d.s.k) (hva : d.va = some ⟨g, 0, none⟩) (hy : Yr w3 g d.s.v.length d.s.v) (hlo : w.heap.size ≤ g) (ho : w5.ownsRow w.heap.size 37 3 v5 (ds ++ [d]).length (sds (ds ++ [d]))) (hg : (w3.alloc o).grownBy w5 v.ownBlock) (hl : v5.ownBlock = v.ownBlock ∨ v5.ownBlock = some (w3.alloc o).heap.size) : S2 w w5 v5 (ds ++ [d]) ds.length g := by
  have hB := (Below.refl w3.heap.size w3).alloc (Nat.le_refl _) o
  have hsz := hB.size
  have hsame : ∀ x, x < w3.heap.size → v.ownBlock ≠ some x → w5.heap[x]? = w3.heap[x]? := fun x hx hn => (hg.block x (by omega) (fun e => hn e.symm)).trans (hB.block x hx)
  have hnew : ∀ x, x < w3.heap.size → v.ownBlock ≠ some x → v5.ownBlock ≠ some x := fun x hx hn e => by
    rcases hl with f | f
    · exact hn (f.symm.trans e)
    · rw [e] at f
      have := Option.some.inj f
      omega
  have hvs : ∀ {a : Option Addr} {n c : Nat} {z : List Int}, Vs w3 (fun x => v.ownBlock ≠ some x ∧ x ≠ g) a n c z → Vs w5 (fun x => v5.ownBlock ≠ some x ∧ x ≠ g) a n c z := fun {a n c z} h => by
    have h2 := h.wide (V' := fun x => x < w3.heap.size ∧ v.ownBlock ≠ some x ∧ x ≠ g) fun x hx hh => ⟨hx, hh⟩
    have h3 := h2.step (w' := w5) fun x hx hh _ => hsame x hx hh.2.1
    exact h3.wide fun x _ hh => ⟨hnew x hh.1 hh.2.1, hh.2.2⟩
  refine ⟨h.app hd ho hg hl, fun d' hd' => ?_, fun j d' hd' hj => ?_, ⟨d, by simp, hva, hy.same (hsame g hy.lt (Yr.ne h.own hy (by decide)))⟩, hlo⟩
  · rcases List.mem_append.1 hd' with h' | h'
    · exact hvs (hg1 d' h').1
    · rw [List.mem_singleton] at h'
      subst h'
      exact hvs hkk
  · have hlt : j < ds.length := by
      have := (List.getElem?_eq_some_iff.1 hd').1
      simp at this
      omega
    rw [List.getElem?_append_left hlt] at hd'
    exact hvs (hg1 d' (List.mem_of_getElem? hd')).2
end Go.Proofs.Ytnmklleoilicdaa
namespace Go.Proofs.Ytnmklleoilicdaa
set_option maxRecDepth 100000
open Go.RowKit Go.Shelf Go.Maps
set_option linter.unusedVariables false

def Q2 (K j : Nat) (w wr : World) (v : Value) (ds : List SD) : Prop := (j ≤ K ∧ Sw w wr v ds) ∨ (K < j ∧ ∃ g, S2 w wr v ds K g)
theorem Q2.sw {K j : Nat} {w wr : World} {v : Value} {ds : List SD} (h : Q2 K j w wr v ds) : Sw w wr v ds := by
  rcases h with ⟨_, h⟩ | ⟨_, g, h⟩
  · exact h
  · exact h.sw
theorem Q2.app {K j B1 : Nat} {w wr w2 w5 : World} {v v5 : Value} {ds : List SD} {d : SD} {o : Obj} (h : Q2 K j w wr v ds) (hdl : ds.length = j) (hb : Below wr.heap.size wr w2) (hk : Vs w2 (fun x => wr.heap.size ≤ x ∧ x < B1) d.ka d.s.k.length d.kc d.s.k) (hv : Vs w2 (fun x => B1 ≤ x) d.va d.s.v.length d.vc d.s.v) (hB1 : wr.heap.size ≤ B1) (hy : j = K → ∃ g, d.va = some ⟨g, 0, none⟩ ∧ Yr w2 g d.s.v.length d.s.v ∧ B1 ≤ g) (ho : w5.ownsRow w.heap.size 37 3 v5 (ds ++ [d]).length (sds (ds ++ [d]))) (hg : (w2.alloc o).grownBy w5 v.ownBlock) (hl : v5.ownBlock = v.ownBlock ∨ v5.ownBlock = some (w2.alloc o).heap.size) : Q2 K (j + 1) w w5 v5 (ds ++ [d]) := by
  have hsw := h.sw
  have hw := hsw.bel.size
  have hown : ∀ q, v.ownBlock = some q → q < wr.heap.size := fun q e => (hsw.own.lt q e).2
  have hnw : ∀ x, wr.heap.size ≤ x → w.heap.size ≤ x ∧ v.ownBlock ≠ some x := fun x hx => ⟨by omega, fun e => by have := hown x e; omega⟩
  have hd : SV w2 (fun x => w.heap.size ≤ x ∧ v.ownBlock ≠ some x) d := ⟨hk.wide fun x _ hx => hnw x hx.1, hv.wide fun x _ hx => hnw x (by omega)⟩
  rcases h with ⟨hj, h⟩ | ⟨hj, g, h⟩
  · by_cases he : j = K
    · obtain ⟨g, hva, yr, hgB⟩ := hy he
      refine .inr ⟨by omega, g, ?_⟩
      have := S2.start (o := o) (g := g) (h.below hb) hd (fun d' hd' => (((h.sv d' hd').wide (V' := fun x => v.ownBlock ≠ some x ∧ x ≠ g) fun x hx hh => ⟨hh.2, by omega⟩).below hb)) (hk.wide fun x _ hx => ⟨(hnw x hx.1).2, by omega⟩) hva yr (by omega) ho hg hl
      rw [hdl, he] at this
      exact this
    · exact .inl ⟨by omega, (h.below hb).app hd ho hg hl⟩
  · obtain ⟨dk, h1, h2, h3⟩ := h.y
    have hgl := h3.lt
    exact .inr ⟨by omega, g, (h.below hb).app hd ⟨hk.wide fun x _ hx => ⟨(hnw x hx.1).2, by omega⟩, hv.wide fun x _ hx => ⟨(hnw x (by omega)).2, by omega⟩⟩ ho hg hl⟩
set_option maxHeartbeats 2000000 in
/-- The document's Sets: a copy in new memory, the K-th value in a block of its own. -/
theorem rsets2_ (K : Nat) (U : Nat → Prop) (a : Option Addr) (n c : Nat) (l : List Sx) (w : World) (hl : Sl w U a n l) (hn : n ≤ 100000) (hsh : ∀ s ∈ l, s.k.length ≤ 100000 ∧ s.v.length ≤ 100000) (hKn : K < n) (hKv : 0 < (l.getD K default).v.length) :
    Calls Try.prog 14 #[.slice a n c] w fun e w' => ∃ v ds g, e = .returned v ∧ S2 w w' v ds K g ∧ ds.map (·.s) = l := by
  have HL := hid hl
  have HLN : Hid (l.length = n) := hl.len
  have HSH := hid hsh
  have HOK := hid hl.okS
  clear hl hsh
  go_enter Try.func14, Try.ntmps14
  go_wp2_with fail
  go_loopw [3, 4] (fun v i wr => ∃ (k : Nat) (ds : List SD), k ≤ n ∧ i = .int .i64 k ∧ Hid (Q2 K k w wr v ds) ∧ Hid (ds.map (·.s) = l.take k)) (fun _ i _ => n - (intOf i).toNat)
  case atStart => exact ⟨0, [], Nat.zero_le _, rfl, .inl ⟨by omega, World.ownsRow_nil _ _ _ _, fun d hd => by simp at hd, Below.refl _ _⟩, rfl⟩
  case round =>
    obtain ⟨k, ds, hk, rfl, HQ, HI⟩ := hrel
    have HS := hid HQ.out.sw
    by_cases hlt : k < n
    · have hI : (k : Int) < n := by omega
      have hkL : k < l.length := by rw [HLN.out]; exact hlt
      obtain ⟨bl, off, ka, kc, va, vc, kn, vn, rfl, hkn, hvn, c0, c1, c2, v1, v2⟩ := (HL.out.below HS.out.bel).at hlt
      have hmem : l.getD k default ∈ l := by
        have e : l.getD k default = l[k] := by simp [List.getD, hkL]
        rw [e]; exact List.getElem_mem hkL
      have hsz := HSH.out _ hmem
      have hok := HOK.out _ hmem
      rw [← hkn, ← hvn] at hsz
      have HTK := hid (take_sx hkL)
      obtain ⟨s, HSx⟩ : ∃ s, Hid (l.getD k default = s) := ⟨_, rfl⟩
      rw [HSx.out] at c2 v1 v2 hok HTK hkn hvn
      obtain ⟨K', X, g⟩ := s
      simp only at c2 v1 v2 hkn hvn
      have HDL : Hid (ds.length ≤ 100000) := by have h := congrArg List.length HI.out; rw [List.length_map, List.length_take] at h; show _ ≤ _; omega
      have HOK1 := hid hok.1
      have HOK2 := hid hok.2
      have k1 := refBytes ka kn kc K' wr v1.bs (by omega)
      have HV2 := hid v2
      have HKN := hid hkn
      have HVN := hid hvn
      clear hlt hkL hmem hok v1 v2 hkn hvn
      go_wp2_with fail
      refine k1.mono ?_
      rintro e w1 ⟨x1, rfl, o1, g1⟩
      obtain ⟨p1, q1, rfl, vs1⟩ := Vs.own o1 HOK1.out
      have hlt1 : ∀ x, (Value.slice p1 kn q1).ownBlock = some x → wr.heap.size ≤ x := fun x e => (o1.lt x e).1
      have HS1 := hid (HS.out.below g1)
      have d1 := (g1.cell (World.block_lt_of_cell? _ _ c1)).trans c1
      have d2 := (g1.cell (World.block_lt_of_cell? _ _ c2)).trans c2
      have HV2 := hid (HV2.out.lift g1 (fun _ _ h => h))
      have hown : ∀ x, u3.ownBlock = some x → x < wr.heap.size := fun x e => (HS.out.own.lt x e).2
      have HWK : Hid (Vs w1 (fun x => wr.heap.size ≤ x ∧ x < w1.heap.size) p1 kn q1 K') := vs1.wide fun x hx he => ⟨hlt1 x he, hx⟩
      have HBB1 := hid g1
      have HW1 : Hid (Vs w1 (fun x => w.heap.size ≤ x ∧ u3.ownBlock ≠ some x) p1 kn q1 K') := vs1.wide fun x _ hx => ⟨Nat.le_trans HS.out.bel.size (hlt1 x hx), fun e => by have := hown x e; have := hlt1 x hx; omega⟩
      have k2 := refBytes va vn vc X w1 HV2.out.bs (by omega)
      have HC2 := hid d2
      clear k1 o1 vs1 g1 c0 c1 c2 HS hlt1 hown
      go_wp2_with fail
      refine k2.mono ?_
      rintro e w2 ⟨x2, rfl, o2, g2⟩
      obtain ⟨p2, q2, rfl, vs2⟩ := Vs.own o2 HOK2.out
      have hlt2 : ∀ x, (Value.slice p2 vn q2).ownBlock = some x → w1.heap.size ≤ x := fun x e => (o2.lt x e).1
      have hown : ∀ x, u3.ownBlock = some x → x < w1.heap.size := fun x e => (HS1.out.own.lt x e).2
      have HWV : Hid (Vs w2 (fun x => w1.heap.size ≤ x) p2 vn q2 X) := vs2.wide fun x hx he => hlt2 x he
      have HBB2 := hid (bel_bel HBB1.out HBB1.out.size g2)
      have HWK := hid (HWK.out.lift g2 (fun _ _ h => h))
      have HS1B := hid HBB1.out.size
      have HYV : Hid (k = K → ∃ g, p2 = some ⟨g, 0, none⟩ ∧ Yr w2 g vn X ∧ w1.heap.size ≤ g) := fun hkK => by
        have hpos : 0 < vn := by
          have h := hKv
          rw [← hkK, HSx.out] at h
          rw [HVN.out]
          exact h
        obtain ⟨g, c', e, yr, hg, -, -, -⟩ := Yr.ofOwn o2 HOK2.out hpos
        simp only [Value.slice.injEq] at e
        exact ⟨g, e.1, yr, hg⟩
      have HW2 : Hid (Vs w2 (fun x => w.heap.size ≤ x ∧ u3.ownBlock ≠ some x) p2 vn q2 X) := vs2.wide fun x _ hx => ⟨Nat.le_trans HS1.out.bel.size (hlt2 x hx), fun e => by have := hown x e; have := hlt2 x hx; omega⟩
      have HW1 := hid (HW1.out.lift g2 (fun _ _ h => h))
      have HS2 := hid (HS1.out.below g2)
      have e2 := (g2.cell (World.block_lt_of_cell? _ _ HC2.out)).trans HC2.out
      clear k2 o2 vs2 g2 d1 d2 HC2 HS1 hlt2 hown HV2
      have HOA := hid (HS2.out.own.alloc (.cells #[.slice p1 kn q1, .slice p2 vn q2, .bool g] 37))
      have HNW : Hid (∀ j u, (sdc ⟨p1, q1, p2, q2, ⟨K', X, g⟩⟩)[j]? = some u → (w2.alloc (.cells #[.slice p1 kn q1, .slice p2 vn q2, .bool g] 37)).cell? ⟨w2.heap.size, j, none⟩ = some u) := fun j u hj => by
        rw [cell_of_row _ w2.heap.size j _ 37 (0, 0) (heap_alloc_new w2 _)]
        simp only [sdc, ← HKN.out, ← HVN.out] at hj
        simpa using hj
      have HSZ : Hid (w.heap.size ≤ (w2.alloc (.cells #[.slice p1 kn q1, .slice p2 vn q2, .bool g] 37)).heap.size) := by have := HS2.out.bel.size; show _ ≤ _; simp; omega
      go_wp2_with (at_builtin; refine wpList_appSet rfl _ _ rfl w.heap.size _ ds rfl (by exact HOA.out) w2.heap.size ⟨p1, q1, p2, q2, ⟨K', X, g⟩⟩ rfl (by exact HNW.out) (by have := HDL.out; omega) (by exact HSZ.out) ?_; intro v5 w5 o5 g5 l5; have HO5 := hid o5; have HG5 := hid g5; have HL5 := hid l5; clear o5 g5 l5 HNW)
      have HS5 := hid (HQ.out.app (d := ⟨p1, q1, p2, q2, ⟨K', X, g⟩⟩) (by have h := congrArg List.length HI.out; rw [List.length_map, List.length_take, HLN.out] at h; omega) HBB2.out (by show Vs _ _ _ K'.length _ _; rw [← HKN.out]; exact HWK.out) (by show Vs _ _ _ X.length _ _; rw [← HVN.out]; exact HWV.out) HS1B.out (by show k = K → ∃ g, _ ∧ Yr _ _ X.length _ ∧ _; rw [← HVN.out]; exact HYV.out) HO5.out HG5.out HL5.out)
      have HI5 : Hid ((ds ++ [⟨p1, q1, p2, q2, ⟨K', X, g⟩⟩] : List SD).map (·.s) = l.take (k + 1)) := by
        show _ = _
        rw [HTK.out, List.map_append, HI.out]
        rfl
      go_roundw
      case rel => exact ⟨k + 1, _, by omega, by go_num, HS5, HI5⟩
      case measure => simp [intOf]; omega
    · have hI : ¬ (k : Int) < n := by omega
      have HF : Hid (ds.map (·.s) = l) := HI.out.trans (List.take_of_length_le (by rw [HLN.out]; omega))
      clear hlt
      go_wp2_with fail
      go_ret
      obtain ⟨g, hs2⟩ : ∃ g, S2 w wr u3 ds K g := by
        rcases HQ.out with ⟨h, _⟩ | ⟨_, h⟩
        · omega
        · exact h
      first | exact ⟨_, ds, g, rfl, hs2, HF.out⟩ | exact ⟨_, rfl, ds, ⟨g, hs2⟩, HF.out⟩ | exact ⟨_, rfl, ds, g, hs2, HF.out⟩
end Go.Proofs.Ytnmklleoilicdaa
