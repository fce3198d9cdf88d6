import Derived.Test.YtnmklleoilicdaaXI
namespace Go.Proofs.Ytnmklleoilicdaa
set_option maxRecDepth 100000
open Go.RowKit Go.Shelf Go.Maps
set_option linter.unusedVariables false

theorem endS_eq : endS = endS' := rfl
/-- A set whose value is turned in its first byte. -/
def turnS (s : Sx) (z : Int) : Sx := ⟨s.k, s.v.set 0 z, s.g⟩
def turnE (e : LE) (z : Int) : LE := ⟨e.gk, e.kc, e.gv, e.vc, turnS e.s z⟩
def turnD (d : SD) (z : Int) : SD := ⟨d.ka, d.kc, d.va, d.vc, turnS d.s z⟩
theorem sdc_turn (d : SD) (z : Int) : sdc (turnD d z) = sdc d := by simp [sdc, turnD, turnS]
theorem leS_turn (e : LE) (z : Int) : sdc (leS (turnE e z)) = sdc (leS e) := by simp [sdc, leS, turnE, turnS]
theorem leK_turn (e : LE) (z : Int) : leK (turnE e z) = leK e := by simp [leK, turnE, turnS]
theorem leV_turn (e : LE) (z : Int) : leV (turnE e z) = leV e := by simp [leV, turnE, turnS]
theorem leB_turn (e : LE) (z : Int) : leB (turnE e z) = leB e := rfl
theorem map_set_same {α β : Type} (f : α → β) (l : List α) (k : Nat) (a b : α) (h : l[k]? = some a) (hf : f b = f a) : (l.set k b).map f = l.map f := by
  rw [List.map_set, hf]
  apply List.ext_getElem?
  intro i
  by_cases e : k = i
  · subst e
    have hk := (List.getElem?_eq_some_iff.1 h).1
    rw [List.getElem?_set_self (by simpa using hk), List.getElem?_map, h]
    rfl
  · rw [List.getElem?_set_ne e]
theorem flat_set_same {α β : Type} (f : α → List β) (l : List α) (k : Nat) (a b : α) (h : l[k]? = some a) (hf : f b = f a) : (l.set k b).flatMap f = l.flatMap f := by
  rw [List.flatMap_def, List.flatMap_def, map_set_same f l k a b h hf]
theorem Ln.turn {w0 W : World} {m k : Nat} {vs vk vv : Value} {es : List LE} {e : LE} {z : Int} (h : Ln w0 W m vs vk vv (es.map leS ++ [endS]) es es es) (hk : es[k]? = some e) (hv : 0 < e.s.v.length) (hz : 0 ≤ z ∧ z ≤ 255) : Ln w0 (W.setCell ⟨e.gv, 0, none⟩ (.int .u8 z)) m vs vk vv ((es.set k (turnE e z)).map leS ++ [endS]) (es.set k (turnE e z)) (es.set k (turnE e z)) (es.set k (turnE e z)) := by
  have hem := List.mem_of_getElem? hk
  have ly := h.y e hem
  obtain ⟨n1, n2, n3, n4⟩ := h.yne ly.v
  have hks : ∀ x, x ≠ e.gv → (W.setCell ⟨e.gv, 0, none⟩ (.int .u8 z)).heap[x]? = W.heap[x]? := fun x hx => Below.heap_setCell _ _ _ _ hx
  have hkl := (List.getElem?_eq_some_iff.1 hk).1
  have hos : sds ((es.set k (turnE e z)).map leS ++ [endS]) = sds (es.map leS ++ [endS]) := by
    rw [sds_app, sds_app]
    congr 1
    unfold sds
    rw [List.flatMap_map, List.flatMap_map]
    exact flat_set_same _ es k e _ hk (leS_turn e z)
  refine ⟨(hks m (Ne.symm n1)).trans h.var, ?_, ?_, ?_, fun x hx => ?_, ?_, h.kv, h.bel.setCell ly.bv _, h.lo⟩
  · rw [hos]
    have := own_at13 (w' := W.setCell ⟨e.gv, 0, none⟩ (.int .u8 z)) h.os fun q hq => hks q (fun f => n2 (by rw [hq, f]))
    simpa using this
  · rw [map_set_same leK es k e _ hk (leK_turn e z), List.length_set]
    exact own_at13 h.ok fun q hq => hks q (fun f => n3 (by rw [hq, f]))
  · rw [map_set_same leV es k e _ hk (leV_turn e z), List.length_set]
    exact own_at13 h.ov fun q hq => hks q (fun f => n4 (by rw [hq, f]))
  · obtain ⟨j, hj⟩ := List.mem_iff_getElem?.1 hx
    by_cases hjk : k = j
    · subst hjk
      rw [List.getElem?_set_self hkl] at hj
      obtain rfl := Option.some.inj hj
      have hne := nd_own h.nd hk
      refine ⟨ly.k.same (hks _ hne), ?_, ly.bk, ly.bv, ly.ck, ?_⟩
      · have hy := ly.v.set (i := 0) (z := z) (by omega) hz
        show Yr _ e.gv ((e.s.v.set 0 z).length + 2) (e.s.v.set 0 z ++ [163, 164])
        rw [List.length_set]
        have : (e.s.v ++ [163, 164]).set 0 z = e.s.v.set 0 z ++ [163, 164] := by
          cases hvv : e.s.v with
          | nil => rw [hvv] at hv; simp at hv
          | cons a b => rfl
        rw [this] at hy
        exact hy
      · show (e.s.v.set 0 z).length + 2 ≤ e.vc ∧ _
        rw [List.length_set]
        exact ly.cv
    · rw [List.getElem?_set_ne hjk] at hj
      have lj := h.y x (List.mem_of_getElem? hj)
      have hdis : x.gk ≠ e.gv ∧ x.gv ≠ e.gv := by
        by_cases hlt : j < k
        · have := nd_at h.nd hj hk hlt
          exact ⟨this.2.1, this.2.2.2⟩
        · have := nd_at h.nd hk hj (by omega)
          exact ⟨this.2.2.1.symm, this.2.2.2.symm⟩
      exact lj.same (hks _ hdis.1) (hks _ hdis.2)
  · rw [flat_set_same leB es k e _ hk (leB_turn e z)]
    exact h.nd
/-- The copy, its k-th value turned. -/
theorem S2.turn {w W : World} {v : Value} {ds : List SD} {d : SD} {k g : Nat} {z : Int} (h : S2 w W v ds k g) (hk : ds[k]? = some d) (hv : 0 < d.s.v.length) (hz : 0 ≤ z ∧ z ≤ 255) : ∃ a c, v = .slice a ds.length c ∧ Sl (W.setCell ⟨g, 0, none⟩ (.int .u8 z)) (fun x => w.heap.size ≤ x) a ds.length ((ds.set k (turnD d z)).map (·.s)) := by
  obtain ⟨dk, h1, h2, h3⟩ := h.y
  obtain rfl : dk = d := by rw [hk] at h1; exact (Option.some.inj h1).symm
  have hkl := (List.getElem?_eq_some_iff.1 hk).1
  have hks : ∀ x, x ≠ g → (W.setCell ⟨g, 0, none⟩ (.int .u8 z)).heap[x]? = W.heap[x]? := fun x hx => Below.heap_setCell _ _ _ _ hx
  have hno : v.ownBlock ≠ some g := Yr.ne h.sw.own h3 (by decide)
  have hlo := h.lo
  have hos : sds (ds.set k (turnD dk z)) = sds ds := flat_set_same _ ds k dk _ hk (sdc_turn dk z)
  have how : (W.setCell ⟨g, 0, none⟩ (.int .u8 z)).ownsRow w.heap.size 37 3 v (ds.set k (turnD dk z)).length (sds (ds.set k (turnD dk z))) := by
    rw [hos, List.length_set]
    exact own_at13 h.sw.own fun q hq => hks q (fun f => hno (by rw [hq, f]))
  have hlow : ∀ {a : Option Addr} {n c : Nat} {zs : List Int}, Vs W (fun x => w.heap.size ≤ x ∧ v.ownBlock ≠ some x) a n c zs → Vs W (fun x => v.ownBlock ≠ some x ∧ x ≠ g) a n c zs → Vs (W.setCell ⟨g, 0, none⟩ (.int .u8 z)) (fun x => w.heap.size ≤ x) a n c zs := fun {a n c zs} x1 x2 => by
    have x3 := x2.step (w' := W.setCell ⟨g, 0, none⟩ (.int .u8 z)) fun x _ hh _ => hks x hh.2
    exact ⟨x3.bs, x3.nc, x3.cm, x3.nil, fun ad e hn => (x1.lies ad e hn).1⟩
  obtain ⟨a, c, hv', hsl, -, -, -⟩ := Sl.ofOwn (V := fun x => w.heap.size ≤ x) how (fun x hx => by
    obtain ⟨j, hj⟩ := List.mem_iff_getElem?.1 hx
    by_cases hjk : k = j
    · subst hjk
      rw [List.getElem?_set_self hkl] at hj
      obtain rfl := Option.some.inj hj
      have hsv := h.sw.sv dk (List.mem_of_getElem? hk)
      refine ⟨hlow hsv.1 (h.ks dk (List.mem_of_getElem? hk)), ?_⟩
      show Vs _ _ dk.va (dk.s.v.set 0 z).length dk.vc (dk.s.v.set 0 z)
      rw [List.length_set, h2]
      have := (h3.set (i := 0) (z := z) hv hz).vs (c := dk.vc) hsv.2.nc hsv.2.cm
      exact this.wide fun x _ hx => by rw [hx]; exact hlo
    · rw [List.getElem?_set_ne hjk] at hj
      have hm := List.mem_of_getElem? hj
      have hsv := h.sw.sv x hm
      exact ⟨hlow hsv.1 (h.ks x hm), hlow hsv.2 (h.vs j x hj (Ne.symm hjk))⟩) (fun x hx => hx)
  rw [List.length_set] at hv' hsl
  exact ⟨a, c, hv', hsl⟩
theorem map_turn {ds : List SD} {l : List Sx} {k : Nat} {d : SD} {z : Int} (h : ds.map (·.s) = l) (hk : ds[k]? = some d) : (ds.set k (turnD d z)).map (·.s) = l.set k (turnS (l.getD k default) z) := by
  subst h
  rw [List.map_set]
  simp [turnD, List.getD, hk]
theorem mapE_turn {es : List LE} {l : List Sx} {k : Nat} {e : LE} {z : Int} (h : es.map (·.s) = l) (hk : es[k]? = some e) : (es.set k (turnE e z)).map (·.s) = l.set k (turnS (l.getD k default) z) := by
  subst h
  rw [List.map_set]
  simp [turnE, List.getD, hk]
theorem short_turn {l : List Sx} {k : Nat} {z : Int} (hk : k < l.length) (h : ∀ s ∈ l, s.k.length ≤ 2000 ∧ s.v.length ≤ 2000) : ∀ s ∈ l.set k (turnS (l.getD k default) z), s.k.length ≤ 2000 ∧ s.v.length ≤ 2000 := by
  intro s hs
  rcases List.mem_or_eq_of_mem_set hs with h1 | rfl
  · exact h s h1
  · have := h _ (getD_mem hk)
    simpa [turnS] using this
end Go.Proofs.Ytnmklleoilicdaa
