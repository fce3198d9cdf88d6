import Derived.Test.YthflghjmpellpaaLT3
namespace Go.Proofs.Ythflghjmpellpaa
open Go.RowKit
set_option linter.unusedVariables false
set_option maxRecDepth 100000

theorem her_take : ∀ (B : List Fl) (H : List Bool) (j : Nat), B.length = H.length → j < B.length → her (B.take (j + 1)) (H.take (j + 1)) = her (B.take j) (H.take j) ++ (if H.getD j false then [B.getD j fl0] else [])
  | [], _, j, _, hj => by simp at hj
  | _ :: _, [], j, h, _ => by simp at h
  | x :: B, b :: H, 0, h, hj => by
    show (if b then x :: her (B.take 0) (H.take 0) else her (B.take 0) (H.take 0)) = [] ++ (if b then [x] else [])
    cases b <;> simp [her]
  | x :: B, b :: H, j + 1, h, hj => by
    have ih := her_take B H j (by simpa using h) (by simpa using hj)
    show (if b then x :: her (B.take (j + 1)) (H.take (j + 1)) else her (B.take (j + 1)) (H.take (j + 1))) = (if b then x :: her (B.take j) (H.take j) else her (B.take j) (H.take j)) ++ (if H.getD j false then [B.getD j fl0] else [])
    rw [ih]
    cases b <;> rfl
/-- Bools that can be read. -/
def Hrs (w : World) (a : Option Addr) (n : Nat) (H : List Bool) : Prop := H.length = n ∧ (n = 0 ∨ ∃ b o, a = some ⟨b, o, none⟩ ∧ ∀ i, i < n → w.cell? ⟨b, o + i, none⟩ = some (.bool (H.getD i false)))
/-- The list in the making. -/
structure Ct (w wr : World) (V : Nat → Prop) (B : List Fl) (H : List Bool) (v : Value) (ds : List FD) (j : Nat) : Prop where
  own : wr.ownsRow w.heap.size 34 3 v ds.length (fds ds)
  map : ds.map (·.f) = her (B.take j) (H.take j)
  val : ∀ d ∈ ds, Fv w V d
  bel : Below w.heap.size w wr
  len : ds.length ≤ j
section
variable {w0 w : World} {K V : Nat → Prop} {p : Nat} {B : List Fl} {H : List Bool} {g : Int} {a ha : Option Addr} {n c hc : Nat}
set_option maxHeartbeats 8000000 in
theorem counted_ (h : Hk w0 w K p (her B H) g) (hB : Fls w V a n B) (hV : ∀ k, V k → K k) (hH : Hrs w ha n H) (hn : n ≤ 1000) (hd : ∀ f ∈ B, f.d.length ≤ 65536) :
    Calls Try.prog 12 #[.pointer (some ⟨p, 0, none⟩), .slice a n c, .slice ha n hc] w fun e w' => e = .returned (.bool true) ∧ Below w0.heap.size w0 w' := by
  have HK := hid h
  have HB := hid hB
  have HV := hid hV
  have HH := hid hH
  have HD := hid hd
  have HN := hid hn
  clear h hB hV hH hd hn
  go_enter Try.func12, Try.ntmps12
  go_wp2_with fail
  go_loopw [7, 8] (fun v i wr => ∃ j : Nat, ∃ ds : List FD, j ≤ n ∧ i = .int .i64 j ∧ Hid (Ct w wr V B H v ds j)) (fun v i _ => n - (intOf i).toNat)
  case atStart => exact ⟨0, [], by omega, rfl, World.ownsRow_nil _ _ _ _, by simp [her], fun d hd => by simp at hd, Below.refl _ _, by simp⟩
  case round =>
    obtain ⟨j, ds, hj, rfl, HC⟩ := hrel
    by_cases hlt : j < n
    case neg =>
      have hjI : ¬ (j : Int) < n := by omega
      obtain rfl : j = n := by omega
      have hm : ds.map (·.f) = her B H := by
        have := HC.out.map
        rw [List.take_of_length_le (by rw [HB.out.len]; omega), List.take_of_length_le (by rw [HH.out.1]; omega)] at this
        exact this
      have HM := hid hm
      have hl := HC.out.len
      obtain ⟨a1, c1, e1, hf, _⟩ := Fls.ofOwn (V := fun k => V k ∨ w.heap.size ≤ k) HC.out.own (fun d hd => Vs.wide ((HC.out.val d hd).step fun k hk _ _ => HC.out.bel.block k hk) fun k _ e => .inl e) (fun k e _ _ => .inr e)
      have HF := hid hf
      rw [HM.out] at HF
      subst e1
      obtain ⟨m, HML⟩ : ∃ z, Hid (ds.length = z) := ⟨_, rfl⟩
      rw [HML.out] at HF ⊢
      have HMN : Hid (m ≤ 1000) := by have := HML.out; have := HN.out; show _ ≤ _; omega
      have k1 := underK (HK.out.on HC.out.bel)
      have HBW := hid HC.out.bel
      clear hm hl hf HC
      go_wp2_with fail
      refine k1.mono ?_
      rintro e w3 ⟨a3, n3, c3, hn3, rfl, hf3, h3, g3⟩
      have hin : ∀ f ∈ her B H, f.d.length ≤ 100000 := fun f hf => by have := (h3.ok.byt f hf).2.1; omega
      have k2 := sameFlights_ _ _ a3 a1 n3 c3 m c1 (her B H) (her B H) w3 hf3 (HF.out.below g3) (by have := HF.out.len; have := HMN.out; omega) (by have := HMN.out; omega) hin hin (Q := true) (by simp)
      have HB3 := hid h3.bel
      clear k1 hf3 h3 g3 hin hn3
      go_wp2_with fail
      refine k2.mono ?_
      rintro e w4 ⟨rfl, g4⟩
      have HB4 : Hid (Below w0.heap.size w0 w4) := bel_bel HB3.out HB3.out.size g4
      clear k2 g4
      go_wp2_with fail
      go_ret
      exact ⟨rfl, HB4.out⟩
    case pos =>
      have hjI : (j : Int) < n := by omega
      have hjn : (j : Int) ≤ 1000 := by have := HN.out; omega
      obtain ⟨hb, ho, rfl, hcell⟩ := HH.out.2.resolve_left (by omega)
      have hc1 := (HC.out.bel.cell (World.block_lt_of_cell? w _ (hcell j hlt))).trans (hcell j hlt)
      obtain ⟨bb, off, da, dc, dn, rfl, hdn, z0, z1, z2, hzv⟩ := HB.out.at hlt
      have y0 := (HC.out.bel.cell (World.block_lt_of_cell? w _ z0)).trans z0
      have y1 := (HC.out.bel.cell (World.block_lt_of_cell? w _ z1)).trans z1
      have y2 := (HC.out.bel.cell (World.block_lt_of_cell? w _ z2)).trans z2
      have HTK := hid (her_take B H j (by rw [HB.out.len, HH.out.1]) (by rw [HB.out.len]; exact hlt))
      cases hv : H.getD j false
      · rw [hv] at hc1
        have HHV := hid hv
        clear z0 z1 z2 y0 y1 y2 hzv hcell hv
        go_wp2_with fail
        go_roundw
        case rel => exact ⟨j + 1, ds, by omega, by go_num, HC.out.own, by rw [HTK.out, HHV.out, HC.out.map]; simp, HC.out.val, HC.out.bel, Nat.le_succ_of_le HC.out.len⟩
        case measure => simp [intOf]; omega
      · rw [hv] at hc1
        have HHV := hid hv
        obtain ⟨f, HFE⟩ : ∃ z, Hid (B.getD j fl0 = z) := ⟨_, rfl⟩
        rw [HFE.out] at y0 y1 hzv hdn HTK
        obtain ⟨fno, ft, fd⟩ := f
        simp only at y0 y1 hzv hdn
        have HDN := hid hdn
        have HZV := hid hzv
        have HB6 : Hid (Below wr.heap.size wr (wr.alloc (.cells #[.int .i64 fno, .int .i64 ft, .slice da dn dc] 34))) := (Below.refl _ _).alloc (Nat.le_refl _) _
        have HO6 : Hid ((wr.alloc (.cells #[.int .i64 fno, .int .i64 ft, .slice da dn dc] 34)).ownsRow w.heap.size 34 3 u7 ds.length (fds ds)) := row_same HC.out.own fun k e => HB6.out.block k (HC.out.own.lt k e).2
        have HW6 : Hid (Below w.heap.size w (wr.alloc (.cells #[.int .i64 fno, .int .i64 ft, .slice da dn dc] 34))) := bel_bel HC.out.bel HC.out.bel.size HB6.out
        have HCX : Hid (∀ i u, (fdc ⟨⟨fno, ft, fd⟩, da, dc⟩)[i]? = some u → (wr.alloc (.cells #[.int .i64 fno, .int .i64 ft, .slice da dn dc] 34)).cell? ⟨wr.heap.size, i, none⟩ = some u) := fun i u hi => by
          rw [cell_of_row _ _ i _ 34 (0, 0) (heap_alloc_new wr _)]
          simp only [fdc, fv] at hi
          rw [← HDN.out] at hi
          simpa using hi
        have HL6 : Hid (ds.length ≤ 1000) := by have := HC.out.len; show _ ≤ _; omega
        clear z0 z1 z2 hzv hdn hcell hv
        go_wp2_with (first | (at_builtin; refine wpList_appF rfl _ _ rfl w.heap.size u7 ds rfl HO6.out wr.heap.size ⟨⟨fno, ft, fd⟩, da, dc⟩ rfl HCX.out (by have := HL6.out; omega) HW6.out.size ?_; intro v7 w7 o7 g7 l7; have HO7 := hid o7; have HG7 := hid g7; clear o7 g7 l7) | fail)
        go_roundw
        case rel =>
          refine ⟨j + 1, ds ++ [⟨⟨fno, ft, fd⟩, da, dc⟩], by omega, by go_num, HO7.out, ?_, ?_, HW6.out.grown HG7.out HW6.out.size (fun q e => (HO6.out.lt q e).1), ?_⟩
          · rw [HTK.out, HHV.out, List.map_append, HC.out.map]; simp
          · intro d hd
            rcases List.mem_append.1 hd with hd | hd
            · exact HC.out.val d hd
            · rw [List.mem_singleton.1 hd]
              show Vs w V da fd.length dc fd
              rw [← HDN.out]
              exact HZV.out
          · rw [List.length_append, List.length_singleton]; have := HC.out.len; omega
        case measure => simp [intOf]; omega
end
end Go.Proofs.Ythflghjmpellpaa
