import Derived.Test.YtmgoabedickooaaGreatDoorL2
import Derived.Test.YtmgoabedickooaaGreatDoorQ9
namespace Go.Proofs.YtmgoabedickooaaGreatDoor
set_option maxRecDepth 100000
open Go.RowKit
set_option linter.unusedVariables false

theorem RS.bel {b : Nat} {w w' : World} {r g : Nat} {l : List Int} {p e : Int} (h : RS w r g l p e) (hb : Below b w w') (hr : r < b) (hg : g < b) : RS w' r g l p e := by
  rcases h with ⟨h0, h⟩ | h
  · exact .inl ⟨h0, h.kept (hb.block r hr) (fun _ => hb.block g hg)⟩
  · exact .inr (h.kept (hb.block r hr))
theorem own_from {w w' : World} {B e s n : Nat} {v : Value} {xs : List Value} (h : w.ownsRow B e s v n xs) (ho : ∀ k, B ≤ k → w'.heap[k]? = w.heap[k]?) : w'.ownsRow B e s v n xs := by
  obtain ⟨h1, h2⟩ := h
  refine ⟨h1, ?_⟩
  rcases h2 with h2 | ⟨g, cap, cur, e1, hb, hg, r⟩
  · exact .inl h2
  · exact .inr ⟨g, cap, cur, e1, hb, by rw [ho g hb]; exact hg, r⟩
def slen : Value → Nat
  | .slice _ n _ => n
  | _ => 0
theorem own_slen {w : World} {B e s n : Nat} {v : Value} {xs : List Value} (h : w.ownsRow B e s v n xs) : slen v = n := by
  rcases h.2 with ⟨rfl, h2⟩ | ⟨g, cap, cur, rfl, _⟩
  · exact h2.symm
  · rfl
theorem leftAny (r g : Nat) (l : List Int) (p : Int) (w : World) (h : RS w r g l p 0) :
    Calls Tryz.prog 173 #[.pointer (some ⟨r, 0, none⟩)] w fun en w' => en = .returned (.int .i64 l.length) ∧ w' = w := by
  rcases h with ⟨_, h⟩ | h
  · exact left_whole r g l p w h
  · exact absurd h.2 (by decide)
def t8 (x : Nat) : List Nat := dgs x 1
def t16 (x : Nat) : List Nat := hx (x / 256) ++ hx (x % 256)
/-- The number that the i-th W bytes are. -/
def vw (W : Nat) (l : List Int) (i : Nat) : Nat := (val ((l.drop (W * i)).take W)).toNat
def wt (t : Nat → List Nat) (W : Nat) (l : List Int) (j : Nat) : List (List Nat) := (List.range j).map fun i => t (vw W l i)
theorem wt_length (t : Nat → List Nat) (W : Nat) (l : List Int) (j : Nat) : (wt t W l j).length = j := by simp [wt]
theorem wt_succ (t : Nat → List Nat) (W : Nat) (l : List Int) (j : Nat) : wt t W l (j + 1) = wt t W l j ++ [t (vw W l j)] := by
  simp [wt, List.range_succ]
theorem t8_le (x : Nat) (h : x < 256) : (sb (t8 x)).size ≤ 4 := by rw [sb_size]; have := dgs_three x h; unfold t8; omega
theorem t16_le (x : Nat) : (sb (t16 x)).size ≤ 4 := by rw [sb_size]; unfold t16 hx; simp
theorem vwLt8 {l : List Int} (hb : ∀ z ∈ l, 0 ≤ z ∧ z ≤ 255) (i : Nat) (h : 1 * i + 1 ≤ l.length) : val ((l.drop (1 * i)).take 1) = ((vw 1 l i : Nat) : Int) ∧ vw 1 l i < 256 := by
  have h1 := valLt8 (zs := l.drop (1 * i)) (by rw [List.length_drop]; omega) (fun z hz => hb z (List.mem_of_mem_drop (List.mem_of_mem_take hz)))
  unfold vw
  omega
set_option maxHeartbeats 1000000 in
theorem written8_ (r g m : Nat) (l : List Int) (w : World) (h : RS w r g l 0 0) (hl : l.length = 1 * m) (hm : m ≤ 16) (hb : ∀ z ∈ l, 0 ≤ z ∧ z ≤ 255) (hgr : g < r) (w0 : World) (hT : Tb w0) (hr0 : w0.heap.size ≤ r) (hB0 : Below w0.heap.size w0 w) :
    Calls Tryz.prog 122 #[.pointer (some ⟨r, 0, none⟩), .func (.func 123) #[] #[]] w fun e w' => ∃ v, e = .returned v ∧ w'.ownsRow w.heap.size 9 1 v m (tv (wt t8 1 l m)) ∧ Below r w w' := by
  obtain ⟨i5, hi, hz0, hz1, hz2⟩ := info_parts info_s
  have hrw := h.lt
  go_enter Tryz.func122, Tryz.ntmps122
  go_wp2_with fail
  go_loopw [5] (fun v wr => ∃ j : Nat, j ≤ m ∧ RS wr r g (l.drop (1 * j)) ((1 * j : Nat) : Int) 0 ∧ wr.ownsRow w.heap.size 9 1 v j (tv (wt t8 1 l j)) ∧ Below r w wr) (fun v _ => m - slen v)
  case atStart => exact ⟨0, by omega, h, World.ownsRow_nil _ _ _ _, Below.refl _ _⟩
  case round =>
    rename_i v _
    obtain ⟨j, hj, rs, hown, B0⟩ := hrel
    have hsl := own_slen hown
    have kL := fun w rs => leftAny r g (l.drop (1 * j)) ((1 * j : Nat) : Int) w rs
    have hlen : (l.drop (1 * j)).length = 1 * (m - j) := by rw [List.length_drop]; omega
    rw [hlen] at kL
    by_cases hlt : j < m
    · have hI : (0 : Int) < ((1 * (m - j) : Nat) : Int) := by omega
      obtain ⟨hv, hvl⟩ := vwLt8 hb j (by omega)
      obtain ⟨y1, y2, y3, y4⟩ := g_yes (W := 1) (l := l.drop (1 * j)) (p := ((1 * j : Nat) : Int)) (by omega)
      have kG := fun w rs => getAny8 r g (l.drop (1 * j)) ((1 * j : Nat) : Int) 0 w rs (by omega) (by omega)
      rw [y1, y2, y3, y4, hv, List.drop_drop] at kG
      have kT := fun w hT => decimal_ (vw 1 l j) w hvl hT
      have HSS : Hid (tv (wt t8 1 l j) ++ [.string (sb (t8 (vw 1 l j)))] = tv (wt t8 1 l (j + 1))) := by
        show _ = _
        rw [wt_succ]
        simp [tv]
      have kT2 : ∀ w, Tb w → Calls Tryz.prog 123 #[.int .u8 (vw 1 l j : Nat)] w fun e w' => e = .returned (.string (sb (t8 (vw 1 l j)))) ∧ Below w.heap.size w w' := kT
      have hrs : ((1 * j : Nat) : Int) + (1 : Nat) = ((1 * (j + 1) : Nat) : Int) := by omega
      have hrd : 1 * j + 1 = 1 * (j + 1) := by omega
      rw [hrs, hrd] at kG
      clear kT hv y1 y2 y3 y4 hlen
      generalize sb (t8 (vw 1 l j)) = X at *
      generalize vw 1 l j = x at *
      generalize (1 * (m - j) : Nat) = q at *
      go_wp2_with fail
      refine (kL _ rs).mono ?_
      rintro e w1 ⟨rfl, rfl⟩
      clear kL
      go_wp2_with fail
      refine (kG _ rs).mono ?_
      rintro e w2 ⟨rfl, rs2, ho⟩
      replace hown := own_from hown (fun k hk => ho.block k (by omega))
      replace B0 := bel_only B0 ho (Nat.le_refl _)
      clear rs kG ho
      have hs0 := B0.size
      have hT2 : Tb w2 := hT.kept (hB0.trans (B0.mono hr0))
      go_wp2_with fail
      refine (kT2 _ hT2).mono ?_
      rintro e w3 ⟨rfl, g3⟩
      replace hown := own_bel7 hown g3
      replace rs2 := rs2.kept g3
      replace B0 := bel_bel B0 (by omega) g3
      have hs := Nat.le_trans hs0 g3.size
      clear kT2 hT2 g3
      have HO := hid hown
      go_wp2_with (at_builtin; refine wpList_append_own _ rfl _ _ 108 rfl w.heap.size 9 i5 (.string ⟨#[]⟩) 1 16 Tryz.underlying108 hi hz0 hz1 hz2 rfl (by decide) _ _ _ rfl (hown.alloc _) ⟨w3.heap.size, 0, none⟩ 1 1 [.string X] rfl rfl ?c1 ?c2 ?c3 ?c4 ?c5 ?_)
      case c1 => exact one_src _ _ _
      case c2 => intro u hu; rw [List.mem_singleton.1 hu]; rfl
      case c3 => unfold maxLen; omega
      case c4 => omega
      case c5 => simp <;> omega
      intro v' w6 hown' hgrow _
      have hown2 : w6.ownsRow w.heap.size 9 1 v' (j + 1) (tv (wt t8 1 l (j + 1))) := by rw [← HSS.out]; exact hown'
      have B3 : Below w.heap.size w3 w6 := ((Below.refl _ w3).alloc (by omega) _).grown hgrow (by simp; omega) fun p hp => (HO.out.lt p hp).1
      replace rs2 := rs2.bel B3 hrw (by omega)
      replace B0 := B0.trans (B3.mono (by omega))
      have hsl2 := own_slen hown2
      clear hown' hgrow HO HSS hown B3
      go_wp2_with fail
      go_roundw
      case rel => exact ⟨j + 1, by omega, rs2, hown2, B0⟩
      case measure => simp [hsl2, hsl] <;> omega
    · obtain rfl : j = m := by omega
      have e0 : 1 * (j - j) = 0 := by omega
      rw [e0] at kL
      clear hlen e0
      go_wp2_with fail
      refine (kL _ rs).mono ?_
      rintro e w1 ⟨rfl, rfl⟩
      clear kL
      go_wp2_with fail
      go_ret
      exact ⟨_, rfl, hown, B0⟩
theorem vwLt16 {l : List Int} (hb : ∀ z ∈ l, 0 ≤ z ∧ z ≤ 255) (i : Nat) (h : 2 * i + 2 ≤ l.length) : val ((l.drop (2 * i)).take 2) = ((vw 2 l i : Nat) : Int) ∧ vw 2 l i < 65536 := by
  have h1 := valLt16 (zs := l.drop (2 * i)) (by rw [List.length_drop]; omega) (fun z hz => hb z (List.mem_of_mem_drop (List.mem_of_mem_take hz)))
  unfold vw
  omega
set_option maxHeartbeats 1000000 in
theorem written16_ (r g m : Nat) (l : List Int) (w : World) (h : RS w r g l 0 0) (hl : l.length = 2 * m) (hm : m ≤ 16) (hb : ∀ z ∈ l, 0 ≤ z ∧ z ≤ 255) (hgr : g < r) (w0 : World) (hT : Tb w0) (hr0 : w0.heap.size ≤ r) (hB0 : Below w0.heap.size w0 w) :
    Calls Tryz.prog 124 #[.pointer (some ⟨r, 0, none⟩), .func (.func 125) #[] #[]] w fun e w' => ∃ v, e = .returned v ∧ w'.ownsRow w.heap.size 9 1 v m (tv (wt t16 2 l m)) ∧ Below r w w' := by
  obtain ⟨i5, hi, hz0, hz1, hz2⟩ := info_parts info_s
  have hrw := h.lt
  go_enter Tryz.func124, Tryz.ntmps124
  go_wp2_with fail
  go_loopw [5] (fun v wr => ∃ j : Nat, j ≤ m ∧ RS wr r g (l.drop (2 * j)) ((2 * j : Nat) : Int) 0 ∧ wr.ownsRow w.heap.size 9 1 v j (tv (wt t16 2 l j)) ∧ Below r w wr) (fun v _ => m - slen v)
  case atStart => exact ⟨0, by omega, h, World.ownsRow_nil _ _ _ _, Below.refl _ _⟩
  case round =>
    rename_i v _
    obtain ⟨j, hj, rs, hown, B0⟩ := hrel
    have hsl := own_slen hown
    have kL := fun w rs => leftAny r g (l.drop (2 * j)) ((2 * j : Nat) : Int) w rs
    have hlen : (l.drop (2 * j)).length = 2 * (m - j) := by rw [List.length_drop]; omega
    rw [hlen] at kL
    by_cases hlt : j < m
    · have hI : (0 : Int) < ((2 * (m - j) : Nat) : Int) := by omega
      obtain ⟨hv, hvl⟩ := vwLt16 hb j (by omega)
      obtain ⟨y1, y2, y3, y4⟩ := g_yes (W := 2) (l := l.drop (2 * j)) (p := ((2 * j : Nat) : Int)) (by omega)
      have kG := fun w rs => getAny16 r g (l.drop (2 * j)) ((2 * j : Nat) : Int) 0 w rs (by omega) (by omega)
      rw [y1, y2, y3, y4, hv, List.drop_drop] at kG
      have kT := fun w hT => pair_ (vw 2 l j) w hvl hT
      have HSS : Hid (tv (wt t16 2 l j) ++ [.string (sb (t16 (vw 2 l j)))] = tv (wt t16 2 l (j + 1))) := by
        show _ = _
        rw [wt_succ]
        simp [tv]
      have kT2 : ∀ w, Tb w → Calls Tryz.prog 125 #[.int .u16 (vw 2 l j : Nat)] w fun e w' => e = .returned (.string (sb (t16 (vw 2 l j)))) ∧ Below w.heap.size w w' := kT
      have hrs : ((2 * j : Nat) : Int) + (2 : Nat) = ((2 * (j + 1) : Nat) : Int) := by omega
      have hrd : 2 * j + 2 = 2 * (j + 1) := by omega
      rw [hrs, hrd] at kG
      clear kT hv y1 y2 y3 y4 hlen
      generalize sb (t16 (vw 2 l j)) = X at *
      generalize vw 2 l j = x at *
      generalize (2 * (m - j) : Nat) = q at *
      go_wp2_with fail
      refine (kL _ rs).mono ?_
      rintro e w1 ⟨rfl, rfl⟩
      clear kL
      go_wp2_with fail
      refine (kG _ rs).mono ?_
      rintro e w2 ⟨rfl, rs2, ho⟩
      replace hown := own_from hown (fun k hk => ho.block k (by omega))
      replace B0 := bel_only B0 ho (Nat.le_refl _)
      clear rs kG ho
      have hs0 := B0.size
      have hT2 : Tb w2 := hT.kept (hB0.trans (B0.mono hr0))
      go_wp2_with fail
      refine (kT2 _ hT2).mono ?_
      rintro e w3 ⟨rfl, g3⟩
      replace hown := own_bel7 hown g3
      replace rs2 := rs2.kept g3
      replace B0 := bel_bel B0 (by omega) g3
      have hs := Nat.le_trans hs0 g3.size
      clear kT2 hT2 g3
      have HO := hid hown
      go_wp2_with (at_builtin; refine wpList_append_own _ rfl _ _ 108 rfl w.heap.size 9 i5 (.string ⟨#[]⟩) 1 16 Tryz.underlying108 hi hz0 hz1 hz2 rfl (by decide) _ _ _ rfl (hown.alloc _) ⟨w3.heap.size, 0, none⟩ 1 1 [.string X] rfl rfl ?c1 ?c2 ?c3 ?c4 ?c5 ?_)
      case c1 => exact one_src _ _ _
      case c2 => intro u hu; rw [List.mem_singleton.1 hu]; rfl
      case c3 => unfold maxLen; omega
      case c4 => omega
      case c5 => simp <;> omega
      intro v' w6 hown' hgrow _
      have hown2 : w6.ownsRow w.heap.size 9 1 v' (j + 1) (tv (wt t16 2 l (j + 1))) := by rw [← HSS.out]; exact hown'
      have B3 : Below w.heap.size w3 w6 := ((Below.refl _ w3).alloc (by omega) _).grown hgrow (by simp; omega) fun p hp => (HO.out.lt p hp).1
      replace rs2 := rs2.bel B3 hrw (by omega)
      replace B0 := B0.trans (B3.mono (by omega))
      have hsl2 := own_slen hown2
      clear hown' hgrow HO HSS hown B3
      go_wp2_with fail
      go_roundw
      case rel => exact ⟨j + 1, by omega, rs2, hown2, B0⟩
      case measure => simp [hsl2, hsl] <;> omega
    · obtain rfl : j = m := by omega
      have e0 : 2 * (j - j) = 0 := by omega
      rw [e0] at kL
      clear hlen e0
      go_wp2_with fail
      refine (kL _ rs).mono ?_
      rintro e w1 ⟨rfl, rfl⟩
      clear kL
      go_wp2_with fail
      go_ret
      exact ⟨_, rfl, hown, B0⟩
end Go.Proofs.YtmgoabedickooaaGreatDoor
