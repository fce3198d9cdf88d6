import Derived.Test.YtghehfhkiknjhaaTE
namespace Go.Proofs.Ytghehfhkiknjhaa
set_option maxRecDepth 100000
open Go.RowKit Go.Maps
set_option linter.unusedVariables false

/-! What stands ahead of a key. -/
def hd (s : Sx) : List Int := (if s.g then 0 else 1) :: (be 1 s.k.length ++ be 2 s.v.length)
theorem enc1_hd (s : Sx) : enc1 s = hd s ++ s.k ++ s.v := by
  unfold enc1 hd
  simp
theorem hd_byte (s : Sx) : Okb (hd s) := by
  intro z hz
  unfold hd at hz
  rcases List.mem_cons.1 hz with e | hz
  · subst e; split <;> omega
  · rcases List.mem_append.1 hz with hz | hz
    · exact be_byte _ _ z hz
    · exact be_byte _ _ z hz
theorem hd_length (s : Sx) : (hd s).length = 4 := by
  unfold hd
  rw [List.length_cons, List.length_append, be_length, be_length]
theorem byte_app {xs ys : List Int} (h : Okb xs) (h' : Okb ys) : Okb (xs ++ ys) := fun z hz => (List.mem_append.1 hz).elim (h z) (h' z)
theorem byte_nil : Okb [] := fun z hz => by simp at hz
set_option maxHeartbeats 1000000 in
theorem head_ (ka va : Option Addr) (kc vc n m : Nat) (s : Sx) (w : World) (hn : n = s.k.length) (hm : m = s.v.length) (h : mayS s = true) :
    Calls Try.prog 45 #[.agg #[.slice ka n kc, .slice va m vc, .bool s.g]] w fun e w' => ∃ g, e = .returned (.slice (some ⟨g, 0, none⟩) 4 4) ∧ Row w' g (hd s) ∧ w.heap.size ≤ g ∧ Below w.heap.size w w' := by
  have hk := mayS_key h
  have hv := mayS_val h
  rw [← hn] at hk
  rw [← hm] at hv
  obtain ⟨x, HX⟩ : ∃ x : Int, Hid (x = if s.g then 0 else 1) := ⟨_, rfl⟩
  have HH : Hid (hd s = [] ++ be 1 x ++ be 1 n ++ be 2 m) := by
    show hd s = _
    unfold hd
    rw [HX.out, hn, hm]
    cases s.g <;> simp [be1]
  have hx : 0 ≤ x ∧ x ≤ 1 := by rw [HX.out]; split <;> omega
  rw [HH.out]
  obtain ⟨g, HG⟩ : ∃ g, Hid (s.g = g) := ⟨_, rfl⟩
  rw [HG.out]
  rw [HG.out] at HX
  have w1 : IntKind.u8.wrap (n : Int) = n := by simp [IntKind.wrap, IntKind.bits, IntKind.signed]; omega
  have w2 : IntKind.u16.wrap (m : Int) = m := by simp [IntKind.wrap, IntKind.bits, IntKind.signed]; omega
  have k1 := fun wx => putW8 none 0 0 [] x wx ⟨rfl, by simp, .inl rfl⟩ (by omega) hx.1 (by omega)
  have k2 := fun (b : Nat) wx (h1 : Row wx b ([] ++ be 1 x)) => putW8 (some ⟨b, 0, none⟩) 1 1 ([] ++ be 1 x) (n : Int) wx ((h1.bs (be_byte 1 x)).len (by simp [be_length])) (by omega) (by omega) (by omega)
  have k3 := fun (b : Nat) wx (h1 : Row wx b ([] ++ be 1 x ++ be 1 n)) => putW16 (some ⟨b, 0, none⟩) 2 2 ([] ++ be 1 x ++ be 1 n) (m : Int) wx ((h1.bs (byte_app (byte_app byte_nil (be_byte 1 x)) (be_byte 1 n))).len (by simp [be_length])) (by omega) (by omega) (by omega)
  have hB := (Below.refl w.heap.size w).alloc (Nat.le_refl _) (.cells #[.slice ka n kc, .slice va m vc, .bool g] 37)
  clear hn hm h
  cases g with
  | true =>
    obtain rfl : x = 0 := by rw [HX.out]; rfl
    clear hx HX HH HG
    simp only [Nat.zero_add] at k1
    obtain ⟨L1, HL1⟩ : ∃ L : List Int, Hid ([] ++ be 1 (0 : Int) = L) := ⟨[] ++ be 1 (0 : Int), rfl⟩
    rw [HL1.out] at k1 k2 k3 ⊢
    obtain ⟨L2, HL2⟩ : ∃ L, Hid (L1 ++ be 1 (n : Int) = L) := ⟨_, rfl⟩
    rw [HL2.out] at k2 k3 ⊢
    obtain ⟨L3, HL3⟩ : ∃ L, Hid (L2 ++ be 2 (m : Int) = L) := ⟨_, rfl⟩
    rw [HL3.out] at k3 ⊢
    go_enter Try.func45, Try.ntmps45
    go_wp2_with fail
    refine (k1 _).mono ?_
    rintro e w3 ⟨rfl, r3, g3⟩
    have B3 := bel_grow hB hB.size g3
    have hnew := heap_alloc_new w (.cells #[.slice ka n kc, .slice va m vc, .bool true] 37)
    have h3 : w3.heap[w.heap.size]? = some (.cells #[.slice ka n kc, .slice va m vc, .bool true] 37 (0, 0)) := (g3.block w.heap.size (by simp) (by simp)).trans hnew
    have c0 : w3.cell? ⟨w.heap.size, 0, none⟩ = some (.slice ka n kc) := by rw [cell_of_row w3 w.heap.size 0 _ 37 (0, 0) h3]; rfl
    have R3 := hid r3
    have HB3 := hid B3
    have H3 := hid h3
    have HS3 : Hid (w.heap.size + 1 ≤ w3.heap.size) := by have := g3.size; simp at this; exact this
    clear r3 g3 B3 h3 hnew k1 hB
    generalize (w.alloc (.cells #[.slice ka n kc, .slice va m vc, .bool true] 37)).heap.size = q3 at *
    go_wp2_with fail
    refine (k2 q3 w3 R3.out).mono ?_
    rintro e w4 ⟨rfl, r4, g4⟩
    have HB4 := hid (bel_grow HB3.out HB3.out.size g4)
    have h4 := (g4.block w.heap.size (by have := HS3.out; omega) (by simp)).trans H3.out
    have c1 : w4.cell? ⟨w.heap.size, 1, none⟩ = some (.slice va m vc) := by rw [cell_of_row w4 w.heap.size 1 _ 37 (0, 0) h4]; rfl
    have R4 := hid r4
    have HS4 : Hid (w3.heap.size ≤ w4.heap.size) := g4.size
    have HS34 : Hid (w.heap.size ≤ w3.heap.size) := HB3.out.size
    clear r4 g4 h4 k2 R3 H3 c0 HB3
    generalize w3.heap.size = q4 at *
    go_wp2_with fail
    refine (k3 q4 w4 R4.out).mono ?_
    rintro e w5 ⟨rfl, r5, g5⟩
    have HB5 := hid (bel_grow HB4.out HB4.out.size g5)
    have R5 := hid r5
    clear r5 g5 k3 R4 c1
    go_wp2_with fail
    go_ret
    exact ⟨_, rfl, R5.out, HB4.out.size, HB5.out⟩
  | false =>
    obtain rfl : x = 1 := by rw [HX.out]; rfl
    clear hx HX HH HG
    simp only [Nat.zero_add] at k1
    obtain ⟨L1, HL1⟩ : ∃ L : List Int, Hid ([] ++ be 1 (1 : Int) = L) := ⟨[] ++ be 1 (1 : Int), rfl⟩
    rw [HL1.out] at k1 k2 k3 ⊢
    obtain ⟨L2, HL2⟩ : ∃ L, Hid (L1 ++ be 1 (n : Int) = L) := ⟨_, rfl⟩
    rw [HL2.out] at k2 k3 ⊢
    obtain ⟨L3, HL3⟩ : ∃ L, Hid (L2 ++ be 2 (m : Int) = L) := ⟨_, rfl⟩
    rw [HL3.out] at k3 ⊢
    go_enter Try.func45, Try.ntmps45
    go_wp2_with fail
    refine (k1 _).mono ?_
    rintro e w3 ⟨rfl, r3, g3⟩
    have B3 := bel_grow hB hB.size g3
    have hnew := heap_alloc_new w (.cells #[.slice ka n kc, .slice va m vc, .bool false] 37)
    have h3 : w3.heap[w.heap.size]? = some (.cells #[.slice ka n kc, .slice va m vc, .bool false] 37 (0, 0)) := (g3.block w.heap.size (by simp) (by simp)).trans hnew
    have c0 : w3.cell? ⟨w.heap.size, 0, none⟩ = some (.slice ka n kc) := by rw [cell_of_row w3 w.heap.size 0 _ 37 (0, 0) h3]; rfl
    have R3 := hid r3
    have HB3 := hid B3
    have H3 := hid h3
    have HS3 : Hid (w.heap.size + 1 ≤ w3.heap.size) := by have := g3.size; simp at this; exact this
    clear r3 g3 B3 h3 hnew k1 hB
    generalize (w.alloc (.cells #[.slice ka n kc, .slice va m vc, .bool false] 37)).heap.size = q3 at *
    go_wp2_with fail
    refine (k2 q3 w3 R3.out).mono ?_
    rintro e w4 ⟨rfl, r4, g4⟩
    have HB4 := hid (bel_grow HB3.out HB3.out.size g4)
    have h4 := (g4.block w.heap.size (by have := HS3.out; omega) (by simp)).trans H3.out
    have c1 : w4.cell? ⟨w.heap.size, 1, none⟩ = some (.slice va m vc) := by rw [cell_of_row w4 w.heap.size 1 _ 37 (0, 0) h4]; rfl
    have R4 := hid r4
    have HS4 : Hid (w3.heap.size ≤ w4.heap.size) := g4.size
    have HS34 : Hid (w.heap.size ≤ w3.heap.size) := HB3.out.size
    clear r4 g4 h4 k2 R3 H3 c0 HB3
    generalize w3.heap.size = q4 at *
    go_wp2_with fail
    refine (k3 q4 w4 R4.out).mono ?_
    rintro e w5 ⟨rfl, r5, g5⟩
    have HB5 := hid (bel_grow HB4.out HB4.out.size g5)
    have R5 := hid r5
    clear r5 g5 k3 R4 c1
    go_wp2_with fail
    go_ret
    exact ⟨_, rfl, R5.out, HB4.out.size, HB5.out⟩
end Go.Proofs.Ytghehfhkiknjhaa
