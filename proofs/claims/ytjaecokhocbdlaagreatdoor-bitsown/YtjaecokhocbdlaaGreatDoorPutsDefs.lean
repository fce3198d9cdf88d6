import Derived.Test.YtjaecokhocbdlaaGreatDoorRef
namespace Go.Proofs.YtjaecokhocbdlaaGreatDoor
open Go.RowKit
set_option linter.unusedVariables false

theorem be1_mod (x : Int) : be 1 (x % 256) = be 1 x := by simp [be]
theorem be2_mod (x : Int) : be 2 (x % 65536) = be 2 x := by
  simp only [be]; rw [show x % 65536 / 256 ^ 1 % 256 = x / 256 ^ 1 % 256 from by omega, show x % 65536 / 256 ^ 0 % 256 = x / 256 ^ 0 % 256 from by omega]
theorem be4_mod (x : Int) : be 4 (x % 4294967296) = be 4 x := by
  simp only [be]
  rw [show x % 4294967296 / 256 ^ 3 % 256 = x / 256 ^ 3 % 256 from by omega, show x % 4294967296 / 256 ^ 2 % 256 = x / 256 ^ 2 % 256 from by omega, show x % 4294967296 / 256 ^ 1 % 256 = x / 256 ^ 1 % 256 from by omega, show x % 4294967296 / 256 ^ 0 % 256 = x / 256 ^ 0 % 256 from by omega]

theorem Bs.below {w w' : World} {a : Option Addr} {n : Nat} {zs : List Int} (h : Bs w a n zs) (hb : Below w.heap.size w w') : Bs w' a n zs := h.kept (grown_of_below hb) (Off.none _ _)
theorem put_bs {w : World} {g n W : Nat} {zs : List Int} {x : Int} (h : Row w g (zs ++ be W x)) (hz : zs.length = n) (hb : ∀ z ∈ zs, 0 ≤ z ∧ z ≤ 255) : Bs w (some ⟨g, 0, none⟩) (n + W) (zs ++ be W x) :=
  (h.bs (by intro z hz'; rcases List.mem_append.1 hz' with h | h; exact hb z h; exact be_byte W x z h)).len (by simp [be_length, hz])
theorem put_byte {W : Nat} {zs : List Int} {x : Int} (hb : ∀ z ∈ zs, 0 ≤ z ∧ z ≤ 255) : ∀ z ∈ zs ++ be W x, 0 ≤ z ∧ z ≤ 255 := by
  intro z hz'; rcases List.mem_append.1 hz' with h | h; exact hb z h; exact be_byte W x z h
/-- Two worlds with one memory. -/
structure Drawn (w w' : World) : Prop where
  os : w'.os = w.os
  tape : w'.tape = w.tape
  output : w'.output = w.output
  heap : w'.heap = w.heap
theorem Drawn.below {w w' : World} (h : Drawn w w') : Below w.heap.size w w' := ⟨h.os, h.tape, h.output, by rw [h.heap]; exact Nat.le_refl _, fun k _ => by rw [h.heap]⟩
theorem drawnN (w : World) (n : Nat) : Drawn w (w.drewN n) := ⟨rfl, rfl, rfl, rfl⟩
theorem bel_bel {B : Nat} {a b c : World} (h : Below B a b) (hB : B ≤ b.heap.size) (hg : Below b.heap.size b c) : Below B a c := bel_grow h hB (grown_of_below hg)

theorem same_d (a b : Option Addr) (n c m d : Nat) (xs ys : List Int) (w : World) (hx : Bs w a n xs) (hy : Bs w b m ys) (hn : n ≤ maxLen) (hm : m ≤ maxLen) :
    Calls Tryz.prog 9 #[.slice a n c, .slice b m d] w fun e w' => e = .returned (.bool (sameB xs ys)) ∧ Drawn w w' := by
  refine (same a b n c m d xs ys w hx hy hn hm).mono ?_
  rintro e w' ⟨rfl, nq, rfl⟩
  exact ⟨rfl, drawnN w nq⟩
theorem Bs.drawn {w w' : World} {a : Option Addr} {n : Nat} {zs : List Int} (h : Bs w a n zs) (hd : Drawn w w') : Bs w' a n zs := h.kept (grown_of_below hd.below) (Off.none _ _)
theorem Drawn.at {w w' : World} (h : Drawn w w') (k : Nat) : w'.heap[k]? = w.heap[k]? := by rw [h.heap]
theorem err_whole_d (r g : Nat) (zs : List Int) (p : Int) (w : World) (h : Rd w r g zs p) :
    Calls Tryz.prog 17 #[.pointer (some ⟨r, 0, none⟩)] w fun en w' => en = .returned (.tuple #[.int .i64 0, .int .i64 p]) ∧ Drawn w w' := by
  refine (err_whole r g zs p w h).mono ?_
  rintro e w' ⟨rfl, nq, rfl⟩
  exact ⟨rfl, drawnN w nq⟩
theorem err_broken_d (r : Nat) (p e : Int) (w : World) (h : Rb w r p e) :
    Calls Tryz.prog 17 #[.pointer (some ⟨r, 0, none⟩)] w fun en w' => en = .returned (.tuple #[.int .i64 e, .int .i64 p]) ∧ Drawn w w' := by
  refine (err_broken r p e w h).mono ?_
  rintro e w' ⟨rfl, nq, rfl⟩
  exact ⟨rfl, drawnN w nq⟩
theorem left_len (r g L : Nat) (zs : List Int) (p : Int) (w : World) (h : Rd w r g zs p) (hL : zs.length = L) :
    Calls Tryz.prog 13 #[.pointer (some ⟨r, 0, none⟩)] w fun en w' => en = .returned (.int .i64 L) ∧ w' = w := by
  subst hL; exact left_whole r g zs p w h
theorem Rd.drawn {w w' : World} {r g : Nat} {zs : List Int} {p : Int} (h : Rd w r g zs p) (hd : Drawn w w') : Rd w' r g zs p := h.kept (hd.at r) (fun _ => hd.at g)
theorem Rb.drawn {w w' : World} {r : Nat} {p e : Int} (h : Rb w r p e) (hd : Drawn w w') : Rb w' r p e := h.kept (hd.at r)
/-- SameBytes of two lists that are one. -/
theorem same_yes (a b : Option Addr) (n c m d : Nat) (xs : List Int) (w : World) (hx : Bs w a n xs) (hy : Bs w b m xs) (hn : n ≤ 2000000) (hm : m ≤ 2000000) :
    Calls Tryz.prog 9 #[.slice a n c, .slice b m d] w fun e w' => e = .returned (.bool true) ∧ Drawn w w' := by
  refine (same a b n c m d xs xs w hx hy (by unfold maxLen; omega) (by unfold maxLen; omega)).mono ?_
  rintro e w' ⟨rfl, nq, rfl⟩
  exact ⟨by rw [sameB_self], drawnN w nq⟩

end Go.Proofs.YtjaecokhocbdlaaGreatDoor
