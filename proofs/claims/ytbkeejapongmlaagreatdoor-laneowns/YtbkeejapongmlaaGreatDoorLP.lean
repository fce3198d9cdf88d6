import Derived.Test.YtbkeejapongmlaaGreatDoorLF
namespace Go.Proofs.YtbkeejapongmlaaGreatDoor
set_option maxRecDepth 100000
open Go.RowKit
set_option linter.unusedVariables false

/-! What each call makes of a lane. -/
def lzero : Ln := ⟨[], 0, 0, 0, 0, 0, 0, 0⟩
def lokL (l : Ln) : Bool := lok l.k.length l.S l.C l.N l.s l.n
def blk (b : Int) : Bool := decide (1 ≤ b ∧ b ≤ 1048576)
def upN (c b : Int) : Int := if blk b then (if 18446744073709551615 - b < c then 18446744073709551615 else c + b) else 0
def abN (l : Ln) : Int := if l.C < l.N then l.N + 1 else l.C + 1
def newL (k : List Int) (S : Int) : Ln := if decide (k.length = 32 ∧ (S = 0 ∨ S = 1)) then ⟨k, S, 1, 0, 0, 0, 0, 0⟩ else lzero
def agnB (l : Ln) : Bool := lokL l && decide (abN l ≤ 2147483647)
def agnL (l : Ln) : Ln := if agnB l then ⟨l.k, l.S, abN l, l.N, 0, 0, l.s, l.n⟩ else lzero
def agnE (l : Ln) : Int := if lokL l then (if abN l ≤ 2147483647 then 0 else 168) else 2
def prpL (l : Ln) : Ln := if agnB l then ⟨l.k, l.S, l.C, abN l, l.D, l.E, l.s, l.n⟩ else lzero
def prpG (l : Ln) : Int := if agnB l then abN l else 0
def resB (l : Ln) (x b : Int) : Bool := lokL l && blk b && decide (l.D ≤ x ∧ x ≤ 18446744073709551614)
def resL (l : Ln) (x b : Int) : Ln := if resB l x b then ⟨l.k, l.S, l.C, l.N, upN x b, l.E, l.s, l.n⟩ else lzero
def ansB (l : Ln) (g c s n b : Int) : Bool := lokL l && blk b && vld s n && lss l.s l.n s n && decide (l.C < g ∧ g ≤ 2147483647 ∧ c ≤ 18446744073709551614)
def ansC (l : Ln) (g : Int) : Int := if g ≤ l.N then 1 else 0
def ansL (l : Ln) (g c s n b : Int) : Ln := if ansB l g c s n b then ⟨l.k, l.S, g, l.N, upN (ansC l g) b, upN c b, s, n⟩ else lzero
def ansN (l : Ln) (g c s n b : Int) : Int := if ansB l g c s n b then ansC l g else 0
def opnB (l : Ln) (g c b : Int) : Bool := lokL l && blk b && decide (l.C < g ∧ g ≤ l.N ∧ c ≤ 18446744073709551614)
def opnL (l : Ln) (g c b : Int) : Ln := if opnB l g c b then ⟨l.k, l.S, g, l.N, upN 1 b, upN c b, l.s, l.n⟩ else lzero
def rseB (l : Ln) (c b : Int) : Bool := lokL l && blk b && decide (l.E ≤ c ∧ c ≤ 18446744073709551614)
def rseL (l : Ln) (c b : Int) : Ln := if rseB l c b then ⟨l.k, l.S, l.C, l.N, l.D, upN c b, l.s, l.n⟩ else lzero
theorem upN_u64 {c : Int} (b : Int) (hc : u64r c) : u64r (upN c b) := by
  unfold upN u64r at *
  split
  · rename_i h
    have := of_decide_eq_true (show decide _ = true from h)
    split <;> omega
  · omega
theorem lzero_ok : lzero.Ok := by
  constructor <;> (simp only [lzero, i64r, u64r]; omega)
theorem lokL_of {l : Ln} (h : lokL l = true) : vld l.s l.n = true ∧ l.k.length = 32 ∧ (l.S = 0 ∨ l.S = 1) ∧ 1 ≤ l.C ∧ l.C ≤ 2147483647 ∧ 0 ≤ l.N ∧ l.N ≤ 2147483647 := of_decide_eq_true h
theorem abN_i64 {l : Ln} (h : lokL l = true) : 2 ≤ abN l ∧ abN l ≤ 2147483648 ∧ l.C < abN l ∧ l.N < abN l := by
  have := lokL_of h
  unfold abN
  split <;> omega
/-- A lane as it is answered: its key is new memory. -/
def Rl (w : World) (R : Ln) (v : Value) (w' : World) : Prop := ∃ ka kc, v = .agg #[.slice ka R.k.length kc, .int .i64 R.S, .int .i64 R.C, .int .i64 R.N, .int .u64 R.D, .int .u64 R.E, .int .i64 R.s, .int .i64 R.n] ∧ Vs w' (fun x => w.heap.size ≤ x) ka R.k.length kc R.k ∧ Below w.heap.size w w'
def Rl1 (w : World) (R : Ln) (e : Ending) (w' : World) : Prop := ∃ v, e = .returned v ∧ Rl w R v w'
def Rl2 (w : World) (R : Ln) (x : Value) (e : Ending) (w' : World) : Prop := ∃ v, e = .returned (.tuple #[v, x]) ∧ Rl w R v w'
def Rl3 (w : World) (R : Ln) (x y : Value) (e : Ending) (w' : World) : Prop := ∃ v, e = .returned (.tuple #[v, x, y]) ∧ Rl w R v w'
/-- A lane that is handed in. -/
structure Li (w : World) (a : Option Addr) (m : Nat) (k : List Int) (S C N D E s n : Int) : Prop where
  k : Bs w a m k
  m : m ≤ 140737488351232
  S : i64r S
  C : i64r C
  N : i64r N
  D : u64r D
  E : u64r E
  s : i64r s
  n : i64r n
theorem Li.on {w w' : World} {a : Option Addr} {m : Nat} {k : List Int} {S C N D E s n : Int} (h : Li w a m k S C N D E s n) (hb : Below w.heap.size w w') : Li w' a m k S C N D E s n := ⟨h.k.below hb, h.m, h.S, h.C, h.N, h.D, h.E, h.s, h.n⟩
/-- What is asked of the nine calls, by their numbers. -/
structure Lc (fv fn fu fa fp fr fw fo fi : Nat) : Prop where
  valid : ∀ (a : Option Addr) (m c : Nat) (k : List Int) (S C N D E s n : Int) (w : World), m ≤ maxLen → i64r s → i64r n → Calls Tryz.prog fv #[.agg #[.slice a m c, .int .i64 S, .int .i64 C, .int .i64 N, .int .u64 D, .int .u64 E, .int .i64 s, .int .i64 n]] w fun e w' => e = .returned (.bool (lok m S C N s n)) ∧ Below w.heap.size w w'
  new : ∀ (a : Option Addr) (m c : Nat) (k : List Int) (S : Int) (w : World), Bs w a m k → m ≤ 140737488351232 → i64r S → Calls Tryz.prog fn #[.slice a m c, .int .i64 S] w fun e w' => Rl1 w (newL k S) e w'
  up : ∀ (c b : Int) (w : World), u64r c → i64r b → Calls Tryz.prog fu #[.int .u64 c, .int .i64 b] w fun e w' => e = .returned (.int .u64 (upN c b)) ∧ Below w.heap.size w w'
  again : ∀ (a : Option Addr) (m c : Nat) (k : List Int) (S C N D E s n : Int) (w : World), Li w a m k S C N D E s n → Calls Tryz.prog fa #[.agg #[.slice a m c, .int .i64 S, .int .i64 C, .int .i64 N, .int .u64 D, .int .u64 E, .int .i64 s, .int .i64 n]] w fun e w' => Rl2 w (agnL ⟨k, S, C, N, D, E, s, n⟩) (.int .i64 (agnE ⟨k, S, C, N, D, E, s, n⟩)) e w'
  propose : ∀ (a : Option Addr) (m c : Nat) (k : List Int) (S C N D E s n : Int) (w : World), Li w a m k S C N D E s n → Calls Tryz.prog fp #[.agg #[.slice a m c, .int .i64 S, .int .i64 C, .int .i64 N, .int .u64 D, .int .u64 E, .int .i64 s, .int .i64 n]] w fun e w' => Rl3 w (prpL ⟨k, S, C, N, D, E, s, n⟩) (.int .i64 (prpG ⟨k, S, C, N, D, E, s, n⟩)) (.int .i64 (agnE ⟨k, S, C, N, D, E, s, n⟩)) e w'
  reserve : ∀ (a : Option Addr) (m c : Nat) (k : List Int) (S C N D E s n x b : Int) (w : World), Li w a m k S C N D E s n → u64r x → i64r b → Calls Tryz.prog fr #[.agg #[.slice a m c, .int .i64 S, .int .i64 C, .int .i64 N, .int .u64 D, .int .u64 E, .int .i64 s, .int .i64 n], .int .u64 x, .int .i64 b] w fun e w' => Rl1 w (resL ⟨k, S, C, N, D, E, s, n⟩ x b) e w'
  answered : ∀ (a : Option Addr) (m c : Nat) (k : List Int) (S C N D E s n g x t u b : Int) (w : World), Li w a m k S C N D E s n → i64r g → u64r x → i64r t → i64r u → i64r b → Calls Tryz.prog fw #[.agg #[.slice a m c, .int .i64 S, .int .i64 C, .int .i64 N, .int .u64 D, .int .u64 E, .int .i64 s, .int .i64 n], .int .i64 g, .int .u64 x, .agg #[.int .i64 t, .int .i64 u], .int .i64 b] w fun e w' => Rl2 w (ansL ⟨k, S, C, N, D, E, s, n⟩ g x t u b) (.int .u64 (ansN ⟨k, S, C, N, D, E, s, n⟩ g x t u b)) e w'
  opened : ∀ (a : Option Addr) (m c : Nat) (k : List Int) (S C N D E s n g x b : Int) (w : World), Li w a m k S C N D E s n → i64r g → u64r x → i64r b → Calls Tryz.prog fo #[.agg #[.slice a m c, .int .i64 S, .int .i64 C, .int .i64 N, .int .u64 D, .int .u64 E, .int .i64 s, .int .i64 n], .int .i64 g, .int .u64 x, .int .i64 b] w fun e w' => Rl1 w (opnL ⟨k, S, C, N, D, E, s, n⟩ g x b) e w'
  raise : ∀ (a : Option Addr) (m c : Nat) (k : List Int) (S C N D E s n x b : Int) (w : World), Li w a m k S C N D E s n → u64r x → i64r b → Calls Tryz.prog fi #[.agg #[.slice a m c, .int .i64 S, .int .i64 C, .int .i64 N, .int .u64 D, .int .u64 E, .int .i64 s, .int .i64 n], .int .u64 x, .int .i64 b] w fun e w' => Rl1 w (rseL ⟨k, S, C, N, D, E, s, n⟩ x b) e w'
end Go.Proofs.YtbkeejapongmlaaGreatDoor
