import Derived.Test.YtmbopaemnlikkaaLN0
namespace Go.Proofs.Ytmbopaemnlikkaa
set_option maxRecDepth 100000
open Go.RowKit
set_option linter.unusedVariables false

theorem Vs.andLt17 {w : World} {V : Nat → Prop} {a : Option Addr} {n c : Nat} {l : List Int} (h : Vs w V a n c l) : Vs w (fun x => V x ∧ x < w.heap.size) a n c l := ⟨h.bs, h.nc, h.cm, h.nil, fun ad e hn => ⟨h.lies ad e hn, (h.bs.at_block e hn).1⟩⟩
/-! A list of ops that came in. -/
structure Oz where
  kd : Int
  G : Int
  B : Int
  X : Int
  Y : Int
  T : Int
  U : Int
def oz0 : Oz := ⟨0, 0, 0, 0, 0, 0, 0⟩
structure Oz.Ok (x : Oz) : Prop where
  kd : i64r x.kd
  G : i64r x.G
  B : i64r x.B
  X : u64r x.X
  Y : u64r x.Y
  T : i64r x.T
  U : i64r x.U
def OpAt (w : World) (b o : Nat) (x : Oz) : Prop := (w.cell? ⟨b, o, none⟩ = some (.int .i64 x.kd) ∧ w.cell? ⟨b, o + 1, none⟩ = some (.int .i64 x.G) ∧ w.cell? ⟨b, o + 2, none⟩ = some (.int .i64 x.B) ∧ w.cell? ⟨b, o + 3, none⟩ = some (.int .u64 x.X) ∧ w.cell? ⟨b, o + 4, none⟩ = some (.int .u64 x.Y) ∧ w.cell? ⟨b, o + 5, none⟩ = some (.int .i64 x.T) ∧ w.cell? ⟨b, o + 6, none⟩ = some (.int .i64 x.U)) ∧ x.Ok
theorem cell_on17 {w w' : World} {p : Addr} {v : Value} (h : w.cell? p = some v) (hb : Below w.heap.size w w') : w'.cell? p = some v := (hb.cell (World.block_lt_of_cell? w _ h)).trans h
theorem OpAt.on {w w' : World} {b o : Nat} {x : Oz} (h : OpAt w b o x) (hb : Below w.heap.size w w') : OpAt w' b o x := by
  obtain ⟨⟨h0, h1, h2, h3, h4, h5, h6⟩, h7⟩ := h
  exact ⟨⟨cell_on17 h0 hb, cell_on17 h1 hb, cell_on17 h2 hb, cell_on17 h3 hb, cell_on17 h4 hb, cell_on17 h5 hb, cell_on17 h6 hb⟩, h7⟩
structure Opl (w : World) (a : Option Addr) (n : Nat) (l : List Oz) : Prop where
  len : l.length = n
  at' : n = 0 ∨ ∃ b off, a = some ⟨b, off, none⟩ ∧ ∀ i, i < n → OpAt w b (off + i * 7) (l.getD i oz0)
theorem Opl.on {w w' : World} {a : Option Addr} {n : Nat} {l : List Oz} (h : Opl w a n l) (hb : Below w.heap.size w w') : Opl w' a n l := by
  refine ⟨h.len, ?_⟩
  rcases h.at' with h0 | ⟨b, off, e, hc⟩
  · exact .inl h0
  · exact .inr ⟨b, off, e, fun i hi => (hc i hi).on hb⟩
end Go.Proofs.Ytmbopaemnlikkaa
