import Derived.Test.YtblcpdffiafgnaaGreatDoorS1
import Derived.RegionTactic
import Derived.BigRegion
import Derived.ChangeAlike
import Derived.Deep.RegionHeld
import Derived.Laws.BytesString
import Derived.Laws.BytesArg
namespace Go.Proofs.YtblcpdffiafgnaaGreatDoor
set_option maxRecDepth 100000
open Go.RowKit
set_option linter.unusedVariables false

theorem cells_splice (zs ys : List Int) (off : Nat) : cells (splice zs off ys) = splice (cells zs) off (cells ys) := by
  simp [splice, cells, List.map_take, List.map_drop]
theorem splice_length (zs ys : List Int) (off : Nat) (h : off + ys.length ≤ zs.length) : (splice zs off ys).length = zs.length := length_splice zs off ys h
theorem row_spl {w : World} {g off : Nat} {zs ys : List Int} (hr : Row w g zs) : Row (w.setRow g ((cells zs).toArray.toList.take off ++ (cells ys ++ (cells zs).toArray.toList.drop (off + (cells ys).length))).toArray) g (splice zs off ys) := by
  have := setRow_heap w g _ ((cells zs).toArray.toList.take off ++ (cells ys ++ (cells zs).toArray.toList.drop (off + (cells ys).length))).toArray _ _ hr
  unfold Row
  rw [this, cells_splice]
  rfl
theorem grow_setRow (w : World) (g : Nat) (ds : Array Value) : w.grownBy (w.setRow g ds) (some g) := ⟨rfl, rfl, rfl, by simp, fun k _ hk => setRow_other w g k ds (fun e => hk (by rw [e]))⟩
theorem grow_refl (w : World) (r : Option Nat) : w.grownBy w r := ⟨rfl, rfl, rfl, Nat.le_refl _, fun _ _ _ => rfl⟩

/-- copy of bytes into a stretch of a row of one's own. -/
theorem wpList_cp {w : World} {ops : Array Oper} {rest : List Oper} {o : Oper} {a : Act} {Q : Exit → Act → World → Prop} (hgd : o.guard = none) (d s : Operand)
    (ho : o.op = .call { callee := .builtin .copy, args := #[d, s], argTypes := #[27, 27] })
    (g off dLen dCap : Nat) (sp : Option Addr) (sLen sCap : Nat) (hd : a.eval d = .slice (some ⟨g, off, none⟩) dLen dCap) (hs : a.eval s = .slice sp sLen sCap)
    (zs ys : List Int) (hr : Row w g zs) (hb : Bs w sp sLen ys) (m : Nat) (hm : Nat.min sLen dLen = m) (hfit : off + m ≤ zs.length)
    (h : ∀ w', Row w' g (splice zs off (ys.take m)) → w.grownBy w' (some g) → wpList Tryz.prog ops Q rest (a.put o.dst (goInt m)) w') :
    wpList Tryz.prog ops Q (o :: rest) a w := by
  have hmn : m ≤ sLen := by rw [← hm]; exact Nat.min_le_left _ _
  by_cases h0 : m = 0
  · subst h0
    refine wpList_copy_nothing hgd d s _ _ ho 5 Tryz.underlying27 size5 (some ⟨g, off, none⟩) sp dLen dCap sLen sCap hd hs hm ?_
    exact h w (by simpa [splice] using hr) (grow_refl _ _)
  · obtain ⟨ad, rfl, hsrc⟩ := hb.src (grow_refl w none) (by rw [cells_length, hb.1]; omega)
    have hl : (cells (ys.take m)).length = m := by rw [cells_length, List.length_take, hb.1]; omega
    refine wpList_copy_own hgd d s _ _ ho 5 Tryz.underlying27 size5 g off dLen dCap ad sLen sCap hd hs (cells zs).toArray 5 hr (cells (ys.take m)) (by rw [hl]; exact hm.symm) ?_ (by rw [hl]; simpa [cells] using hfit) (cells_one _) ?_
    · intro j v hj
      have hjm : j < m := by have := (List.getElem?_eq_some_iff.1 hj).1; omega
      apply hsrc j v
      have e : cells (ys.take m) = (cells ys).take m := by simp [cells, List.map_take]
      rwa [e, List.getElem?_take, if_pos hjm] at hj
    · rw [hl]
      have := h _ (row_spl (off := off) (ys := ys.take m) hr) (grow_setRow _ _ _)
      rwa [hl] at this
theorem run_copy_text (w : World) (dT sT ty elem : TypeId) (g o dLen dCap : Nat) (s : ByteArray) (cur : Array Value) (t : TypeId)
    (hu : Tryz.prog.underlying dT = some (.slice elem)) (hs : (Tryz.prog.info? elem).map (·.size) = some 1) (hg : w.heap[g]? = some (.cells cur t (0, 0))) (hle : s.size ≤ dLen) (hfit : o + s.size ≤ cur.size) :
    (Builtin.copy_ #[dT, sT] ty #[.slice (some ⟨g, o, none⟩) dLen dCap, .string s]).run Tryz.prog w =
      .ok (goInt s.size) (w.setRow g (cur.toList.take o ++ (cells (tb s) ++ cur.toList.drop (o + s.size))).toArray) := by
  have hlen : (cells (tb s)).length = s.size := by rw [cells_length, tb_length]
  have hst := run_storeCells_at Tryz.prog g o t (cells (tb s)) 0 cur w hg (by rw [hlen]; simpa using hfit) (cells_one _)
  have hmin : Nat.min s.size dLen = s.size := Nat.min_eq_left hle
  have htk : List.take s.size (List.map (fun b : UInt8 => Value.int IntKind.u8 (b.toNat : Int)) s.data.toList) = cells (tb s) := by
    rw [List.take_of_length_le (by rw [List.length_map, Array.length_toList]; exact Nat.le_refl _)]
    simp [cells, tb]
  rw [hlen] at hst
  simp only [Nat.add_zero] at hst
  cases hq : Tryz.prog.info? elem with
  | none => simp [hq] at hs
  | some i =>
    simp [Builtin.copy_, run_underlying hu, Builtin.lenOf, Builtin.firstCells, sizeOf, typeInfo, hq, hmin]
    rw [htk, hst]
    simp [Result.andThen]
/-- copy of a text. -/
theorem wpList_cpt {w : World} {ops : Array Oper} {rest : List Oper} {o : Oper} {a : Act} {Q : Exit → Act → World → Prop} (hgd : o.guard = none) (d s : Operand)
    (ho : o.op = .call { callee := .builtin .copy, args := #[d, s], argTypes := #[27, 9] })
    (g off dLen dCap : Nat) (T : ByteArray) (hd : a.eval d = .slice (some ⟨g, off, none⟩) dLen dCap) (hs : a.eval s = .string T)
    (zs : List Int) (hr : Row w g zs) (hle : T.size ≤ dLen) (hfit : off + T.size ≤ zs.length)
    (h : ∀ w', Row w' g (splice zs off (tb T)) → w.grownBy w' (some g) → wpList Tryz.prog ops Q rest (a.put o.dst (goInt T.size)) w') :
    wpList Tryz.prog ops Q (o :: rest) a w := by
  refine wpList_plain hgd fun K hK => ?_
  have hrun := run_copy_text w 27 9 o.type 5 g off dLen dCap T (cells zs).toArray 5 Tryz.underlying27 size5 hr hle (by simpa [cells] using hfit)
  have e := row_spl (off := off) (ys := tb T) hr
  rw [cells_length, tb_length] at e
  have hh := h _ e (grow_setRow _ _ _)
  unfold Oper.wp
  simp [execOp, ho, resolve, invoke, builtin, hd, hs, hrun, Result.andThen]
  simp at hh
  exact hK _ _ hh

theorem bs_nil (w : World) (a : Option Addr) : Bs w a 0 [] := ⟨rfl, by simp, .inl rfl⟩
theorem grow_some {w w1 w2 : World} {g : Nat} (h : w.grownBy w1 none) (k : w1.grownBy w2 (some g)) : w.grownBy w2 (some g) :=
  ⟨k.os.trans h.os, k.tape.trans h.tape, k.output.trans h.output, Nat.le_trans h.size k.size, fun i hi hr => (k.block i (Nat.lt_of_lt_of_le hi h.size) hr).trans (h.block i hi (by simp))⟩

set_option maxHeartbeats 400000 in
theorem lay64_ (g off c : Nat) (zs : List Int) (x : Int) (w : World) (hr : Row w g zs) (hf : off + 8 ≤ zs.length) (h0 : 0 ≤ x) (h1 : x ≤ 18446744073709551615) :
    Calls Tryz.prog 111 #[.slice (some ⟨g, off, none⟩) 8 c, .int .u64 x] w fun e w' => e = .returned (.tuple #[]) ∧ Row w' g (splice zs off (be 8 x)) ∧ w.grownBy w' (some g) := by
  have hlt := hr.lt
  go_enter Tryz.func111, Tryz.ntmps111
  go_wp2_with (first
    | (go_at_call 130; refine (putW64 none 0 0 [] x w (bs_nil _ _) (by omega) h0 h1).mono ?_; rintro e w1 ⟨rfl, r1, g1⟩; have r0 := hr.kept g1 (by simp); have b1 : Bs w1 (some ⟨w.heap.size, 0, none⟩) 8 (be 8 x) := (Row.bs r1 (be_byte _ _)).len (be_length _ _); have G1 := hid g1; clear r1 g1)
    | (refine wpList_cp rfl (.tmp 4) (.tmp 6) rfl g off 8 c _ 8 _ rfl rfl zs (be 8 x) r0 b1 8 rfl hf ?_; intro w2 r2 g2; rw [List.take_of_length_le (by rw [be_length]; exact Nat.le_refl _)] at r2))
  go_end0
  exact ⟨rfl, r2, grow_some G1.out g2⟩
set_option maxHeartbeats 400000 in
theorem lay32_ (g off c : Nat) (zs : List Int) (x : Int) (w : World) (hr : Row w g zs) (hf : off + 4 ≤ zs.length) (h0 : 0 ≤ x) (h1 : x ≤ 4294967295) :
    Calls Tryz.prog 112 #[.slice (some ⟨g, off, none⟩) 4 c, .int .u32 x] w fun e w' => e = .returned (.tuple #[]) ∧ Row w' g (splice zs off (be 4 x)) ∧ w.grownBy w' (some g) := by
  have hlt := hr.lt
  go_enter Tryz.func112, Tryz.ntmps112
  go_wp2_with (first
    | (go_at_call 73; refine (putW32 none 0 0 [] x w (bs_nil _ _) (by omega) h0 h1).mono ?_; rintro e w1 ⟨rfl, r1, g1⟩; have r0 := hr.kept g1 (by simp); have b1 : Bs w1 (some ⟨w.heap.size, 0, none⟩) 4 (be 4 x) := (Row.bs r1 (be_byte _ _)).len (be_length _ _); have G1 := hid g1; clear r1 g1)
    | (refine wpList_cp rfl (.tmp 4) (.tmp 6) rfl g off 4 c _ 4 _ rfl rfl zs (be 4 x) r0 b1 4 rfl hf ?_; intro w2 r2 g2; rw [List.take_of_length_le (by rw [be_length]; exact Nat.le_refl _)] at r2))
  go_end0
  exact ⟨rfl, r2, grow_some G1.out g2⟩
set_option maxHeartbeats 400000 in
theorem lay16_ (g off c : Nat) (zs : List Int) (x : Int) (w : World) (hr : Row w g zs) (hf : off + 2 ≤ zs.length) (h0 : 0 ≤ x) (h1 : x ≤ 65535) :
    Calls Tryz.prog 113 #[.slice (some ⟨g, off, none⟩) 2 c, .int .u16 x] w fun e w' => e = .returned (.tuple #[]) ∧ Row w' g (splice zs off (be 2 x)) ∧ w.grownBy w' (some g) := by
  have hlt := hr.lt
  go_enter Tryz.func113, Tryz.ntmps113
  go_wp2_with (first
    | (go_at_call 98; refine (putW16 none 0 0 [] x w (bs_nil _ _) (by omega) h0 h1).mono ?_; rintro e w1 ⟨rfl, r1, g1⟩; have r0 := hr.kept g1 (by simp); have b1 : Bs w1 (some ⟨w.heap.size, 0, none⟩) 2 (be 2 x) := (Row.bs r1 (be_byte _ _)).len (be_length _ _); have G1 := hid g1; clear r1 g1)
    | (refine wpList_cp rfl (.tmp 4) (.tmp 6) rfl g off 2 c _ 2 _ rfl rfl zs (be 2 x) r0 b1 2 rfl hf ?_; intro w2 r2 g2; rw [List.take_of_length_le (by rw [be_length]; exact Nat.le_refl _)] at r2))
  go_end0
  exact ⟨rfl, r2, grow_some G1.out g2⟩

/-- The fields of a sector's bytes, in a variable. -/
def Fm (w : World) (f b off : Nat) : Prop := w.heap[f]? = some (.cells #[.slice (some ⟨b, off, none⟩) 4 4, .slice (some ⟨b, off + 4, none⟩) 8 8, .slice (some ⟨b, off + 12, none⟩) 8 8, .slice (some ⟨b, off + 20, none⟩) 4 4, .slice (some ⟨b, off + 24, none⟩) 2 2, .slice (some ⟨b, off + 28, none⟩) 480 480, .slice (some ⟨b, off, none⟩) 508 508, .slice (some ⟨b, off + 508, none⟩) 4 4] 158 (0, 0))
section
variable {w w' : World} {f b off : Nat}
theorem Fm.lt (h : Fm w f b off) : f < w.heap.size := (Array.getElem?_eq_some_iff.1 h).1
theorem Fm.c0 (h : Fm w f b off) : w.cell? ⟨f, 0, none⟩ = some (.slice (some ⟨b, off, none⟩) 4 4) := (cell_of_row w f 0 _ _ (0, 0) h).trans rfl
theorem Fm.c1 (h : Fm w f b off) : w.cell? ⟨f, 1, none⟩ = some (.slice (some ⟨b, off + 4, none⟩) 8 8) := (cell_of_row w f 1 _ _ (0, 0) h).trans rfl
theorem Fm.c2 (h : Fm w f b off) : w.cell? ⟨f, 2, none⟩ = some (.slice (some ⟨b, off + 12, none⟩) 8 8) := (cell_of_row w f 2 _ _ (0, 0) h).trans rfl
theorem Fm.c3 (h : Fm w f b off) : w.cell? ⟨f, 3, none⟩ = some (.slice (some ⟨b, off + 20, none⟩) 4 4) := (cell_of_row w f 3 _ _ (0, 0) h).trans rfl
theorem Fm.c4 (h : Fm w f b off) : w.cell? ⟨f, 4, none⟩ = some (.slice (some ⟨b, off + 24, none⟩) 2 2) := (cell_of_row w f 4 _ _ (0, 0) h).trans rfl
theorem Fm.c5 (h : Fm w f b off) : w.cell? ⟨f, 5, none⟩ = some (.slice (some ⟨b, off + 28, none⟩) 480 480) := (cell_of_row w f 5 _ _ (0, 0) h).trans rfl
theorem Fm.c6 (h : Fm w f b off) : w.cell? ⟨f, 6, none⟩ = some (.slice (some ⟨b, off, none⟩) 508 508) := (cell_of_row w f 6 _ _ (0, 0) h).trans rfl
theorem Fm.c7 (h : Fm w f b off) : w.cell? ⟨f, 7, none⟩ = some (.slice (some ⟨b, off + 508, none⟩) 4 4) := (cell_of_row w f 7 _ _ (0, 0) h).trans rfl
theorem Fm.at (h : Fm w f b off) (k : w'.heap[f]? = w.heap[f]?) : Fm w' f b off := by unfold Fm at *; rw [k]; exact h
theorem Fm.kept (h : Fm w f b off) (hb : Below w.heap.size w w') : Fm w' f b off := h.at (hb.block f h.lt)
theorem Fm.grown {r : Option Nat} (h : Fm w f b off) (hb : w.grownBy w' r) (hr : some f ≠ r) : Fm w' f b off := h.at (hb.block f h.lt hr)
end
/-- The value of the fields. -/
def fv (b off : Nat) : Array Value := #[.slice (some ⟨b, off, none⟩) 4 4, .slice (some ⟨b, off + 4, none⟩) 8 8, .slice (some ⟨b, off + 12, none⟩) 8 8, .slice (some ⟨b, off + 20, none⟩) 4 4, .slice (some ⟨b, off + 24, none⟩) 2 2, .slice (some ⟨b, off + 28, none⟩) 480 480, .slice (some ⟨b, off, none⟩) 508 508, .slice (some ⟨b, off + 508, none⟩) 4 4]
theorem fm_new (w : World) (b off : Nat) : Fm (w.alloc (.cells (fv b off) 158)) w.heap.size b off := heap_alloc_new w _
theorem sizeF : (Tryz.prog.info? 158).map (·.size) = some 8 := by kernel_rfl

theorem results_f {fn : Func} {p : Tmp} (h : fn.results = #[.cell p 158]) (tmps : Array Value) (w : World) (g b off : Nat)
    (hp : tmps.getD p undef = .pointer (some ⟨g, 0, none⟩)) (hg : Fm w g b off) :
    (results fn tmps).run Tryz.prog w = .ok (.agg (fv b off)) w := by
  have hl := run_loadVar_row (P := Tryz.prog) w g 158 158 (fv b off) (0, 0) _ hg Tryz.underlying158 rfl sizeF
  have hp' : tmps[p]?.getD undef = .pointer (some ⟨g, 0, none⟩) := by simpa using hp
  simp [results, h, hp', asAddr, hl]
set_option maxHeartbeats 4000000 in
theorem cut_ (b off c : Nat) (w : World) (hc : 512 ≤ c) (hm : c ≤ maxLen) :
    Calls Tryz.prog 110 #[.slice (some ⟨b, off, none⟩) 512 c] w fun en w' => en = .returned (.agg (fv b off)) ∧ Below w.heap.size w w' := by
  unfold maxLen at hm
  have i1 : (512 : Int) ≤ (c : Int) := by omega
  have i2 : (4 : Int) ≤ (c : Int) := by omega
  have i3 : (12 : Int) ≤ (c : Int) := by omega
  have i4 : (20 : Int) ≤ (c : Int) := by omega
  have i5 : (24 : Int) ≤ (c : Int) := by omega
  have i6 : (26 : Int) ≤ (c : Int) := by omega
  have i7 : (508 : Int) ≤ (c : Int) := by omega
  go_enter Tryz.func110, Tryz.ntmps110
  go_wp2
  go_region
  go_wp2
  refine bodyPost_ret (v := .agg (fv b off)) (results_f rfl _ _ w.heap.size b off rfl ((fm_new w b off).at rfl)) rfl ⟨rfl, ((Below.refl _ _).alloc (Nat.le_refl _) _).trans ⟨rfl, rfl, rfl, Nat.le_refl _, fun _ _ => rfl⟩⟩
end Go.Proofs.YtblcpdffiafgnaaGreatDoor
namespace Go.Proofs.YtblcpdffiafgnaaGreatDoor
set_option maxRecDepth 100000
open Go.RowKit
set_option linter.unusedVariables false

theorem spl_mid {A B C Y : List Int} {off : Nat} (hA : A.length = off) (hB : B.length = Y.length) : splice (A ++ (B ++ C)) off Y = A ++ (Y ++ C) := by
  subst hA
  unfold splice
  rw [List.take_left' rfl, ← hB, ← List.append_assoc A B C, List.drop_left' (by rw [List.length_append])]
/-- What the row of Put holds, step by step. -/
def pr0 (s : Sec) : List Int := List.replicate 512 0
def pr1 (s : Sec) : List Int := splice (pr0 s) 0 (tb s.T)
def pr2 (s : Sec) : List Int := splice (pr1 s) 4 (be 8 s.e)
def pr3 (s : Sec) : List Int := splice (pr2 s) 12 (be 8 s.q)
def pr4 (s : Sec) : List Int := splice (pr3 s) 20 (be 4 s.p)
def pr5 (s : Sec) : List Int := splice (pr4 s) 24 (be 2 s.l.length)
def pr6 (s : Sec) : List Int := splice (pr5 s) 28 s.l
def zr (n : Nat) : List Int := List.replicate n 0
theorem zr_length (n : Nat) : (zr n).length = n := by simp [zr]
theorem zr_add (m n : Nat) : zr (m + n) = zr m ++ zr n := by simp [zr]
theorem pr_all {s : Sec} (h : May s) : ((pr0 s).length = 512 ∧ (pr1 s).length = 512 ∧ (pr2 s).length = 512 ∧ (pr3 s).length = 512 ∧ (pr4 s).length = 512 ∧ (pr5 s).length = 512 ∧ (pr6 s).length = 512) ∧ pr6 s = hd s ++ zr 4 := by
  have hT : (tb s.T).length = 4 := by rw [tb_length]; exact isT_size h.1
  have hl := h.2.2.2.2
  have L := fun j x => be_length j x
  generalize hx : s.l.length = n at hl
  have e0 : pr0 s = zr 4 ++ (zr 8 ++ (zr 8 ++ (zr 4 ++ (zr 2 ++ (zr 2 ++ (zr n ++ (zr (480 - n) ++ zr 4))))))) := by
    rw [← zr_add, ← zr_add, ← zr_add, ← zr_add, ← zr_add, ← zr_add, ← zr_add, ← zr_add]
    show zr 512 = _
    congr 1
    omega
  have e1 : pr1 s = tb s.T ++ (zr 8 ++ (zr 8 ++ (zr 4 ++ (zr 2 ++ (zr 2 ++ (zr n ++ (zr (480 - n) ++ zr 4))))))) := by
    show splice (pr0 s) 0 (tb s.T) = _
    rw [e0]; exact spl_mid (A := []) (B := zr 4) rfl (by rw [hT]; rfl)
  have e2 : pr2 s = tb s.T ++ (be 8 s.e ++ (zr 8 ++ (zr 4 ++ (zr 2 ++ (zr 2 ++ (zr n ++ (zr (480 - n) ++ zr 4))))))) := by
    show splice (pr1 s) 4 (be 8 s.e) = _
    rw [e1]; exact spl_mid hT (by rw [L]; rfl)
  have e3 : pr3 s = tb s.T ++ (be 8 s.e ++ (be 8 s.q ++ (zr 4 ++ (zr 2 ++ (zr 2 ++ (zr n ++ (zr (480 - n) ++ zr 4))))))) := by
    show splice (pr2 s) 12 (be 8 s.q) = _
    rw [e2, ← List.append_assoc (tb s.T), spl_mid (by simp only [List.length_append, hT, L]) (by rw [L]; rfl), List.append_assoc]
  have e4 : pr4 s = tb s.T ++ (be 8 s.e ++ (be 8 s.q ++ (be 4 s.p ++ (zr 2 ++ (zr 2 ++ (zr n ++ (zr (480 - n) ++ zr 4))))))) := by
    show splice (pr3 s) 20 (be 4 s.p) = _
    rw [e3, ← List.append_assoc (tb s.T), ← List.append_assoc (tb s.T ++ _), spl_mid (by simp only [List.length_append, hT, L]) (by rw [L]; rfl)]
    simp only [List.append_assoc]
  have e5 : pr5 s = tb s.T ++ (be 8 s.e ++ (be 8 s.q ++ (be 4 s.p ++ (be 2 n ++ (zr 2 ++ (zr n ++ (zr (480 - n) ++ zr 4))))))) := by
    show splice (pr4 s) 24 (be 2 s.l.length) = _
    rw [e4, hx, ← List.append_assoc (tb s.T), ← List.append_assoc (tb s.T ++ _), ← List.append_assoc (tb s.T ++ _ ++ _), spl_mid (by simp only [List.length_append, hT, L]) (by rw [L]; rfl)]
    simp only [List.append_assoc]
  have e6 : pr6 s = tb s.T ++ (be 8 s.e ++ (be 8 s.q ++ (be 4 s.p ++ (be 2 n ++ (zr 2 ++ (s.l ++ (zr (480 - n) ++ zr 4))))))) := by
    show splice (pr5 s) 28 s.l = _
    rw [e5, ← List.append_assoc (tb s.T), ← List.append_assoc (tb s.T ++ _), ← List.append_assoc (tb s.T ++ _ ++ _), ← List.append_assoc (tb s.T ++ _ ++ _ ++ _), ← List.append_assoc (tb s.T ++ _ ++ _ ++ _ ++ _), spl_mid (by simp only [List.length_append, hT, L, zr_length]) (by rw [hx, zr_length])]
    simp only [List.append_assoc]
  refine ⟨?_, ?_⟩
  · refine ⟨?_, ?_, ?_, ?_, ?_, ?_, ?_⟩
    · rw [e0]; simp only [List.length_append, zr_length]; omega
    · rw [e1]; simp only [List.length_append, hT, zr_length]; omega
    · rw [e2]; simp only [List.length_append, hT, L, zr_length]; omega
    · rw [e3]; simp only [List.length_append, hT, L, zr_length]; omega
    · rw [e4]; simp only [List.length_append, hT, L, zr_length]; omega
    · rw [e5]; simp only [List.length_append, hT, L, zr_length]; omega
    · rw [e6]; simp only [List.length_append, hT, L, zr_length, hx]; omega
  · rw [e6]
    simp only [hd, hx, List.append_assoc]
    rfl
theorem pr_end {s : Sec} (h : May s) : (pr6 s).take 508 = hd s ∧ splice (pr6 s) 508 (be 4 (updc 0 (hd s))) = ps s := by
  have hl := hd_length h
  rw [(pr_all h).2]
  refine ⟨List.take_left' hl, ?_⟩
  have := spl_mid (A := hd s) (B := zr 4) (C := []) (Y := be 4 (updc 0 (hd s))) hl (by rw [be_length]; rfl)
  simp only [List.append_nil] at this
  rw [this]
  rfl

theorem sm_grown {w w' : World} {g : Nat} {T : ByteArray} {e q p : Int} {v : Value} {r : Option Nat} (h : Sm w g T e q p v) (hb : w.grownBy w' r) (hr : some g ≠ r) : Sm w' g T e q p v := h.at (hb.block g h.lt hr)
theorem row_sum {w : World} {g : Nat} {zs : List Int} (hr : Row w g zs) (hl : zs.length = 512) (hy : By zs) : Bs w (some ⟨g, 0, none⟩) 508 (zs.take 508) := by
  refine ⟨by simp; omega, hy.take 508, .inr ⟨g, 0, rfl, fun i hi => ?_⟩⟩
  rw [Nat.zero_add, hr.cell i (by omega)]
  simp only [List.getD, List.getElem?_take, if_pos hi]
theorem bel_some {B g : Nat} {a b c : World} (h : Below B a b) (hB : B ≤ b.heap.size) (hg : b.grownBy c (some g)) (hgB : B ≤ g) : Below B a c :=
  h.trans ⟨hg.os, hg.tape, hg.output, hg.size, fun k hk => hg.block k (by omega) (by simp; omega)⟩
theorem tab_grown {w w' : World} {g : Nat} (h : Tab w) (hb : w.grownBy w' (some g)) (hg : 0 < g) : Tab w' :=
  ⟨Nat.lt_of_lt_of_le h.1 hb.size, fun i hi => hb.cell (h.2 i hi) (by simp; omega)⟩

set_option maxHeartbeats 4000000 in
theorem put_n (T : ByteArray) (e q p : Int) (a : Option Addr) (n c : Nat) (w : World) (h : ¬ MayN T e q p n) :
    Calls Tryz.prog 84 #[.agg #[.string T, .int .i64 e, .int .i64 q, .int .i64 p, .slice a n c]] w fun en w' => en = .returned (.tuple #[.slice none 0 0, .int .i64 117]) ∧ Below w.heap.size w w' := by
  have m0 := Sm.new w T e q p (.slice a n c)
  have B0 := snew w T e q p (.slice a n c)
  go_enter Tryz.func84, Tryz.ntmps84
  go_wp2_with fail
  refine (mayBe_n T e q p a n c _ h).mono ?_
  rintro e1 w1 ⟨rfl, g1⟩
  replace B0 := bel_bel B0 B0.size g1
  go_wp2
  go_ret2
  exact ⟨rfl, B0⟩

set_option maxHeartbeats 8000000 in
theorem put_y (T : ByteArray) (e q p : Int) (a : Option Addr) (n c : Nat) (l : List Int) (w : World) (hT : Tab w) (hb : Bs w a n l) (h : MayN T e q p n) :
    Calls Tryz.prog 84 #[.agg #[.string T, .int .i64 e, .int .i64 q, .int .i64 p, .slice a n c]] w fun en w' => ∃ g, en = .returned (.tuple #[.slice (some ⟨g, 0, none⟩) 512 512, .int .i64 0]) ∧ w.heap.size ≤ g ∧ Row w' g (ps ⟨T, e, q, p, l⟩) ∧ Below w.heap.size w w' := by
  obtain ⟨i, hi, hz0, hz1, hz2⟩ := info_parts info5
  have m0 := Sm.new w T e q p (.slice a n c)
  have B0 := snew w T e q p (.slice a n c)
  have hM : May ⟨T, e, q, p, l⟩ := (may_n hb.1).2 h
  have HA := hid (pr_all hM)
  have HE := hid (pr_end hM)
  have HBY : Hid (By (ps ⟨T, e, q, p, l⟩)) := ps_by hb.2.1
  have HB := hid hb
  have HTB := hid hT
  have hTz := isT_size h.1
  obtain ⟨_, ⟨e0, e1⟩, ⟨q0, q1⟩, ⟨p0, p1⟩, n1⟩ := id h
  have hln := hb.1
  generalize hs : (⟨T, e, q, p, l⟩ : Sec) = s at *
  have S0 : Hid (s.T = T ∧ s.e = e ∧ s.q = q ∧ s.p = p ∧ s.l = l) := by subst hs; exact ⟨rfl, rfl, rfl, rfl, rfl⟩
  clear hs hT hb
  go_enter Tryz.func84, Tryz.ntmps84
  go_wp2_with fail
  refine (mayBe_y T e q p a n c _ h).mono ?_
  rintro x1 w1 ⟨rfl, g1⟩
  replace m0 := m0.kept g1
  replace B0 := bel_bel B0 B0.size g1
  clear g1
  go_wp2_with (at_make; refine wpList_make_full _ rfl _ _ 27 rfl 0 5 i (.int .u8 0) 1 Tryz.underlying27 hi hz0 hz1 .i64 .i64 _ _ 512 rfl rfl (by omega) (by omega) (by rw [hz2]; omega) (by unfold maxLen; omega) (by omega) ?_; intro w2 hown hg2; have r0 := row_of_own ((made_zeros 512) ▸ hown); clear hown)
  have hg1 := m0.lt
  have hz2 := hg2.size
  have G0 : Hid (w.heap.size ≤ w1.heap.size) := B0.size
  have r0' := r0.lt
  have hB2 : Below w.heap.size w w2 := bel_grow B0 B0.size hg2
  replace m0 := sm_grown m0 hg2 (by simp)
  clear B0 hg2 hi hz0 hz1
  generalize hg : w1.heap.size = g at *
  refine (cut_ g 0 512 w2 (by omega) (by unfold maxLen; omega)).mono ?_
  rintro x3 w3 ⟨rfl, g3⟩
  simp only [fv, Nat.zero_add]
  replace m0 := m0.kept g3
  replace r0 : Row w3 g (pr0 s) := r0.kept (grown_of_below g3) (by simp)
  replace hB2 := bel_bel hB2 hB2.size g3
  have r0' := r0.lt
  clear g3
  --WALK
  have f0 := fm_new w3 g 0
  simp only [fv, Nat.zero_add] at f0
  replace r0 : Row (w3.alloc (.cells #[.slice (some ⟨g, 0, none⟩) 4 4, .slice (some ⟨g, 4, none⟩) 8 8, .slice (some ⟨g, 12, none⟩) 8 8, .slice (some ⟨g, 20, none⟩) 4 4, .slice (some ⟨g, 24, none⟩) 2 2, .slice (some ⟨g, 28, none⟩) 480 480, .slice (some ⟨g, 0, none⟩) 508 508, .slice (some ⟨g, 508, none⟩) 4 4] 158)) g (pr0 s) := r0.kept (r := none) (World.grownBy_alloc w3 _ _) (by simp)
  replace m0 := m0.alloc (.cells #[.slice (some ⟨g, 0, none⟩) 4 4, .slice (some ⟨g, 4, none⟩) 8 8, .slice (some ⟨g, 12, none⟩) 8 8, .slice (some ⟨g, 20, none⟩) 4 4, .slice (some ⟨g, 24, none⟩) 2 2, .slice (some ⟨g, 28, none⟩) 480 480, .slice (some ⟨g, 0, none⟩) 508 508, .slice (some ⟨g, 508, none⟩) 4 4] 158)
  replace hB2 := hB2.alloc hB2.size (.cells #[.slice (some ⟨g, 0, none⟩) 4 4, .slice (some ⟨g, 4, none⟩) 8 8, .slice (some ⟨g, 12, none⟩) 8 8, .slice (some ⟨g, 20, none⟩) 4 4, .slice (some ⟨g, 24, none⟩) 2 2, .slice (some ⟨g, 28, none⟩) 480 480, .slice (some ⟨g, 0, none⟩) 508 508, .slice (some ⟨g, 508, none⟩) 4 4] 158)
  have d0 := m0.c0
  have x0 := f0.c0
  have F0 := hid f0
  have M0 := hid m0
  have R0 := hid r0
  have BB := hid hB2
  clear f0 m0 r0 hB2
  have hfne : ¬ w3.heap.size = g := by omega
  have hmne : ¬ w.heap.size = g := by omega
  have hmlt : w.heap.size < w3.heap.size := by omega
  go_wp2_with (refine wpList_cpt rfl (.tmp 13) (.tmp 15) rfl g 0 4 4 T rfl rfl (pr0 s) R0.out (by omega) (by have := HA.out.1.1; omega) ?_; intro w4 r4 g4; have m4 := sm_grown M0.out g4 (by simp; omega); have f4 := F0.out.grown g4 (by simp; omega); have d := m4.c1; have x := f4.c1; simp only [Nat.zero_add] at x)
  generalize hf : w3.heap.size = f at *
  have hgw : w.heap.size ≤ g := by omega
  have hg0 : 0 < g := by have := HTB.out.1; omega
  replace r4 : Row w4 g (pr1 s) := by have e := S0.out.1; unfold pr1; rw [e]; exact r4
  have b4 := bel_some BB.out BB.out.size g4 hgw
  clear F0 M0 R0 BB d0 x0 g4
  have M := hid m4
  have F := hid f4
  have R := hid r4
  have B := hid b4
  clear m4 f4 r4 b4
  refine (lay64_ g 4 8 (pr1 s) e w4 R.out (by have := HA.out.1; omega) (by omega) (by omega)).mono ?_
  rintro y w5 ⟨rfl, r5, g5⟩
  replace r5 : Row w5 g (pr2 s) := by have e := S0.out.2.1; unfold pr2; rw [e]; exact r5
  have m5 := sm_grown M.out g5 (by simp; omega)
  have f5 := F.out.grown g5 (by simp; omega)
  have b5 := bel_some B.out B.out.size g5 hgw
  clear d x M F R B g5
  have d := m5.c2
  have x := f5.c2
  simp only [Nat.zero_add] at x
  have M := hid m5
  have F := hid f5
  have R := hid r5
  have B := hid b5
  clear m5 f5 r5 b5
  go_wp2_with fail
  refine (lay64_ g 12 8 (pr2 s) q w5 R.out (by have := HA.out.1; omega) (by omega) (by omega)).mono ?_
  rintro y w6 ⟨rfl, r6, g6⟩
  replace r6 : Row w6 g (pr3 s) := by have e := S0.out.2.2.1; unfold pr3; rw [e]; exact r6
  have m6 := sm_grown M.out g6 (by simp; omega)
  have f6 := F.out.grown g6 (by simp; omega)
  have b6 := bel_some B.out B.out.size g6 hgw
  clear d x M F R B g6
  have d := m6.c3
  have x := f6.c3
  simp only [Nat.zero_add] at x
  have M := hid m6
  have F := hid f6
  have R := hid r6
  have B := hid b6
  clear m6 f6 r6 b6
  go_wp2_with fail
  refine (lay32_ g 20 4 (pr3 s) p w6 R.out (by have := HA.out.1; omega) (by omega) (by omega)).mono ?_
  rintro y w7 ⟨rfl, r7, g7⟩
  replace r7 : Row w7 g (pr4 s) := by have e := S0.out.2.2.2.1; unfold pr4; rw [e]; exact r7
  have m7 := sm_grown M.out g7 (by simp; omega)
  have f7 := F.out.grown g7 (by simp; omega)
  have b7 := bel_some B.out B.out.size g7 hgw
  clear d x M F R B g7
  have d := m7.c4
  have x := f7.c4
  simp only [Nat.zero_add] at x
  have M := hid m7
  have F := hid f7
  have R := hid r7
  have B := hid b7
  clear m7 f7 r7 b7
  go_wp2_with fail
  refine (lay16_ g 24 2 (pr4 s) (n : Int) w7 R.out (by have := HA.out.1; omega) (by omega) (by omega)).mono ?_
  rintro y w8 ⟨rfl, r8, g8⟩
  replace r8 : Row w8 g (pr5 s) := by have e := S0.out.2.2.2.2; unfold pr5; rw [e, hln]; exact r8
  have m8 := sm_grown M.out g8 (by simp; omega)
  have f8 := F.out.grown g8 (by simp; omega)
  have b8 := bel_some B.out B.out.size g8 hgw
  clear d x M F R B g8
  have d := m8.c4
  have x := f8.c5
  simp only [Nat.zero_add] at x
  have M := hid m8
  have F := hid f8
  have R := hid r8
  have B := hid b8
  have Y : Hid (Bs w8 a n l) := HB.out.below b8
  clear m8 f8 r8 b8
  have hmin : Nat.min n 480 = n := Nat.min_eq_left n1
  go_wp2_with (refine wpList_cp rfl (.tmp 43) (.tmp 45) rfl g 28 480 480 a n c rfl rfl (pr5 s) l R.out Y.out n hmin (by have := HA.out.1; omega) ?_; intro w9 r9 g9)
  replace r9 : Row w9 g (pr6 s) := by
    have e := S0.out.2.2.2.2
    rw [List.take_of_length_le (by rw [hln]; exact Nat.le_refl _)] at r9
    unfold pr6; rw [e]; exact r9
  have f9 := F.out.grown g9 (by simp; omega)
  have b9 := bel_some B.out B.out.size g9 hgw
  clear d x M F R B Y g9
  have x6 := f9.c6
  have x7 := f9.c7
  simp only [Nat.zero_add] at x6 x7
  have T9 : Hid (Tab w9) := HTB.out.bel b9
  have hy6 : By (pr6 s) := by
    rw [HA.out.2]
    exact By.app (fun z hz => HBY.out z (List.mem_append_left _ hz)) (By.zeros 4)
  have U9 : Hid (Bs w9 (some ⟨g, 0, none⟩) 508 (hd s)) := by
    have := row_sum r9 HA.out.1.2.2.2.2.2.2 hy6
    rw [HE.out.1] at this
    exact this
  have HU : Hid (updc 0 (hd s) < 4294967296) := sum_lt (by have e := S0.out.2.2.2.2; rw [e]; exact HB.out.2.1)
  have R9 := hid r9
  have B9 := hid b9
  have flt := f9.lt
  have hsum := fun wx (hx : Drawn w9 wx) => sum_ (some ⟨g, 0, none⟩) 508 508 (hd s) wx (T9.out.drawn hx) (U9.out.drawn hx) (by unfold maxLen; omega)
  have hlay := fun wx (hx : Drawn w9 wx) => lay32_ g 508 4 (pr6 s) (updc 0 (hd s) : Nat) wx (by unfold Row; rw [hx.heap]; exact R9.out) (by have := HA.out.1; omega) (by omega) (by have := HU.out; omega)
  clear r9 f9 b9 hy6
  --REG
  go_region_held (fun wx => wx.cell? ⟨f, 6, none⟩ = some (.slice (some ⟨g, 0, none⟩) 508 508) ∧ wx.cell? ⟨f, 7, none⟩ = some (.slice (some ⟨g, 508, none⟩) 4 4)) (go_keep) (first | (go_at_call 71; refine (hsum _ (by exact ⟨rfl, rfl, rfl, rfl⟩)).mono ?_; rintro y wx ⟨rfl, hw⟩; obtain rfl := hw.symm) | (go_at_call 112; refine (hlay _ (by exact ⟨rfl, rfl, rfl, rfl⟩)).mono ?_; rintro y wz ⟨rfl, rz, gz⟩; have y6 : wz.cell? ⟨f, 6, none⟩ = some (.slice (some ⟨g, 0, none⟩) 508 508) := gz.cell (by exact x6) (by simp; omega); have y7 : wz.cell? ⟨f, 7, none⟩ = some (.slice (some ⟨g, 508, none⟩) 4 4) := gz.cell (by exact x7) (by simp; omega)))
  have BZ : Below w.heap.size w wz := bel_some (b := w9.drew) ⟨B9.out.os, B9.out.tape, B9.out.output, B9.out.size, B9.out.block⟩ B9.out.size gz hgw
  have RZ : Hid (Row wz g (ps s)) := by
    have e := HE.out.2
    rw [← e]
    exact rz
  clear y6 y7 rz gz x6 x7
  go_wp2
  go_ret2
  exact ⟨g, rfl, hgw, RZ.out, BZ⟩
end Go.Proofs.YtblcpdffiafgnaaGreatDoor
namespace Go.Proofs.YtblcpdffiafgnaaGreatDoor
set_option maxRecDepth 100000
open Go.RowKit
set_option linter.unusedVariables false

theorem number64_ (a : Option Addr) (c : Nat) (zs : List Int) (w : World) (hb : Bs w a 8 zs) (hc : 8 ≤ c) :
    Calls Tryz.prog 143 #[.slice a 8 c] w fun e w' => e = .returned (.int .u64 (val zs)) ∧ Below w.heap.size w w' := by
  have hne : a ≠ none := by
    rcases hb.2.2 with h | ⟨b, off, rfl, _⟩
    · omega
    · simp
  have ht : zs.take 8 = zs := List.take_of_length_le (by rw [hb.1]; exact Nat.le_refl _)
  have hln := hb.1
  have HB := hid hb
  clear hb
  go_enter Tryz.func143, Tryz.ntmps143
  go_wp2_with fail
  refine (newReader a 8 c zs w HB.out (fun h => absurd h hne) (by omega) hc).mono ?_
  rintro e1 w1 ⟨r, g, rfl, h1, h2, h3, _, h4⟩
  go_wp2_with fail
  refine (get64_whole r g zs 0 w1 h1 (by omega) (by omega) (by omega) (by omega)).mono ?_
  rintro e2 w2 ⟨rfl, h5, h6⟩
  rw [ht]
  have B : Below w.heap.size w w2 := (below_of_grown h4).trans (h6.below h2)
  go_wp2
  go_ret
  exact ⟨rfl, B⟩
theorem number32_ (a : Option Addr) (c : Nat) (zs : List Int) (w : World) (hb : Bs w a 4 zs) (hc : 4 ≤ c) :
    Calls Tryz.prog 144 #[.slice a 4 c] w fun e w' => e = .returned (.int .u32 (val zs)) ∧ Below w.heap.size w w' := by
  have hne : a ≠ none := by
    rcases hb.2.2 with h | ⟨b, off, rfl, _⟩
    · omega
    · simp
  have ht : zs.take 4 = zs := List.take_of_length_le (by rw [hb.1]; exact Nat.le_refl _)
  have hln := hb.1
  have HB := hid hb
  clear hb
  go_enter Tryz.func144, Tryz.ntmps144
  go_wp2_with fail
  refine (newReader a 4 c zs w HB.out (fun h => absurd h hne) (by omega) hc).mono ?_
  rintro e1 w1 ⟨r, g, rfl, h1, h2, h3, _, h4⟩
  go_wp2_with fail
  refine (get32_whole r g zs 0 w1 h1 (by omega) (by omega) (by omega) (by omega)).mono ?_
  rintro e2 w2 ⟨rfl, h5, h6⟩
  rw [ht]
  have B : Below w.heap.size w w2 := (below_of_grown h4).trans (h6.below h2)
  go_wp2
  go_ret
  exact ⟨rfl, B⟩
theorem number16_ (a : Option Addr) (c : Nat) (zs : List Int) (w : World) (hb : Bs w a 2 zs) (hc : 2 ≤ c) :
    Calls Tryz.prog 142 #[.slice a 2 c] w fun e w' => e = .returned (.int .u16 (val zs)) ∧ Below w.heap.size w w' := by
  have hne : a ≠ none := by
    rcases hb.2.2 with h | ⟨b, off, rfl, _⟩
    · omega
    · simp
  have ht : zs.take 2 = zs := List.take_of_length_le (by rw [hb.1]; exact Nat.le_refl _)
  have hln := hb.1
  have HB := hid hb
  clear hb
  go_enter Tryz.func142, Tryz.ntmps142
  go_wp2_with fail
  refine (newReader a 2 c zs w HB.out (fun h => absurd h hne) (by omega) hc).mono ?_
  rintro e1 w1 ⟨r, g, rfl, h1, h2, h3, _, h4⟩
  go_wp2_with fail
  refine (get16_whole r g zs 0 w1 h1 (by omega) (by omega) (by omega) (by omega)).mono ?_
  rintro e2 w2 ⟨rfl, h5, h6⟩
  rw [ht]
  have B : Below w.heap.size w w2 := (below_of_grown h4).trans (h6.below h2)
  go_wp2
  go_ret
  exact ⟨rfl, B⟩

/-- A text of bytes in memory. -/
theorem run_txt {w : World} {a : Option Addr} {n : Nat} {zs : List Int} (c : Nat) (hb : Bs w a n zs) : (convert 27 9 (.slice a n c)).run Tryz.prog w = .ok (.string (bt zs)) w := by
  have hu : Tryz.prog.underlying 9 = some .string := by kernel_rfl
  have hy : Tryz.prog.underlying 5 = some (.int .u8) := by kernel_rfl
  have hl : (zs.map fun z => UInt8.ofNat z.toNat).length = n := by rw [List.length_map, hb.1]
  cases a with
  | none =>
    have h0 : n = 0 := by rcases hb.2.2 with h | ⟨_, _, h, _⟩; exact h; cases h
    subst h0
    obtain rfl : zs = [] := List.eq_nil_of_length_eq_zero hb.1
    exact run_convert_bytes_nil (P := Tryz.prog) w 27 5 Tryz.underlying27 hy 0 c _ hu
  | some x =>
    have := run_convert_bytes_back (P := Tryz.prog) w 27 9 5 x c (zs.map fun z => UInt8.ofNat z.toNat) Tryz.underlying27 hy hu (fun j hj => by
      have hj' : j < zs.length := by simpa using hj
      have hc := hb.src1 (w1 := w) (grow_refl _ _) j _ (cells_get zs j hj')
      have hz := hb.2.1 zs[j] (List.getElem_mem hj')
      rw [hc]
      simp only [List.getD, List.getElem?_eq_getElem hj', Option.getD_some, List.getElem_map]
      congr 2
      simp
      omega)
    rw [hl] at this
    exact this
theorem bt_inj {xs ys : List Int} (hx : By xs) (hy : By ys) (h : bt xs = bt ys) : xs = ys := by
  rw [← tb_bt xs hx, h, tb_bt ys hy]
theorem bt_same {xs ys : List Int} (hx : By xs) (hy : By ys) : ((bt xs).toList == (bt ys).toList) = sameB xs ys := by
  unfold sameB
  by_cases h : xs = ys
  · subst h; simp
  · rw [decide_eq_false h, beq_eq_false_iff_ne]
    exact fun k => h (bt_inj hx hy (toList_inj k))
theorem equal_ (a b : Option Addr) (n c m d : Nat) (xs ys : List Int) (w : World) (hx : Bs w a n xs) (hy : Bs w b m ys) :
    Calls Tryz.prog 61 #[.slice a n c, .slice b m d] w fun e w' => e = .returned (.bool (sameB xs ys)) ∧ w' = w := by
  have k1 := run_txt c hx
  have k2 := run_txt d hy
  have H := hid (bt_same hx.2.1 hy.2.1)
  clear hx hy
  generalize bt xs = X at *
  generalize bt ys = Y at *
  go_enter Tryz.func61, Tryz.ntmps61
  go_wp2
  go_ret
  exact ⟨ret_bool H.out, rfl⟩
end Go.Proofs.YtblcpdffiafgnaaGreatDoor
