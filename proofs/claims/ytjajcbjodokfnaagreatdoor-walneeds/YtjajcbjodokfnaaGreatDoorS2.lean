import Derived.Test.YtjajcbjodokfnaaGreatDoorS1
import Derived.RegionTactic
import Derived.BigRegion
import Derived.ChangeAlike
namespace Go.Proofs.YtjajcbjodokfnaaGreatDoor
set_option maxRecDepth 100000
open Go.RowKit
set_option linter.unusedVariables false

theorem cells_splice (zs ys : List Int) (off : Nat) : cells (splice zs off ys) = splice (cells zs) off (cells ys) := by
  simp [splice, cells, List.map_take, List.map_drop]
theorem splice_length (zs ys : List Int) (off : Nat) (h : off + ys.length ≤ zs.length) : (splice zs off ys).length = zs.length := length_splice zs off ys h
theorem row_spl {w : World} {g off : Nat} {zs ys : List Int} (hr : Row w g zs) : Row (w.setRow g ((cells zs).toArray.toList.take off ++ (cells ys ++ (cells zs).toArray.toList.drop (off + (cells ys).length))).toArray) g (splice zs off ys) := by
  have := setRow_heap w g _ ((cells zs).toArray.toList.take off ++ (cells ys ++ (cells zs).toArray.toList.drop (off + (cells ys).length))).toArray _ _ hr
  unfold Row
  rw [this, cells_splice]
  rfl
theorem grow_setRow (w : World) (g : Nat) (ds : Array Value) : w.grownBy (w.setRow g ds) (some g) := ⟨rfl, rfl, rfl, by simp, fun k _ hk => setRow_other w g k ds (fun e => hk (by rw [e]))⟩
theorem grow_refl (w : World) (r : Option Nat) : w.grownBy w r := ⟨rfl, rfl, rfl, Nat.le_refl _, fun _ _ _ => rfl⟩

/-- copy of bytes into a stretch of a row of one's own. -/
theorem wpList_cp {w : World} {ops : Array Oper} {rest : List Oper} {o : Oper} {a : Act} {Q : Exit → Act → World → Prop} (hgd : o.guard = none) (d s : Operand)
    (ho : o.op = .call { callee := .builtin .copy, args := #[d, s], argTypes := #[33, 33] })
    (g off dLen dCap : Nat) (sp : Option Addr) (sLen sCap : Nat) (hd : a.eval d = .slice (some ⟨g, off, none⟩) dLen dCap) (hs : a.eval s = .slice sp sLen sCap)
    (zs ys : List Int) (hr : Row w g zs) (hb : Bs w sp sLen ys) (m : Nat) (hm : Nat.min sLen dLen = m) (hfit : off + m ≤ zs.length)
    (h : ∀ w', Row w' g (splice zs off (ys.take m)) → w.grownBy w' (some g) → wpList Tryz.prog ops Q rest (a.put o.dst (goInt m)) w') :
    wpList Tryz.prog ops Q (o :: rest) a w := by
  have hmn : m ≤ sLen := by rw [← hm]; exact Nat.min_le_left _ _
  by_cases h0 : m = 0
  · subst h0
    refine wpList_copy_nothing hgd d s _ _ ho 5 Tryz.underlying33 size5 (some ⟨g, off, none⟩) sp dLen dCap sLen sCap hd hs hm ?_
    exact h w (by simpa [splice] using hr) (grow_refl _ _)
  · obtain ⟨ad, rfl, hsrc⟩ := hb.src (grow_refl w none) (by rw [cells_length, hb.1]; omega)
    have hl : (cells (ys.take m)).length = m := by rw [cells_length, List.length_take, hb.1]; omega
    refine wpList_copy_own hgd d s _ _ ho 5 Tryz.underlying33 size5 g off dLen dCap ad sLen sCap hd hs (cells zs).toArray 5 hr (cells (ys.take m)) (by rw [hl]; exact hm.symm) ?_ (by rw [hl]; simpa [cells] using hfit) (cells_one _) ?_
    · intro j v hj
      have hjm : j < m := by have := (List.getElem?_eq_some_iff.1 hj).1; omega
      apply hsrc j v
      have e : cells (ys.take m) = (cells ys).take m := by simp [cells, List.map_take]
      rwa [e, List.getElem?_take, if_pos hjm] at hj
    · rw [hl]
      have := h _ (row_spl (off := off) (ys := ys.take m) hr) (grow_setRow _ _ _)
      rwa [hl] at this
theorem run_copy_text (w : World) (dT sT ty elem : TypeId) (g o dLen dCap : Nat) (s : ByteArray) (cur : Array Value) (t : TypeId)
    (hu : Tryz.prog.underlying dT = some (.slice elem)) (hs : (Tryz.prog.info? elem).map (·.size) = some 1) (hg : w.heap[g]? = some (.cells cur t (0, 0))) (hle : s.size ≤ dLen) (hfit : o + s.size ≤ cur.size) :
    (Builtin.copy_ #[dT, sT] ty #[.slice (some ⟨g, o, none⟩) dLen dCap, .string s]).run Tryz.prog w =
      .ok (goInt s.size) (w.setRow g (cur.toList.take o ++ (cells (tb s) ++ cur.toList.drop (o + s.size))).toArray) := by
  have hlen : (cells (tb s)).length = s.size := by rw [cells_length, tb_length]
  have hst := run_storeCells_at Tryz.prog g o t (cells (tb s)) 0 cur w hg (by rw [hlen]; simpa using hfit) (cells_one _)
  have hmin : Nat.min s.size dLen = s.size := Nat.min_eq_left hle
  have htk : List.take s.size (List.map (fun b : UInt8 => Value.int IntKind.u8 (b.toNat : Int)) s.data.toList) = cells (tb s) := by
    rw [List.take_of_length_le (by rw [List.length_map, Array.length_toList]; exact Nat.le_refl _)]
    simp [cells, tb]
  rw [hlen] at hst
  simp only [Nat.add_zero] at hst
  cases hq : Tryz.prog.info? elem with
  | none => simp [hq] at hs
  | some i =>
    simp [Builtin.copy_, run_underlying hu, Builtin.lenOf, Builtin.firstCells, sizeOf, typeInfo, hq, hmin]
    rw [htk, hst]
    simp [Result.andThen]
/-- copy of a text. -/
theorem wpList_cpt {w : World} {ops : Array Oper} {rest : List Oper} {o : Oper} {a : Act} {Q : Exit → Act → World → Prop} (hgd : o.guard = none) (d s : Operand)
    (ho : o.op = .call { callee := .builtin .copy, args := #[d, s], argTypes := #[33, 9] })
    (g off dLen dCap : Nat) (T : ByteArray) (hd : a.eval d = .slice (some ⟨g, off, none⟩) dLen dCap) (hs : a.eval s = .string T)
    (zs : List Int) (hr : Row w g zs) (hle : T.size ≤ dLen) (hfit : off + T.size ≤ zs.length)
    (h : ∀ w', Row w' g (splice zs off (tb T)) → w.grownBy w' (some g) → wpList Tryz.prog ops Q rest (a.put o.dst (goInt T.size)) w') :
    wpList Tryz.prog ops Q (o :: rest) a w := by
  refine wpList_plain hgd fun K hK => ?_
  have hrun := run_copy_text w 33 9 o.type 5 g off dLen dCap T (cells zs).toArray 5 Tryz.underlying33 size5 hr hle (by simpa [cells] using hfit)
  have e := row_spl (off := off) (ys := tb T) hr
  rw [cells_length, tb_length] at e
  have hh := h _ e (grow_setRow _ _ _)
  unfold Oper.wp
  simp [execOp, ho, resolve, invoke, builtin, hd, hs, hrun, Result.andThen]
  simp at hh
  exact hK _ _ hh

theorem bs_nil (w : World) (a : Option Addr) : Bs w a 0 [] := ⟨rfl, by simp, .inl rfl⟩
theorem grow_some {w w1 w2 : World} {g : Nat} (h : w.grownBy w1 none) (k : w1.grownBy w2 (some g)) : w.grownBy w2 (some g) :=
  ⟨k.os.trans h.os, k.tape.trans h.tape, k.output.trans h.output, Nat.le_trans h.size k.size, fun i hi hr => (k.block i (Nat.lt_of_lt_of_le hi h.size) hr).trans (h.block i hi (by simp))⟩

set_option maxHeartbeats 400000 in
theorem lay64_ (g off c : Nat) (zs : List Int) (x : Int) (w : World) (hr : Row w g zs) (hf : off + 8 ≤ zs.length) (h0 : 0 ≤ x) (h1 : x ≤ 18446744073709551615) :
    Calls Tryz.prog 162 #[.slice (some ⟨g, off, none⟩) 8 c, .int .u64 x] w fun e w' => e = .returned (.tuple #[]) ∧ Row w' g (splice zs off (be 8 x)) ∧ w.grownBy w' (some g) := by
  have hlt := hr.lt
  go_enter Tryz.func162, Tryz.ntmps162
  go_wp2_with (first
    | (go_at_call 188; refine (putW64 none 0 0 [] x w (bs_nil _ _) (by omega) h0 h1).mono ?_; rintro e w1 ⟨rfl, r1, g1⟩; have r0 := hr.kept g1 (by simp); have b1 : Bs w1 (some ⟨w.heap.size, 0, none⟩) 8 (be 8 x) := (Row.bs r1 (be_byte _ _)).len (be_length _ _); have G1 := hid g1; clear r1 g1)
    | (refine wpList_cp rfl (.tmp 4) (.tmp 6) rfl g off 8 c _ 8 _ rfl rfl zs (be 8 x) r0 b1 8 rfl hf ?_; intro w2 r2 g2; rw [List.take_of_length_le (by rw [be_length]; exact Nat.le_refl _)] at r2))
  go_end0
  exact ⟨rfl, r2, grow_some G1.out g2⟩
set_option maxHeartbeats 400000 in
theorem lay32_ (g off c : Nat) (zs : List Int) (x : Int) (w : World) (hr : Row w g zs) (hf : off + 4 ≤ zs.length) (h0 : 0 ≤ x) (h1 : x ≤ 4294967295) :
    Calls Tryz.prog 163 #[.slice (some ⟨g, off, none⟩) 4 c, .int .u32 x] w fun e w' => e = .returned (.tuple #[]) ∧ Row w' g (splice zs off (be 4 x)) ∧ w.grownBy w' (some g) := by
  have hlt := hr.lt
  go_enter Tryz.func163, Tryz.ntmps163
  go_wp2_with (first
    | (go_at_call 125; refine (putW32 none 0 0 [] x w (bs_nil _ _) (by omega) h0 h1).mono ?_; rintro e w1 ⟨rfl, r1, g1⟩; have r0 := hr.kept g1 (by simp); have b1 : Bs w1 (some ⟨w.heap.size, 0, none⟩) 4 (be 4 x) := (Row.bs r1 (be_byte _ _)).len (be_length _ _); have G1 := hid g1; clear r1 g1)
    | (refine wpList_cp rfl (.tmp 4) (.tmp 6) rfl g off 4 c _ 4 _ rfl rfl zs (be 4 x) r0 b1 4 rfl hf ?_; intro w2 r2 g2; rw [List.take_of_length_le (by rw [be_length]; exact Nat.le_refl _)] at r2))
  go_end0
  exact ⟨rfl, r2, grow_some G1.out g2⟩
set_option maxHeartbeats 400000 in
theorem lay16_ (g off c : Nat) (zs : List Int) (x : Int) (w : World) (hr : Row w g zs) (hf : off + 2 ≤ zs.length) (h0 : 0 ≤ x) (h1 : x ≤ 65535) :
    Calls Tryz.prog 164 #[.slice (some ⟨g, off, none⟩) 2 c, .int .u16 x] w fun e w' => e = .returned (.tuple #[]) ∧ Row w' g (splice zs off (be 2 x)) ∧ w.grownBy w' (some g) := by
  have hlt := hr.lt
  go_enter Tryz.func164, Tryz.ntmps164
  go_wp2_with (first
    | (go_at_call 149; refine (putW16 none 0 0 [] x w (bs_nil _ _) (by omega) h0 h1).mono ?_; rintro e w1 ⟨rfl, r1, g1⟩; have r0 := hr.kept g1 (by simp); have b1 : Bs w1 (some ⟨w.heap.size, 0, none⟩) 2 (be 2 x) := (Row.bs r1 (be_byte _ _)).len (be_length _ _); have G1 := hid g1; clear r1 g1)
    | (refine wpList_cp rfl (.tmp 4) (.tmp 6) rfl g off 2 c _ 2 _ rfl rfl zs (be 2 x) r0 b1 2 rfl hf ?_; intro w2 r2 g2; rw [List.take_of_length_le (by rw [be_length]; exact Nat.le_refl _)] at r2))
  go_end0
  exact ⟨rfl, r2, grow_some G1.out g2⟩

/-- The fields of a sector's bytes, in a variable. -/
def Fm (w : World) (f b off : Nat) : Prop := w.heap[f]? = some (.cells #[.slice (some ⟨b, off, none⟩) 4 4, .slice (some ⟨b, off + 4, none⟩) 8 8, .slice (some ⟨b, off + 12, none⟩) 8 8, .slice (some ⟨b, off + 20, none⟩) 4 4, .slice (some ⟨b, off + 24, none⟩) 2 2, .slice (some ⟨b, off + 28, none⟩) 480 480, .slice (some ⟨b, off, none⟩) 508 508, .slice (some ⟨b, off + 508, none⟩) 4 4] 198 (0, 0))
section
variable {w w' : World} {f b off : Nat}
theorem Fm.lt (h : Fm w f b off) : f < w.heap.size := (Array.getElem?_eq_some_iff.1 h).1
theorem Fm.c0 (h : Fm w f b off) : w.cell? ⟨f, 0, none⟩ = some (.slice (some ⟨b, off, none⟩) 4 4) := (cell_of_row w f 0 _ _ (0, 0) h).trans rfl
theorem Fm.c1 (h : Fm w f b off) : w.cell? ⟨f, 1, none⟩ = some (.slice (some ⟨b, off + 4, none⟩) 8 8) := (cell_of_row w f 1 _ _ (0, 0) h).trans rfl
theorem Fm.c2 (h : Fm w f b off) : w.cell? ⟨f, 2, none⟩ = some (.slice (some ⟨b, off + 12, none⟩) 8 8) := (cell_of_row w f 2 _ _ (0, 0) h).trans rfl
theorem Fm.c3 (h : Fm w f b off) : w.cell? ⟨f, 3, none⟩ = some (.slice (some ⟨b, off + 20, none⟩) 4 4) := (cell_of_row w f 3 _ _ (0, 0) h).trans rfl
theorem Fm.c4 (h : Fm w f b off) : w.cell? ⟨f, 4, none⟩ = some (.slice (some ⟨b, off + 24, none⟩) 2 2) := (cell_of_row w f 4 _ _ (0, 0) h).trans rfl
theorem Fm.c5 (h : Fm w f b off) : w.cell? ⟨f, 5, none⟩ = some (.slice (some ⟨b, off + 28, none⟩) 480 480) := (cell_of_row w f 5 _ _ (0, 0) h).trans rfl
theorem Fm.c6 (h : Fm w f b off) : w.cell? ⟨f, 6, none⟩ = some (.slice (some ⟨b, off, none⟩) 508 508) := (cell_of_row w f 6 _ _ (0, 0) h).trans rfl
theorem Fm.c7 (h : Fm w f b off) : w.cell? ⟨f, 7, none⟩ = some (.slice (some ⟨b, off + 508, none⟩) 4 4) := (cell_of_row w f 7 _ _ (0, 0) h).trans rfl
theorem Fm.at (h : Fm w f b off) (k : w'.heap[f]? = w.heap[f]?) : Fm w' f b off := by unfold Fm at *; rw [k]; exact h
theorem Fm.kept (h : Fm w f b off) (hb : Below w.heap.size w w') : Fm w' f b off := h.at (hb.block f h.lt)
theorem Fm.grown {r : Option Nat} (h : Fm w f b off) (hb : w.grownBy w' r) (hr : some f ≠ r) : Fm w' f b off := h.at (hb.block f h.lt hr)
end
/-- The value of the fields. -/
def fv (b off : Nat) : Array Value := #[.slice (some ⟨b, off, none⟩) 4 4, .slice (some ⟨b, off + 4, none⟩) 8 8, .slice (some ⟨b, off + 12, none⟩) 8 8, .slice (some ⟨b, off + 20, none⟩) 4 4, .slice (some ⟨b, off + 24, none⟩) 2 2, .slice (some ⟨b, off + 28, none⟩) 480 480, .slice (some ⟨b, off, none⟩) 508 508, .slice (some ⟨b, off + 508, none⟩) 4 4]
theorem fm_new (w : World) (b off : Nat) : Fm (w.alloc (.cells (fv b off) 198)) w.heap.size b off := heap_alloc_new w _
theorem sizeF : (Tryz.prog.info? 198).map (·.size) = some 8 := by kernel_rfl

theorem results_f {fn : Func} {p : Tmp} (h : fn.results = #[.cell p 198]) (tmps : Array Value) (w : World) (g b off : Nat)
    (hp : tmps.getD p undef = .pointer (some ⟨g, 0, none⟩)) (hg : Fm w g b off) :
    (results fn tmps).run Tryz.prog w = .ok (.agg (fv b off)) w := by
  have hl := run_loadVar_row (P := Tryz.prog) w g 198 198 (fv b off) (0, 0) _ hg Tryz.underlying198 rfl sizeF
  have hp' : tmps[p]?.getD undef = .pointer (some ⟨g, 0, none⟩) := by simpa using hp
  simp [results, h, hp', asAddr, hl]
set_option maxHeartbeats 4000000 in
theorem cut_ (b off c : Nat) (w : World) (hc : 512 ≤ c) (hm : c ≤ maxLen) :
    Calls Tryz.prog 161 #[.slice (some ⟨b, off, none⟩) 512 c] w fun en w' => en = .returned (.agg (fv b off)) ∧ Below w.heap.size w w' := by
  unfold maxLen at hm
  have i1 : (512 : Int) ≤ (c : Int) := by omega
  have i2 : (4 : Int) ≤ (c : Int) := by omega
  have i3 : (12 : Int) ≤ (c : Int) := by omega
  have i4 : (20 : Int) ≤ (c : Int) := by omega
  have i5 : (24 : Int) ≤ (c : Int) := by omega
  have i6 : (26 : Int) ≤ (c : Int) := by omega
  have i7 : (508 : Int) ≤ (c : Int) := by omega
  go_enter Tryz.func161, Tryz.ntmps161
  go_wp2
  go_region
  go_wp2
  refine bodyPost_ret (v := .agg (fv b off)) (results_f rfl _ _ w.heap.size b off rfl ((fm_new w b off).at rfl)) rfl ⟨rfl, ((Below.refl _ _).alloc (Nat.le_refl _) _).trans ⟨rfl, rfl, rfl, Nat.le_refl _, fun _ _ => rfl⟩⟩
end Go.Proofs.YtjajcbjodokfnaaGreatDoor
