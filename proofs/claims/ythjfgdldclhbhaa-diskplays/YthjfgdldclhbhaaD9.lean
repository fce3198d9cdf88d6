import Derived.Test.YthjfgdldclhbhaaD8
namespace Go.Proofs.Ythjfgdldclhbhaa
open Go.RowKit Go.Shelf
set_option linter.unusedVariables false
set_option maxRecDepth 100000

/-- A sector of zeros. -/
def zer : List Int := List.replicate 512 0
theorem zer_sec : Sec zer := by
  constructor
  · exact List.length_replicate
  · intro x hx
    obtain rfl := List.eq_of_mem_replicate hx
    omega
/-- A new device. -/
def st0 (n : Nat) : St := ⟨n, fun _ => zer, [], fun _ => 0, 0, true, 0⟩
theorem flat_zer : ∀ n, flat (fun _ => zer) n = List.replicate (512 * n) 0
  | 0 => rfl
  | n + 1 => by
    rw [flat, flat_zer n]
    unfold zer
    rw [List.replicate_append_replicate]
    congr 1
theorem made_row {w : World} {B g n : Nat} (h : w.ownsRow B 5 1 (.slice (some ⟨g, 0, none⟩) n n) n (madeCells (Value.int .u8 0).cells (n * 1)).toList) : w.heap[g]? = some (.cells (cells (List.replicate n 0)).toArray 5 (0, 0)) := by
  obtain ⟨h1, h2⟩ := h
  have e : (madeCells (Value.int .u8 0).cells (n * 1)).toList = cells (List.replicate n 0) := by
    simp [madeCells, cells, Value.cells, Nat.mod_one, List.map_const']
  rw [e] at h1 h2
  rcases h2 with ⟨h, _⟩ | ⟨g', cap, cur, e', _, hg, _, _, hs, ht⟩
  · simp at h
  · simp at e'
    obtain ⟨rfl, rfl⟩ := e'
    have hl : cur.toList = cells (List.replicate n 0) := by
      rw [← ht]
      refine (List.take_of_length_le ?_).symm
      simp
      omega
    rw [hg, ← hl]
theorem new_no (n : Int) (w : World) (h : n < 32 ∨ 8192 < n) : Calls Try.prog 13 #[.int .i64 n] w fun e w' => e = .returned (.pointer none) ∧ w' = w := by
  by_cases h1 : n < 32
  · clear h
    go_enter Try.func13, Try.ntmps13
    go_wp2_with fail
    go_ret
    exact ⟨rfl, rfl⟩
  · have h2 : 8192 < n := by omega
    clear h
    go_enter Try.func13, Try.ntmps13
    go_wp2_with fail
    go_ret
    exact ⟨rfl, rfl⟩
set_option maxHeartbeats 1000000 in
theorem new_ (n : Nat) (w : World) (h1 : 32 ≤ n) (h2 : n ≤ 8192) :
    Calls Try.prog 13 #[.int .i64 n] w fun e w' => ∃ d, e = .returned (.pointer (some ⟨d, 0, none⟩)) ∧ Dev w' d (st0 n) (fun b => w.heap.size ≤ b ∧ b < w'.heap.size) ∧ Below w.heap.size w w' := by
  obtain ⟨i, hi, hz0, hz1, hz2⟩ := info_parts info5
  have e1 : ¬ (n : Int) < 32 := by omega
  have e2 : ¬ (8192 : Int) < n := by omega
  have e3 : (n : Int) * 512 = ((512 * n : Nat) : Int) := by omega
  obtain ⟨N, HN⟩ : ∃ N, Hid (512 * n = N) := ⟨_, rfl⟩
  have hN1 : N ≤ 4194304 := by have := HN.out; omega
  rw [HN.out] at e3
  have hnn : (n : Int) ≤ 8192 := by omega
  go_enter Try.func13, Try.ntmps13
  go_wp2_with (at_make; refine wpList_make_full _ rfl _ _ 25 rfl w.heap.size 5 i (.int .u8 0) 1 Try.underlying25 hi hz0 hz1 .i64 .i64 _ _ N rfl rfl (by first | rfl | omega) (by first | rfl | omega) (by rw [hz2]; omega) (by unfold maxLen; omega) (Nat.le_refl _) ?_; intro w1 hown hg1; have HR := hid (made_row hown); have HG1 := hid (below_of_grown hg1); clear hown hg1)
  have DN : Dm (w1.alloc (.cells #[.slice (some ⟨w.heap.size, 0, none⟩) N N, .slice none 0 0, .nilFunc, .int .i64 0, .bool false, .int .i64 0] 90)) w1.heap.size (.slice (some ⟨w.heap.size, 0, none⟩) N N) (.slice none 0 0) .nilFunc 0 false 0 := Dm.new w1
  refine (start_ w1.heap.size _ _ _ _ _ _ _ DN).mono ?_
  rintro e w2 ⟨rfl, hM, hB, hG⟩
  have BA : Below w1.heap.size w1 (w1.alloc (.cells #[.slice (some ⟨w.heap.size, 0, none⟩) N N, .slice none 0 0, .nilFunc, .int .i64 0, .bool false, .int .i64 0] 90)) := (Below.refl _ _).alloc (Nat.le_refl _) _
  have hr1 := (Array.getElem?_eq_some_iff.1 HR.out).1
  have sA := World.size_alloc w1 (.cells #[.slice (some ⟨w.heap.size, 0, none⟩) N N, .slice none 0 0, .nilFunc, .int .i64 0, .bool false, .int .i64 0] 90)
  have hr2 := (BA.block _ hr1).trans HR.out
  generalize w1.alloc (.cells #[.slice (some ⟨w.heap.size, 0, none⟩) N N, .slice none 0 0, .nilFunc, .int .i64 0, .bool false, .int .i64 0] 90) = W at *
  have hr3 := (hG.block w.heap.size (by omega) (fun e => by have := Option.some.inj e; omega)).trans hr2
  have sG := hG.size
  have sw := HG1.out.size
  have hB2 := (Array.getElem?_eq_some_iff.1 hB).1
  have hft : Ft w2 W.heap.size (fun _ => 0) none 0 0 [] := ⟨hB, fun ad ha => (by cases ha), ⟨rfl, .inl rfl⟩, List.Pairwise.nil, by omega, rfl⟩
  have hL : Ls w2 w.heap.size n (fun _ => zer) := ⟨by rw [flat_zer, HN.out]; exact hr3, fun _ _ => zer_sec⟩
  have hM' := hM
  rw [← HN.out] at hM'
  have KD : Hid (Dev w2 w1.heap.size (st0 n) (fun b => w.heap.size ≤ b ∧ b < w2.heap.size)) :=
    ⟨w.heap.size, none, 0, 0, W.heap.size, none, 0, 0, [], [], ⟨hM', hL, World.ownsRow_nil _ _ _ _, rfl, fun x hx => by simp at hx, rfl, hft, ⟨by omega, by omega⟩, ⟨by omega, by omega⟩, fun g e => by simp [Value.ownBlock] at e, ⟨by omega, by omega⟩, fun ad e => (by cases e), fun b hb => hb.2, ⟨h1, h2⟩⟩⟩
  have BF : Hid (Below w.heap.size w w2) := (⟨hG.os.trans (BA.os.trans HG1.out.os), hG.tape.trans (BA.tape.trans HG1.out.tape), hG.output.trans (BA.output.trans HG1.out.output), by omega, fun b hb => (hG.block b (by omega) (fun e => by have := Option.some.inj e; omega)).trans ((BA.block b (by omega)).trans (HG1.out.block b hb))⟩ : Below w.heap.size w w2)
  clear hM hM' hB hG hft hL hr1 hr2 hr3 BA DN HR HG1
  go_wp2_with fail
  go_ret
  exact ⟨_, rfl, KD.out, BF.out⟩
/-- Bytes as sectors. -/
def secs (zs : List Int) (i : Nat) : List Int := (zs.drop (512 * i)).take 512
theorem flat_secs (zs : List Int) : ∀ n, 512 * n ≤ zs.length → flat (secs zs) n = zs.take (512 * n)
  | 0, _ => by simp [flat]
  | n + 1, h => by
    rw [flat, flat_secs zs n (by omega)]
    unfold secs
    rw [show 512 * (n + 1) = 512 * n + 512 from by omega, List.take_add]
theorem secs_sec {zs : List Int} {n : Nat} (h : 512 * n ≤ zs.length) (hb : ∀ z ∈ zs, 0 ≤ z ∧ z ≤ 255) (i : Nat) (hi : i < n) : Sec (secs zs i) := by
  unfold secs
  refine ⟨by rw [List.length_take, List.length_drop]; omega, fun x hx => hb x (List.mem_of_mem_drop (List.mem_of_mem_take hx))⟩
theorem wpList_cpA {ops : Array Oper} {rest : List Oper} {o : Oper} {act : Act} {w : World} {Q : Exit → Act → World → Prop} (hgd : o.guard = none) (d s : Operand)
    (ho : o.op = .call { callee := .builtin .copy, args := #[d, s], argTypes := #[25, 25] }) (gl n N sc : Nat) (x : Addr) (S : Nat → List Int) (zs : List Int) (hN : 512 * n = N)
    (hd : act.eval d = .slice (some ⟨gl, 0, none⟩) N N) (hs : act.eval s = .slice (some x) N sc) (hL : Ls w gl n S) (hz : Bs w (some x) N zs)
    (h : ∀ w', Hid (Ls w' gl n (secs zs)) → Hid (w.grownBy w' (some gl)) → wpList Try.prog ops Q rest (act.put o.dst (goInt N)) w') : wpList Try.prog ops Q (o :: rest) act w := by
  subst hN
  have hzl : (cells zs).length = 512 * n := by rw [cells_length, hz.1]
  have hl := hL.len
  refine wpList_copy_own hgd d s 25 25 ho 5 Try.underlying25 size1 gl 0 (512 * n) (512 * n) x (512 * n) sc hd hs (cells (flat S n)).toArray 5 hL.1 (cells zs) (by rw [hzl]; exact (Nat.min_self _).symm) (hz.src1 (grown_of_below (Below.refl _ _))) (by rw [hzl]; simp [cells_length, hl]) (cells_one zs) ?_
  rw [hzl]
  refine h _ ?_ ?_
  · refine ⟨?_, secs_sec (by rw [hz.1]; exact Nat.le_refl _) hz.2.1⟩
    have e2 : zs.take (512 * n) = zs := List.take_of_length_le (by rw [hz.1]; exact Nat.le_refl _)
    rw [setRow_heap w gl _ _ 5 _ hL.1, flat_secs zs n (by rw [hz.1]; exact Nat.le_refl _), e2]
    have e : ((cells (flat S n)).toArray.toList.take 0 ++ (cells zs ++ (cells (flat S n)).toArray.toList.drop (0 + 512 * n))) = cells zs := by
      simp [cells_length, hl]
    rw [e]
  · exact ⟨rfl, rfl, rfl, by simp [World.setRow], fun b hb hn => setRow_other w gl b _ (fun e => hn (by rw [e]))⟩
set_option maxHeartbeats 2000000 in
theorem image_no (a : Option Addr) (m c : Nat) (w : World) (hm : m ≤ 140737488355328) (h : ¬ (m % 512 = 0 ∧ 32 ≤ m / 512 ∧ m / 512 ≤ 8192)) :
    Calls Try.prog 21 #[.slice a m c] w fun e w' => e = .returned (.tuple #[.pointer none, .int .i64 100]) ∧ Below w.heap.size w w' := by
  have e0 : (m : Int) / 512 = ((m / 512 : Nat) : Int) := by omega
  obtain ⟨q, HQ⟩ : ∃ q, Hid (m / 512 = q) := ⟨_, rfl⟩
  rw [HQ.out] at e0 h
  by_cases hq : 32 ≤ q ∧ q ≤ 8192
  · have e1 : ((m : Int) % 512 != 0) = true := by rw [bne_iff_ne]; omega
    have kn := new_ q w hq.1 hq.2
    clear h hq
    go_enter Try.func21, Try.ntmps21
    go_wp2_with (go_at_call 13; refine kn.mono ?_; rintro e w1 ⟨d, rfl, hD, hB⟩)
    go_ret2
    exact ⟨rfl, hB⟩
  · have kn := new_no q w (by omega)
    clear h hq
    go_enter Try.func21, Try.ntmps21
    go_wp2_with (go_at_call 13; refine kn.mono ?_; rintro e w1 ⟨rfl, hB⟩; obtain rfl := hB.symm; clear hB)
    go_ret2
    exact ⟨rfl, Below.refl _ _⟩
set_option maxHeartbeats 2000000 in
theorem image_ (x : Addr) (n c : Nat) (zs : List Int) (w : World) (h1 : 32 ≤ n) (h2 : n ≤ 8192) (hb : Bs w (some x) (512 * n) zs) :
    Calls Try.prog 21 #[.slice (some x) (512 * n) c] w fun e w' => ∃ d, e = .returned (.tuple #[.pointer (some ⟨d, 0, none⟩), .int .i64 0]) ∧ Dev w' d { st0 n with S := secs zs } (fun b => w.heap.size ≤ b ∧ b < w'.heap.size) ∧ Below w.heap.size w w' := by
  obtain ⟨N, HN⟩ : ∃ N, Hid (512 * n = N) := ⟨_, rfl⟩
  have e0 : (N : Int) / 512 = (n : Int) := by have := HN.out; omega
  have e1 : ((N : Int) % 512 != 0) = false := by have := HN.out; simp; omega
  have hN1 : N ≤ 4194304 := by have := HN.out; omega
  have HB := hid hb
  have kn := new_ n w h1 h2
  rw [HN.out] at HB ⊢
  clear hb
  go_enter Try.func21, Try.ntmps21
  go_wp2_with fail
  refine kn.mono ?_
  rintro e w1 ⟨d, rfl, ⟨gl, pa, pn, pc, go, a, m, cp, fs, I, hD⟩, hB⟩
  have m0 := hD.dm.c0
  rw [show (512 * (st0 n).n) = N from HN.out] at m0
  have B1 := hid (HB.out.below hB)
  have HD := hid hD
  have HBL := hid hB
  have hql := hD.ql.1
  clear kn hD hB
  go_wp2_with (refine wpList_cpA rfl _ _ rfl gl n N c x (st0 n).S zs HN.out rfl rfl HD.out.ls B1.out ?_; intro w2 L2 G2)
  have hk := HD.out.laid L2.out G2.out
  have sG := G2.out.size
  have KD : Hid (Dev w2 d { st0 n with S := secs zs } (fun b => w.heap.size ≤ b ∧ b < w2.heap.size)) :=
    ⟨gl, pa, pn, pc, go, a, m, cp, fs, I, ⟨hk.dm, hk.ls, hk.own, hk.hpn, fun x hx => (hk.it x hx).weak (fun b hb => ⟨hb.1, by omega⟩), hk.ip, hk.ft, ⟨hk.qd.1, by have := hk.qd.2; omega⟩, ⟨hk.ql.1, by have := hk.ql.2; omega⟩, fun g e => ⟨(hk.qp g e).1, by have := (hk.qp g e).2; omega⟩, ⟨hk.qo.1, by have := hk.qo.2; omega⟩, fun ad e => ⟨(hk.qf ad e).1, by have := (hk.qf ad e).2; omega⟩, fun b hb => hb.2, hk.n0⟩⟩
  have BF : Hid (Below w.heap.size w w2) := (⟨G2.out.os.trans HBL.out.os, G2.out.tape.trans HBL.out.tape, G2.out.output.trans HBL.out.output, Nat.le_trans HBL.out.size sG, fun b hb => (G2.out.block b (Nat.lt_of_lt_of_le hb HBL.out.size) (fun e => by have := Option.some.inj e; omega)).trans (HBL.out.block b hb)⟩ : Below w.heap.size w w2)
  clear hk L2 G2 HD HBL B1 m0
  go_wp2_with fail
  go_ret2
  exact ⟨_, rfl, KD.out, BF.out⟩
theorem durable_ (d : Nat) (s : St) (Q : Nat → Prop) (w : World) (h : Dev w d s Q) :
    Calls Try.prog 22 #[.pointer (some ⟨d, 0, none⟩)] w fun e w' => ∃ v, e = .returned v ∧ w'.ownsRow w.heap.size 5 1 v (512 * s.n) (cells (flat s.S s.n)) ∧ Below w.heap.size w w' := by
  obtain ⟨gl, pa, pn, pc, go, a, m, cp, fs, I, h⟩ := h
  have m0 := h.dm.c0
  have kb := bclone_ ⟨gl, 0, none⟩ (512 * s.n) (512 * s.n) (flat s.S s.n) w h.ls.all (by have := h.n0.2; omega)
  obtain ⟨N, HN⟩ : ∃ N, Hid (512 * s.n = N) := ⟨_, rfl⟩
  rw [HN.out] at m0 kb ⊢
  clear h
  go_enter Try.func22, Try.ntmps22
  go_wp2_with fail
  refine kb.mono ?_
  rintro e w1 ⟨v, rfl, o1, g1⟩
  clear kb
  go_wp2_with fail
  go_ret
  exact ⟨_, rfl, o1, g1⟩
end Go.Proofs.Ythjfgdldclhbhaa
