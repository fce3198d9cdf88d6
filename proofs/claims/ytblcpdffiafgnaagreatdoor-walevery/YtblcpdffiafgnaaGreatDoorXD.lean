import Derived.Test.YtblcpdffiafgnaaGreatDoorX9
namespace Go.Proofs.YtblcpdffiafgnaaGreatDoor
set_option maxRecDepth 100000
open Go.RowKit Go.Shelf
set_option linter.unusedVariables false

section
variable {w : World} {g d mi ep nx pl : Nat} {se re : Bool} {s : St} {Q : Nat → Prop}
theorem wstate_e (h : Wq w g d mi ep nx pl se re s Q) (he : edd mi re s = true) : Calls Tryz.prog 17 #[.pointer (some ⟨g, 0, none⟩)] w fun en w' => en = .returned (.tuple #[.int .i64 0, .int .i64 0, .int .i64 0]) ∧ Drawn w w' := by
  have ke := wended_ h
  rw [he] at ke
  clear h he
  go_enter Tryz.func17, Tryz.ntmps17
  go_wp2_with fail
  refine ke.mono ?_
  rintro en w1 ⟨rfl, d1⟩
  have HD := hid d1
  clear ke d1
  go_wp2_with fail
  go_ret3
  exact ⟨rfl, HD.out⟩
theorem wstate_o (h : Wq w g d mi ep nx pl se re s Q) (he : edd mi re s = false) : Calls Tryz.prog 17 #[.pointer (some ⟨g, 0, none⟩)] w fun en w' => en = .returned (.tuple #[.int .i64 ep, .int .i64 nx, .int .i64 pl]) ∧ Drawn w w' := by
  have ke := wended_ h
  rw [he] at ke
  have HQ := hid h
  clear h he
  go_enter Tryz.func17, Tryz.ntmps17
  go_wp2_with fail
  refine ke.mono ?_
  rintro en w1 ⟨rfl, d1⟩
  have HD := hid d1
  have L1 := HQ.out.lm.below d1.below
  have c2 := L1.c2
  have c3 := L1.c3
  have c4 := L1.c4
  clear ke d1 L1
  go_wp2_with fail
  go_quiet (fail)
  go_wp2_with fail
  go_ret3
  exact ⟨rfl, HD.out.trans (drawnN w1 _)⟩
theorem wleft_e (h : Wq w g d mi ep nx pl se re s Q) (he : edd mi re s = true) : Calls Tryz.prog 18 #[.pointer (some ⟨g, 0, none⟩)] w fun en w' => en = .returned (.int .i64 0) ∧ Drawn w w' := by
  have ke := wended_ h
  rw [he] at ke
  clear h he
  go_enter Tryz.func18, Tryz.ntmps18
  go_wp2_with fail
  refine ke.mono ?_
  rintro en w1 ⟨rfl, d1⟩
  have HD := hid d1
  clear ke d1
  go_wp2_with fail
  go_ret
  exact ⟨rfl, HD.out⟩
theorem wleft_o (h : Wq w g d mi ep nx pl se re s Q) (he : edd mi re s = false) (hp : pl ≤ roo s.n) : Calls Tryz.prog 18 #[.pointer (some ⟨g, 0, none⟩)] w fun en w' => en = .returned (.int .i64 ((roo s.n - pl : Nat) : Int)) ∧ Drawn w w' := by
  have ke := wended_ h
  rw [he] at ke
  have HQ := hid h
  have hn := h.dv.n
  have hR : roo s.n ≤ 4095 := by unfold roo; omega
  obtain ⟨R, HR⟩ : ∃ R, Hid (roo s.n = R) := ⟨_, rfl⟩
  rw [HR.out] at hp hR ⊢
  obtain ⟨L, HL⟩ : ∃ L : Nat, Hid (R - pl = L) := ⟨_, rfl⟩
  have hL := HL.out
  have e1 : (R : Int) - (pl : Int) = (L : Int) := by omega
  have e2 : IntKind.i64.wrap ((R : Int) - (pl : Int)) = (L : Int) := by rw [IntKind.wrap_i64]; omega
  rw [HL.out]
  clear h he hL
  go_enter Tryz.func18, Tryz.ntmps18
  go_wp2_with fail
  refine ke.mono ?_
  rintro en w1 ⟨rfl, d1⟩
  have HD := hid d1
  have Q1 := HQ.out.below d1.below
  have c0 := Q1.lm.c0
  have c4 := Q1.lm.c4
  have kr := fun n => wroom_ (Q1.dv.below (drawnN w1 n).below)
  simp only [HR.out] at kr
  clear ke d1 Q1
  go_wp2_with fail
  go_quiet ((go_at_call 46; exact Calls.quiet_of_same (kr _)))
  go_wp2_with fail
  go_ret
  exact ⟨rfl, HD.out.trans (drawnN w1 _)⟩
theorem wroomL_e (h : Wq w g d mi ep nx pl se re s Q) (he : edd mi re s = true) : Calls Tryz.prog 19 #[.pointer (some ⟨g, 0, none⟩)] w fun en w' => en = .returned (.int .i64 0) ∧ Drawn w w' := by
  have ke := wended_ h
  rw [he] at ke
  clear h he
  go_enter Tryz.func19, Tryz.ntmps19
  go_wp2_with fail
  refine ke.mono ?_
  rintro en w1 ⟨rfl, d1⟩
  have HD := hid d1
  clear ke d1
  go_wp2_with fail
  go_ret
  exact ⟨rfl, HD.out⟩
theorem wroomL_o (h : Wq w g d mi ep nx pl se re s Q) (he : edd mi re s = false) : Calls Tryz.prog 19 #[.pointer (some ⟨g, 0, none⟩)] w fun en w' => en = .returned (.int .i64 (roo s.n)) ∧ Drawn w w' := by
  have ke := wended_ h
  rw [he] at ke
  have HQ := hid h
  clear h he
  go_enter Tryz.func19, Tryz.ntmps19
  go_wp2_with fail
  refine ke.mono ?_
  rintro en w1 ⟨rfl, d1⟩
  have HD := hid d1
  have Q1 := HQ.out.below d1.below
  have c0 := Q1.lm.c0
  have kr := wroom_ Q1.dv
  clear ke d1 Q1
  go_wp2_with fail
  refine kr.mono ?_
  rintro en w2 ⟨rfl, hw⟩
  obtain rfl := hw.symm
  go_wp2_with fail
  go_ret
  exact ⟨rfl, HD.out⟩
end
/-- The body of a transaction's end. -/
theorem endOf_ (a : Option Addr) (m c : Nat) (tx : List Int) (w : World) (hT : Tab w) (hb : Bs w a m tx) (hm : m ≤ 1000000) :
    Calls Tryz.prog 70 #[.slice a m c] w fun en w' => ∃ g, en = .returned (.slice (some ⟨g, 0, none⟩) 10 10) ∧ w.heap.size ≤ g ∧ Row w' g (edb tx) ∧ Below w.heap.size w w' := by
  have hl := hb.1
  have hs := updc_lt (by omega : (0 : Nat) < 4294967296) (show By tx from hb.2.1)
  have kp := fun w => pieces0_ (m : Int) w (by omega)
  have hpc : pcN m ≤ 2100 := by unfold pcN; omega
  simp only [Int.toNat_natCast] at kp
  obtain ⟨K, HK⟩ : ∃ K, Hid (pcN m = K) := ⟨_, rfl⟩
  obtain ⟨S, HS⟩ : ∃ S, Hid (updc 0 tx = S) := ⟨_, rfl⟩
  have HU : Hid (edb tx = (([] ++ be 2 (K : Int)) ++ be 4 (m : Int)) ++ be 4 (S : Int)) := by
    show _ = _
    rw [← HK.out, ← HS.out, ← hl]
    rfl
  simp only [HK.out] at kp
  rw [HK.out] at hpc
  rw [HS.out] at hs
  have x1 : (K : Int) % 65536 = (K : Int) := by omega
  have x2 : (m : Int) % 4294967296 = (m : Int) := by omega
  have HB := hid hb
  have HTB := hid hT
  clear hb hT hl
  go_enter Tryz.func70, Tryz.ntmps70
  go_wp2_with fail
  refine (kp w).mono ?_
  rintro en w2 ⟨rfl, hw⟩
  obtain rfl := hw.symm
  clear hw
  go_wp2_with fail
  refine (putW16 none 0 0 [] (K : Int) w (bs_nil w none) (by omega) (by omega) (by omega)).mono ?_
  rintro en w1 ⟨rfl, r1, g1⟩
  have l1 : ([] ++ be 2 (K : Int)).length = 2 := by simp [be_length]
  have b1 := r1.bs12 l1 (by rw [List.nil_append]; exact be_byte 2 _)
  have HB1 := hid (below_of_grown g1)
  clear g1 r1
  go_wp2_with fail
  refine (putW32 (some ⟨w.heap.size, 0, none⟩) 2 2 _ (m : Int) w1 b1 (by omega) (by omega) (by omega)).mono ?_
  rintro en w2 ⟨rfl, r2, g2⟩
  have l2 : (([] ++ be 2 (K : Int)) ++ be 4 (m : Int)).length = 6 := by simp [be_length]
  have b2 := r2.bs12 l2 (By.app (by rw [List.nil_append]; exact be_byte 2 _) (be_byte 4 (m : Int)))
  have HB2 := hid (bel_bel HB1.out HB1.out.size (below_of_grown g2))
  have ks := sum_ a m c tx w2 (HTB.out.bel HB2.out) (HB.out.below HB2.out) (by unfold maxLen; omega)
  rw [HS.out] at ks
  clear g2 r2 b1
  go_wp2_with fail
  refine ks.mono ?_
  rintro en w3 ⟨rfl, hw⟩
  obtain rfl := hw.symm
  clear hw ks
  go_wp2_with fail
  refine (putW32 (some ⟨w1.heap.size, 0, none⟩) 6 6 _ (S : Int) w2 b2 (by omega) (by omega) (by omega)).mono ?_
  rintro en w3 ⟨rfl, r3, g3⟩
  have HB3 := hid (bel_bel HB2.out HB2.out.size (below_of_grown g3))
  have HR3 := hid r3
  clear g3 r3 b2
  go_wp2_with fail
  go_ret
  refine ⟨w2.heap.size, rfl, HB2.out.size, ?_, HB3.out⟩
  rw [HU.out]
  exact HR3.out
end Go.Proofs.YtblcpdffiafgnaaGreatDoor
namespace Go.Proofs.YtblcpdffiafgnaaGreatDoor
set_option maxRecDepth 100000
open Go.RowKit Go.Shelf
set_option linter.unusedVariables false

/-- A superblock in a variable. -/
def Um (w : World) (g : Nat) (e q l : Int) (m : Int) : Prop := w.heap[g]? = some (.cells #[.int .i64 e, .int .i64 q, .int .i64 l, .int .u32 m] 88 (0, 0))
section
variable {w w' : World} {g : Nat} {e q l m : Int}
theorem Um.lt (h : Um w g e q l m) : g < w.heap.size := (Array.getElem?_eq_some_iff.1 h).1
theorem Um.c0 (h : Um w g e q l m) : w.cell? ⟨g, 0, none⟩ = some (.int .i64 e) := (cell_of_row w g 0 _ _ (0, 0) h).trans rfl
theorem Um.c1 (h : Um w g e q l m) : w.cell? ⟨g, 1, none⟩ = some (.int .i64 q) := (cell_of_row w g 1 _ _ (0, 0) h).trans rfl
theorem Um.c2 (h : Um w g e q l m) : w.cell? ⟨g, 2, none⟩ = some (.int .i64 l) := (cell_of_row w g 2 _ _ (0, 0) h).trans rfl
theorem Um.c3 (h : Um w g e q l m) : w.cell? ⟨g, 3, none⟩ = some (.int .u32 m) := (cell_of_row w g 3 _ _ (0, 0) h).trans rfl
theorem Um.fz (h : Um w g e q l m) (i : Nat) : w.frozen? ⟨g, i, none⟩ = false := by unfold Um at h; simp [World.frozen?, h]
theorem Um.at (h : Um w g e q l m) (k : w'.heap[g]? = w.heap[g]?) : Um w' g e q l m := k.trans h
theorem Um.below (h : Um w g e q l m) (hb : Below w.heap.size w w') : Um w' g e q l m := h.at (hb.block g h.lt)
theorem Um.new (w : World) (e q l m : Int) : Um (w.alloc (.cells #[.int .i64 e, .int .i64 q, .int .i64 l, .int .u32 m] 88)) w.heap.size e q l m := heap_alloc_new w _
theorem Um.row (h : Um w g e q l m) (e' q' l' m' : Int) : Um (w.setRow g #[.int .i64 e', .int .i64 q', .int .i64 l', .int .u32 m']) g e' q' l' m' := setRow_heap w g _ _ _ _ h
end
theorem sizeU : (Tryz.prog.info? 88).map (·.size) = some 4 := by kernel_rfl
theorem unew (w : World) (e q l m : Int) : Below w.heap.size w (w.alloc (.cells #[.int .i64 e, .int .i64 q, .int .i64 l, .int .u32 m] 88)) := (Below.refl _ _).alloc (Nat.le_refl _) _
theorem results_u {fn : Func} {p : Tmp} (h : fn.results = #[.cell p 88]) (tmps : Array Value) (w : World) (g : Nat) (e q l m : Int)
    (hp : tmps.getD p undef = .pointer (some ⟨g, 0, none⟩)) (hg : Um w g e q l m) :
    (results fn tmps).run Tryz.prog w = .ok (.agg #[.int .i64 e, .int .i64 q, .int .i64 l, .int .u32 m]) w := by
  have hl := run_loadVar_row (P := Tryz.prog) w g 88 88 #[.int .i64 e, .int .i64 q, .int .i64 l, .int .u32 m] (0, 0) _ hg Tryz.underlying88 rfl sizeU
  have hp' : tmps[p]?.getD undef = .pointer (some ⟨g, 0, none⟩) := by simpa using hp
  simp [results, h, hp', asAddr, hl]
theorem wpList_su {ops : Array Oper} {rest : List Oper} {o : Oper} {a : Act} {w : World} {Q : Exit → Act → World → Prop} (hgd : o.guard = none) (hdst : o.dst = none) (x y : Operand) (ho : o.op = .store 88 x y)
    (g : Nat) (e q l m : Int) (hx : a.eval x = .pointer (some ⟨g, 0, none⟩)) (hy : a.eval y = .agg #[.int .i64 e, .int .i64 q, .int .i64 l, .int .u32 m]) (e0 q0 l0 m0 : Int) (hg : Um w g e0 q0 l0 m0)
    (h : wpList Tryz.prog ops Q rest a (w.setRow g #[.int .i64 e, .int .i64 q, .int .i64 l, .int .u32 m])) : wpList Tryz.prog ops Q (o :: rest) a w := by
  refine wpList_store_row hgd _ x y ho g #[.int .i64 e, .int .i64 q, .int .i64 l, .int .u32 m] hx hy _ _ hg sizeU rfl (by simp [Value.oneCell']) ?_
  rw [hdst]
  exact h
set_option maxHeartbeats 2000000 in
theorem superOf_ (e q : Int) (a : Option Addr) (n c : Nat) (st : List Int) (w : World) (hT : Tab w) (hb : Bs w a n st) (hn : n ≤ maxLen) :
    Calls Tryz.prog 50 #[.int .i64 e, .int .i64 q, .slice a n c] w fun en w' => en = .returned (.agg #[.int .i64 e, .int .i64 q, .int .i64 n, .int .u32 (updc 0 st)]) ∧ Below w.heap.size w w' := by
  have m0 := Um.new w 0 0 0 0
  have B0 := unew w 0 0 0 0
  have ks := sum_ a n c st _ (hT.bel B0) (hb.below B0) hn
  obtain ⟨S, HS⟩ : ∃ S, Hid (updc 0 st = S) := ⟨_, rfl⟩
  rw [HS.out] at ks ⊢
  have HM := hid m0
  have HB := hid B0
  clear m0 B0 hb hT
  go_enter Tryz.func50, Tryz.ntmps50
  go_wp2_with fail
  refine ks.mono ?_
  rintro en w1 ⟨rfl, hw⟩
  obtain rfl := hw.symm
  clear hw ks
  go_wp2_with (with_reducible show wpList _ _ _ (_ :: _) _ _; refine wpList_su rfl rfl _ _ rfl w.heap.size e q n S rfl rfl 0 0 0 0 (by with_reducible exact HM.out) ?_)
  refine bodyPost_ret (results_u rfl _ _ w.heap.size e q n S rfl (HM.out.row e q n S)) rfl ⟨rfl, bel_row HB.out (Nat.le_refl _) _⟩
set_option maxHeartbeats 4000000 in
/-- A superblock as a sector of its device. -/
theorem on_ (e q n S : Nat) (d : Nat) (s : St) (Q : Nat → Prop) (w : World) (h : Dev w d s Q) (he : e ≤ 4611686018427387904) (hn : n ≤ 4000000000) (hS : S < 4294967296) :
    Calls Tryz.prog 53 #[.agg #[.int .i64 e, .int .i64 q, .int .i64 n, .int .u32 S], .pointer (some ⟨d, 0, none⟩)] w fun en w' => ∃ g, en = .returned (.agg #[.string t1, .int .i64 e, .int .i64 q, .int .i64 (e % 2 : Nat), .slice (some ⟨g, 0, none⟩) 16 16]) ∧ w.heap.size ≤ g ∧ Row w' g (be 4 s.n ++ be 4 (pcN n) ++ be 4 n ++ be 4 S) ∧ Below w.heap.size w w' := by
  have hN := h.n
  have m0 := (Um.new w e q n S).at (Below.heap_alloc (w.alloc (.cells #[.int .i64 e, .int .i64 q, .int .i64 n, .int .u32 S] 88)) (.cells #[.string ⟨#[]⟩, .int .i64 0, .int .i64 0, .int .i64 0, .slice none 0 0] 31) _ (Um.new w e q n S).lt)
  have m1 := Sm.new (w.alloc (.cells #[.int .i64 e, .int .i64 q, .int .i64 n, .int .u32 S] 88)) ⟨#[]⟩ 0 0 0 (.slice none 0 0)
  rw [World.size_alloc] at m1
  have B0 : Below w.heap.size w ((w.alloc (.cells #[.int .i64 e, .int .i64 q, .int .i64 n, .int .u32 S] 88)).alloc (.cells #[.string ⟨#[]⟩, .int .i64 0, .int .i64 0, .int .i64 0, .slice none 0 0] 31)) := (unew w e q n S).alloc (by simp) _
  have ks := sectorsD (h.below B0)
  have kp := fun w => pieces0_ (n : Int) w (by omega)
  have hpc : pcN n ≤ 8400000 := by unfold pcN; omega
  simp only [Int.toNat_natCast] at kp
  obtain ⟨K, HK⟩ : ∃ K, Hid (pcN n = K) := ⟨_, rfl⟩
  simp only [HK.out] at kp
  rw [HK.out] at hpc ⊢
  obtain ⟨N, HN⟩ : ∃ N, Hid (s.n = N) := ⟨_, rfl⟩
  rw [HN.out] at ks hN ⊢
  have x1 : (N : Int) % 4294967296 = (N : Int) := by omega
  have x2 : (K : Int) % 4294967296 = (K : Int) := by omega
  have x3 : (n : Int) % 4294967296 = (n : Int) := by omega
  obtain ⟨r, Hr⟩ : ∃ r : Nat, Hid (e % 2 = r) := ⟨_, rfl⟩
  have hr := Hr.out
  have x4 : (e : Int) % 2 = (r : Int) := by omega
  rw [Hr.out]
  have HM0 := hid m0
  have HM1 := hid m1
  have HB0 := hid B0
  clear m0 m1 B0 h hr
  go_enter Tryz.func53, Tryz.ntmps53
  go_wp2_with fail
  refine ks.mono ?_
  rintro en w1 ⟨rfl, hw⟩
  obtain rfl := hw.symm
  clear hw ks
  generalize (w.alloc (.cells #[.int .i64 e, .int .i64 q, .int .i64 n, .int .u32 S] 88)).alloc (.cells #[.string ⟨#[]⟩, .int .i64 0, .int .i64 0, .int .i64 0, .slice none 0 0] 31) = W at *
  go_wp2_with fail
  refine (putW32 none 0 0 [] (N : Int) W (bs_nil W none) (by omega) (by omega) (by omega)).mono ?_
  rintro en w1 ⟨rfl, r1, g1⟩
  have l1 : ([] ++ be 4 (N : Int)).length = 4 := by simp [be_length]
  have b1 := r1.bs12 l1 (by rw [List.nil_append]; exact be_byte 4 _)
  have M0 := HM0.out.below (below_of_grown g1)
  have M1 := HM1.out.kept (below_of_grown g1)
  have c2 := M0.c2
  have HB1 := hid (bel_bel HB0.out HB0.out.size (below_of_grown g1))
  have HM0b := hid M0
  have HM1b := hid M1
  clear g1 r1 M0 M1 HM0 HM1
  go_wp2_with fail
  refine (kp w1).mono ?_
  rintro en w2 ⟨rfl, hw⟩
  obtain rfl := hw.symm
  clear hw
  go_wp2_with fail
  refine (putW32 (some ⟨W.heap.size, 0, none⟩) 4 4 _ (K : Int) w1 b1 (by omega) (by omega) (by omega)).mono ?_
  rintro en w2 ⟨rfl, r2, g2⟩
  have l2 : (([] ++ be 4 (N : Int)) ++ be 4 (K : Int)).length = 8 := by simp [be_length]
  have y2 : By (([] ++ be 4 (N : Int)) ++ be 4 (K : Int)) := By.app (by rw [List.nil_append]; exact be_byte 4 _) (be_byte 4 _)
  have b2 := r2.bs12 l2 y2
  have M0 := HM0b.out.below (below_of_grown g2)
  have M1 := HM1b.out.kept (below_of_grown g2)
  have c2 := M0.c2
  have HB2 := hid (bel_bel HB1.out HB1.out.size (below_of_grown g2))
  have HM0c := hid M0
  have HM1c := hid M1
  clear g2 r2 M0 M1 HM0b HM1b b1
  go_wp2_with fail
  refine (putW32 (some ⟨w1.heap.size, 0, none⟩) 8 8 _ (n : Int) w2 b2 (by omega) (by omega) (by omega)).mono ?_
  rintro en w3 ⟨rfl, r3, g3⟩
  have l3 : ((([] ++ be 4 (N : Int)) ++ be 4 (K : Int)) ++ be 4 (n : Int)).length = 12 := by simp [be_length]
  have b3 := r3.bs12 l3 (By.app y2 (be_byte 4 _))
  have M0 := HM0c.out.below (below_of_grown g3)
  have M1 := HM1c.out.kept (below_of_grown g3)
  have c3 := M0.c3
  have HB3 := hid (bel_bel HB2.out HB2.out.size (below_of_grown g3))
  have HM0d := hid M0
  have HM1d := hid M1
  clear g3 r3 M0 M1 HM0c HM1c b2 c2
  go_wp2_with fail
  refine (putW32 (some ⟨w2.heap.size, 0, none⟩) 12 12 _ (S : Int) w3 b3 (by omega) (by omega) (by omega)).mono ?_
  rintro en w4 ⟨rfl, r4, g4⟩
  have M0 := HM0d.out.below (below_of_grown g4)
  have M1 := HM1d.out.kept (below_of_grown g4)
  have c0 := M0.c0
  have c1 := M0.c1
  have HB4 := hid (bel_bel HB3.out HB3.out.size (below_of_grown g4))
  have HR4 := hid r4
  have HM1e := hid M1
  have hsz : Hid (w.heap.size + 1 < w3.heap.size) := HM1d.out.lt
  clear g4 r4 M0 M1 HM0d HM1d b3 c3 c2
  go_wp2_with (with_reducible show wpList _ _ _ (_ :: _) _ _; refine wpList_ss rfl rfl _ _ rfl (w.heap.size + 1) t1 e q r (some ⟨w3.heap.size, 0, none⟩) 16 16 rfl rfl _ _ _ _ _ (by with_reducible exact HM1e.out) ?_)
  refine bodyPost_ret (results_s rfl _ _ (w.heap.size + 1) t1 e q r (.slice (some ⟨w3.heap.size, 0, none⟩) 16 16) rfl (HM1e.out.row t1 e q r _)) rfl ⟨w3.heap.size, rfl, HB3.out.size, ?_, bel_row HB4.out (by omega) _⟩
  refine row_row ?_ (by have := hsz.out; omega) _
  have := HR4.out
  rw [List.nil_append] at this
  exact this
end Go.Proofs.YtblcpdffiafgnaaGreatDoor
namespace Go.Proofs.YtblcpdffiafgnaaGreatDoor
set_option maxRecDepth 100000
open Go.RowKit Go.Shelf
set_option linter.unusedVariables false

theorem hom_ne {N e p : Nat} {T : ByteArray} {q : Int} {l : List Int} (hT : T ≠ t1) : hom N ⟨T, e, q, p, l⟩ = sct N e p := by unfold hom; rw [if_neg hT]; simp only [Int.toNat_natCast]
theorem t4_t1 : t4 ≠ t1 := by decide
theorem t3_t1 : t3 ≠ t1 := by decide
theorem sct_lt' {n e p : Nat} (h : p < roo n) (hn : 32 ≤ n) : sct n e p < n := by
  unfold sct
  have hr : 2 + 2 * roo n ≤ n := by unfold roo; omega
  rcases (show e % 2 = 0 ∨ e % 2 = 1 by omega) with q | q
  · rw [q]; omega
  · rw [q]; omega
set_option maxHeartbeats 4000000 in
/-- A transaction of one sector is laid. -/
theorem wtx_1 (g d mi ep nx pl : Nat) (se re : Bool) (s : St) (Q : Nat → Prop) (a : Option Addr) (m c : Nat) (tx : List Int) (w : World) (h : Wq w g d mi ep nx pl se re s Q) (hb : Bs w a m tx) (hqb : ∀ ad, a = some ad → 0 < m → ¬ Q ad.block) (h1 : m ≤ 480) (he : mq ep) (hn : mq nx) (hp : pl < roo s.n) (hsc : s.c ≤ 50000) (hP : s.P.length ≤ 50000) :
    Calls Tryz.prog 48 #[.pointer (some ⟨g, 0, none⟩), .slice a m c] w fun en w' => en = .returned (.int .i64 (apR s s.n ep nx pl tx).1) ∧ Wz w w' g d mi ep nx pl se (re || (apR s s.n ep nx pl tx).1 != 0) (apR s s.n ep nx pl tx).2 Q := by
  have hN := h.dv.n
  have hR : roo s.n ≤ 4095 := by unfold roo; omega
  have hl := hb.1
  have HAP : Hid (apR s s.n ep nx pl tx = wfl s [(sct s.n ep pl, ps ⟨t4, ep, nx, pl, tx⟩)]) := by show _ = _; unfold apR; rw [if_pos (by omega)]
  have kl : ∀ wx, Drawn w wx → Calls Tryz.prog 51 #[.pointer (some ⟨g, 0, none⟩), .slice (some ⟨wx.heap.size, 0, none⟩) 1 1] (wx.alloc (.cells #[.string t4, .int .i64 ep, .int .i64 nx, .int .i64 pl, .slice a m c] 31)) fun en w' => en = .returned (.int .i64 (apR s s.n ep nx pl tx).1) ∧ Wz w w' g d mi ep nx pl se (re || (apR s s.n ep nx pl tx).1 != 0) (apR s s.n ep nx pl tx).2 Q := fun wx hx => by
    have := wlay1_ g d mi ep nx pl se re s Q t4 ep nx pl a m c tx wx (h.below hx.below) (hb.below hx.below) ⟨.inr (.inr (.inr rfl)), ⟨by have := he.1; omega, by have := he.2; omega⟩, ⟨by have := hn.1; omega, by have := hn.2; omega⟩, ⟨by omega, by omega⟩, h1⟩ hqb (by rw [hom_ne t4_t1]; exact sct_lt' hp hN.1) hsc hP
    rw [hom_ne t4_t1, ← HAP.out] at this
    exact this.mono (fun en w' ⟨x, y⟩ => ⟨x, Wz.first h hx.below y⟩)
  generalize apR s s.n ep nx pl tx = r at *
  obtain ⟨E, s'⟩ := r
  simp only at *
  have c2 := h.lm.c2
  have c3 := h.lm.c3
  have c4 := h.lm.c4
  have hm : (m : Int) ≤ 480 := by omega
  have kl2 : Calls Tryz.prog 51 #[.pointer (some ⟨g, 0, none⟩), .slice (some ⟨w.heap.size, 0, none⟩) 1 1] (w.alloc (.cells #[.string ⟨#[67, 86, 79, 49]⟩, .int .i64 ep, .int .i64 nx, .int .i64 pl, .slice a m c] 31)).drew fun en w' => en = .returned (.int .i64 E) ∧ Wz w w' g d mi ep nx pl se (re || E != 0) s' Q := kl w.drew ⟨rfl, rfl, rfl, rfl⟩
  clear h hb HAP kl
  go_enter Tryz.func48, Tryz.ntmps48
  go_wp2_with fail
  go_region_law (first | (go_simp; go_at_call 51; refine kl2.mono ?_; rintro en w3 ⟨rfl, Z3⟩; have HZ3 := hid Z3; clear Z3))
  all_goals
    clear kl2
    go_wp2_with fail
    go_ret
    exact ⟨rfl, HZ3.out⟩
end Go.Proofs.YtblcpdffiafgnaaGreatDoor
namespace Go.Proofs.YtblcpdffiafgnaaGreatDoor
set_option maxRecDepth 100000
open Go.RowKit Go.Shelf
set_option linter.unusedVariables false

set_option maxHeartbeats 8000000 in
/-- A transaction of several sectors is laid. -/
theorem wtx_n (g d mi ep nx pl : Nat) (se re : Bool) (s : St) (Q : Nat → Prop) (a : Option Addr) (m c : Nat) (tx : List Int) (w : World) (h : Wq w g d mi ep nx pl se re s Q) (hb : Bs w a m tx) (hqb : ∀ ad, a = some ad → 0 < m → ¬ Q ad.block ∧ ad.block ≠ g) (hmc : m ≤ c) (hcm : c ≤ maxLen) (h1 : 480 < m) (h2 : m ≤ 4800) (he : mq ep) (hn : mq nx) (hp : pl + pcN m < roo s.n) (hsc : s.c ≤ 40000) (hP : s.P.length ≤ 40000) :
    Calls Tryz.prog 48 #[.pointer (some ⟨g, 0, none⟩), .slice a m c] w fun en w' => en = .returned (.int .i64 (apR s s.n ep nx pl tx).1) ∧ Wz w w' g d mi ep nx pl se (re || (apR s s.n ep nx pl tx).1 != 0) (apR s s.n ep nx pl tx).2 Q := by
  have hN := h.dv.n
  have hR : roo s.n ≤ 4095 := by unfold roo; omega
  have hl := hb.1
  have HAP : Hid (apR s s.n ep nx pl tx = two s (pw s.n ep nx pl tx (pcN m)) [(sct s.n ep (pl + pcN m), ps ⟨t3, ep, nx, (pl + pcN m : Nat), edb tx⟩)]) := by show _ = _; unfold apR; rw [if_neg (by omega), hl]
  have kp : ∀ wx, Drawn w wx → Calls Tryz.prog 52 #[.int .i64 ep, .int .i64 nx, .int .i64 pl, .slice a m c] wx fun en w' => ∃ bb c', en = .returned (.slice bb (pcN m) c') ∧ Below w.heap.size w w' ∧ Calls Tryz.prog 51 #[.pointer (some ⟨g, 0, none⟩), .slice bb (pcN m) c'] w' fun en w'' => en = .returned (.int .i64 (wfl s (pw s.n ep nx pl tx (pcN m))).1) ∧ Wz w w'' g d mi ep nx pl se (re || (wfl s (pw s.n ep nx pl tx (pcN m))).1 != 0) (wfl s (pw s.n ep nx pl tx (pcN m))).2 Q := fun wx hx => by
    refine (pieces_ ep nx pl a m c tx wx (hb.below hx.below) (by omega) hmc hcm he hn (by omega)).mono ?_
    rintro en w' ⟨bb, c', xs, rfl, k1, k2, k3, k4, k5, k6, k7, k8⟩
    have B2 := bel_bel hx.below hx.below.size k8
    have hs : w.heap.size = wx.heap.size := by rw [hx.heap]
    refine ⟨bb, c', rfl, B2, ?_⟩
    have := wlayL_ g d mi ep nx pl se re s Q bb (pcN m) c' xs w' (h.below B2) k3 k5 (fun ad ha _ q => by have := h.dv.lt _ q; have := k7 ad ha; omega) (fun y hy ad ha _ q => by
      obtain ⟨ad0, h3, h4, h5⟩ := k6 y hy ad ha
      rw [h5] at q
      exact (hqb ad0 h3 h4).1 q) (fun y hy => by
      obtain ⟨i, hi, h3⟩ := pcl_mem k4.out hy
      rw [h3, hom_t2]
      exact sct_lt' (by omega) hN.1) k1 k2 (by omega) (by omega) (by omega)
    rw [wrl_pcl k4.out] at this
    exact this.mono (fun en w'' ⟨x, y⟩ => ⟨x, Wz.first h B2 y⟩)
  have kN := fun w => pieces0_ (m : Int) w (by omega)
  simp only [Int.toNat_natCast] at kN
  have hK : pcN m ≤ 10 := by unfold pcN; omega
  have wn := wfl_n s (pw s.n ep nx pl tx (pcN m))
  have hpl : (pw s.n ep nx pl tx (pcN m)).length = pcN m := by unfold pw; simp
  rw [hpl] at wn
  have HTW : Hid (apR s s.n ep nx pl tx = if (wfl s (pw s.n ep nx pl tx (pcN m))).1 = 0 then wfl (wfl s (pw s.n ep nx pl tx (pcN m))).2 [(sct s.n ep (pl + pcN m), ps ⟨t3, ep, nx, (pl + pcN m : Nat), edb tx⟩)] else wfl s (pw s.n ep nx pl tx (pcN m))) := HAP.out
  generalize apR s s.n ep nx pl tx = r2 at *
  generalize wfl s (pw s.n ep nx pl tx (pcN m)) = r at *
  obtain ⟨E1, s1⟩ := r
  obtain ⟨E, s'⟩ := r2
  simp only at *
  obtain ⟨K, HK⟩ : ∃ K, Hid (pcN m = K) := ⟨_, rfl⟩
  rw [HK.out] at hp hK wn HTW
  simp only [HK.out] at kp kN
  have c2 := h.lm.c2
  have c3 := h.lm.c3
  have c4 := h.lm.c4
  have hm : ¬ (m : Int) ≤ 480 := by omega
  have HQ := hid h
  have HB := hid hb
  have HQB := hid hqb
  have hgl := h.lm.lt
  clear h hb HAP hpl hqb
  go_enter Tryz.func48, Tryz.ntmps48
  go_wp2_with fail
  go_region_held (fun wx => wx.cell? ⟨g, 2, none⟩ = some (.int .i64 ep) ∧ wx.cell? ⟨g, 3, none⟩ = some (.int .i64 nx) ∧ wx.cell? ⟨g, 4, none⟩ = some (.int .i64 pl)) (go_keep) (first | (go_at_call 52; refine (kp _ (by exact ⟨rfl, rfl, rfl, rfl⟩)).mono ?_; rintro en w2 ⟨bb, cb, rfl, B2, kl⟩; have y2 := (B2.cell (p := ⟨g, 2, none⟩) hgl).trans c2; have y3 := (B2.cell (p := ⟨g, 3, none⟩) hgl).trans c3; have y4 := (B2.cell (p := ⟨g, 4, none⟩) hgl).trans c4; clear B2) | (go_at_call 51; refine kl.mono ?_; rintro en w3 ⟨rfl, Z3⟩; have HZ3 := hid Z3; have z2 := Z3.q.lm.c2; have z3 := Z3.q.lm.c3; have z4 := Z3.q.lm.c4; clear Z3))
  clear kp kl y2 y3 y4
  by_cases hE : E1 = 0
  · subst hE
    rw [if_pos rfl] at HTW
    rw [show (re || (0 : Int) != 0) = re from by simp] at HZ3
    obtain ⟨P3, HP3⟩ : ∃ P3 : Nat, Hid (pl + K = P3) := ⟨_, rfl⟩
    have hP3' : P3 < roo s.n := by have := HP3.out; omega
    have hP3w : IntKind.i64.wrap ((pl : Int) + (K : Int)) = (P3 : Int) := by rw [IntKind.wrap_i64]; have := HP3.out; omega
    rw [HP3.out] at HTW
    have hs3 : s1.c ≤ 50000 ∧ s1.P.length ≤ 50000 := ⟨by omega, by omega⟩
    have ke : ∀ wx, Drawn w3 wx → Calls Tryz.prog 70 #[.slice a m c] wx fun en w' => ∃ g4, en = .returned (.slice (some ⟨g4, 0, none⟩) 10 10) ∧ Below w3.heap.size w3 w' ∧ Calls Tryz.prog 51 #[.pointer (some ⟨g, 0, none⟩), .slice (some ⟨w'.heap.size, 0, none⟩) 1 1] (w'.alloc (.cells #[.string ⟨#[67, 86, 67, 49]⟩, .int .i64 ep, .int .i64 nx, .int .i64 P3, .slice (some ⟨g4, 0, none⟩) 10 10] 31)) fun en w'' => en = .returned (.int .i64 E) ∧ Wz w w'' g d mi ep nx pl se (re || E != 0) s' Q := fun wx hx => by
      have Q3 := HZ3.out.q
      have b3 : Bs w3 a m tx := HB.out.fr HZ3.out.f (fun ad ha h0 q => by
        rcases q with q | q
        · exact (HQB.out ad ha h0).1 q
        · exact (HQB.out ad ha h0).2 q)
      refine (endOf_ a m c tx wx (Q3.tb.drawn hx) (b3.below hx.below) (by omega)).mono ?_
      rintro en w' ⟨g4, rfl, hg4, r4, B4⟩
      have B5 := bel_bel hx.below hx.below.size B4
      have hsx : w3.heap.size = wx.heap.size := by rw [hx.heap]
      refine ⟨g4, rfl, B5, ?_⟩
      have := wlay1_ g d mi ep nx pl se re s1 (Qn Q w w3) t3 ep nx P3 (some ⟨g4, 0, none⟩) 10 10 (edb tx) w' (Q3.below B5) (r4.bs12 (edb_length tx) (edb_by tx)) ⟨.inr (.inr (.inl rfl)), ⟨by have := he.1; omega, by have := he.2; omega⟩, ⟨by have := hn.1; omega, by have := hn.2; omega⟩, ⟨by omega, by omega⟩, by omega⟩ (fun ad ha _ q => by
        obtain rfl := Option.some.inj ha
        have := Q3.dv.lt _ q
        simp only at this
        omega) (by rw [hom_ne t3_t1, wn.1]; exact sct_lt' hP3' hN.1) hs3.1 hs3.2
      rw [hom_ne t3_t1, wn.1] at this
      have hE' := HTW.out
      rw [← hE'] at this
      exact this.mono (fun en w'' ⟨x, y⟩ => ⟨x, HZ3.out.trans HQ.out.dv.lt HQ.out.lm.lt HQ.out.tb.1 (Wz.first Q3 B5 y)⟩)
    clear HQ HB HQB
    have hgl3 := HZ3.out.q.lm.lt
    go_wp2_with fail
    go_region_held (fun wx => wx.cell? ⟨g, 2, none⟩ = some (.int .i64 ep) ∧ wx.cell? ⟨g, 3, none⟩ = some (.int .i64 nx) ∧ wx.cell? ⟨g, 4, none⟩ = some (.int .i64 pl)) (go_keep) (first | (go_at_call 22; refine (kN _).mono ?_; rintro en wy ⟨rfl, hw⟩; obtain rfl := hw.symm; clear hw) | (go_at_call 70; refine (ke _ (by exact ⟨rfl, rfl, rfl, rfl⟩)).mono ?_; rintro en w4 ⟨g4, rfl, B4, kl⟩; have y2 := (B4.cell (p := ⟨g, 2, none⟩) hgl3).trans z2; have y3 := (B4.cell (p := ⟨g, 3, none⟩) hgl3).trans z3; have y4 := (B4.cell (p := ⟨g, 4, none⟩) hgl3).trans z4; have hgl4 := Nat.lt_of_lt_of_le hgl3 B4.size; have u2 := ((Below.refl w4.heap.size w4).alloc (Nat.le_refl _) (.cells #[.string ⟨#[67, 86, 67, 49]⟩, .int .i64 ep, .int .i64 nx, .int .i64 P3, .slice (some ⟨g4, 0, none⟩) 10 10] 31)).cell (p := ⟨g, 2, none⟩) hgl4; rw [y2] at u2; have u3 := ((Below.refl w4.heap.size w4).alloc (Nat.le_refl _) (.cells #[.string ⟨#[67, 86, 67, 49]⟩, .int .i64 ep, .int .i64 nx, .int .i64 P3, .slice (some ⟨g4, 0, none⟩) 10 10] 31)).cell (p := ⟨g, 3, none⟩) hgl4; rw [y3] at u3; have u4 := ((Below.refl w4.heap.size w4).alloc (Nat.le_refl _) (.cells #[.string ⟨#[67, 86, 67, 49]⟩, .int .i64 ep, .int .i64 nx, .int .i64 P3, .slice (some ⟨g4, 0, none⟩) 10 10] 31)).cell (p := ⟨g, 4, none⟩) hgl4; rw [y4] at u4; clear B4) | (go_at_call 51; refine kl.mono ?_; rintro en w5 ⟨rfl, Z5⟩; have HZ5 := hid Z5; have x2 := Z5.q.lm.c2; have x3 := Z5.q.lm.c3; have x4 := Z5.q.lm.c4; clear Z5))
    clear ke kl y2 y3 y4 u2 u3 u4
    go_wp2_with fail
    go_ret
    exact ⟨rfl, HZ5.out⟩
  · have hEb : (E1 != 0) = true := by rw [bne_iff_ne]; exact hE
    rw [if_neg hE] at HTW
    obtain ⟨rfl, rfl⟩ : E = E1 ∧ s' = s1 := by simpa using HTW.out
    go_wp2_with fail
    go_ret
    exact ⟨rfl, by simpa [hEb] using HZ3.out⟩
end Go.Proofs.YtblcpdffiafgnaaGreatDoor
