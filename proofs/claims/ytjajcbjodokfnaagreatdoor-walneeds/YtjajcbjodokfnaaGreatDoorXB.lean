import Derived.Test.YtjajcbjodokfnaaGreatDoorX9
namespace Go.Proofs.YtjajcbjodokfnaaGreatDoor
set_option maxRecDepth 100000
open Go.RowKit Go.Shelf
set_option linter.unusedVariables false
set_option linter.unusedSimpArgs false

section
variable {w : World} {g d mi ep nx pl : Nat} {se re : Bool} {s : St} {Q : Nat → Prop}
theorem wstate_e (h : Wq w g d mi ep nx pl se re s Q) (he : edd mi re s = true) : Calls Tryz.prog 39 #[.pointer (some ⟨g, 0, none⟩)] w fun en w' => en = .returned (.tuple #[.int .i64 0, .int .i64 0, .int .i64 0]) ∧ Drawn w w' := by
  have ke := wended_ h
  rw [he] at ke
  clear h he
  go_enter Tryz.func39, Tryz.ntmps39
  go_wp2_with fail
  refine ke.mono ?_
  rintro en w1 ⟨rfl, d1⟩
  have HD := hid d1
  clear ke d1
  go_wp2_with fail
  go_ret3
  exact ⟨rfl, HD.out⟩
theorem wstate_o (h : Wq w g d mi ep nx pl se re s Q) (he : edd mi re s = false) : Calls Tryz.prog 39 #[.pointer (some ⟨g, 0, none⟩)] w fun en w' => en = .returned (.tuple #[.int .i64 ep, .int .i64 nx, .int .i64 pl]) ∧ Drawn w w' := by
  have ke := wended_ h
  rw [he] at ke
  have HQ := hid h
  clear h he
  go_enter Tryz.func39, Tryz.ntmps39
  go_wp2_with fail
  refine ke.mono ?_
  rintro en w1 ⟨rfl, d1⟩
  have HD := hid d1
  have L1 := HQ.out.lm.below d1.below
  have c2 := L1.c2
  have c3 := L1.c3
  have c4 := L1.c4
  clear ke d1 L1
  go_wp2_with fail
  go_quiet (fail)
  go_wp2_with fail
  go_ret3
  exact ⟨rfl, HD.out.trans (drawnN w1 _)⟩
theorem wleft_e (h : Wq w g d mi ep nx pl se re s Q) (he : edd mi re s = true) : Calls Tryz.prog 41 #[.pointer (some ⟨g, 0, none⟩)] w fun en w' => en = .returned (.int .i64 0) ∧ Drawn w w' := by
  have ke := wended_ h
  rw [he] at ke
  clear h he
  go_enter Tryz.func41, Tryz.ntmps41
  go_wp2_with fail
  refine ke.mono ?_
  rintro en w1 ⟨rfl, d1⟩
  have HD := hid d1
  clear ke d1
  go_wp2_with fail
  go_ret
  exact ⟨rfl, HD.out⟩
theorem wleft_o (h : Wq w g d mi ep nx pl se re s Q) (he : edd mi re s = false) (hp : pl ≤ roo s.n) : Calls Tryz.prog 41 #[.pointer (some ⟨g, 0, none⟩)] w fun en w' => en = .returned (.int .i64 ((roo s.n - pl : Nat) : Int)) ∧ Drawn w w' := by
  have ke := wended_ h
  rw [he] at ke
  have HQ := hid h
  have hn := h.dv.n
  have hR : roo s.n ≤ 4095 := by unfold roo; omega
  obtain ⟨R, HR⟩ : ∃ R, Hid (roo s.n = R) := ⟨_, rfl⟩
  rw [HR.out] at hp hR ⊢
  obtain ⟨L, HL⟩ : ∃ L : Nat, Hid (R - pl = L) := ⟨_, rfl⟩
  have hL := HL.out
  have e1 : (R : Int) - (pl : Int) = (L : Int) := by omega
  have e2 : IntKind.i64.wrap ((R : Int) - (pl : Int)) = (L : Int) := by rw [IntKind.wrap_i64]; omega
  rw [HL.out]
  clear h he hL
  go_enter Tryz.func41, Tryz.ntmps41
  go_wp2_with fail
  refine ke.mono ?_
  rintro en w1 ⟨rfl, d1⟩
  have HD := hid d1
  have Q1 := HQ.out.below d1.below
  have c0 := Q1.lm.c0
  have c4 := Q1.lm.c4
  have kr := fun n => wroom_ (Q1.dv.below (drawnN w1 n).below)
  simp only [HR.out] at kr
  clear ke d1 Q1
  go_wp2_with fail
  go_quiet ((go_at_call 90; exact Calls.quiet_of_same (kr _)))
  go_wp2_with fail
  go_ret
  exact ⟨rfl, HD.out.trans (drawnN w1 _)⟩
theorem wroomL_e (h : Wq w g d mi ep nx pl se re s Q) (he : edd mi re s = true) : Calls Tryz.prog 42 #[.pointer (some ⟨g, 0, none⟩)] w fun en w' => en = .returned (.int .i64 0) ∧ Drawn w w' := by
  have ke := wended_ h
  rw [he] at ke
  clear h he
  go_enter Tryz.func42, Tryz.ntmps42
  go_wp2_with fail
  refine ke.mono ?_
  rintro en w1 ⟨rfl, d1⟩
  have HD := hid d1
  clear ke d1
  go_wp2_with fail
  go_ret
  exact ⟨rfl, HD.out⟩
theorem wroomL_o (h : Wq w g d mi ep nx pl se re s Q) (he : edd mi re s = false) : Calls Tryz.prog 42 #[.pointer (some ⟨g, 0, none⟩)] w fun en w' => en = .returned (.int .i64 (roo s.n)) ∧ Drawn w w' := by
  have ke := wended_ h
  rw [he] at ke
  have HQ := hid h
  clear h he
  go_enter Tryz.func42, Tryz.ntmps42
  go_wp2_with fail
  refine ke.mono ?_
  rintro en w1 ⟨rfl, d1⟩
  have HD := hid d1
  have Q1 := HQ.out.below d1.below
  have c0 := Q1.lm.c0
  have kr := wroom_ Q1.dv
  clear ke d1 Q1
  go_wp2_with fail
  refine kr.mono ?_
  rintro en w2 ⟨rfl, hw⟩
  obtain rfl := hw.symm
  go_wp2_with fail
  go_ret
  exact ⟨rfl, HD.out⟩
end
/-- The body of a transaction's end. -/
theorem endOf_ (a : Option Addr) (m c : Nat) (tx : List Int) (w : World) (hT : Tab w) (hb : Bs w a m tx) (hm : m ≤ 1000000) :
    Calls Tryz.prog 122 #[.slice a m c] w fun en w' => ∃ g, en = .returned (.slice (some ⟨g, 0, none⟩) 10 10) ∧ w.heap.size ≤ g ∧ Row w' g (edb tx) ∧ Below w.heap.size w w' := by
  have hl := hb.1
  have hs := updc_lt (by omega : (0 : Nat) < 4294967296) (show By tx from hb.2.1)
  have kp := fun w => pieces0_ (m : Int) w (by omega)
  have hpc : pcN m ≤ 2100 := by unfold pcN; omega
  simp only [Int.toNat_natCast] at kp
  obtain ⟨K, HK⟩ : ∃ K, Hid (pcN m = K) := ⟨_, rfl⟩
  obtain ⟨S, HS⟩ : ∃ S, Hid (updc 0 tx = S) := ⟨_, rfl⟩
  have HU : Hid (edb tx = (([] ++ be 2 (K : Int)) ++ be 4 (m : Int)) ++ be 4 (S : Int)) := by
    show _ = _
    rw [← HK.out, ← HS.out, ← hl]
    rfl
  simp only [HK.out] at kp
  rw [HK.out] at hpc
  rw [HS.out] at hs
  have x1 : (K : Int) % 65536 = (K : Int) := by omega
  have x2 : (m : Int) % 4294967296 = (m : Int) := by omega
  have HB := hid hb
  have HTB := hid hT
  clear hb hT hl
  go_enter Tryz.func122, Tryz.ntmps122
  go_wp2_with fail
  refine (kp w).mono ?_
  rintro en w2 ⟨rfl, hw⟩
  obtain rfl := hw.symm
  clear hw
  go_wp2_with fail
  refine (putW16 none 0 0 [] (K : Int) w (bs_nil w none) (by omega) (by omega) (by omega)).mono ?_
  rintro en w1 ⟨rfl, r1, g1⟩
  have l1 : ([] ++ be 2 (K : Int)).length = 2 := by simp [be_length]
  have b1 := r1.bs12 l1 (by rw [List.nil_append]; exact be_byte 2 _)
  have HB1 := hid (below_of_grown g1)
  clear g1 r1
  go_wp2_with fail
  refine (putW32 (some ⟨w.heap.size, 0, none⟩) 2 2 _ (m : Int) w1 b1 (by omega) (by omega) (by omega)).mono ?_
  rintro en w2 ⟨rfl, r2, g2⟩
  have l2 : (([] ++ be 2 (K : Int)) ++ be 4 (m : Int)).length = 6 := by simp [be_length]
  have b2 := r2.bs12 l2 (By.app (by rw [List.nil_append]; exact be_byte 2 _) (be_byte 4 (m : Int)))
  have HB2 := hid (bel_bel HB1.out HB1.out.size (below_of_grown g2))
  have ks := sum_ a m c tx w2 (HTB.out.bel HB2.out) (HB.out.below HB2.out) (by unfold maxLen; omega)
  rw [HS.out] at ks
  clear g2 r2 b1
  go_wp2_with fail
  refine ks.mono ?_
  rintro en w3 ⟨rfl, hw⟩
  obtain rfl := hw.symm
  clear hw ks
  go_wp2_with fail
  refine (putW32 (some ⟨w1.heap.size, 0, none⟩) 6 6 _ (S : Int) w2 b2 (by omega) (by omega) (by omega)).mono ?_
  rintro en w3 ⟨rfl, r3, g3⟩
  have HB3 := hid (bel_bel HB2.out HB2.out.size (below_of_grown g3))
  have HR3 := hid r3
  clear g3 r3 b2
  go_wp2_with fail
  go_ret
  refine ⟨w2.heap.size, rfl, HB2.out.size, ?_, HB3.out⟩
  rw [HU.out]
  exact HR3.out
end Go.Proofs.YtjajcbjodokfnaaGreatDoor
namespace Go.Proofs.YtjajcbjodokfnaaGreatDoor
set_option maxRecDepth 100000
open Go.RowKit Go.Shelf
set_option linter.unusedVariables false
set_option linter.unusedSimpArgs false

/-- A superblock in a variable. -/
def Um (w : World) (g : Nat) (e q l : Int) (m : Int) : Prop := w.heap[g]? = some (.cells #[.int .i64 e, .int .i64 q, .int .i64 l, .int .u32 m] 118 (0, 0))
section
variable {w w' : World} {g : Nat} {e q l m : Int}
theorem Um.lt (h : Um w g e q l m) : g < w.heap.size := (Array.getElem?_eq_some_iff.1 h).1
theorem Um.c0 (h : Um w g e q l m) : w.cell? ⟨g, 0, none⟩ = some (.int .i64 e) := (cell_of_row w g 0 _ _ (0, 0) h).trans rfl
theorem Um.c1 (h : Um w g e q l m) : w.cell? ⟨g, 1, none⟩ = some (.int .i64 q) := (cell_of_row w g 1 _ _ (0, 0) h).trans rfl
theorem Um.c2 (h : Um w g e q l m) : w.cell? ⟨g, 2, none⟩ = some (.int .i64 l) := (cell_of_row w g 2 _ _ (0, 0) h).trans rfl
theorem Um.c3 (h : Um w g e q l m) : w.cell? ⟨g, 3, none⟩ = some (.int .u32 m) := (cell_of_row w g 3 _ _ (0, 0) h).trans rfl
theorem Um.fz (h : Um w g e q l m) (i : Nat) : w.frozen? ⟨g, i, none⟩ = false := by unfold Um at h; simp [World.frozen?, h]
theorem Um.at (h : Um w g e q l m) (k : w'.heap[g]? = w.heap[g]?) : Um w' g e q l m := k.trans h
theorem Um.below (h : Um w g e q l m) (hb : Below w.heap.size w w') : Um w' g e q l m := h.at (hb.block g h.lt)
theorem Um.new (w : World) (e q l m : Int) : Um (w.alloc (.cells #[.int .i64 e, .int .i64 q, .int .i64 l, .int .u32 m] 118)) w.heap.size e q l m := heap_alloc_new w _
theorem Um.row (h : Um w g e q l m) (e' q' l' m' : Int) : Um (w.setRow g #[.int .i64 e', .int .i64 q', .int .i64 l', .int .u32 m']) g e' q' l' m' := setRow_heap w g _ _ _ _ h
end
theorem sizeU : (Tryz.prog.info? 118).map (·.size) = some 4 := by kernel_rfl
theorem unew (w : World) (e q l m : Int) : Below w.heap.size w (w.alloc (.cells #[.int .i64 e, .int .i64 q, .int .i64 l, .int .u32 m] 118)) := (Below.refl _ _).alloc (Nat.le_refl _) _
theorem results_u {fn : Func} {p : Tmp} (h : fn.results = #[.cell p 118]) (tmps : Array Value) (w : World) (g : Nat) (e q l m : Int)
    (hp : tmps.getD p undef = .pointer (some ⟨g, 0, none⟩)) (hg : Um w g e q l m) :
    (results fn tmps).run Tryz.prog w = .ok (.agg #[.int .i64 e, .int .i64 q, .int .i64 l, .int .u32 m]) w := by
  have hl := run_loadVar_row (P := Tryz.prog) w g 118 118 #[.int .i64 e, .int .i64 q, .int .i64 l, .int .u32 m] (0, 0) _ hg Tryz.underlying118 rfl sizeU
  have hp' : tmps[p]?.getD undef = .pointer (some ⟨g, 0, none⟩) := by simpa using hp
  simp [results, h, hp', asAddr, hl]
theorem wpList_su {ops : Array Oper} {rest : List Oper} {o : Oper} {a : Act} {w : World} {Q : Exit → Act → World → Prop} (hgd : o.guard = none) (hdst : o.dst = none) (x y : Operand) (ho : o.op = .store 118 x y)
    (g : Nat) (e q l m : Int) (hx : a.eval x = .pointer (some ⟨g, 0, none⟩)) (hy : a.eval y = .agg #[.int .i64 e, .int .i64 q, .int .i64 l, .int .u32 m]) (e0 q0 l0 m0 : Int) (hg : Um w g e0 q0 l0 m0)
    (h : wpList Tryz.prog ops Q rest a (w.setRow g #[.int .i64 e, .int .i64 q, .int .i64 l, .int .u32 m])) : wpList Tryz.prog ops Q (o :: rest) a w := by
  refine wpList_store_row hgd _ x y ho g #[.int .i64 e, .int .i64 q, .int .i64 l, .int .u32 m] hx hy _ _ hg sizeU rfl (by simp [Value.oneCell']) ?_
  rw [hdst]
  exact h
set_option maxHeartbeats 2000000 in
theorem superOf_ (e q : Int) (a : Option Addr) (n c : Nat) (st : List Int) (w : World) (hT : Tab w) (hb : Bs w a n st) (hn : n ≤ maxLen) :
    Calls Tryz.prog 86 #[.int .i64 e, .int .i64 q, .slice a n c] w fun en w' => en = .returned (.agg #[.int .i64 e, .int .i64 q, .int .i64 n, .int .u32 (updc 0 st)]) ∧ Below w.heap.size w w' := by
  have m0 := Um.new w 0 0 0 0
  have B0 := unew w 0 0 0 0
  have ks := sum_ a n c st _ (hT.bel B0) (hb.below B0) hn
  obtain ⟨S, HS⟩ : ∃ S, Hid (updc 0 st = S) := ⟨_, rfl⟩
  rw [HS.out] at ks ⊢
  have HM := hid m0
  have HB := hid B0
  clear m0 B0 hb hT
  go_enter Tryz.func86, Tryz.ntmps86
  go_wp2_with fail
  refine ks.mono ?_
  rintro en w1 ⟨rfl, hw⟩
  obtain rfl := hw.symm
  clear hw ks
  go_wp2_with (with_reducible show wpList _ _ _ (_ :: _) _ _; refine wpList_su rfl rfl _ _ rfl w.heap.size e q n S rfl rfl 0 0 0 0 (by with_reducible exact HM.out) ?_)
  refine bodyPost_ret (results_u rfl _ _ w.heap.size e q n S rfl (HM.out.row e q n S)) rfl ⟨rfl, bel_row HB.out (Nat.le_refl _) _⟩
set_option maxHeartbeats 4000000 in
/-- A superblock as a sector of its device. -/
theorem on_ (e q n S : Nat) (d : Nat) (s : St) (Q : Nat → Prop) (w : World) (h : Dev w d s Q) (he : e ≤ 4611686018427387904) (hn : n ≤ 4000000000) (hS : S < 4294967296) :
    Calls Tryz.prog 89 #[.agg #[.int .i64 e, .int .i64 q, .int .i64 n, .int .u32 S], .pointer (some ⟨d, 0, none⟩)] w fun en w' => ∃ g, en = .returned (.agg #[.string t1, .int .i64 e, .int .i64 q, .int .i64 (e % 2 : Nat), .slice (some ⟨g, 0, none⟩) 16 16]) ∧ w.heap.size ≤ g ∧ Row w' g (be 4 s.n ++ be 4 (pcN n) ++ be 4 n ++ be 4 S) ∧ Below w.heap.size w w' := by
  have hN := h.n
  have m0 := (Um.new w e q n S).at (Below.heap_alloc (w.alloc (.cells #[.int .i64 e, .int .i64 q, .int .i64 n, .int .u32 S] 118)) (.cells #[.string ⟨#[]⟩, .int .i64 0, .int .i64 0, .int .i64 0, .slice none 0 0] 40) _ (Um.new w e q n S).lt)
  have m1 := Sm.new (w.alloc (.cells #[.int .i64 e, .int .i64 q, .int .i64 n, .int .u32 S] 118)) ⟨#[]⟩ 0 0 0 (.slice none 0 0)
  rw [World.size_alloc] at m1
  have B0 : Below w.heap.size w ((w.alloc (.cells #[.int .i64 e, .int .i64 q, .int .i64 n, .int .u32 S] 118)).alloc (.cells #[.string ⟨#[]⟩, .int .i64 0, .int .i64 0, .int .i64 0, .slice none 0 0] 40)) := (unew w e q n S).alloc (by simp) _
  have ks := sectorsD (h.below B0)
  have kp := fun w => pieces0_ (n : Int) w (by omega)
  have hpc : pcN n ≤ 8400000 := by unfold pcN; omega
  simp only [Int.toNat_natCast] at kp
  obtain ⟨K, HK⟩ : ∃ K, Hid (pcN n = K) := ⟨_, rfl⟩
  simp only [HK.out] at kp
  rw [HK.out] at hpc ⊢
  obtain ⟨N, HN⟩ : ∃ N, Hid (s.n = N) := ⟨_, rfl⟩
  rw [HN.out] at ks hN ⊢
  have x1 : (N : Int) % 4294967296 = (N : Int) := by omega
  have x2 : (K : Int) % 4294967296 = (K : Int) := by omega
  have x3 : (n : Int) % 4294967296 = (n : Int) := by omega
  obtain ⟨r, Hr⟩ : ∃ r : Nat, Hid (e % 2 = r) := ⟨_, rfl⟩
  have hr := Hr.out
  have x4 : (e : Int) % 2 = (r : Int) := by omega
  rw [Hr.out]
  have HM0 := hid m0
  have HM1 := hid m1
  have HB0 := hid B0
  clear m0 m1 B0 h hr
  go_enter Tryz.func89, Tryz.ntmps89
  go_wp2_with fail
  refine ks.mono ?_
  rintro en w1 ⟨rfl, hw⟩
  obtain rfl := hw.symm
  clear hw ks
  generalize (w.alloc (.cells #[.int .i64 e, .int .i64 q, .int .i64 n, .int .u32 S] 118)).alloc (.cells #[.string ⟨#[]⟩, .int .i64 0, .int .i64 0, .int .i64 0, .slice none 0 0] 40) = W at *
  go_wp2_with fail
  refine (putW32 none 0 0 [] (N : Int) W (bs_nil W none) (by omega) (by omega) (by omega)).mono ?_
  rintro en w1 ⟨rfl, r1, g1⟩
  have l1 : ([] ++ be 4 (N : Int)).length = 4 := by simp [be_length]
  have b1 := r1.bs12 l1 (by rw [List.nil_append]; exact be_byte 4 _)
  have M0 := HM0.out.below (below_of_grown g1)
  have M1 := HM1.out.kept (below_of_grown g1)
  have c2 := M0.c2
  have HB1 := hid (bel_bel HB0.out HB0.out.size (below_of_grown g1))
  have HM0b := hid M0
  have HM1b := hid M1
  clear g1 r1 M0 M1 HM0 HM1
  go_wp2_with fail
  refine (kp w1).mono ?_
  rintro en w2 ⟨rfl, hw⟩
  obtain rfl := hw.symm
  clear hw
  go_wp2_with fail
  refine (putW32 (some ⟨W.heap.size, 0, none⟩) 4 4 _ (K : Int) w1 b1 (by omega) (by omega) (by omega)).mono ?_
  rintro en w2 ⟨rfl, r2, g2⟩
  have l2 : (([] ++ be 4 (N : Int)) ++ be 4 (K : Int)).length = 8 := by simp [be_length]
  have y2 : By (([] ++ be 4 (N : Int)) ++ be 4 (K : Int)) := By.app (by rw [List.nil_append]; exact be_byte 4 _) (be_byte 4 _)
  have b2 := r2.bs12 l2 y2
  have M0 := HM0b.out.below (below_of_grown g2)
  have M1 := HM1b.out.kept (below_of_grown g2)
  have c2 := M0.c2
  have HB2 := hid (bel_bel HB1.out HB1.out.size (below_of_grown g2))
  have HM0c := hid M0
  have HM1c := hid M1
  clear g2 r2 M0 M1 HM0b HM1b b1
  go_wp2_with fail
  refine (putW32 (some ⟨w1.heap.size, 0, none⟩) 8 8 _ (n : Int) w2 b2 (by omega) (by omega) (by omega)).mono ?_
  rintro en w3 ⟨rfl, r3, g3⟩
  have l3 : ((([] ++ be 4 (N : Int)) ++ be 4 (K : Int)) ++ be 4 (n : Int)).length = 12 := by simp [be_length]
  have b3 := r3.bs12 l3 (By.app y2 (be_byte 4 _))
  have M0 := HM0c.out.below (below_of_grown g3)
  have M1 := HM1c.out.kept (below_of_grown g3)
  have c3 := M0.c3
  have HB3 := hid (bel_bel HB2.out HB2.out.size (below_of_grown g3))
  have HM0d := hid M0
  have HM1d := hid M1
  clear g3 r3 M0 M1 HM0c HM1c b2 c2
  go_wp2_with fail
  refine (putW32 (some ⟨w2.heap.size, 0, none⟩) 12 12 _ (S : Int) w3 b3 (by omega) (by omega) (by omega)).mono ?_
  rintro en w4 ⟨rfl, r4, g4⟩
  have M0 := HM0d.out.below (below_of_grown g4)
  have M1 := HM1d.out.kept (below_of_grown g4)
  have c0 := M0.c0
  have c1 := M0.c1
  have HB4 := hid (bel_bel HB3.out HB3.out.size (below_of_grown g4))
  have HR4 := hid r4
  have HM1e := hid M1
  have hsz : Hid (w.heap.size + 1 < w3.heap.size) := HM1d.out.lt
  clear g4 r4 M0 M1 HM0d HM1d b3 c3 c2
  go_wp2_with (with_reducible show wpList _ _ _ (_ :: _) _ _; refine wpList_ss rfl rfl _ _ rfl (w.heap.size + 1) t1 e q r (some ⟨w3.heap.size, 0, none⟩) 16 16 rfl rfl _ _ _ _ _ (by with_reducible exact HM1e.out) ?_)
  refine bodyPost_ret (results_s rfl _ _ (w.heap.size + 1) t1 e q r (.slice (some ⟨w3.heap.size, 0, none⟩) 16 16) rfl (HM1e.out.row t1 e q r _)) rfl ⟨w3.heap.size, rfl, HB3.out.size, ?_, bel_row HB4.out (by omega) _⟩
  refine row_row ?_ (by have := hsz.out; omega) _
  have := HR4.out
  rw [List.nil_append] at this
  exact this
end Go.Proofs.YtjajcbjodokfnaaGreatDoor
