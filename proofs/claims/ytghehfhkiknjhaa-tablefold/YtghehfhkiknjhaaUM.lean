import Derived.Test.YtghehfhkiknjhaaUL
import Derived.Test.YtghehfhkiknjhaaTU
namespace Go.Proofs.Ytghehfhkiknjhaa
set_option maxRecDepth 100000
open Go.RowKit Go.Shelf Go.Maps
set_option linter.unusedVariables false

theorem tmod_nat (a b : Nat) : (a : Int).tmod b = ((a % b : Nat) : Int) := by
  rw [Int.tmod_eq_emod_of_nonneg (by omega)]
  rfl
set_option maxHeartbeats 1000000 in
theorem gcd_ (a b : Nat) (w : World) (ha : a ≤ 1000000000) (hb : b ≤ 1000000000) : Calls Try.prog 57 #[.int .i64 a, .int .i64 b] w fun e w' => e = .returned (.int .i64 (Nat.gcd a b)) ∧ Below w.heap.size w w' := by
  go_enter Try.func57, Try.ntmps57
  go_wp2_with fail
  go_loopw [0, 1] (fun x y wr => ∃ c d : Nat, x = .int .i64 c ∧ y = .int .i64 d ∧ c ≤ 1000000000 ∧ d ≤ 1000000000 ∧ Hid (Nat.gcd c d = Nat.gcd a b) ∧ Hid (Below w.heap.size w wr)) (fun _ y _ => (intOf y).toNat)
  case atStart => exact ⟨a, b, rfl, rfl, ha, hb, rfl, Below.refl _ _⟩
  case round =>
    obtain ⟨c, d, rfl, rfl, hc, hd, HG, HB⟩ := hrel
    by_cases h0 : d = 0
    · subst h0
      have HX : Hid (Nat.gcd a b = c) := by rw [← HG.out]; exact Nat.gcd_zero_right c
      go_wp2_with fail
      go_ret
      rw [HX.out]
      exact ⟨rfl, HB.out⟩
    · have hI : ¬ (d : Int) = 0 := by omega
      have hne : ((d : Int) != 0) = true := bne_iff_ne.2 hI
      have hq := tmod_nat c d
      have hlt : c % d < d := Nat.mod_lt _ (by omega)
      have HX : Hid (Nat.gcd d (c % d) = Nat.gcd a b) := by rw [← HG.out, Nat.gcd_comm c d, Nat.gcd_rec d c, Nat.gcd_comm d]; rfl
      obtain ⟨r, hr⟩ : ∃ r, c % d = r := ⟨_, rfl⟩
      rw [hr] at hq hlt HX
      clear hr HG
      go_wp2_with fail
      go_region
      go_wp2_with fail
      go_roundw
      case rel => exact ⟨d, r, rfl, by first | rfl | rw [hq] | (simp only [hq]; go_num), hd, by omega, HX, bel_bel HB.out HB.out.size (below_drew _)⟩
      case measure => simp [intOf]; omega
/-- The set that turned makes of its k-th step. -/
def tsx (M : Tab) (n F d k : Nat) : Sx := ⟨(M.getD ((F + k * d) % n) ([], [])).1, (M.getD ((F + k * d) % n) ([], [])).2, false⟩
def tl (M : Tab) (n F d k : Nat) : List Sx := (List.range k).map (tsx M n F d)
theorem tl_succ (M : Tab) (n F d k : Nat) : tl M n F d (k + 1) = tl M n F d k ++ [tsx M n F d k] := by simp [tl, List.range_succ]
theorem tl_in {M : Tab} {n F d : Nat} (hn : M.length = n) (h0 : 0 < n) (k : Nat) : ∀ x ∈ tl M n F d k, x ∈ asS M := by
  intro x hx
  obtain ⟨i, _, rfl⟩ := List.mem_map.1 hx
  have hlt : (F + i * d) % n < M.length := by rw [hn]; exact Nat.mod_lt _ h0
  refine List.mem_map.2 ⟨M[(F + i * d) % n], List.getElem_mem hlt, ?_⟩
  simp [tsx, List.getD, hlt]
theorem tl_all {M : Tab} {n F d : Nat} (hn : M.length = n) (hg : Nat.gcd d n = 1) : ∀ x ∈ asS M, x ∈ tl M n F d n := by
  intro x hx
  obtain ⟨p, hp, rfl⟩ := List.mem_map.1 hx
  obtain ⟨j, hj, rfl⟩ := List.getElem_of_mem hp
  obtain ⟨i, hi, e⟩ := meets (f := F) hg (show j < n by omega)
  refine List.mem_map.2 ⟨i, List.mem_range.2 hi, ?_⟩
  unfold tsx
  rw [e]
  simp [List.getD, hj]
structure Tn (w : World) (V : Nat → Prop) (L : List Sx) (W : World) (v : Value) (ds : List SD) : Prop where
  own : W.ownsRow w.heap.size 37 3 v ds.length (sds ds)
  is : ds.map (·.s) = L
  sv : ∀ d ∈ ds, SV W V d
  bel : Below w.heap.size w W
theorem tmodB (s : Int) {n : Nat} (h : 0 < n) : -(n : Int) < s.tmod n ∧ s.tmod n < n := by
  have h1 := Int.lt_tmod_of_pos s (show (0 : Int) < n by omega)
  have h2 := Int.tmod_lt_of_pos s (show (0 : Int) < n by omega)
  exact ⟨by omega, h2⟩
set_option maxHeartbeats 2000000 in
theorem turned_ (V : Nat → Prop) (a : Option Addr) (n c : Nat) (M : Tab) (f s : Int) (w : World) (h : Rl w V a n M) (hV : ∀ x, V x → x < w.heap.size) (hn : n ≤ 10000) (hf : -9223372036854775808 ≤ f ∧ f ≤ 9223372036854775807) (hs : -9223372036854775808 ≤ s ∧ s ≤ 9223372036854775807) :
    Calls Try.prog 31 #[.slice a n c, .int .i64 f, .int .i64 s] w fun e w' => ∃ a' m c' l, e = .returned (.slice a' m c') ∧ Sl w' (fun x => V x ∨ w.heap.size ≤ x) a' m l ∧ m = n ∧ (∀ x ∈ l, x ∈ asS M) ∧ (∀ x ∈ asS M, x ∈ l) ∧ Below w.heap.size w w' := by
  have HR := hid h
  have HLN : Hid (M.length = n) := h.len
  have HV := hid hV
  clear h hV
  by_cases h0 : n = 0
  · subst h0
    go_enter Try.func31, Try.ntmps31
    go_wp2_with fail
    go_ret
    have hM : M = [] := List.eq_nil_of_length_eq_zero HLN.out
    refine ⟨none, 0, 0, [], rfl, ⟨rfl, .inl rfl⟩, rfl, fun x hx => by simp at hx, fun x hx => ?_, Below.refl _ _⟩
    rw [hM] at hx
    simp [asS] at hx
  · have hne : ¬ (n : Int) = 0 := by omega
    have heq : ((n : Int) == 0) = false := beq_eq_false_iff_ne.2 hne
    obtain ⟨t1, t2⟩ := tmodB f (show 0 < n by omega)
    obtain ⟨t3, t4⟩ := tmodB s (show 0 < n by omega)
    go_enter Try.func31, Try.ntmps31
    go_wp2_with fail
    obtain ⟨F, hF, eF⟩ : ∃ F : Nat, F < n ∧ (f.tmod n + n) % n = F := by
      have q1 := Int.emod_nonneg (f.tmod n + n) hne
      have q2 := Int.emod_lt_of_pos (f.tmod n + n) (show (0 : Int) < n by omega)
      exact ⟨((f.tmod n + n) % n).toNat, by omega, by omega⟩
    obtain ⟨S, hS, eS⟩ : ∃ F : Nat, F < n ∧ (s.tmod n + n) % n = F := by
      have q1 := Int.emod_nonneg (s.tmod n + n) hne
      have q2 := Int.emod_lt_of_pos (s.tmod n + n) (show (0 : Int) < n by omega)
      exact ⟨((s.tmod n + n) % n).toNat, by omega, by omega⟩
    rw [eF, eS]
    clear eF eS t1 t2 t3 t4 hf hs
    go_loopw [2] (fun y wr => ∃ d : Nat, y = .int .i64 d ∧ d ≤ n + 1 ∧ Hid (Below w.heap.size w wr)) (fun y _ => n + 1 - (intOf y).toNat)
    case atStart => exact ⟨S, rfl, by omega, Below.refl _ _⟩
    case round =>
      obtain ⟨d, rfl, hd, HB⟩ := hrel
      have kg := gcd_ d n wr (by omega) (by omega)
      obtain ⟨g, HG⟩ : ∃ g, Hid (Nat.gcd d n = g) := ⟨_, rfl⟩
      rw [HG.out] at kg
      by_cases hg : g = 1
      · subst hg
        go_wp2_with fail
        refine kg.mono ?_
        rintro e w1 ⟨rfl, g1⟩
        have HB1 := hid (bel_bel HB.out HB.out.size g1)
        clear g1 kg HB
        go_wp2_with fail
        go_loopw [8, 9] (fun v i wr => ∃ (k : Nat) (ds : List SD), i = .int .i64 k ∧ k ≤ n ∧ Hid (Tn w V (tl M n F d k) wr v ds)) (fun _ i _ => n - (intOf i).toNat)
        case atStart => exact ⟨0, [], rfl, Nat.zero_le _, ⟨World.ownsRow_nil _ _ _ _, rfl, fun d hd => by simp at hd, HB1.out⟩⟩
        case round =>
          obtain ⟨k, ds, rfl, hk, HF⟩ := hrel
          by_cases hlt : k < n
          · have hI : (k : Int) < n := by omega
            obtain ⟨p, hp⟩ : ∃ p, k * d = p := ⟨_, rfl⟩
            have hp1 : p ≤ 100010000 := by
              rw [← hp]
              exact Nat.le_trans (Nat.mul_le_mul (show k ≤ 10000 by omega) (show d ≤ 10001 by omega)) (by decide)
            have hpI : (k : Int) * (d : Int) = (p : Int) := by rw [← hp]; exact (Int.natCast_mul k d).symm
            obtain ⟨j, hj⟩ : ∃ j, (F + p) % n = j := ⟨_, rfl⟩
            have hjn : j < n := by rw [← hj]; exact Nat.mod_lt _ (by omega)
            have hjI : ((F : Int) + p) % n = j := by rw [← hj]; rfl
            have hjT : ((F : Int) + p).tmod n = j := by rw [← hj]; exact tmod_nat (F + p) n
            have hjJ : (j : Int) < n := by omega
            obtain ⟨bl, off, ka, kc, va, vc, kn, vn, rfl, hkn, hvn, c0, c1, v1, v2⟩ := (HR.out.below HF.out.bel).at hjn
            obtain ⟨q, HQ⟩ : ∃ s, Hid (M.getD j ([], []) = s) := ⟨_, rfl⟩
            rw [HQ.out] at hkn hvn v1 v2
            have HTS : Hid (tsx M n F d k = ⟨q.1, q.2, false⟩) := by
              show _ = _
              unfold tsx
              rw [hp, hj, HQ.out]
            have HV1 := hid v1
            have HV2 := hid v2
            have HKN := hid hkn
            have HVN := hid hvn
            clear hkn hvn v1 v2 hlt hp hj
            obtain ⟨o1, HO1⟩ : ∃ o, Hid (Obj.cells #[.slice ka kn kc, .slice va vn vc] 65 = o) := ⟨_, rfl⟩
            obtain ⟨o2, HO2⟩ : ∃ o, Hid (Obj.cells #[.slice ka kn kc, .slice va vn vc, .bool false] 37 = o) := ⟨_, rfl⟩
            have HO4 := hid ((HF.out.own.alloc o1).alloc o2)
            have HBA : Hid (Below wr.heap.size wr ((wr.alloc o1).alloc o2)) := ((Below.refl wr.heap.size wr).alloc (Nat.le_refl _) o1).alloc (by simp) o2
            have HSZ4 : Hid (w.heap.size ≤ ((wr.alloc o1).alloc o2).heap.size) := Nat.le_trans HF.out.bel.size HBA.out.size
            have HNW : Hid (∀ j u, (sdc ⟨ka, kc, va, vc, ⟨q.1, q.2, false⟩⟩)[j]? = some u → ((wr.alloc o1).alloc o2).cell? ⟨wr.heap.size + 1, j, none⟩ = some u) := fun j u hj => by
              have e := heap_alloc_new (wr.alloc o1) o2
              rw [World.size_alloc] at e
              rw [cell_of_row ((wr.alloc o1).alloc o2) (wr.heap.size + 1) j _ 37 (0, 0) (e.trans (by rw [← HO2.out]))]
              simp only [sdc, ← HKN.out, ← HVN.out] at hj
              simpa using hj
            rw [← HO1.out, ← HO2.out] at HO4 HNW HSZ4 HBA
            have HDL : Hid (ds.length ≤ 10000) := by have h := congrArg List.length HF.out.is; rw [List.length_map] at h; rw [h]; simp [tl, Hid]; omega
            go_wp2_with (first | (at_builtin; refine wpList_appSet rfl _ _ rfl w.heap.size _ ds rfl (by exact HO4.out) (wr.heap.size + 1) ⟨ka, kc, va, vc, ⟨q.1, q.2, false⟩⟩ rfl (by exact HNW.out) (by have := HDL.out; omega) (by exact HSZ4.out) ?_; intro v5 w5 o5 g5 _; have HO5 := hid o5; have HG5 := hid g5; clear o5 g5 HNW) | fail)
            have hown : ∀ x, u8.ownBlock = some x → w.heap.size ≤ x := fun x e => (HO4.out.lt x e).1
            have hsame : ∀ x, x < w.heap.size → x < wr.heap.size → w5.heap[x]? = wr.heap[x]? := fun x hx hx3 => (HG5.out.block x (Nat.lt_of_lt_of_le hx3 HBA.out.size) (fun e => by have := hown x e.symm; omega)).trans (HBA.out.block x hx3)
            have hst : ∀ {d : SD}, SV wr V d → SV w5 V d := fun h => h.step fun x hx e _ => hsame x (HV.out x e) hx
            go_roundw
            case rel =>
              refine ⟨k + 1, ds ++ [⟨ka, kc, va, vc, ⟨q.1, q.2, false⟩⟩], by go_num, by omega, ⟨HO5.out, ?_, ?_, ?_⟩⟩
              · rw [tl_succ, List.map_append, HF.out.is, HTS.out]
                rfl
              · intro d hd
                rcases List.mem_append.1 hd with hd | hd
                · exact hst (HF.out.sv d hd)
                · rw [List.mem_singleton] at hd
                  subst hd
                  refine hst ⟨?_, ?_⟩
                  · show Vs _ _ _ q.1.length _ _
                    rw [← HKN.out]; exact HV1.out
                  · show Vs _ _ _ q.2.length _ _
                    rw [← HVN.out]; exact HV2.out
              · exact (HF.out.bel.trans ⟨HBA.out.os, HBA.out.tape, HBA.out.output, HBA.out.size, fun x hx => HBA.out.block x (by have := HF.out.bel.size; omega)⟩).grown HG5.out (by exact HSZ4.out) (fun x e => hown x e)
            case measure => simp [intOf]; omega
          · have hI : ¬ (k : Int) < n := by omega
            obtain rfl : k = n := by omega
            obtain ⟨a', c', hv, hsl, h1, h2, h3⟩ := Sl.ofOwn (V := fun x => V x ∨ w.heap.size ≤ x) HF.out.own (fun d hd => (HF.out.sv d hd).wide (fun _ _ h => .inl h)) (fun _ h => .inr h)
            rw [HF.out.is] at hsl
            have hdl : ds.length = k := by have h := congrArg List.length HF.out.is; rw [List.length_map] at h; rw [h]; simp [tl]
            subst hv
            rw [hdl] at hsl
            rw [hdl]
            have HSL := hid hsl
            clear hsl h1 h2 h3
            go_wp2_with fail
            go_ret
            first | exact ⟨a', k, ⟨c', rfl⟩, tl M k F d k, HSL.out, rfl, tl_in HLN.out (by omega) k, tl_all HLN.out HG.out, HF.out.bel⟩ | exact ⟨a', k, c', tl M k F d k, rfl, HSL.out, rfl, tl_in HLN.out (by omega) k, tl_all HLN.out HG.out, HF.out.bel⟩
      · have hgI : ¬ (g : Int) = 1 := by omega
        have hgb : ((g : Int) != 1) = true := bne_iff_ne.2 hgI
        have hdn : d ≤ n := by
          rcases Nat.lt_or_ge n d with h | h
          · obtain rfl : d = n + 1 := by omega
            exact absurd (HG.out.symm.trans (by simp)) hg
          · exact h
        go_wp2_with fail
        refine kg.mono ?_
        rintro e w1 ⟨rfl, g1⟩
        have HB1 := hid (bel_bel HB.out HB.out.size g1)
        clear g1 kg HB
        go_wp2_with fail
        go_roundw
        case rel => exact ⟨d + 1, by go_num, by omega, HB1⟩
        case measure => simp [intOf]; omega
end Go.Proofs.Ytghehfhkiknjhaa
