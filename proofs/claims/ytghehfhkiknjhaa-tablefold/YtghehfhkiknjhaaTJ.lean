import Derived.Test.YtghehfhkiknjhaaTI
namespace Go.Proofs.Ytghehfhkiknjhaa
set_option maxRecDepth 100000
open Go.RowKit Go.Maps
set_option linter.unusedVariables false

theorem rdS_fuel : ∀ (n m : Nat) (zs : List Int), zs.length ≤ n → zs.length ≤ m → rdS n zs = rdS m zs
  | 0, 0, zs, _, _ => rfl
  | 0, m + 1, zs, h, _ => by
    obtain rfl : zs = [] := List.eq_nil_of_length_eq_zero (by omega)
    simp [rdS]
  | n + 1, 0, zs, _, h => by
    obtain rfl : zs = [] := List.eq_nil_of_length_eq_zero (by omega)
    simp [rdS]
  | n + 1, m + 1, zs, h1, h2 => by
    rw [rdS, rdS]
    by_cases e : zs = []
    · rw [if_pos e, if_pos e]
    · rw [if_neg e, if_neg e]
      cases hr : rd1 zs with
      | mk s o =>
        cases o with
        | none => rfl
        | some r =>
          have := rd1_left hr
          simp only
          rw [rdS_fuel n m r (by omega) (by omega)]
def rdF (zs : List Int) : List Sx := rdS zs.length zs
def tailS : Option (List Int) → List Sx
  | none => []
  | some zs => rdF zs
theorem tail_step {zs : List Int} (h : zs ≠ []) : tailS (some zs) = (rdT (some zs)).1 :: tailS (rdT (some zs)).2 := by
  rw [rdT_eq zs h]
  show rdF zs = _
  unfold rdF
  obtain ⟨n, hn⟩ : ∃ n, zs.length = n + 1 := ⟨zs.length - 1, by cases zs with | nil => exact absurd rfl h | cons _ _ => simp⟩
  rw [hn, rdS, if_neg h]
  cases hr : rd1 zs with
  | mk s o =>
    cases o with
    | none => rfl
    | some r =>
      have := rd1_left hr
      show s :: rdS n r = s :: rdF r
      unfold rdF
      rw [rdS_fuel n r.length r (by omega) (Nat.le_refl _)]
theorem rdT_left {zs : List Int} (h : zs ≠ []) : leftS (rdT (some zs)).2 < zs.length := by
  rw [rdT_eq zs h]
  cases hr : rd1 zs with
  | mk s o =>
    cases o with
    | none =>
      show 0 < zs.length
      cases zs with
      | nil => exact absurd rfl h
      | cons _ _ => simp
    | some r =>
      have := rd1_left hr
      show r.length < _
      omega
def lenAt (w : World) (r : Nat) : Nat := match w.cell? ⟨r, 0, none⟩ with
  | some (.slice _ n _) => n
  | _ => 0
theorem Rs.lenAt {w : World} {r g tot : Nat} {st : Option (List Int)} (h : Rs w r g st tot) : lenAt w r = leftS st := by
  cases st with
  | none =>
    obtain ⟨p, e, hb⟩ := h
    unfold Go.Proofs.Ytghehfhkiknjhaa.lenAt
    rw [hb.1.c0]
    rfl
  | some zs =>
    obtain ⟨⟨_, a, n, c, h1, h2⟩, _⟩ := h
    unfold Go.Proofs.Ytghehfhkiknjhaa.lenAt
    rw [h1.c0]
    exact h2.1.symm
theorem rdT_len {zs : List Int} (h : zs ≠ []) : (rdF zs).length ≤ zs.length := by
  unfold rdF
  have : ∀ (n : Nat) (zs : List Int), (rdS n zs).length ≤ n := by
    intro n
    induction n with
    | zero => intro zs; simp [rdS]
    | succ n ih =>
      intro zs
      rw [rdS]
      split
      · simp
      · split
        · simp
        · simp only [List.length_cons]
          have := ih ‹List Int›
          omega
  exact this _ _
set_option maxHeartbeats 1000000 in
theorem getSets_ (a : Option Addr) (n c : Nat) (zs : List Int) (w : World) (hb : Bs w a n zs) (ha : a = none → c = 0) (hnc : n ≤ c) (hn : n ≤ 5000000) :
    Calls Try.prog 33 #[.slice a n c] w fun e w' => (∃ l a' m c', gs zs = some l ∧ e = .returned (.tuple #[.slice a' m c', .int .i64 0]) ∧ Sl w' (fun x => w.heap.size ≤ x) a' m l ∧ m ≤ c' ∧ c' ≤ maxLen ∧ (a' = none → c' = 0) ∧ Below w.heap.size w w') ∨ (gs zs = none ∧ e = .returned (.tuple #[.slice none 0 0, .int .i64 114]) ∧ Below w.heap.size w w') := by
  have HB := hid hb
  have k1 := newReader a n c zs w hb ha (by omega) hnc
  have HZ : Hid (zs.length = n) := hb.1
  have hrn := rdT_len (zs := zs)
  clear hb
  go_enter Try.func33, Try.ntmps33
  go_wp2_with fail
  refine k1.mono ?_
  rintro e w1 ⟨r, g, rfl, rd, hr, hg, hgl, g1⟩
  have HG1 := hid g1
  have HRS : Hid (Rs w1 r g (some zs) n) := ⟨by rw [HZ.out]; simpa using rd, by rw [HZ.out]; exact Nat.le_refl _, HB.out.2.1⟩
  have hgr : g ≠ r := rd.1
  have hrl := rd.lt
  have HGL : Hid (0 < n → g < w1.heap.size) := fun h => hgl (by
    rcases HB.out.2.2 with h0 | ⟨b, off, e, _⟩
    · omega
    · rw [e]; simp)
  clear k1 rd g1 hgl
  go_wp2_with fail
  go_loopw [4] (fun v wr => ∃ (ds : List SD) (st : Option (List Int)), Hid (rdF zs = ds.map (·.s) ++ tailS st) ∧ Hid (Rs wr r g st n) ∧ Hid (∀ d ∈ ds, SV wr (fun x => x = g) d) ∧ Hid (wr.ownsRow w1.heap.size 37 3 v ds.length (sds ds)) ∧ Hid (w1.grownBy wr (some r))) (fun _ wr => lenAt wr r)
  case atStart => exact ⟨[], some zs, rfl, HRS, fun d hd => by simp at hd, World.ownsRow_nil _ _ _ _, ⟨rfl, rfl, rfl, Nat.le_refl _, fun _ _ _ => rfl⟩⟩
  case round =>
    obtain ⟨ds, st, HE, HR, HV, HO, HG⟩ := hrel
    have HLA := hid HR.out.lenAt
    have kl := rs_left r g n st wr HR.out
    obtain ⟨lf, HLF⟩ : ∃ x, Hid (leftS st = x) := ⟨_, rfl⟩
    rw [HLF.out] at kl HLA
    by_cases hlf : 0 < lf
    · have hI : (lf : Int) > 0 := by omega
      obtain ⟨ys, rfl⟩ : ∃ ys, st = some ys := by
        cases st with
        | none => have := HLF.out; simp [leftS] at this; omega
        | some ys => exact ⟨ys, rfl⟩
      have hys : ys ≠ [] := fun e => by subst e; have := HLF.out; simp [leftS] at this; omega
      have hn0 : 0 < n := by
        have h1 : ys.length ≤ n := HR.out.2.1
        cases ys with
        | nil => exact absurd rfl hys
        | cons _ _ => simp at h1; omega
      have hgl := HGL.out hn0
      have hsz := HG.out.size
      have HTS := hid (tail_step hys)
      have HLE := hid (rdT_left hys)
      have kr := readSet_ r g n (some ys) wr HR.out (by omega) hgr (by omega)
      have HLN : Hid (ds.length ≤ 5000000) := by
        have h1 := congrArg List.length HE.out
        rw [List.length_append, List.length_map] at h1
        have h2 := hrn (by intro e; have := HZ.out; rw [e] at this; simp at this; omega)
        have h3 := HZ.out
        show _ ≤ _
        omega
      clear hys hn0
      go_wp2_with fail
      refine kl.mono ?_
      rintro e w2 ⟨rfl, hw⟩
      obtain rfl := hw.symm
      clear hw kl
      go_wp2_with fail
      refine kr.mono ?_
      rintro e w3 ⟨d, hd, rfl, sv3, rs3, g3⟩
      have HD := hid hd
      have HS3 := hid sv3
      have HR3 := hid rs3
      have HG3 := hid (HG.out.andThen g3 (fun j e => .inr e))
      have HO3 := hid (HO.out.kept g3 (by
        cases e : u4.ownBlock with
        | none => exact .inl rfl
        | some q =>
          right
          intro f
          have := (HO.out.lt q e).1
          have := Option.some.inj f
          omega))
      have HV3 : Hid (∀ d ∈ ds, SV w3 (fun x => x = g) d) := fun d hd => (HV.out d hd).step fun x hx e _ => g3.block x hx (by rw [e]; simp; exact hgr)
      have hsz3 := HG3.out.size
      clear kr hd sv3 rs3 g3 HO HV HR HG hsz
      obtain ⟨ka, kc, va, vc, ⟨k, vv, gg⟩⟩ := d
      simp only [sdc]
      obtain ⟨kn, HKN⟩ : ∃ x, Hid (k.length = x) := ⟨_, rfl⟩
      obtain ⟨vn, HVN⟩ : ∃ x, Hid (vv.length = x) := ⟨_, rfl⟩
      rw [HKN.out, HVN.out]
      obtain ⟨o, HOB⟩ : ∃ o, Hid (Obj.cells #[.slice ka kn kc, .slice va vn vc, .bool gg] 37 = o) := ⟨_, rfl⟩
      have BA : Below w3.heap.size w3 (w3.alloc o) := (Below.refl w3.heap.size w3).alloc (Nat.le_refl _) o
      have HO4 := hid (HO3.out.alloc o)
      have HNW : Hid (∀ j u, (sdc ⟨ka, kc, va, vc, ⟨k, vv, gg⟩⟩)[j]? = some u → (w3.alloc o).cell? ⟨w3.heap.size, j, none⟩ = some u) := fun j u hj => by
        rw [cell_of_row (w3.alloc o) w3.heap.size j _ 37 (0, 0) ((heap_alloc_new w3 o).trans (by rw [← HOB.out]))]
        simp only [sdc, HKN.out, HVN.out] at hj
        simpa using hj
      have HBA := hid BA
      have HSZ4 : Hid (w1.heap.size ≤ (w3.alloc o).heap.size) := by show _ ≤ _; simp; omega
      rw [← HOB.out] at HO4 HNW HBA HSZ4
      clear BA HO3
      go_wp2_with (first | (at_builtin; refine wpList_appSet rfl _ _ rfl w1.heap.size _ ds rfl (by exact HO4.out) w3.heap.size ⟨ka, kc, va, vc, ⟨k, vv, gg⟩⟩ rfl (by exact HNW.out) (by have := HLN.out; omega) (by exact HSZ4.out) ?_; intro v5 w5 o5 g5 _; have HO5 := hid o5; have HG5 := hid g5; clear o5 g5 HNW) | fail)
      have hown : ∀ q, u4.ownBlock = some q → w1.heap.size ≤ q := fun q e => (HO4.out.lt q e).1
      have hsame : ∀ x, x < w1.heap.size → x < w3.heap.size → w5.heap[x]? = w3.heap[x]? := fun x hx hx3 => (HG5.out.block x (Nat.lt_of_lt_of_le hx3 HBA.out.size) (fun e => by have := hown x e.symm; omega)).trans (HBA.out.block x hx3)
      have HR5 : Hid (Rs w5 r g (rdT (some ys)).2 n) := HR3.out.kept (hsame r hrl (by omega)) (fun h => hsame g hgl h)
      go_roundw
      case rel =>
        refine ⟨ds ++ [⟨ka, kc, va, vc, ⟨k, vv, gg⟩⟩], (rdT (some ys)).2, ?_, HR5, ?_, HO5, ?_⟩
        · show _ = _
          rw [HE.out, HTS.out, List.map_append, List.append_assoc]
          have e := HD.out
          simp only at e
          rw [← e]
          rfl
        · intro d hd
          have hst : ∀ {d : SD}, SV w3 (fun x => x = g) d → SV w5 (fun x => x = g) d := fun h => h.step fun x hx e _ => by
            subst e
            exact hsame x hgl hx
          rcases List.mem_append.1 hd with hd | hd
          · exact hst (HV3.out d hd)
          · rw [List.mem_singleton] at hd
            subst hd
            exact hst HS3.out
        · exact (HG3.out.andThen ((grown_of_below HBA.out).but (some r)) (fun j e => .inr e)).andThen HG5.out (fun j e => .inl (hown j e))
      case measure =>
        rw [HR5.out.lenAt, HLA.out]
        have := HLE.out
        have := HLF.out
        simp [leftS] at this
        omega
    · have hI : ¬ (lf : Int) > 0 := by omega
      have HT0 : Hid (rdF zs = ds.map (·.s)) := by
        have h1 := HLF.out
        have h2 : tailS st = [] := by
          cases st with
          | none => rfl
          | some ys =>
            have : ys = [] := List.eq_nil_of_length_eq_zero (by simp [leftS] at h1; omega)
            subst this
            rfl
        have := HE.out
        rw [h2, List.append_nil] at this
        exact this
      have hsz := HG.out.size
      have hw1 := HG1.out.size
      have HBW : Hid (Below w.heap.size w wr) := ⟨HG.out.os.trans HG1.out.os, HG.out.tape.trans HG1.out.tape, HG.out.output.trans HG1.out.output, by omega, fun k hk => (HG.out.block k (by omega) (by simp; omega)).trans (HG1.out.block k hk (by simp))⟩
      have hDL : ds.length ≤ 5000000 := by
        by_cases hz : zs = []
        · have h1 := congrArg List.length HT0.out
          rw [hz, List.length_map] at h1
          have : rdF [] = [] := rfl
          rw [this] at h1
          simp at h1
          omega
        · have h1 := congrArg List.length HT0.out
          rw [List.length_map] at h1
          have h2 := hrn hz
          have h3 := HZ.out
          omega
      obtain ⟨al, cl, rfl, hsl, hlc, hlm, hln⟩ := Sl.ofOwn (V := fun x => w.heap.size ≤ x) HO.out (fun d hd => (HV.out d hd).wide fun x _ e => by subst e; exact hg) (fun x hx => by omega)
      have HSL := hid hsl
      have HSB := hid (HB.out.below HBW.out)
      have kp := putSets_ _ al ds.length cl (ds.map (·.s)) wr hsl (by omega)
      obtain ⟨m, HM⟩ : ∃ m, Hid (ds.length = m) := ⟨_, rfl⟩
      rw [HM.out] at kp hlc HSL
      have HGS : Hid (gs zs = if okS (ds.map (·.s)) && decide (enc (ds.map (·.s)) = zs) then some (ds.map (·.s)) else none) := by
        show gs zs = _
        unfold gs
        have e : rdS zs.length zs = ds.map (·.s) := HT0.out
        rw [e]
      obtain ⟨l, HLL⟩ : ∃ l, Hid (ds.map (·.s) = l) := ⟨_, rfl⟩
      rw [HLL.out] at kp HSL HGS
      rw [HM.out]
      have HLC := hid hlc
      have HLM := hid hlm
      have HLNN := hid hln
      clear hsl HE HR HV HO HG hlf hDL hlc hlm hln
      go_wp2_with fail
      refine kl.mono ?_
      rintro e w2 ⟨rfl, hw⟩
      obtain rfl := hw.symm
      clear hw kl
      go_wp2_with fail
      refine kp.mono ?_
      rintro e w3 (⟨hok, v3, rfl, o3, g3⟩ | ⟨hok, rfl, g3⟩)
      · obtain ⟨a3, c3, rfl, b3, -⟩ := own_form o3 (enc_byte HSL.out.okS)
        have HB3 := hid b3
        have HSB3 := hid (HSB.out.below g3)
        have HBW3 := hid (bel_bel HBW.out HBW.out.size g3)
        have HSL3 := hid (HSL.out.below g3)
        have HOK := hid hok
        have ke := fun wx (h1 : Bs wx a3 (enc l).length (enc l)) (h2 : Bs wx a n zs) => beq_ a3 a (enc l).length c3 n c (enc l) zs wx h1 h2
        obtain ⟨q, HQ⟩ : ∃ q, Hid (sameB (enc l) zs = q) := ⟨_, rfl⟩
        rw [HQ.out] at ke
        generalize (enc l).length = en at *
        clear o3 g3 b3 hok kp
        go_wp2_with fail
        refine (ke _ HB3.out HSB3.out).mono ?_
        rintro e w4 ⟨rfl, d4⟩
        have HBW4 := hid (bel_bel HBW3.out HBW3.out.size d4.below)
        have HSL4 := hid (HSL3.out.below d4.below)
        clear ke d4
        cases q with
        | true =>
          have HF : Hid (gs zs = some l) := by
            rw [HGS.out, HOK.out]
            have : enc l = zs := by have := HQ.out; unfold sameB at this; exact of_decide_eq_true this
            rw [decide_eq_true this]
            rfl
          go_wp2_with fail
          go_ret2
          exact .inl ⟨l, al, m, cl, HF.out, rfl, HSL4.out, HLC.out, HLM.out, HLNN.out, HBW4.out⟩
        | false =>
          have HF : Hid (gs zs = none) := by
            rw [HGS.out, HOK.out]
            have : ¬ enc l = zs := by have := HQ.out; unfold sameB at this; exact of_decide_eq_false this
            rw [decide_eq_false this]
            rfl
          go_wp2_with fail
          go_ret2
          exact .inr ⟨HF.out, rfl, HBW4.out⟩
      · have HF : Hid (gs zs = none) := by
          rw [HGS.out, hok]
          rfl
        have HBW3 := hid (bel_bel HBW.out HBW.out.size g3)
        clear kp hok g3
        go_wp2_with fail
        go_ret2
        exact .inr ⟨HF.out, rfl, HBW3.out⟩
end Go.Proofs.Ytghehfhkiknjhaa
