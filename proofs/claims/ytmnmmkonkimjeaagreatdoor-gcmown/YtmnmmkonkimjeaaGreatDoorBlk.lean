import Derived.WalkKit
namespace Go.Proofs.YtmnmmkonkimjeaaGreatDoor

/-! The field of 2^128 elements. A block is a number below 2^128, its first byte the highest: the coefficient of X^i is the bit of the worth 2^(127 - i). -/
theorem xor_mod2 (a b : Nat) : (a ^^^ b) % 2 = (a % 2 + b % 2) % 2 := by
  have h := Nat.testBit_xor a b 0
  simp only [Nat.testBit_zero] at h
  have ha : a % 2 = 0 ∨ a % 2 = 1 := by omega
  have hb : b % 2 = 0 ∨ b % 2 = 1 := by omega
  have hc : (a ^^^ b) % 2 = 0 ∨ (a ^^^ b) % 2 = 1 := by omega
  rcases ha with ha | ha <;> rcases hb with hb | hb <;> rcases hc with hc | hc <;> simp [ha, hb, hc] at h ⊢
theorem xor_div2 (a b : Nat) : (a ^^^ b) / 2 = a / 2 ^^^ b / 2 := by
  apply Nat.eq_of_testBit_eq
  intro i
  rw [Nat.testBit_xor, ← Nat.testBit_succ, ← Nat.testBit_succ, ← Nat.testBit_succ, Nat.testBit_xor]
theorem xor_divp (n : Nat) : ∀ a b : Nat, (a ^^^ b) / 2 ^ n = a / 2 ^ n ^^^ b / 2 ^ n := by
  induction n with
  | zero => intro a b; simp
  | succ n ih => intro a b; rw [Nat.pow_succ, ← Nat.div_div_eq_div_mul, ← Nat.div_div_eq_div_mul, ← Nat.div_div_eq_div_mul, ih, xor_div2]
theorem xor_lc (a b c : Nat) : a ^^^ (b ^^^ c) = b ^^^ (a ^^^ c) := by rw [← Nat.xor_assoc, ← Nat.xor_assoc, Nat.xor_comm a b]
theorem xor_cancel (a b : Nat) : a ^^^ (a ^^^ b) = b := by rw [← Nat.xor_assoc, Nat.xor_self, Nat.zero_xor]
theorem xor4 (a b c d : Nat) : (a ^^^ b) ^^^ (c ^^^ d) = (a ^^^ c) ^^^ (b ^^^ d) := by rw [Nat.xor_assoc, Nat.xor_assoc, xor_lc b c]
/-- The bits of a number up to place i, one more. -/
theorem mod_succ (r i : Nat) : r % 2 ^ (i + 1) = r % 2 ^ i ^^^ (if r / 2 ^ i % 2 = 1 then 2 ^ i else 0) := by
  apply Nat.eq_of_testBit_eq
  intro j
  rw [Nat.testBit_xor, Nat.testBit_mod_two_pow, Nat.testBit_mod_two_pow]
  have hb : r.testBit i = decide (r / 2 ^ i % 2 = 1) := by
    rw [Nat.testBit_eq_decide_div_mod_eq]
  by_cases h : r / 2 ^ i % 2 = 1
  · rw [if_pos h, Nat.testBit_two_pow]
    by_cases h1 : j < i
    · simp [h1, show j < i + 1 from by omega, show ¬ i = j from by omega]
    · by_cases h2 : i = j
      · subst h2; simp [hb, h]
      · simp [h1, h2, show ¬ j < i + 1 from by omega]
  · rw [if_neg h, Nat.zero_testBit]
    by_cases h1 : j < i
    · simp [h1, show j < i + 1 from by omega]
    · by_cases h2 : i = j
      · subst h2; simp [hb, h]
      · simp [h1, show ¬ j < i + 1 from by omega]

/-- A block times X. -/
def tx (r : Nat) : Nat := if r % 2 = 1 then r / 2 ^^^ 299076299051606071403356588563077529600 else r / 2
theorem tx_xor (a b : Nat) : tx (a ^^^ b) = tx a ^^^ tx b := by
  unfold tx
  rw [xor_mod2, xor_div2]
  have ha : a % 2 = 0 ∨ a % 2 = 1 := by omega
  have hb : b % 2 = 0 ∨ b % 2 = 1 := by omega
  generalize 299076299051606071403356588563077529600 = p
  rcases ha with ha | ha <;> rcases hb with hb | hb <;> simp only [ha, hb] <;> simp
  · rw [Nat.xor_assoc]
  · rw [Nat.xor_assoc, Nat.xor_assoc, Nat.xor_comm (b / 2)]
  · generalize a / 2 = x; generalize b / 2 = y
    rw [Nat.xor_assoc, xor_lc p y, Nat.xor_self, Nat.xor_zero]
theorem tx_lt {r : Nat} (h : r < 2 ^ 128) : tx r < 2 ^ 128 := by
  unfold tx
  split
  · exact Nat.xor_lt_two_pow (n := 128) (by omega) (by omega)
  · omega
theorem tx_zero : tx 0 = 0 := rfl
theorem tx_pow (n : Nat) : tx (2 ^ (n + 1)) = 2 ^ n := by
  unfold tx
  rw [Nat.pow_succ, if_neg (by omega)]
  omega

/-- n places of a product, from the place n - 1 down. -/
def mgo : Nat → Nat → Nat → Nat → Nat
  | 0, _, _, a => a
  | n + 1, x, y, a => mgo n x (tx y) (if x / 2 ^ n % 2 = 1 then a ^^^ y else a)
def pm (n x y : Nat) : Nat := mgo n x y 0
theorem mgo_acc (n : Nat) : ∀ x y a, mgo n x y a = a ^^^ pm n x y := by
  induction n with
  | zero => intro x y a; show a = a ^^^ 0; simp
  | succ n ih =>
    intro x y a
    show mgo (n + 1) x y a = a ^^^ mgo (n + 1) x y 0
    rw [mgo, ih, mgo, ih]
    split
    · rw [Nat.zero_xor, Nat.xor_assoc]
    · rw [Nat.zero_xor]
theorem pm_zero (x y : Nat) : pm 0 x y = 0 := rfl
theorem pm_succ (n x y : Nat) : pm (n + 1) x y = (if x / 2 ^ n % 2 = 1 then y else 0) ^^^ pm n x (tx y) := by
  show mgo (n + 1) x y 0 = _
  rw [mgo, mgo_acc]
  split
  · rw [Nat.zero_xor]
  · rfl
theorem pm_xor (n x : Nat) : ∀ a b, pm n x (a ^^^ b) = pm n x a ^^^ pm n x b := by
  induction n with
  | zero => intro a b; simp [pm_zero]
  | succ n ih =>
    intro a b
    rw [pm_succ, pm_succ, pm_succ, tx_xor, ih, xor4]
    congr 1
    split <;> simp
theorem pm_of_zero (n x : Nat) : pm n x 0 = 0 := by
  have := pm_xor n x 0 0
  rw [Nat.xor_self, Nat.xor_self] at this
  exact this
theorem pm_xor_left (n : Nat) : ∀ a b y, pm n (a ^^^ b) y = pm n a y ^^^ pm n b y := by
  induction n with
  | zero => intro a b y; simp [pm_zero]
  | succ n ih =>
    intro a b y
    rw [pm_succ, pm_succ, pm_succ, ih, xor4, xor_divp, xor_mod2]
    congr 1
    have ha : a / 2 ^ n % 2 = 0 ∨ a / 2 ^ n % 2 = 1 := by omega
    have hb : b / 2 ^ n % 2 = 0 ∨ b / 2 ^ n % 2 = 1 := by omega
    rcases ha with ha | ha <;> rcases hb with hb | hb <;> simp [ha, hb]
theorem tx_pm (n x : Nat) : ∀ y, tx (pm n x y) = pm n x (tx y) := by
  induction n with
  | zero => intro y; rw [pm_zero, pm_zero, tx_zero]
  | succ n ih =>
    intro y
    rw [pm_succ, pm_succ, tx_xor, ih]
    congr 1
    split <;> simp [tx_zero]
theorem pm_comm (n k x y : Nat) : ∀ z, pm n x (pm k y z) = pm k y (pm n x z) := by
  induction n with
  | zero => intro z; rw [pm_zero, pm_zero, pm_of_zero]
  | succ n ih =>
    intro z
    rw [pm_succ, pm_succ, tx_pm, ih, pm_xor]
    congr 1
    split
    · rfl
    · rw [pm_of_zero]
theorem pm_one (n : Nat) : ∀ x, pm (n + 1) x (2 ^ n) = x % 2 ^ (n + 1) := by
  induction n with
  | zero => intro x; rw [pm_succ, pm_zero, mod_succ]; simp [Nat.mod_one]
  | succ n ih => intro x; rw [pm_succ, tx_pow, ih, mod_succ x (n + 1), Nat.xor_comm]
theorem pm_lt (n : Nat) : ∀ x y, y < 2 ^ 128 → pm n x y < 2 ^ 128 := by
  induction n with
  | zero => intro x y _; rw [pm_zero]; omega
  | succ n ih =>
    intro x y h
    rw [pm_succ]
    exact Nat.xor_lt_two_pow (by split <;> omega) (ih x _ (tx_lt h))
theorem pm_high (n : Nat) : ∀ x y, x % 2 ^ n = 0 → pm n x y = 0 := by
  induction n with
  | zero => intro x y _; rfl
  | succ n ih =>
    intro x y h
    have h1 : x / 2 ^ n % 2 = 0 := by
      rw [Nat.mod_pow_succ] at h
      have : 2 ^ n * (x / 2 ^ n % 2) = 0 := by omega
      rcases Nat.mul_eq_zero.1 this with h2 | h2
      · exact absurd h2 (Nat.ne_of_gt (Nat.pow_pos (by omega)))
      · exact h2
    have h2 : x % 2 ^ n = 0 := by
      rw [Nat.mod_pow_succ] at h
      omega
    rw [pm_succ, ih x _ h2, if_neg (by omega)]
    rfl

/-- The product of two blocks. -/
def mul (x y : Nat) : Nat := pm 128 x y
theorem mul_lt {x y : Nat} (h : y < 2 ^ 128) : mul x y < 2 ^ 128 := pm_lt 128 x y h
theorem mul_one (x : Nat) (h : x < 2 ^ 128) : mul x (2 ^ 127) = x := by
  show pm (127 + 1) x (2 ^ 127) = x
  rw [pm_one, Nat.mod_eq_of_lt h]
theorem mul_left_comm (x y z : Nat) : mul x (mul y z) = mul y (mul x z) := pm_comm 128 128 x y z
theorem mul_comm {x y : Nat} (hx : x < 2 ^ 128) (hy : y < 2 ^ 128) : mul x y = mul y x := by
  have h := mul_left_comm x y (2 ^ 127)
  rw [mul_one x hx, mul_one y hy] at h
  exact h
theorem mul_assoc {x y z : Nat} (_hx : x < 2 ^ 128) (hy : y < 2 ^ 128) (hz : z < 2 ^ 128) : mul (mul x y) z = mul x (mul y z) := by
  rw [mul_comm (mul_lt hy) hz, mul_comm hy hz, mul_left_comm]
theorem mul_xor (x a b : Nat) : mul x (a ^^^ b) = mul x a ^^^ mul x b := pm_xor 128 x a b
theorem mul_xor_left (a b y : Nat) : mul (a ^^^ b) y = mul a y ^^^ mul b y := pm_xor_left 128 a b y
theorem mul_zero (x : Nat) : mul x 0 = 0 := pm_of_zero 128 x
theorem zero_mul (y : Nat) : mul 0 y = 0 := pm_high 128 0 y (by simp)
theorem mul_x (y : Nat) : mul (2 ^ 126) y = tx y := by
  show pm (126 + 1 + 1) (2 ^ 126) y = tx y
  rw [pm_succ, pm_succ, pm_high 126 (2 ^ 126) _ (by simp), if_neg (by decide), if_pos (by decide), Nat.zero_xor, Nat.xor_zero]

/-! Squares. -/
def sq (x : Nat) : Nat := mul x x
theorem sq_lt {x : Nat} (h : x < 2 ^ 128) : sq x < 2 ^ 128 := mul_lt h
theorem sq_xor {a b : Nat} (ha : a < 2 ^ 128) (hb : b < 2 ^ 128) : sq (a ^^^ b) = sq a ^^^ sq b := by
  unfold sq
  rw [mul_xor, mul_xor_left, mul_xor_left, mul_comm hb ha]
  generalize mul a a = p
  generalize mul a b = q
  generalize mul b b = r
  rw [Nat.xor_assoc, xor_cancel]
theorem sq_mul {a b : Nat} (ha : a < 2 ^ 128) (hb : b < 2 ^ 128) : sq (mul a b) = mul (sq a) (sq b) := by
  unfold sq
  rw [mul_assoc ha hb (mul_lt hb), ← mul_assoc hb ha hb, mul_comm hb ha, mul_assoc ha hb hb, ← mul_assoc ha ha (mul_lt hb)]
theorem sq_zero : sq 0 = 0 := mul_zero 0
def sqs : Nat → Nat → Nat
  | 0, x => x
  | k + 1, x => sqs k (sq x)
theorem sqs_zero (k : Nat) : sqs k 0 = 0 := by
  induction k with
  | zero => rfl
  | succ k ih => rw [sqs, sq_zero, ih]
theorem sqs_lt (k : Nat) : ∀ {x : Nat}, x < 2 ^ 128 → sqs k x < 2 ^ 128 := by
  induction k with
  | zero => intro x h; exact h
  | succ k ih => intro x h; exact ih (sq_lt h)
theorem sqs_xor (k : Nat) : ∀ {a b : Nat}, a < 2 ^ 128 → b < 2 ^ 128 → sqs k (a ^^^ b) = sqs k a ^^^ sqs k b := by
  induction k with
  | zero => intro a b _ _; rfl
  | succ k ih => intro a b ha hb; rw [sqs, sq_xor ha hb, ih (sq_lt ha) (sq_lt hb)]; rfl
theorem sqs_mul (k : Nat) : ∀ {a b : Nat}, a < 2 ^ 128 → b < 2 ^ 128 → sqs k (mul a b) = mul (sqs k a) (sqs k b) := by
  induction k with
  | zero => intro a b _ _; rfl
  | succ k ih => intro a b ha hb; rw [sqs, sq_mul ha hb, ih (sq_lt ha) (sq_lt hb)]; rfl
theorem sqs_succ (k : Nat) : ∀ x, sqs (k + 1) x = sq (sqs k x) := by
  induction k with
  | zero => intro x; rfl
  | succ k ih => intro x; rw [sqs, ih]; rfl
set_option maxRecDepth 100000 in
theorem sqs_x : sqs 128 (2 ^ 126) = 2 ^ 126 := by decide +kernel
set_option maxRecDepth 100000 in
theorem sqs_1 : sqs 128 (2 ^ 127) = 2 ^ 127 := by decide +kernel
theorem sqs_pow : ∀ i, i ≤ 127 → sqs 128 (2 ^ (127 - i)) = 2 ^ (127 - i) := by
  intro i
  induction i with
  | zero => intro _; exact sqs_1
  | succ i ih =>
    intro h
    have e : 2 ^ (127 - (i + 1)) = mul (2 ^ 126) (2 ^ (127 - i)) := by
      rw [mul_x, show 127 - i = (127 - (i + 1)) + 1 from by omega, tx_pow]
    have hp : ∀ j, j ≤ 127 → 2 ^ j < 2 ^ 128 := fun j hj => Nat.pow_lt_pow_right (by omega) (by omega)
    rw [e, sqs_mul 128 (hp 126 (by omega)) (hp _ (by omega)), sqs_x, ih (by omega)]
theorem sqs_low (n : Nat) : n ≤ 128 → ∀ x, sqs 128 (x % 2 ^ n) = x % 2 ^ n := by
  induction n with
  | zero =>
    intro _ x
    rw [Nat.pow_zero, Nat.mod_one, sqs_zero]
  | succ n ih =>
    intro h x
    have hn : 2 ^ n < 2 ^ 128 := Nat.pow_lt_pow_right (by omega) (by omega)
    have hm : x % 2 ^ n < 2 ^ 128 := Nat.lt_trans (Nat.mod_lt _ (Nat.pow_pos (by omega))) hn
    rw [mod_succ, sqs_xor 128 hm (by split <;> omega), ih (by omega)]
    congr 1
    split
    · have := sqs_pow (127 - n) (by omega)
      rwa [show 127 - (127 - n) = n from by omega] at this
    · exact sqs_zero 128
/-- 128 squarings bring a block back. -/
theorem sqs_back {x : Nat} (h : x < 2 ^ 128) : sqs 128 x = x := by
  have := sqs_low 128 (Nat.le_refl _) x
  rwa [Nat.mod_eq_of_lt h] at this

/-! No product of two that are not zero is zero. -/
/-- The image of r under a linear map, told by what becomes of each bit. -/
def im : List Nat → Nat → Nat
  | [], _ => 0
  | x :: xs, r => (if r % 2 = 1 then x else 0) ^^^ im xs (r / 2)
theorem im_xor : ∀ (l : List Nat) (a b : Nat), im l (a ^^^ b) = im l a ^^^ im l b
  | [], _, _ => by simp [im]
  | x :: xs, a, b => by
    rw [im, im, im, xor_div2, im_xor xs, xor4, xor_mod2]
    congr 1
    have ha : a % 2 = 0 ∨ a % 2 = 1 := by omega
    have hb : b % 2 = 0 ∨ b % 2 = 1 := by omega
    rcases ha with ha | ha <;> rcases hb with hb | hb <;> simp [ha, hb]
theorem im_zero (l : List Nat) : im l 0 = 0 := by
  have := im_xor l 0 0
  rw [Nat.xor_self, Nat.xor_self] at this
  exact this
def undo : List Nat := [0, 6161591008139076202154902373133594561, 71430717218983613641036104277415506289, 87518597585245962833849474628053070758, 72921817864677867521778898634038080609, 163309321578052146879237778733101511783, 126814247099887467207929949960147586332, 133487668004820722767044853458355047125, 108887185710678174598840578861931466132, 72978216601350599296199603180564021825, 126976600203468727039316187211004055892, 49689517519420395515082114066310337331, 12764899024296983899235621676887115841, 59792954277794326371429463258526948146, 275464514806027128612938827324864, 33882886127255646541338116557250298163, 133385434108064708788808215410435911893, 153238470225796905537047657204766862374, 127777348636302309636952298273557535380, 58594334107495617071392172125656399538, 5725366257701666555538562805218717057, 159324042485362592547018579093184240551, 149021274876537960721224429182834492454, 94333773739946854309780815578084996199, 161752945482599484730126084874801441767, 115575792119390728221592460023876181333, 133436244703473040169882794575366898389, 34751610155981195849944733847405496627, 100972845268357601278728964017462078439, 44935323831972008745566419208193456946, 132003651752985294974180122299820886164, 45594221442569777339127844318073854322, 100983558286137050684044238585428660711, 140308235276559149970208740923126577813, 92325303522414418149753570460923091879, 26944628100264108509229864938392397555, 81071795988965022717357904530596407232, 58275656592719279154056000246173111091, 51613027339492204128265575524803459891, 142140898696765075202304690604976981845, 53639910565545342273528145980335791795, 4726979706490419237355323591502507968, 161542955870533464563010084267448332775, 65334779303751560239471195525024588352, 122557457634345817322758110469731963540, 79569572988994598121356082874814992321, 9537274821874957483351388617584152641, 109427184872331881977228478262674814292, 96504253903287235160744645914913229863, 35809052500294759256374056413191545715, 63089105448741488643398279942380763954, 84108490886122099842324906724524496768, 161537358671016203777973217828391545831, 49921000058860506912943830473554996979, 113870918609522322281985099445019275925, 45994406431766860863727072382817147250, 6116654749483988959971426010360459777, 88394181539591460295416373139500891046, 93226277353508642900164249188457535015, 123506241354959402090274531190302866772, 72992884249465865451566362034747193217, 123492369307601207700488716387690115284, 67288019353279926038130604499846823936, 96617416833907240315124182200439430055, 6161591008139076220601646446843146177, 87518597585245962796955986480633967526, 163309321578052146805450802438263305319, 133487668004820722619470900868678634197, 72978216601350599591347508359916847681, 49689517519420396105377924425015989043, 59792954277794325190837842541115644722, 33882886127255648902521357992072905011, 153238470225796900814681174335121648678, 58594334107495626516125137864946826930, 159324042485362573657552647614603385767, 94333773739946892088712678535246705767, 115575792119390803779456185938199600469, 34751610155981346965672185676052334899, 44935323831971706514111515550899780402, 45594221442570381802037651632661207410, 140308235276560358896028355552301283989, 26944628100266526360869094196741809907, 58275656592714443450777541729474286387, 142140898696755403795747773571579332437, 4726979706471076424241489524707209152, 65334779303712874613243527391433990720, 79569572989071969373811419141996187585, 109427184872177139472317805728312423764, 35809052500604244266195401481916326771, 84108490886741069861967596861974058880, 49921000057622566873658450198655872755, 45994406429290980785156311833018898802, 88394181544543220452557894239097387942, 123506241345055881775991488991109872980, 123492369287794167071922631989304127700, 96617416873521321572256350997211405223, 87518597506017800282691648887090017190, 133487668163277047647999576055766534869, 49689517202507746048320574050840187699, 33882886761080949016636058740424507699, 58594332839845026287895736368243621554, 94333771204645691632253875541840295015, 34751615226583747878589791662865156403, 45594211301365579976202439659035564402, 26944648382676130012539518143993095923, 142140858131936196492406925677076760405, 65334698174074460006561831602428846656, 109427022612900310258954414150302135636, 84108166368187411435240813705953482624, 45993757392183663931702745520977746290, 123504943270841248069084356367027567956, 96614820725092054158442085749046795175, 133492860460135582475628106552095754965, 33893271354798018671893119733082947891, 94354540392079830942767997527157175399, 45552672926497301355174195688401803634, 142223934881672753734463413618344281941, 109593176112373424743067390032837178708, 46326064391129892899928697286047832434, 95950206727199596221990182218906622887, 32564043359013102798989312672802603315, 42894216934927469609366581567841114482, 114910088095513088234682618273958557012, 85316382760920269238759725736663866279, 64161864867486123575827494532326627698, 127851678626037577171681551665634892711, 42781086895802961305837899807692839847, 22349210433241643211303706255459310228]
set_option maxRecDepth 100000 in
theorem undo_ok : ∀ i, i < 127 → im undo (sq (2 ^ i) ^^^ 2 ^ i) = 2 ^ i := by decide +kernel
theorem undo_low (n : Nat) : n ≤ 127 → ∀ x, im undo (sq (x % 2 ^ n) ^^^ x % 2 ^ n) = x % 2 ^ n := by
  induction n with
  | zero => intro _ x; rw [Nat.pow_zero, Nat.mod_one, sq_zero, Nat.xor_self, im_zero]
  | succ n ih =>
    intro h x
    have hn : 2 ^ n < 2 ^ 128 := Nat.pow_lt_pow_right (by omega) (by omega)
    have hm : x % 2 ^ n < 2 ^ 128 := Nat.lt_trans (Nat.mod_lt _ (Nat.pow_pos (by omega))) hn
    rw [mod_succ, sq_xor hm (by split <;> omega), xor4, im_xor, ih (by omega)]
    congr 1
    split
    · exact undo_ok n (by omega)
    · rw [sq_zero, Nat.xor_self, im_zero]
set_option maxRecDepth 100000 in
theorem sq_one : sq (2 ^ 127) = 2 ^ 127 := by decide +kernel
/-- What is its own square is 0 or 1. -/
theorem idem {e : Nat} (h : e < 2 ^ 128) (hs : sq e = e) : e = 0 ∨ e = 2 ^ 127 := by
  have hm := mod_succ e 127
  rw [Nat.mod_eq_of_lt (show e < 2 ^ (127 + 1) from h)] at hm
  have hl : e % 2 ^ 127 < 2 ^ 128 := Nat.lt_trans (Nat.mod_lt _ (by omega)) (by omega)
  have hu := undo_low 127 (Nat.le_refl _) e
  have hz : sq (e % 2 ^ 127) = e % 2 ^ 127 := by
    have e1 : sq e = sq (e % 2 ^ 127) ^^^ (if e / 2 ^ 127 % 2 = 1 then 2 ^ 127 else 0) := by
      rw [congrArg sq hm, sq_xor hl (by split <;> omega)]
      congr 1
      split
      · exact sq_one
      · exact sq_zero
    rw [hs] at e1
    have e2 := congrArg (· ^^^ (if e / 2 ^ 127 % 2 = 1 then 2 ^ 127 else 0)) (e1.symm.trans hm)
    simp only [Nat.xor_assoc, Nat.xor_self, Nat.xor_zero] at e2
    exact e2
  rw [hz, Nat.xor_self, im_zero] at hu
  rw [← hu, Nat.zero_xor] at hm
  split at hm
  · exact .inr hm
  · exact .inl hm
/-- x^(2^k - 1). -/
def nrm (x : Nat) : Nat → Nat
  | 0 => 2 ^ 127
  | k + 1 => mul x (sq (nrm x k))
theorem nrm_lt {x : Nat} (h : x < 2 ^ 128) : ∀ k, nrm x k < 2 ^ 128
  | 0 => by unfold nrm; omega
  | k + 1 => mul_lt (sq_lt (nrm_lt h k))
theorem mul_nrm {x : Nat} (h : x < 2 ^ 128) : ∀ k, mul x (nrm x k) = sqs k x
  | 0 => mul_one x h
  | k + 1 => by
    show mul x (mul x (sq (nrm x k))) = _
    rw [← mul_assoc h h (sq_lt (nrm_lt h k)), sqs_succ, ← mul_nrm h k, sq_mul h (nrm_lt h k)]
    rfl
theorem inverse {x : Nat} (h : x < 2 ^ 128) (h0 : x ≠ 0) : ∃ u, u < 2 ^ 128 ∧ mul x u = 2 ^ 127 := by
  have e1 : mul x (nrm x 128) = x := by rw [mul_nrm h, sqs_back h]
  have hlt := nrm_lt h 128
  have hu : sq (nrm x 127) < 2 ^ 128 := sq_lt (nrm_lt h 127)
  have e2 : nrm x 128 = mul x (sq (nrm x 127)) := rfl
  have e3 : sq (nrm x 128) = nrm x 128 := by
    have : mul (mul x (sq (nrm x 127))) (nrm x 128) = mul x (sq (nrm x 127)) := by
      rw [mul_assoc h hu hlt, mul_comm hu hlt, ← mul_assoc h hlt hu, e1]
    unfold sq
    rw [← e2] at this
    exact this
  rcases idem hlt e3 with h1 | h1
  · rw [h1, mul_zero] at e1
    exact absurd e1.symm h0
  · exact ⟨_, hu, by rw [← e2]; exact h1⟩
theorem mul_nz {x y : Nat} (hx : x < 2 ^ 128) (hy : y < 2 ^ 128) (h : mul x y = 0) : x = 0 ∨ y = 0 := by
  by_cases h0 : x = 0
  · exact .inl h0
  · obtain ⟨u, hu, e⟩ := inverse hx h0
    have h1 := mul_one y hy
    rw [← e, mul_comm hy (mul_lt hu), mul_comm hx hu, mul_assoc hu hx hy, h, mul_zero] at h1
    exact .inr h1.symm
end Go.Proofs.YtmnmmkonkimjeaaGreatDoor
namespace Go.Proofs.YtmnmmkonkimjeaaGreatDoor

/-! The field of 256 elements. -/
/-- A byte times X. -/
def t8 (r : Nat) : Nat := if r / 128 % 2 = 1 then 2 * r ^^^ 283 else 2 * r
theorem two_xor (a b : Nat) : 2 * (a ^^^ b) = 2 * a ^^^ 2 * b := by
  apply Nat.eq_of_testBit_eq
  intro i
  have h2 : ∀ x : Nat, (2 * x).testBit i = (decide (1 ≤ i) && x.testBit (i - 1)) := fun x => by
    have := Nat.testBit_two_pow_mul (a := x) (i := 1) (j := i)
    simpa using this
  rw [Nat.testBit_xor, h2, h2, h2, Nat.testBit_xor]
  cases decide (1 ≤ i) <;> simp
theorem t8_xor (a b : Nat) : t8 (a ^^^ b) = t8 a ^^^ t8 b := by
  unfold t8
  rw [show (128 : Nat) = 2 ^ 7 from rfl, xor_divp, xor_mod2, two_xor]
  have ha : a / 2 ^ 7 % 2 = 0 ∨ a / 2 ^ 7 % 2 = 1 := by omega
  have hb : b / 2 ^ 7 % 2 = 0 ∨ b / 2 ^ 7 % 2 = 1 := by omega
  generalize 2 * a = x
  generalize 2 * b = y
  rcases ha with ha | ha <;> rcases hb with hb | hb <;> simp only [ha, hb] <;> simp
  · rw [Nat.xor_assoc]
  · rw [Nat.xor_assoc, Nat.xor_assoc, Nat.xor_comm y]
  · rw [Nat.xor_assoc, xor_lc 283 y, Nat.xor_self, Nat.xor_zero]
theorem t8_zero : t8 0 = 0 := rfl
set_option maxRecDepth 100000 in
theorem t8_lt : ∀ r, r < 256 → t8 r < 256 := by decide +kernel
/-- n places of a product, from the lowest place of b on. -/
def p8 : Nat → Nat → Nat → Nat
  | 0, _, _ => 0
  | n + 1, a, b => (if b % 2 = 1 then a else 0) ^^^ p8 n (t8 a) (b / 2)
theorem p8_xor (n : Nat) : ∀ a c b, p8 n (a ^^^ c) b = p8 n a b ^^^ p8 n c b := by
  induction n with
  | zero => intro a c b; simp [p8]
  | succ n ih =>
    intro a c b
    rw [p8, p8, p8, t8_xor, ih, xor4]
    congr 1
    split <;> simp
theorem p8_xor_right (n : Nat) : ∀ a b c, p8 n a (b ^^^ c) = p8 n a b ^^^ p8 n a c := by
  induction n with
  | zero => intro a b c; simp [p8]
  | succ n ih =>
    intro a b c
    rw [p8, p8, p8, xor_div2, ih, xor4, xor_mod2]
    congr 1
    have hb : b % 2 = 0 ∨ b % 2 = 1 := by omega
    have hc : c % 2 = 0 ∨ c % 2 = 1 := by omega
    rcases hb with hb | hb <;> rcases hc with hc | hc <;> simp [hb, hc]
theorem p8_of_zero (n b : Nat) : p8 n 0 b = 0 := by
  have := p8_xor n 0 0 b
  rw [Nat.xor_self, Nat.xor_self] at this
  exact this
theorem t8_p8 (n : Nat) : ∀ a b, t8 (p8 n a b) = p8 n (t8 a) b := by
  induction n with
  | zero => intro a b; rw [p8, p8, t8_zero]
  | succ n ih =>
    intro a b
    rw [p8, p8, t8_xor, ih]
    congr 1
    split <;> simp [t8_zero]
theorem p8_swap (n k : Nat) : ∀ z x y, p8 n (p8 k z y) x = p8 k (p8 n z x) y := by
  induction n with
  | zero => intro z x y; rw [p8, p8, p8_of_zero]
  | succ n ih =>
    intro z x y
    rw [p8, p8, t8_p8, ih, p8_xor]
    congr 1
    split
    · rfl
    · rw [p8_of_zero]
/-- The product of two bytes. -/
def mul8 (a b : Nat) : Nat := p8 8 a b
theorem mul8_swap (z x y : Nat) : mul8 (mul8 z y) x = mul8 (mul8 z x) y := p8_swap 8 8 z x y
set_option maxRecDepth 100000 in
theorem one_mul8 : ∀ b, b < 256 → mul8 1 b = b := by decide +kernel
theorem mul8_one (a : Nat) : mul8 a 1 = a := by
  show (if 1 % 2 = 1 then a else 0) ^^^ p8 7 (t8 a) (1 / 2) = a
  have h : ∀ n x, p8 n x 0 = 0 := fun n => by
    induction n with
    | zero => intro x; rfl
    | succ n ih => intro x; rw [p8, ih, if_neg (by omega)]; simp
  rw [if_pos rfl, show 1 / 2 = 0 from rfl, h, Nat.xor_zero]
theorem mul8_lt {a b : Nat} (h : a < 256) : mul8 a b < 256 := by
  have all : ∀ n a b, a < 256 → p8 n a b < 256 := fun n => by
    induction n with
    | zero => intro a b _; rw [p8]; omega
    | succ n ih =>
      intro a b h
      rw [p8]
      exact Nat.xor_lt_two_pow (n := 8) (by split <;> omega) (ih _ _ (t8_lt a h))
  exact all 8 a b h
theorem mul8_comm {a b : Nat} (ha : a < 256) (hb : b < 256) : mul8 a b = mul8 b a := by
  have h := mul8_swap 1 b a
  rwa [one_mul8 a ha, one_mul8 b hb] at h
theorem mul8_assoc {a b c : Nat} (ha : a < 256) (hb : b < 256) (_hc : c < 256) : mul8 (mul8 a b) c = mul8 a (mul8 b c) := by
  rw [mul8_comm ha (mul8_lt hb), mul8_swap b a c, mul8_comm ha hb]
theorem mul8_xor (a b c : Nat) : mul8 a (b ^^^ c) = mul8 a b ^^^ mul8 a c := p8_xor_right 8 a b c
theorem mul8_xor_left (a c b : Nat) : mul8 (a ^^^ c) b = mul8 a b ^^^ mul8 c b := p8_xor 8 a c b
theorem zero_mul8 (b : Nat) : mul8 0 b = 0 := p8_of_zero 8 b
theorem mul8_zero : ∀ a, mul8 a 0 = 0 := fun a => by
  have h : ∀ n x, p8 n x 0 = 0 := fun n => by
    induction n with
    | zero => intro x; rfl
    | succ n ih => intro x; rw [p8, ih, if_neg (by omega)]; simp
  exact h 8 a
def inv8 (a : Nat) : Nat := [0, 1, 141, 246, 203, 82, 123, 209, 232, 79, 41, 192, 176, 225, 229, 199, 116, 180, 170, 75, 153, 43, 96, 95, 88, 63, 253, 204, 255, 64, 238, 178, 58, 110, 90, 241, 85, 77, 168, 201, 193, 10, 152, 21, 48, 68, 162, 194, 44, 69, 146, 108, 243, 57, 102, 66, 242, 53, 32, 111, 119, 187, 89, 25, 29, 254, 55, 103, 45, 49, 245, 105, 167, 100, 171, 19, 84, 37, 233, 9, 237, 92, 5, 202, 76, 36, 135, 191, 24, 62, 34, 240, 81, 236, 97, 23, 22, 94, 175, 211, 73, 166, 54, 67, 244, 71, 145, 223, 51, 147, 33, 59, 121, 183, 151, 133, 16, 181, 186, 60, 182, 112, 208, 6, 161, 250, 129, 130, 131, 126, 127, 128, 150, 115, 190, 86, 155, 158, 149, 217, 247, 2, 185, 164, 222, 106, 50, 109, 216, 138, 132, 114, 42, 20, 159, 136, 249, 220, 137, 154, 251, 124, 46, 195, 143, 184, 101, 72, 38, 200, 18, 74, 206, 231, 210, 98, 12, 224, 31, 239, 17, 117, 120, 113, 165, 142, 118, 61, 189, 188, 134, 87, 11, 40, 47, 163, 218, 212, 228, 15, 169, 39, 83, 4, 27, 252, 172, 230, 122, 7, 174, 99, 197, 219, 226, 234, 148, 139, 196, 213, 157, 248, 144, 107, 177, 13, 214, 235, 198, 14, 207, 173, 8, 78, 215, 227, 93, 80, 30, 179, 91, 35, 56, 52, 104, 70, 3, 140, 221, 156, 125, 160, 205, 26, 65, 28].getD a 0
set_option maxRecDepth 100000 in
theorem inv8_ok : ∀ a, a < 256 → inv8 a < 256 ∧ (a ≠ 0 → mul8 a (inv8 a) = 1) ∧ inv8 (inv8 a) = a := by decide +kernel
theorem inv8_zero : inv8 0 = 0 := rfl
theorem mul8_nz {a b : Nat} (ha : a < 256) (hb : b < 256) (h : mul8 a b = 0) : a = 0 ∨ b = 0 := by
  by_cases h0 : a = 0
  · exact .inl h0
  · obtain ⟨hi, h1, _⟩ := inv8_ok a ha
    have h2 := h1 h0
    have h3 : mul8 (mul8 a b) (inv8 a) = mul8 (mul8 a (inv8 a)) b := mul8_swap a (inv8 a) b
    rw [h, zero_mul8, h2, one_mul8 b hb] at h3
    exact .inr h3.symm
/-- The inverse is the only one. -/
theorem inv8_only {a b : Nat} (ha : a < 256) (hb : b < 256) (h : mul8 a b = 1) : b = inv8 a := by
  have h0 : a ≠ 0 := fun e => by rw [e, zero_mul8] at h; omega
  obtain ⟨hi, h1, _⟩ := inv8_ok a ha
  have h3 : mul8 (mul8 a b) (inv8 a) = mul8 (mul8 a (inv8 a)) b := mul8_swap a (inv8 a) b
  rw [h, h1 h0, one_mul8 _ hi, one_mul8 b hb] at h3
  exact h3.symm
theorem inv8_inj {a b : Nat} (ha : a < 256) (hb : b < 256) : inv8 a = inv8 b ↔ a = b :=
  ⟨fun h => by have := congrArg inv8 h; rwa [(inv8_ok a ha).2.2, (inv8_ok b hb).2.2] at this, fun h => by rw [h]⟩
def sq8 : Nat → Nat → Nat
  | 0, x => x
  | k + 1, x => sq8 k (mul8 x x)
set_option maxRecDepth 100000 in
theorem sq8_back : ∀ a, a < 256 → sq8 8 a = a := by decide +kernel
theorem sq8_xor {a b : Nat} (ha : a < 256) (hb : b < 256) : mul8 (a ^^^ b) (a ^^^ b) = mul8 a a ^^^ mul8 b b := by
  rw [mul8_xor, mul8_xor_left, mul8_xor_left, mul8_comm hb ha]
  generalize mul8 a a = p
  generalize mul8 a b = q
  generalize mul8 b b = r
  rw [Nat.xor_assoc, xor_cancel]

/-! The document's way: the whole product, then brought down. -/
def clp (a b : Nat) : Nat → Nat
  | 0 => 0
  | i + 1 => if b / 2 ^ i % 2 = 1 then clp a b i ^^^ a * 2 ^ i else clp a b i
def rdp (p : Nat) : Nat → Nat
  | 0 => p
  | k + 1 => if rdp p k / 2 ^ (14 - k) % 2 = 1 then rdp p k ^^^ 283 * 2 ^ (6 - k) else rdp p k
theorem rdp_xor (p q : Nat) : ∀ k, rdp (p ^^^ q) k = rdp p k ^^^ rdp q k
  | 0 => rfl
  | k + 1 => by
    rw [rdp, rdp, rdp, rdp_xor p q k, xor_divp, xor_mod2]
    generalize rdp p k = x
    generalize rdp q k = y
    generalize 283 * 2 ^ (6 - k) = c
    have hx : x / 2 ^ (14 - k) % 2 = 0 ∨ x / 2 ^ (14 - k) % 2 = 1 := by omega
    have hy : y / 2 ^ (14 - k) % 2 = 0 ∨ y / 2 ^ (14 - k) % 2 = 1 := by omega
    rcases hx with hx | hx <;> rcases hy with hy | hy <;> simp only [hx, hy] <;> simp
    · rw [Nat.xor_assoc]
    · rw [Nat.xor_assoc, Nat.xor_assoc, Nat.xor_comm y]
    · rw [Nat.xor_assoc, xor_lc c y, Nat.xor_self, Nat.xor_zero]
def t8s : Nat → Nat → Nat
  | 0, r => r
  | k + 1, r => t8s k (t8 r)
set_option maxRecDepth 100000 in
theorem rdp_shift : ∀ i, i < 8 → ∀ a, a < 256 → rdp (a * 2 ^ i) 7 = t8s i a := by decide +kernel
theorem p8_last (n : Nat) : ∀ a b, p8 (n + 1) a b = p8 n a b ^^^ (if b / 2 ^ n % 2 = 1 then t8s n a else 0) := by
  induction n with
  | zero => intro a b; rw [p8, p8, p8]; simp [t8s]
  | succ n ih =>
    intro a b
    rw [p8, ih, p8, ← Nat.xor_assoc, Nat.div_div_eq_div_mul, Nat.mul_comm 2, ← Nat.pow_succ]
    rfl
theorem clp_p8 {a : Nat} (b : Nat) (ha : a < 256) : ∀ i, i ≤ 8 → rdp (clp a b i) 7 = p8 i a b
  | 0, _ => by rw [clp, p8]; decide
  | i + 1, h => by
    rw [clp, p8_last]
    split
    · rw [rdp_xor, clp_p8 b ha i (by omega), rdp_shift i (by omega) a ha]
    · rw [clp_p8 b ha i (by omega), Nat.xor_zero]
theorem ref8 {a b : Nat} (ha : a < 256) : rdp (clp a b 8) 7 = mul8 a b := clp_p8 b ha 8 (Nat.le_refl _)
end Go.Proofs.YtmnmmkonkimjeaaGreatDoor
namespace Go.Proofs.YtmnmmkonkimjeaaGreatDoor
open Go.RowKit

/-! Blocks as arrays of 16 bytes. -/
/-- The byte i of a block. -/
def dg (B i : Nat) : Nat := B / 2 ^ (8 * (15 - i)) % 256
def bv (B : Nat) : Array Value := ((List.range 16).map fun i => Value.int .u8 (dg B i : Nat)).toArray
theorem dg_lt (B i : Nat) : dg B i < 256 := Nat.mod_lt _ (by omega)
theorem bv_size (B : Nat) : (bv B).size = 16 := by simp [bv]
theorem bv_get (B i : Nat) (h : i < 16) : (bv B)[i]? = some (.int .u8 (dg B i : Nat)) := by simp [bv, h]
theorem bv_one (B : Nat) : (bv B).all (·.oneCell') = true := by simp [bv, Value.oneCell']
theorem dg_bit (B i r : Nat) (hr : r < 8) : (dg B i).testBit r = B.testBit (8 * (15 - i) + r) := by
  unfold dg
  rw [show (256 : Nat) = 2 ^ 8 from rfl, Nat.testBit_mod_two_pow, Nat.testBit_div_two_pow]
  simp [hr, Nat.add_comm]
theorem dg_inj {B C : Nat} (hB : B < 2 ^ 128) (hC : C < 2 ^ 128) (h : ∀ i, i < 16 → dg B i = dg C i) : B = C := by
  apply Nat.eq_of_testBit_eq
  intro j
  by_cases hj : j < 128
  · have hb := dg_bit B (15 - j / 8) (j % 8) (Nat.mod_lt _ (by omega))
    have hc := dg_bit C (15 - j / 8) (j % 8) (Nat.mod_lt _ (by omega))
    rw [show 8 * (15 - (15 - j / 8)) + j % 8 = j from by omega] at hb hc
    rw [← hb, ← hc, h _ (by omega)]
  · rw [Nat.testBit_lt_two_pow (Nat.lt_of_lt_of_le hB (Nat.pow_le_pow_right (by omega) (by omega))), Nat.testBit_lt_two_pow (Nat.lt_of_lt_of_le hC (Nat.pow_le_pow_right (by omega) (by omega)))]
theorem bv_inj {B C : Nat} (hB : B < 2 ^ 128) (hC : C < 2 ^ 128) : bv B = bv C ↔ B = C := by
  refine ⟨fun h => dg_inj hB hC fun i hi => ?_, fun h => by rw [h]⟩
  have h1 := bv_get B i hi
  rw [h, bv_get C i hi] at h1
  simp only [Option.some.injEq, Value.int.injEq, true_and, Int.ofNat_inj] at h1
  exact h1.symm
theorem dg_xor (B C i : Nat) : dg (B ^^^ C) i = dg B i ^^^ dg C i := by
  unfold dg
  rw [xor_divp, show (256 : Nat) = 2 ^ 8 from rfl, Nat.xor_mod_two_pow]
theorem bit_is (n k : Nat) : n / 2 ^ k % 2 = if n.testBit k then 1 else 0 := by
  rw [Nat.testBit_eq_decide_div_mod_eq]
  by_cases h : n / 2 ^ k % 2 = 1
  · simp [h]
  · simp [h]; omega
/-- The coefficient of X^i. -/
theorem dg_coef (B i : Nat) (hi : i < 128) : dg B (i / 8) / 2 ^ (7 - i % 8) % 2 = B / 2 ^ (127 - i) % 2 := by
  rw [bit_is, bit_is, dg_bit B (i / 8) (7 - i % 8) (by omega), show 8 * (15 - i / 8) + (7 - i % 8) = 127 - i from by omega]
/-- Half of a block. -/
theorem dg_half (B i : Nat) (hi : i < 15) : dg (B / 2) (i + 1) = dg B (i + 1) / 2 + 128 * (dg B i % 2) := by
  have e : 8 * (15 - i) = 8 * (15 - (i + 1)) + 8 := by omega
  unfold dg
  rw [e, Nat.pow_add, ← Nat.div_div_eq_div_mul, Nat.div_div_eq_div_mul B 2, Nat.mul_comm 2, ← Nat.div_div_eq_div_mul]
  generalize B / 2 ^ (8 * (15 - (i + 1))) = y
  omega
theorem dg_half0 (B : Nat) (h : B < 2 ^ 128) : dg (B / 2) 0 = dg B 0 / 2 := by
  unfold dg
  rw [Nat.div_div_eq_div_mul, Nat.mul_comm 2, ← Nat.div_div_eq_div_mul]
  have : B / 2 ^ (8 * (15 - 0)) < 256 := by
    rw [Nat.div_lt_iff_lt_mul (by omega)]
    exact h
  generalize B / 2 ^ (8 * (15 - 0)) = y at *
  omega
theorem dg_low (B : Nat) : dg B 15 % 2 = B % 2 := by
  unfold dg
  simp
theorem or7 (x y : Nat) (hx : x < 256) : x / 2 ||| y % 2 * 128 = x / 2 + 128 * (y % 2) := by
  have all : ∀ h, h < 128 → ∀ b, b < 2 → h ||| b * 128 = h + 128 * b := by decide +kernel
  exact all (x / 2) (by omega) (y % 2) (by omega)
theorem dg_poly : ∀ i, i < 16 → dg 299076299051606071403356588563077529600 i = if i = 0 then 225 else 0 := by decide +kernel

/-! Bytes that came in make a block. -/
def lval : List Nat → Nat
  | [] => 0
  | z :: zs => z + 256 * lval zs
theorem lval_dig : ∀ (zs : List Nat) (j : Nat), (∀ z ∈ zs, z < 256) → lval zs / 2 ^ (8 * j) % 256 = zs.getD j 0
  | [], j, _ => by simp [lval]
  | z :: zs, 0, h => by
    have := h z (by simp)
    simp [lval]
    omega
  | z :: zs, j + 1, h => by
    have hz := h z (by simp)
    rw [lval, show 8 * (j + 1) = 8 + 8 * j from by omega, Nat.pow_add, ← Nat.div_div_eq_div_mul, show (z + 256 * lval zs) / 2 ^ 8 = lval zs from by omega, lval_dig zs j fun z hm => h z (List.mem_cons_of_mem _ hm)]
    rfl
theorem lval_lt : ∀ (zs : List Nat), (∀ z ∈ zs, z < 256) → lval zs < 2 ^ (8 * zs.length)
  | [], _ => by simp [lval]
  | z :: zs, h => by
    have hz := h z (by simp)
    have := lval_lt zs fun z hm => h z (List.mem_cons_of_mem _ hm)
    rw [lval, List.length_cons, show 8 * (zs.length + 1) = 8 + 8 * zs.length from by omega, Nat.pow_add]
    omega
theorem of_bytes (zs : List Nat) (hl : zs.length = 16) (hz : ∀ z ∈ zs, z < 256) : ∃ B, B < 2 ^ 128 ∧ (zs.map fun z => Value.int .u8 (z : Nat)).toArray = bv B := by
  refine ⟨lval zs.reverse, ?_, ?_⟩
  · have := lval_lt zs.reverse (by simpa using hz)
    rwa [List.length_reverse, hl] at this
  · apply Array.ext_getElem?
    intro i
    by_cases hi : i < 16
    · rw [bv_get _ i hi]
      unfold dg
      rw [lval_dig zs.reverse (15 - i) (by simpa using hz)]
      have h1 : i < zs.length := by omega
      have h2 : zs.reverse.getD (15 - i) 0 = zs[i] := by
        simp only [List.getD, List.getElem?_reverse (show 15 - i < zs.length by omega), show zs.length - 1 - (15 - i) = i from by omega, List.getElem?_eq_getElem h1, Option.getD_some]
      rw [h2]
      simp [h1]
    · rw [Array.getElem?_eq_none (xs := bv _) (by rw [bv_size]; omega), Array.getElem?_eq_none (by simp; omega)]
end Go.Proofs.YtmnmmkonkimjeaaGreatDoor
