import Derived.WalkKit
namespace Go.Proofs.Ytnjfckijpbgagaa
set_option maxRecDepth 100000

/-! The field of 2^128 elements. A block is a number below 2^128, its first byte the highest: the coefficient of X^i is the bit of the worth 2^(127 - i). -/
theorem xor_mod2 (a b : Nat) : (a ^^^ b) % 2 = (a % 2 + b % 2) % 2 := by
  have h := Nat.testBit_xor a b 0
  simp only [Nat.testBit_zero] at h
  have ha : a % 2 = 0 ∨ a % 2 = 1 := by omega
  have hb : b % 2 = 0 ∨ b % 2 = 1 := by omega
  have hc : (a ^^^ b) % 2 = 0 ∨ (a ^^^ b) % 2 = 1 := by omega
  rcases ha with ha | ha <;> rcases hb with hb | hb <;> rcases hc with hc | hc <;> simp [ha, hb, hc] at h ⊢
theorem xor_div2 (a b : Nat) : (a ^^^ b) / 2 = a / 2 ^^^ b / 2 := by
  apply Nat.eq_of_testBit_eq
  intro i
  rw [Nat.testBit_xor, ← Nat.testBit_succ, ← Nat.testBit_succ, ← Nat.testBit_succ, Nat.testBit_xor]
theorem xor_divp (n : Nat) : ∀ a b : Nat, (a ^^^ b) / 2 ^ n = a / 2 ^ n ^^^ b / 2 ^ n := by
  induction n with
  | zero => intro a b; simp
  | succ n ih => intro a b; rw [Nat.pow_succ, ← Nat.div_div_eq_div_mul, ← Nat.div_div_eq_div_mul, ← Nat.div_div_eq_div_mul, ih, xor_div2]
theorem xor_lc (a b c : Nat) : a ^^^ (b ^^^ c) = b ^^^ (a ^^^ c) := by rw [← Nat.xor_assoc, ← Nat.xor_assoc, Nat.xor_comm a b]
theorem xor_cancel (a b : Nat) : a ^^^ (a ^^^ b) = b := by rw [← Nat.xor_assoc, Nat.xor_self, Nat.zero_xor]
theorem xor4 (a b c d : Nat) : (a ^^^ b) ^^^ (c ^^^ d) = (a ^^^ c) ^^^ (b ^^^ d) := by rw [Nat.xor_assoc, Nat.xor_assoc, xor_lc b c]
/-- The bits of a number up to place i, one more. -/
theorem mod_succ (r i : Nat) : r % 2 ^ (i + 1) = r % 2 ^ i ^^^ (if r / 2 ^ i % 2 = 1 then 2 ^ i else 0) := by
  apply Nat.eq_of_testBit_eq
  intro j
  rw [Nat.testBit_xor, Nat.testBit_mod_two_pow, Nat.testBit_mod_two_pow]
  have hb : r.testBit i = decide (r / 2 ^ i % 2 = 1) := by
    rw [Nat.testBit_eq_decide_div_mod_eq]
  by_cases h : r / 2 ^ i % 2 = 1
  · rw [if_pos h, Nat.testBit_two_pow]
    by_cases h1 : j < i
    · simp [h1, show j < i + 1 from by omega, show ¬ i = j from by omega]
    · by_cases h2 : i = j
      · subst h2; simp [hb, h]
      · simp [h1, h2, show ¬ j < i + 1 from by omega]
  · rw [if_neg h, Nat.zero_testBit]
    by_cases h1 : j < i
    · simp [h1, show j < i + 1 from by omega]
    · by_cases h2 : i = j
      · subst h2; simp [hb, h]
      · simp [h1, show ¬ j < i + 1 from by omega]

/-- A block times X. -/
def tx (r : Nat) : Nat := if r % 2 = 1 then r / 2 ^^^ 299076299051606071403356588563077529600 else r / 2
theorem tx_xor (a b : Nat) : tx (a ^^^ b) = tx a ^^^ tx b := by
  unfold tx
  rw [xor_mod2, xor_div2]
  have ha : a % 2 = 0 ∨ a % 2 = 1 := by omega
  have hb : b % 2 = 0 ∨ b % 2 = 1 := by omega
  generalize 299076299051606071403356588563077529600 = p
  rcases ha with ha | ha <;> rcases hb with hb | hb <;> simp only [ha, hb] <;> simp
  · rw [Nat.xor_assoc]
  · rw [Nat.xor_assoc, Nat.xor_assoc, Nat.xor_comm (b / 2)]
  · generalize a / 2 = x; generalize b / 2 = y
    rw [Nat.xor_assoc, xor_lc p y, Nat.xor_self, Nat.xor_zero]
theorem tx_lt {r : Nat} (h : r < 2 ^ 128) : tx r < 2 ^ 128 := by
  unfold tx
  split
  · exact Nat.xor_lt_two_pow (n := 128) (by omega) (by omega)
  · omega
theorem tx_zero : tx 0 = 0 := rfl
theorem tx_pow (n : Nat) : tx (2 ^ (n + 1)) = 2 ^ n := by
  unfold tx
  rw [Nat.pow_succ, if_neg (by omega)]
  omega

/-- n places of a product, from the place n - 1 down. -/
def mgo : Nat → Nat → Nat → Nat → Nat
  | 0, _, _, a => a
  | n + 1, x, y, a => mgo n x (tx y) (if x / 2 ^ n % 2 = 1 then a ^^^ y else a)
def pm (n x y : Nat) : Nat := mgo n x y 0
theorem mgo_acc (n : Nat) : ∀ x y a, mgo n x y a = a ^^^ pm n x y := by
  induction n with
  | zero => intro x y a; show a = a ^^^ 0; simp
  | succ n ih =>
    intro x y a
    show mgo (n + 1) x y a = a ^^^ mgo (n + 1) x y 0
    rw [mgo, ih, mgo, ih]
    split
    · rw [Nat.zero_xor, Nat.xor_assoc]
    · rw [Nat.zero_xor]
theorem pm_zero (x y : Nat) : pm 0 x y = 0 := rfl
theorem pm_succ (n x y : Nat) : pm (n + 1) x y = (if x / 2 ^ n % 2 = 1 then y else 0) ^^^ pm n x (tx y) := by
  show mgo (n + 1) x y 0 = _
  rw [mgo, mgo_acc]
  split
  · rw [Nat.zero_xor]
  · rfl
theorem pm_xor (n x : Nat) : ∀ a b, pm n x (a ^^^ b) = pm n x a ^^^ pm n x b := by
  induction n with
  | zero => intro a b; simp [pm_zero]
  | succ n ih =>
    intro a b
    rw [pm_succ, pm_succ, pm_succ, tx_xor, ih, xor4]
    congr 1
    split <;> simp
theorem pm_of_zero (n x : Nat) : pm n x 0 = 0 := by
  have := pm_xor n x 0 0
  rw [Nat.xor_self, Nat.xor_self] at this
  exact this
theorem pm_xor_left (n : Nat) : ∀ a b y, pm n (a ^^^ b) y = pm n a y ^^^ pm n b y := by
  induction n with
  | zero => intro a b y; simp [pm_zero]
  | succ n ih =>
    intro a b y
    rw [pm_succ, pm_succ, pm_succ, ih, xor4, xor_divp, xor_mod2]
    congr 1
    have ha : a / 2 ^ n % 2 = 0 ∨ a / 2 ^ n % 2 = 1 := by omega
    have hb : b / 2 ^ n % 2 = 0 ∨ b / 2 ^ n % 2 = 1 := by omega
    rcases ha with ha | ha <;> rcases hb with hb | hb <;> simp [ha, hb]
theorem tx_pm (n x : Nat) : ∀ y, tx (pm n x y) = pm n x (tx y) := by
  induction n with
  | zero => intro y; rw [pm_zero, pm_zero, tx_zero]
  | succ n ih =>
    intro y
    rw [pm_succ, pm_succ, tx_xor, ih]
    congr 1
    split <;> simp [tx_zero]
theorem pm_comm (n k x y : Nat) : ∀ z, pm n x (pm k y z) = pm k y (pm n x z) := by
  induction n with
  | zero => intro z; rw [pm_zero, pm_zero, pm_of_zero]
  | succ n ih =>
    intro z
    rw [pm_succ, pm_succ, tx_pm, ih, pm_xor]
    congr 1
    split
    · rfl
    · rw [pm_of_zero]
theorem pm_one (n : Nat) : ∀ x, pm (n + 1) x (2 ^ n) = x % 2 ^ (n + 1) := by
  induction n with
  | zero => intro x; rw [pm_succ, pm_zero, mod_succ]; simp [Nat.mod_one]
  | succ n ih => intro x; rw [pm_succ, tx_pow, ih, mod_succ x (n + 1), Nat.xor_comm]
theorem pm_lt (n : Nat) : ∀ x y, y < 2 ^ 128 → pm n x y < 2 ^ 128 := by
  induction n with
  | zero => intro x y _; rw [pm_zero]; omega
  | succ n ih =>
    intro x y h
    rw [pm_succ]
    exact Nat.xor_lt_two_pow (by split <;> omega) (ih x _ (tx_lt h))
theorem pm_high (n : Nat) : ∀ x y, x % 2 ^ n = 0 → pm n x y = 0 := by
  induction n with
  | zero => intro x y _; rfl
  | succ n ih =>
    intro x y h
    have h1 : x / 2 ^ n % 2 = 0 := by
      rw [Nat.mod_pow_succ] at h
      have : 2 ^ n * (x / 2 ^ n % 2) = 0 := by omega
      rcases Nat.mul_eq_zero.1 this with h2 | h2
      · exact absurd h2 (Nat.ne_of_gt (Nat.pow_pos (by omega)))
      · exact h2
    have h2 : x % 2 ^ n = 0 := by
      rw [Nat.mod_pow_succ] at h
      omega
    rw [pm_succ, ih x _ h2, if_neg (by omega)]
    rfl

/-- The product of two blocks. -/
def mul (x y : Nat) : Nat := pm 128 x y
theorem mul_lt {x y : Nat} (h : y < 2 ^ 128) : mul x y < 2 ^ 128 := pm_lt 128 x y h
theorem mul_one (x : Nat) (h : x < 2 ^ 128) : mul x (2 ^ 127) = x := by
  show pm (127 + 1) x (2 ^ 127) = x
  rw [pm_one, Nat.mod_eq_of_lt h]
theorem mul_left_comm (x y z : Nat) : mul x (mul y z) = mul y (mul x z) := pm_comm 128 128 x y z
theorem mul_comm {x y : Nat} (hx : x < 2 ^ 128) (hy : y < 2 ^ 128) : mul x y = mul y x := by
  have h := mul_left_comm x y (2 ^ 127)
  rw [mul_one x hx, mul_one y hy] at h
  exact h
theorem mul_assoc {x y z : Nat} (_hx : x < 2 ^ 128) (hy : y < 2 ^ 128) (hz : z < 2 ^ 128) : mul (mul x y) z = mul x (mul y z) := by
  rw [mul_comm (mul_lt hy) hz, mul_comm hy hz, mul_left_comm]
theorem mul_xor (x a b : Nat) : mul x (a ^^^ b) = mul x a ^^^ mul x b := pm_xor 128 x a b
theorem mul_xor_left (a b y : Nat) : mul (a ^^^ b) y = mul a y ^^^ mul b y := pm_xor_left 128 a b y
theorem mul_zero (x : Nat) : mul x 0 = 0 := pm_of_zero 128 x
theorem zero_mul (y : Nat) : mul 0 y = 0 := pm_high 128 0 y (by simp)
theorem mul_x (y : Nat) : mul (2 ^ 126) y = tx y := by
  show pm (126 + 1 + 1) (2 ^ 126) y = tx y
  rw [pm_succ, pm_succ, pm_high 126 (2 ^ 126) _ (by simp), if_neg (by decide), if_pos (by decide), Nat.zero_xor, Nat.xor_zero]

/-! Squares. -/
def sq (x : Nat) : Nat := mul x x
theorem sq_lt {x : Nat} (h : x < 2 ^ 128) : sq x < 2 ^ 128 := mul_lt h
theorem sq_xor {a b : Nat} (ha : a < 2 ^ 128) (hb : b < 2 ^ 128) : sq (a ^^^ b) = sq a ^^^ sq b := by
  unfold sq
  rw [mul_xor, mul_xor_left, mul_xor_left, mul_comm hb ha]
  generalize mul a a = p
  generalize mul a b = q
  generalize mul b b = r
  rw [Nat.xor_assoc, xor_cancel]
theorem sq_mul {a b : Nat} (ha : a < 2 ^ 128) (hb : b < 2 ^ 128) : sq (mul a b) = mul (sq a) (sq b) := by
  unfold sq
  rw [mul_assoc ha hb (mul_lt hb), ← mul_assoc hb ha hb, mul_comm hb ha, mul_assoc ha hb hb, ← mul_assoc ha ha (mul_lt hb)]
theorem sq_zero : sq 0 = 0 := mul_zero 0
def sqs : Nat → Nat → Nat
  | 0, x => x
  | k + 1, x => sqs k (sq x)
theorem sqs_zero (k : Nat) : sqs k 0 = 0 := by
  induction k with
  | zero => rfl
  | succ k ih => rw [sqs, sq_zero, ih]
theorem sqs_lt (k : Nat) : ∀ {x : Nat}, x < 2 ^ 128 → sqs k x < 2 ^ 128 := by
  induction k with
  | zero => intro x h; exact h
  | succ k ih => intro x h; exact ih (sq_lt h)
theorem sqs_xor (k : Nat) : ∀ {a b : Nat}, a < 2 ^ 128 → b < 2 ^ 128 → sqs k (a ^^^ b) = sqs k a ^^^ sqs k b := by
  induction k with
  | zero => intro a b _ _; rfl
  | succ k ih => intro a b ha hb; rw [sqs, sq_xor ha hb, ih (sq_lt ha) (sq_lt hb)]; rfl
theorem sqs_mul (k : Nat) : ∀ {a b : Nat}, a < 2 ^ 128 → b < 2 ^ 128 → sqs k (mul a b) = mul (sqs k a) (sqs k b) := by
  induction k with
  | zero => intro a b _ _; rfl
  | succ k ih => intro a b ha hb; rw [sqs, sq_mul ha hb, ih (sq_lt ha) (sq_lt hb)]; rfl
theorem sqs_succ (k : Nat) : ∀ x, sqs (k + 1) x = sq (sqs k x) := by
  induction k with
  | zero => intro x; rfl
  | succ k ih => intro x; rw [sqs, ih]; rfl
set_option maxRecDepth 100000 in
theorem sqs_x : sqs 128 (2 ^ 126) = 2 ^ 126 := by decide +kernel
set_option maxRecDepth 100000 in
theorem sqs_1 : sqs 128 (2 ^ 127) = 2 ^ 127 := by decide +kernel
theorem sqs_pow : ∀ i, i ≤ 127 → sqs 128 (2 ^ (127 - i)) = 2 ^ (127 - i) := by
  intro i
  induction i with
  | zero => intro _; exact sqs_1
  | succ i ih =>
    intro h
    have e : 2 ^ (127 - (i + 1)) = mul (2 ^ 126) (2 ^ (127 - i)) := by
      rw [mul_x, show 127 - i = (127 - (i + 1)) + 1 from by omega, tx_pow]
    have hp : ∀ j, j ≤ 127 → 2 ^ j < 2 ^ 128 := fun j hj => Nat.pow_lt_pow_right (by omega) (by omega)
    rw [e, sqs_mul 128 (hp 126 (by omega)) (hp _ (by omega)), sqs_x, ih (by omega)]
theorem sqs_low (n : Nat) : n ≤ 128 → ∀ x, sqs 128 (x % 2 ^ n) = x % 2 ^ n := by
  induction n with
  | zero =>
    intro _ x
    rw [Nat.pow_zero, Nat.mod_one, sqs_zero]
  | succ n ih =>
    intro h x
    have hn : 2 ^ n < 2 ^ 128 := Nat.pow_lt_pow_right (by omega) (by omega)
    have hm : x % 2 ^ n < 2 ^ 128 := Nat.lt_trans (Nat.mod_lt _ (Nat.pow_pos (by omega))) hn
    rw [mod_succ, sqs_xor 128 hm (by split <;> omega), ih (by omega)]
    congr 1
    split
    · have := sqs_pow (127 - n) (by omega)
      rwa [show 127 - (127 - n) = n from by omega] at this
    · exact sqs_zero 128
/-- 128 squarings bring a block back. -/
theorem sqs_back {x : Nat} (h : x < 2 ^ 128) : sqs 128 x = x := by
  have := sqs_low 128 (Nat.le_refl _) x
  rwa [Nat.mod_eq_of_lt h] at this

/-! No product of two that are not zero is zero. -/
/-- The image of r under a linear map, told by what becomes of each bit. -/
def im : List Nat → Nat → Nat
  | [], _ => 0
  | x :: xs, r => (if r % 2 = 1 then x else 0) ^^^ im xs (r / 2)
theorem im_xor : ∀ (l : List Nat) (a b : Nat), im l (a ^^^ b) = im l a ^^^ im l b
  | [], _, _ => by simp [im]
  | x :: xs, a, b => by
    rw [im, im, im, xor_div2, im_xor xs, xor4, xor_mod2]
    congr 1
    have ha : a % 2 = 0 ∨ a % 2 = 1 := by omega
    have hb : b % 2 = 0 ∨ b % 2 = 1 := by omega
    rcases ha with ha | ha <;> rcases hb with hb | hb <;> simp [ha, hb]
theorem im_zero (l : List Nat) : im l 0 = 0 := by
  have := im_xor l 0 0
  rw [Nat.xor_self, Nat.xor_self] at this
  exact this
def undo : List Nat := [0, 6161591008139076202154902373133594561, 71430717218983613641036104277415506289, 87518597585245962833849474628053070758, 72921817864677867521778898634038080609, 163309321578052146879237778733101511783, 126814247099887467207929949960147586332, 133487668004820722767044853458355047125, 108887185710678174598840578861931466132, 72978216601350599296199603180564021825, 126976600203468727039316187211004055892, 49689517519420395515082114066310337331, 12764899024296983899235621676887115841, 59792954277794326371429463258526948146, 275464514806027128612938827324864, 33882886127255646541338116557250298163, 133385434108064708788808215410435911893, 153238470225796905537047657204766862374, 127777348636302309636952298273557535380, 58594334107495617071392172125656399538, 5725366257701666555538562805218717057, 159324042485362592547018579093184240551, 149021274876537960721224429182834492454, 94333773739946854309780815578084996199, 161752945482599484730126084874801441767, 115575792119390728221592460023876181333, 133436244703473040169882794575366898389, 34751610155981195849944733847405496627, 100972845268357601278728964017462078439, 44935323831972008745566419208193456946, 132003651752985294974180122299820886164, 45594221442569777339127844318073854322, 100983558286137050684044238585428660711, 140308235276559149970208740923126577813, 92325303522414418149753570460923091879, 26944628100264108509229864938392397555, 81071795988965022717357904530596407232, 58275656592719279154056000246173111091, 51613027339492204128265575524803459891, 142140898696765075202304690604976981845, 53639910565545342273528145980335791795, 4726979706490419237355323591502507968, 161542955870533464563010084267448332775, 65334779303751560239471195525024588352, 122557457634345817322758110469731963540, 79569572988994598121356082874814992321, 9537274821874957483351388617584152641, 109427184872331881977228478262674814292, 96504253903287235160744645914913229863, 35809052500294759256374056413191545715, 63089105448741488643398279942380763954, 84108490886122099842324906724524496768, 161537358671016203777973217828391545831, 49921000058860506912943830473554996979, 113870918609522322281985099445019275925, 45994406431766860863727072382817147250, 6116654749483988959971426010360459777, 88394181539591460295416373139500891046, 93226277353508642900164249188457535015, 123506241354959402090274531190302866772, 72992884249465865451566362034747193217, 123492369307601207700488716387690115284, 67288019353279926038130604499846823936, 96617416833907240315124182200439430055, 6161591008139076220601646446843146177, 87518597585245962796955986480633967526, 163309321578052146805450802438263305319, 133487668004820722619470900868678634197, 72978216601350599591347508359916847681, 49689517519420396105377924425015989043, 59792954277794325190837842541115644722, 33882886127255648902521357992072905011, 153238470225796900814681174335121648678, 58594334107495626516125137864946826930, 159324042485362573657552647614603385767, 94333773739946892088712678535246705767, 115575792119390803779456185938199600469, 34751610155981346965672185676052334899, 44935323831971706514111515550899780402, 45594221442570381802037651632661207410, 140308235276560358896028355552301283989, 26944628100266526360869094196741809907, 58275656592714443450777541729474286387, 142140898696755403795747773571579332437, 4726979706471076424241489524707209152, 65334779303712874613243527391433990720, 79569572989071969373811419141996187585, 109427184872177139472317805728312423764, 35809052500604244266195401481916326771, 84108490886741069861967596861974058880, 49921000057622566873658450198655872755, 45994406429290980785156311833018898802, 88394181544543220452557894239097387942, 123506241345055881775991488991109872980, 123492369287794167071922631989304127700, 96617416873521321572256350997211405223, 87518597506017800282691648887090017190, 133487668163277047647999576055766534869, 49689517202507746048320574050840187699, 33882886761080949016636058740424507699, 58594332839845026287895736368243621554, 94333771204645691632253875541840295015, 34751615226583747878589791662865156403, 45594211301365579976202439659035564402, 26944648382676130012539518143993095923, 142140858131936196492406925677076760405, 65334698174074460006561831602428846656, 109427022612900310258954414150302135636, 84108166368187411435240813705953482624, 45993757392183663931702745520977746290, 123504943270841248069084356367027567956, 96614820725092054158442085749046795175, 133492860460135582475628106552095754965, 33893271354798018671893119733082947891, 94354540392079830942767997527157175399, 45552672926497301355174195688401803634, 142223934881672753734463413618344281941, 109593176112373424743067390032837178708, 46326064391129892899928697286047832434, 95950206727199596221990182218906622887, 32564043359013102798989312672802603315, 42894216934927469609366581567841114482, 114910088095513088234682618273958557012, 85316382760920269238759725736663866279, 64161864867486123575827494532326627698, 127851678626037577171681551665634892711, 42781086895802961305837899807692839847, 22349210433241643211303706255459310228]
set_option maxRecDepth 100000 in
theorem undo_ok : ∀ i, i < 127 → im undo (sq (2 ^ i) ^^^ 2 ^ i) = 2 ^ i := by decide +kernel
theorem undo_low (n : Nat) : n ≤ 127 → ∀ x, im undo (sq (x % 2 ^ n) ^^^ x % 2 ^ n) = x % 2 ^ n := by
  induction n with
  | zero => intro _ x; rw [Nat.pow_zero, Nat.mod_one, sq_zero, Nat.xor_self, im_zero]
  | succ n ih =>
    intro h x
    have hn : 2 ^ n < 2 ^ 128 := Nat.pow_lt_pow_right (by omega) (by omega)
    have hm : x % 2 ^ n < 2 ^ 128 := Nat.lt_trans (Nat.mod_lt _ (Nat.pow_pos (by omega))) hn
    rw [mod_succ, sq_xor hm (by split <;> omega), xor4, im_xor, ih (by omega)]
    congr 1
    split
    · exact undo_ok n (by omega)
    · rw [sq_zero, Nat.xor_self, im_zero]
set_option maxRecDepth 100000 in
theorem sq_one : sq (2 ^ 127) = 2 ^ 127 := by decide +kernel
/-- What is its own square is 0 or 1. -/
theorem idem {e : Nat} (h : e < 2 ^ 128) (hs : sq e = e) : e = 0 ∨ e = 2 ^ 127 := by
  have hm := mod_succ e 127
  rw [Nat.mod_eq_of_lt (show e < 2 ^ (127 + 1) from h)] at hm
  have hl : e % 2 ^ 127 < 2 ^ 128 := Nat.lt_trans (Nat.mod_lt _ (by omega)) (by omega)
  have hu := undo_low 127 (Nat.le_refl _) e
  have hz : sq (e % 2 ^ 127) = e % 2 ^ 127 := by
    have e1 : sq e = sq (e % 2 ^ 127) ^^^ (if e / 2 ^ 127 % 2 = 1 then 2 ^ 127 else 0) := by
      rw [congrArg sq hm, sq_xor hl (by split <;> omega)]
      congr 1
      split
      · exact sq_one
      · exact sq_zero
    rw [hs] at e1
    have e2 := congrArg (· ^^^ (if e / 2 ^ 127 % 2 = 1 then 2 ^ 127 else 0)) (e1.symm.trans hm)
    simp only [Nat.xor_assoc, Nat.xor_self, Nat.xor_zero] at e2
    exact e2
  rw [hz, Nat.xor_self, im_zero] at hu
  rw [← hu, Nat.zero_xor] at hm
  split at hm
  · exact .inr hm
  · exact .inl hm
/-- x^(2^k - 1). -/
def nrm (x : Nat) : Nat → Nat
  | 0 => 2 ^ 127
  | k + 1 => mul x (sq (nrm x k))
theorem nrm_lt {x : Nat} (h : x < 2 ^ 128) : ∀ k, nrm x k < 2 ^ 128
  | 0 => by unfold nrm; omega
  | k + 1 => mul_lt (sq_lt (nrm_lt h k))
theorem mul_nrm {x : Nat} (h : x < 2 ^ 128) : ∀ k, mul x (nrm x k) = sqs k x
  | 0 => mul_one x h
  | k + 1 => by
    show mul x (mul x (sq (nrm x k))) = _
    rw [← mul_assoc h h (sq_lt (nrm_lt h k)), sqs_succ, ← mul_nrm h k, sq_mul h (nrm_lt h k)]
    rfl
theorem inverse {x : Nat} (h : x < 2 ^ 128) (h0 : x ≠ 0) : ∃ u, u < 2 ^ 128 ∧ mul x u = 2 ^ 127 := by
  have e1 : mul x (nrm x 128) = x := by rw [mul_nrm h, sqs_back h]
  have hlt := nrm_lt h 128
  have hu : sq (nrm x 127) < 2 ^ 128 := sq_lt (nrm_lt h 127)
  have e2 : nrm x 128 = mul x (sq (nrm x 127)) := rfl
  have e3 : sq (nrm x 128) = nrm x 128 := by
    have : mul (mul x (sq (nrm x 127))) (nrm x 128) = mul x (sq (nrm x 127)) := by
      rw [mul_assoc h hu hlt, mul_comm hu hlt, ← mul_assoc h hlt hu, e1]
    unfold sq
    rw [← e2] at this
    exact this
  rcases idem hlt e3 with h1 | h1
  · rw [h1, mul_zero] at e1
    exact absurd e1.symm h0
  · exact ⟨_, hu, by rw [← e2]; exact h1⟩
theorem mul_nz {x y : Nat} (hx : x < 2 ^ 128) (hy : y < 2 ^ 128) (h : mul x y = 0) : x = 0 ∨ y = 0 := by
  by_cases h0 : x = 0
  · exact .inl h0
  · obtain ⟨u, hu, e⟩ := inverse hx h0
    have h1 := mul_one y hy
    rw [← e, mul_comm hy (mul_lt hu), mul_comm hx hu, mul_assoc hu hx hy, h, mul_zero] at h1
    exact .inr h1.symm
end Go.Proofs.Ytnjfckijpbgagaa
