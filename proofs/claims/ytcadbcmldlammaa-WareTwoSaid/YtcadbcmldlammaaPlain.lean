/- The plain mathematics of layer 1 (ware): what shapes and bodies become, piles, trials. Lists and integers alone. -/
import Derived.Test.YtcadbcmldlammaaLib
namespace Go.Pb.Ware

structure Rg where
  lo : Int
  hi : Int
structure Sh where
  id : Int
  wide : Rg
  deep : Rg
  high : Rg
  nest : Int
  weight : Rg
  bears : Int
structure Bo where
  id : Int
  shrink : Rg
  loss : Rg
  heat : Rg
structure Tr where
  source : Int
  wet : Rg
  dry : Rg

def btw (n lo hi : Int) : Bool := decide (lo ≤ n) && decide (n ≤ hi)
def rgOk (r : Rg) (lo hi : Int) : Bool := decide (lo ≤ r.lo) && decide (r.lo ≤ r.hi) && decide (r.hi ≤ hi)
def shOk (s : Sh) : Bool :=
  btw s.id 1 999 && rgOk s.wide 0 2000 && rgOk s.deep 0 2000 && rgOk s.high 0 2000 && btw s.nest 0 s.high.lo && rgOk s.weight 0 100000 && btw s.bears 0 1000000
def boOk (b : Bo) : Bool :=
  btw b.id 1 999 && rgOk b.shrink 0 200 && rgOk b.loss 0 300 && rgOk b.heat 1 2000
def trOk (t : Tr) : Bool := btw t.source 1 99999 && rgOk t.wet 1 2000 && rgOk t.dry 0 2000

theorem btw_iff {n lo hi : Int} : btw n lo hi = true ↔ lo ≤ n ∧ n ≤ hi := by simp [btw]
theorem rgOk_iff {r : Rg} {lo hi : Int} : rgOk r lo hi = true ↔ lo ≤ r.lo ∧ r.lo ≤ r.hi ∧ r.hi ≤ hi := by simp [rgOk, and_assoc]
theorem boOk_iff {b : Bo} : boOk b = true ↔ (1 ≤ b.id ∧ b.id ≤ 999) ∧ (0 ≤ b.shrink.lo ∧ b.shrink.lo ≤ b.shrink.hi ∧ b.shrink.hi ≤ 200) ∧ (0 ≤ b.loss.lo ∧ b.loss.lo ≤ b.loss.hi ∧ b.loss.hi ≤ 300) ∧ (1 ≤ b.heat.lo ∧ b.heat.lo ≤ b.heat.hi ∧ b.heat.hi ≤ 2000) := by
  simp only [boOk, Bool.and_eq_true, btw_iff, rgOk_iff]; omega
theorem shOk_iff {s : Sh} : shOk s = true ↔ (1 ≤ s.id ∧ s.id ≤ 999) ∧ (0 ≤ s.wide.lo ∧ s.wide.lo ≤ s.wide.hi ∧ s.wide.hi ≤ 2000) ∧ (0 ≤ s.deep.lo ∧ s.deep.lo ≤ s.deep.hi ∧ s.deep.hi ≤ 2000) ∧
    (0 ≤ s.high.lo ∧ s.high.lo ≤ s.high.hi ∧ s.high.hi ≤ 2000) ∧ (0 ≤ s.nest ∧ s.nest ≤ s.high.lo) ∧ (0 ≤ s.weight.lo ∧ s.weight.lo ≤ s.weight.hi ∧ s.weight.hi ≤ 100000) ∧ (0 ≤ s.bears ∧ s.bears ≤ 1000000) := by
  simp only [shOk, Bool.and_eq_true, btw_iff, rgOk_iff]; omega
theorem trOk_iff {t : Tr} : trOk t = true ↔ (1 ≤ t.source ∧ t.source ≤ 99999) ∧ (1 ≤ t.wet.lo ∧ t.wet.lo ≤ t.wet.hi ∧ t.wet.hi ≤ 2000) ∧ (0 ≤ t.dry.lo ∧ t.dry.lo ≤ t.dry.hi ∧ t.dry.hi ≤ 2000) := by
  simp only [trOk, Bool.and_eq_true, btw_iff, rgOk_iff]; omega

theorem mul_bd (a b m n : Int) (h0 : 0 ≤ a) (h1 : a ≤ m) (h2 : 0 ≤ b) (h3 : b ≤ n) : 0 ≤ a * b ∧ a * b ≤ m * n :=
  ⟨Int.mul_nonneg h0 h2, Int.mul_le_mul h1 h3 h2 (by omega)⟩

/-- Rounded up, for a divisor above 0. -/
def up (n d : Int) : Int := -(-n / d)
theorem up_eq (n d : Int) (hd : 0 < d) : (n + d - 1) / d = up n d := by
  unfold up
  have h1 := Int.mul_ediv_add_emod (-n) d
  have h2 := Int.emod_nonneg (-n) (Int.ne_of_gt hd)
  have h3 := Int.emod_lt_of_pos (-n) hd
  have h4 : n + d - 1 = (d - 1 - (-n) % d) + d * (-(-n / d)) := by rw [Int.mul_neg]; omega
  rw [h4, Int.add_mul_ediv_left _ _ (Int.ne_of_gt hd), Int.ediv_eq_zero_of_lt (by omega) (by omega)]
  omega
theorem down_eq (n d : Int) (hd : 0 < d) : (n.tmod d < 0 → n.tdiv d - 1 = n / d) ∧ (0 ≤ n.tmod d → n.tdiv d = n / d) := by
  have h1 := Int.mul_tdiv_add_tmod n d
  have hlt : n.tmod d < d := Int.tmod_lt_of_pos n hd
  have hgt : -d < n.tmod d := by
    have := Int.tmod_lt_of_pos (-n) hd
    rw [Int.neg_tmod] at this; omega
  constructor
  · intro h
    have h2 : n = (n.tmod d + d) + d * (n.tdiv d - 1) := by rw [Int.mul_sub]; omega
    have h3 : n / d = ((n.tmod d + d) + d * (n.tdiv d - 1)) / d := by rw [← h2]
    rw [h3, Int.add_mul_ediv_left _ _ (Int.ne_of_gt hd), Int.ediv_eq_zero_of_lt (by omega) (by omega)]
    omega
  · intro h
    have h2 : n = n.tmod d + d * n.tdiv d := by omega
    have h3 : n / d = (n.tmod d + d * n.tdiv d) / d := by rw [← h2]
    rw [h3, Int.add_mul_ediv_left _ _ (Int.ne_of_gt hd), Int.ediv_eq_zero_of_lt h hlt]
    omega

theorem div_bd (n d m : Int) (hd : 0 < d) (h0 : -m ≤ n) (h1 : n ≤ m) (hm : 0 ≤ m) : -m ≤ n / d ∧ n / d ≤ m := by
  constructor
  · rw [Int.le_ediv_iff_mul_le hd]
    have : -m * d ≤ -m * 1 := Int.mul_le_mul_of_nonpos_left (by omega) (by omega)
    omega
  · have h2 : n / d * d ≤ n := Int.ediv_mul_le n (Int.ne_of_gt hd)
    rcases Int.lt_or_le (n / d) 0 with h | h
    · omega
    · have : n / d * 1 ≤ n / d * d := Int.mul_le_mul_of_nonneg_left (by omega) h
      omega
theorem down_bd (n d : Int) (hd : 0 < d) (h0 : -1000000000 ≤ n) (h1 : n ≤ 1000000000) : -1000000000 ≤ n.tdiv d ∧ n.tdiv d ≤ 1000000000 := by
  have h2 := down_eq n d hd
  have h3 := div_bd n d 1000000000 hd h0 h1 (by omega)
  rcases Int.lt_or_le (n.tmod d) 0 with h | h
  · have := h2.1 h
    rcases Int.lt_or_le n 0 with hn | hn
    · have h4 : (-n).tdiv d = (-n) / d := Int.tdiv_eq_ediv_of_nonneg (by omega)
      have h5 := div_bd (-n) d 1000000000 hd (by omega) (by omega) (by omega)
      rw [Int.neg_tdiv] at h4
      omega
    · have h4 := Int.tmod_nonneg d hn; omega
  · have := h2.2 h; omega
theorem up_bd (n d : Int) (hd : 0 < d) (h0 : -1000000000 ≤ n) (h1 : n ≤ 1000000000) : -1000000000 ≤ up n d ∧ up n d ≤ 1000000000 := by
  have := div_bd (-n) d 1000000000 hd (by omega) (by omega) (by omega)
  unfold up; omega

/-- What a range becomes that loses parts of 1000. -/
def becomes (w l : Rg) : Rg := ⟨w.lo * (1000 - l.hi) / 1000, up (w.hi * (1000 - l.lo)) 1000⟩

def ckB (b : Bo) : Int := if boOk b = true then 0 else 11
def ckS (s : Sh) : Int := if shOk s = true then 0 else 10
def zRg : Rg := ⟨0, 0⟩
def shrunk (b : Bo) (r : Rg) : Rg × Int :=
  if boOk b = true then if rgOk r 0 2000 = true then (becomes r b.shrink, 0) else (zRg, 1) else (zRg, 11)
def burnt (b : Bo) (r : Rg) : Rg × Int :=
  if boOk b = true then if rgOk r 0 100000 = true then (becomes r b.loss, 0) else (zRg, 1) else (zRg, 11)
def mouldLo (b : Bo) (d : Rg) : Int := up (d.lo * 1000) (1000 - b.shrink.hi)
def mouldHi (b : Bo) (d : Rg) : Int := min (d.hi * 1000 / (1000 - b.shrink.lo)) 2000
def mould (b : Bo) (d : Rg) : Rg × Int :=
  if boOk b = true then if rgOk d 0 2000 = true then if mouldLo b d ≤ mouldHi b d then (⟨mouldLo b d, mouldHi b d⟩, 0) else (zRg, 3) else (zRg, 1) else (zRg, 11)
def zSh : Sh := ⟨0, zRg, zRg, zRg, 0, zRg, 0⟩
def fired (s : Sh) (b : Bo) : Sh × Int :=
  if shOk s = true then if boOk b = true then (⟨s.id, becomes s.wide b.shrink, becomes s.deep b.shrink, becomes s.high b.shrink, s.nest * (1000 - b.shrink.hi) / 1000, becomes s.weight b.loss, s.bears⟩, 0) else (zSh, 11) else (zSh, 10)

/-- Piles. -/
def ckP (s : Sh) (many : Int) : Int := if shOk s = true then if btw many 1 40 = true then 0 else 14 else 10
def heightOf (s : Sh) (many : Int) : Rg := ⟨s.high.lo + (many - 1) * (s.high.lo - s.nest), s.high.hi + (many - 1) * (s.high.hi - s.nest)⟩
def standsB (s : Sh) (many : Int) : Bool := decide ((many - 1) * s.weight.hi ≤ s.bears)
def height (s : Sh) (many : Int) : Rg × Int := if ckP s many = 0 then (heightOf s many, 0) else (zRg, ckP s many)
def load (s : Sh) (many at' : Int) : Rg × Int :=
  if ckP s many = 0 then if btw at' 0 (many - 1) = true then (⟨(many - 1 - at') * s.weight.lo, (many - 1 - at') * s.weight.hi⟩, 0) else (zRg, 1) else (zRg, ckP s many)
def stands (s : Sh) (many : Int) : Bool × Int := if ckP s many = 0 then (standsB s many, 0) else (false, ckP s many)
def fitsB (s : Sh) (high many : Int) : Bool := standsB s many && decide ((heightOf s many).hi ≤ high)
def mostTo (s : Sh) (high : Int) : Nat → Nat
  | 0 => 0
  | k + 1 => if fitsB s high ((k + 1 : Nat) : Int) = true then k + 1 else mostTo s high k
def most (s : Sh) (high : Int) : Int × Int :=
  if shOk s = true then if mostTo s high 40 = 0 then (0, 3) else ((mostTo s high 40 : Nat), 0) else (0, 10)

/-- Trials. -/
def common (a b : Rg) : Rg := ⟨max a.lo b.lo, min a.hi b.hi⟩
def toldR (t : Tr) : Rg := ⟨1000 - t.dry.hi * 1000 / t.wet.lo, 1000 - up (t.dry.lo * 1000) t.wet.hi⟩
def emptyB (r : Rg) : Bool := decide (r.hi < r.lo)
def told (t : Tr) : Rg × Int :=
  if trOk t = true then if emptyB (common ⟨0, 200⟩ (toldR t)) = true then (zRg, 3) else (common ⟨0, 200⟩ (toldR t), 0) else (zRg, 13)

theorem becomes_bd {w l : Rg} {m : Int} (h0 : 0 ≤ w.lo) (h1 : w.lo ≤ w.hi) (h2 : w.hi ≤ m) (h3 : 0 ≤ l.lo) (h4 : l.lo ≤ l.hi) (h5 : l.hi ≤ 1000) : 0 ≤ (becomes w l).lo ∧ (becomes w l).lo ≤ (becomes w l).hi ∧ (becomes w l).hi ≤ m := by
  unfold becomes up
  have a := mul_bd w.lo (1000 - l.hi) w.lo 1000 h0 (by omega) (by omega) (by omega)
  have b := mul_bd w.hi (1000 - l.lo) m 1000 (by omega) (by omega) (by omega) (by omega)
  have c : w.lo * (1000 - l.hi) ≤ w.hi * (1000 - l.lo) := Int.mul_le_mul h1 (by omega) (by omega) (by omega)
  refine ⟨?_, ?_, ?_⟩ <;> dsimp only <;> omega
end Go.Pb.Ware
