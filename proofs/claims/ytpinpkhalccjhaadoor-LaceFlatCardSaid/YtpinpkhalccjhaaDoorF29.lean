/- Lights smoothed: what it is, plainly. -/
import Derived.Test.YtpinpkhalccjhaaDoorF28
namespace Go.Proofs.YtpinpkhalccjhaaDoor.Fm
open Go Go.RowKit Go.Proofs.YtpinpkhalccjhaaDoor Go.Proofs.YtpinpkhalccjhaaDoor.Rp Go.Proofs.YtpinpkhalccjhaaDoor.Re Go.Proofs.YtpinpkhalccjhaaDoor.Au
set_option linter.unusedVariables false
set_option linter.unusedSimpArgs false

/-- how much a pixel counts by its place in a row of five -/
def tp (n : Nat) : Int := if n = 0 then 1 else if n = 1 then 4 else if n = 2 then 6 else if n = 3 then 4 else 1

theorem tp_bd (n : Nat) : 1 ≤ tp n ∧ tp n ≤ 6 := by
  unfold tp
  repeat' split
  all_goals omega

/-- One of what isn't apart, and the less, the more it is apart -/
def lsn (e a : Int) : Int := Pl.div 65536 (Pl.add 65536 (Pl.mul e a))

/-- how far two lights of a row are apart -/
def hdf (L : Nat → Int) (i k : Nat) : Int := Pl.add (Pl.add (Pl.add 0 (Pl.amount (Pl.sub (L (i * 3)) (L (k * 3))))) (Pl.amount (Pl.sub (L (i * 3 + 1)) (L (k * 3 + 1))))) (Pl.amount (Pl.sub (L (i * 3 + 2)) (L (k * 3 + 2))))

/-- how alike two pixels of a film are -/
def alk (f : Flm) (i k : Nat) : Int :=
  if ¬ ((0 ≤ f.S i) ↔ (0 ≤ f.S k)) then 0 else if ¬ 0 ≤ f.S i then 65536 else Pl.mul (Pl.unit (ndot f.N f.N i k)) (lsn 262144 (Pl.amount (Pl.sub (f.D i) (f.D k))))

def edg (lv : Nat) : Int := Pl.ofWhole (2 * (2 : Int) ^ lv)

/-- how much a pixel counts for another one -/
def wgt (f : Flm) (L : Nat → Int) (lv i k : Nat) : Int := if i = k then 65536 else Pl.mul (alk f i k) (lsn (edg lv) (hdf L i k))

/-- the sums so far -/
structure Ac where
  r : Int
  g : Int
  b : Int
  t : Int

/-- the place of the m-th of the 25 pixels that count -/
def px (x lv m : Nat) : Int := x + ((m % 5 : Nat) - 2 : Int) * (2 : Int) ^ lv
def py (y lv m : Nat) : Int := y + ((m / 5 : Nat) - 2 : Int) * (2 : Int) ^ lv

def ins (W H : Nat) (u v : Int) : Prop := (0 ≤ u ∧ u < W) ∧ 0 ≤ v ∧ v < H
instance (W H : Nat) (u v : Int) : Decidable (ins W H u v) := by unfold ins; infer_instance

/-- a pixel's number -/
def pn (W : Nat) (u v : Int) : Nat := v.toNat * W + u.toNat

theorem pn_lt {W H : Nat} {u v : Int} (h : ins W H u v) : pn W u v < W * H := by
  obtain ⟨⟨h1, h2⟩, h3, h4⟩ := h
  unfold pn
  have a : v.toNat + 1 ≤ H := by omega
  have b := Nat.mul_le_mul_right W a
  rw [Nat.add_mul, Nat.one_mul, Nat.mul_comm H W] at b
  omega

/-- how much the m-th counts -/
def mw (f : Flm) (L : Nat → Int) (lv i k m : Nat) : Int := Pl.mul (Pl.ofWhole (tp (m % 5) * tp (m / 5))) (wgt f L lv i k)

def stp (a : Ac) (L : Nat → Int) (k : Nat) (w : Int) : Ac := ⟨Pl.add a.r (Pl.mul (L (k * 3)) w), Pl.add a.g (Pl.mul (L (k * 3 + 1)) w), Pl.add a.b (Pl.mul (L (k * 3 + 2)) w), Pl.add a.t w⟩

/-- the sums of the first m -/
def acc (f : Flm) (L : Nat → Int) (W H lv x y : Nat) : Nat → Ac
  | 0 => ⟨0, 0, 0, 0⟩
  | m + 1 => if ins W H (px x lv m) (py y lv m) then stp (acc f L W H lv x y m) L (pn W (px x lv m) (py y lv m)) (mw f L lv (y * W + x) (pn W (px x lv m) (py y lv m)) m) else acc f L W H lv x y m

theorem acc_out {f : Flm} {L : Nat → Int} {W H lv x y m : Nat} (h : ¬ ins W H (px x lv m) (py y lv m)) : acc f L W H lv x y (m + 1) = acc f L W H lv x y m := if_neg h

theorem acc_in {f : Flm} {L : Nat → Int} {W H lv x y m : Nat} (h : ins W H (px x lv m) (py y lv m)) : acc f L W H lv x y (m + 1) = stp (acc f L W H lv x y m) L (pn W (px x lv m) (py y lv m)) (mw f L lv (y * W + x) (pn W (px x lv m) (py y lv m)) m) := if_pos h

/-- the light of a pixel, smoothed: each kind -/
def sm0 (f : Flm) (L : Nat → Int) (W H lv x y : Nat) : Int := Pl.div (acc f L W H lv x y 25).r (acc f L W H lv x y 25).t
def sm1 (f : Flm) (L : Nat → Int) (W H lv x y : Nat) : Int := Pl.div (acc f L W H lv x y 25).g (acc f L W H lv x y 25).t
def sm2 (f : Flm) (L : Nat → Int) (W H lv x y : Nat) : Int := Pl.div (acc f L W H lv x y 25).b (acc f L W H lv x y 25).t

/-- a picture, smoothed at a level -/
def lev (f : Flm) (W H lv : Nat) (L : Nat → Int) : Nat → Int := fun j =>
  if j % 3 = 0 then sm0 f L W H lv (j / 3 % W) (j / 3 / W) else if j % 3 = 1 then sm1 f L W H lv (j / 3 % W) (j / 3 / W) else sm2 f L W H lv (j / 3 % W) (j / 3 / W)

theorem lev_at (f : Flm) (W H lv x y : Nat) (L : Nat → Int) (hx : x < W) : lev f W H lv L ((y * W + x) * 3) = sm0 f L W H lv x y ∧ lev f W H lv L ((y * W + x) * 3 + 1) = sm1 f L W H lv x y ∧ lev f W H lv L ((y * W + x) * 3 + 2) = sm2 f L W H lv x y := by
  have hW : 0 < W := by omega
  have e1 : (y * W + x) % W = x := by rw [Nat.add_comm, Nat.add_mul_mod_self_right]; exact Nat.mod_eq_of_lt hx
  have e2 : (y * W + x) / W = y := by rw [Nat.add_comm, Nat.add_mul_div_right _ _ hW, Nat.div_eq_of_lt hx, Nat.zero_add]
  obtain ⟨p, hp⟩ : ∃ p, p = y * W + x := ⟨_, rfl⟩
  rw [← hp] at e1 e2 ⊢
  refine ⟨?_, ?_, ?_⟩
  · unfold lev
    rw [if_pos (by omega), show p * 3 / 3 = p by omega, e1, e2]
  · unfold lev
    rw [if_neg (by omega), if_pos (by omega), show (p * 3 + 1) / 3 = p by omega, e1, e2]
  · unfold lev
    rw [if_neg (by omega), if_neg (by omega), show (p * 3 + 2) / 3 = p by omega, e1, e2]

/-- a picture, smoothed at the first n levels -/
def lvs (f : Flm) (W H : Nat) (L : Nat → Int) : Nat → (Nat → Int)
  | 0 => L
  | n + 1 => lev f W H n (lvs f W H L n)

theorem pow_bd {lv : Nat} (h : lv < 5) : 1 ≤ (2 : Int) ^ lv ∧ (2 : Int) ^ lv ≤ 16 := by
  match lv, h with
  | 0, _ => decide
  | 1, _ => decide
  | 2, _ => decide
  | 3, _ => decide
  | 4, _ => decide

theorem px_bd {x lv m : Nat} (h : lv < 5) (hx : x < 64) (hm : m % 5 < 5) : -32 ≤ px x lv m ∧ px x lv m ≤ 96 := by
  unfold px
  obtain ⟨p, hp⟩ : ∃ p, p = (2 : Int) ^ lv := ⟨_, rfl⟩
  have hb := pow_bd h
  rw [← hp] at hb ⊢
  obtain ⟨c, hc⟩ : ∃ c, c = m % 5 := ⟨_, rfl⟩
  rw [← hc] at hm ⊢
  match c, hm with
  | 0, _ => omega
  | 1, _ => omega
  | 2, _ => omega
  | 3, _ => omega
  | 4, _ => omega

/-- congruence: what is smoothed hangs on the film's depths, normals and shapes alone -/
theorem amount_sub (a b : Int) : Pl.amount (Pl.sub a b) = if Pl.sub a b < 0 then -Pl.sub a b else Pl.sub a b := by
  have h : Pl.held (Pl.sub a b) = Pl.sub a b := by unfold Pl.sub; exact Pl.held_held _
  unfold Pl.amount
  rw [h]

end Go.Proofs.YtpinpkhalccjhaaDoor.Fm
