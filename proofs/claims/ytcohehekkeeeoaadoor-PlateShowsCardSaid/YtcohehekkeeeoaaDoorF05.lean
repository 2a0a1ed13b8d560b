/- Layer 21 (plate): files as plain bytes: a size's digits, a head, what is read off bytes. -/
import Derived.Test.YtcohehekkeeeoaaDoorF04
import Derived.Lib.ItoaNum
namespace Go.Proofs.YtcohehekkeeeoaaDoor.Pg
open Go Go.RowKit Go.Proofs.YtcohehekkeeeoaaDoor Go.Proofs.YtcohehekkeeeoaaDoor.Re
set_option linter.unusedVariables false
set_option linter.unusedSimpArgs false

/-- the digits of a number below 100 -/
def dec (n : Nat) : List UInt8 := if n < 10 then [UInt8.ofNat (48 + n)] else [UInt8.ofNat (48 + n / 10), UInt8.ofNat (48 + n % 10)]

/-- what stands ahead of a picture's bytes -/
def headL (w h : Nat) : List UInt8 := [80, 54, 10] ++ (dec w ++ (32 :: (dec h ++ (10 :: [50, 53, 53, 10]))))

/-- the number that some bytes begin with, up to its end -/
def sideR : Nat → Nat → List UInt8 → UInt8 → Option (Nat × List UInt8)
  | _, _, [], _ => none
  | i, n, c :: r, e => if c = e ∧ 0 < i then some (n, r) else if i = 2 ∨ c.toNat < 48 ∨ 57 < c.toNat ∨ (c.toNat = 48 ∧ i = 0) then none else sideR (i + 1) (10 * n + (c.toNat - 48)) r e

theorem d1 : ∀ n : Fin 10, (UInt8.ofNat (48 + n.val)).toNat = 48 + n.val := by decide +kernel

theorem dig {n : Nat} (h : n < 10) : (UInt8.ofNat (48 + n)).toNat = 48 + n := d1 ⟨n, h⟩

theorem dig_back {c : UInt8} (h1 : 48 ≤ c.toNat) (h2 : c.toNat ≤ 57) : c = UInt8.ofNat (48 + (c.toNat - 48)) := by
  apply UInt8.toNat_inj.1
  rw [dig (by omega)]
  omega

theorem side_dec {n : Nat} (h1 : 1 ≤ n) (h2 : n < 100) {e : UInt8} (he : e.toNat < 48) (r : List UInt8) : sideR 0 0 (dec n ++ e :: r) e = some (n, r) := by
  unfold dec
  by_cases hn : n < 10
  · rw [if_pos hn]
    have a := dig hn
    simp only [List.cons_append, List.nil_append]
    rw [sideR, if_neg (by omega), if_neg (by rw [a]; omega), sideR, if_pos ⟨rfl, by omega⟩, a]
    simp
  · rw [if_neg hn]
    have a := dig (show n / 10 < 10 by omega)
    have b := dig (show n % 10 < 10 by omega)
    have ne : UInt8.ofNat (48 + n % 10) ≠ e := fun h => by rw [← h, b] at he; omega
    simp only [List.cons_append, List.nil_append]
    rw [sideR, if_neg (by omega), if_neg (by rw [a]; omega), sideR, if_neg (fun h => ne h.1), if_neg (by rw [b]; omega), sideR, if_pos ⟨rfl, by omega⟩, a, b]
    simp
    omega

theorem dec_side {l : List UInt8} {n : Nat} {e : UInt8} {r : List UInt8} (he : e.toNat < 48) (h : sideR 0 0 l e = some (n, r)) : l = dec n ++ e :: r ∧ 1 ≤ n ∧ n < 100 := by
  match l with
  | [] => simp [sideR] at h
  | c0 :: l1 =>
    rw [sideR, if_neg (by omega)] at h
    by_cases k0 : (0 = 2 ∨ c0.toNat < 48 ∨ 57 < c0.toNat ∨ (c0.toNat = 48 ∧ 0 = 0))
    · rw [if_pos k0] at h; simp at h
    rw [if_neg k0] at h
    have g0 : 49 ≤ c0.toNat ∧ c0.toNat ≤ 57 := by omega
    match l1 with
    | [] => simp [sideR] at h
    | c1 :: l2 =>
      rw [sideR] at h
      by_cases k1 : c1 = e ∧ 0 < 0 + 1
      · rw [if_pos k1] at h
        simp only [Option.some.injEq, Prod.mk.injEq] at h
        obtain ⟨rfl, rfl⟩ := h
        obtain ⟨rfl, -⟩ := k1
        refine ⟨?_, by omega, by omega⟩
        unfold dec
        rw [if_pos (by omega), show 10 * 0 + (c0.toNat - 48) = c0.toNat - 48 by omega, ← dig_back (by omega) (by omega)]
        rfl
      rw [if_neg k1] at h
      by_cases k2 : (0 + 1 = 2 ∨ c1.toNat < 48 ∨ 57 < c1.toNat ∨ (c1.toNat = 48 ∧ 0 + 1 = 0))
      · rw [if_pos k2] at h; simp at h
      rw [if_neg k2] at h
      have g1 : 48 ≤ c1.toNat ∧ c1.toNat ≤ 57 := by omega
      match l2 with
      | [] => simp [sideR] at h
      | c2 :: l3 =>
        rw [sideR] at h
        by_cases k3 : c2 = e ∧ 0 < 0 + 1 + 1
        · rw [if_pos k3] at h
          simp only [Option.some.injEq, Prod.mk.injEq] at h
          obtain ⟨rfl, rfl⟩ := h
          obtain ⟨rfl, -⟩ := k3
          refine ⟨?_, by omega, by omega⟩
          unfold dec
          rw [if_neg (by omega), show (10 * (10 * 0 + (c0.toNat - 48)) + (c1.toNat - 48)) / 10 = c0.toNat - 48 by omega, show (10 * (10 * 0 + (c0.toNat - 48)) + (c1.toNat - 48)) % 10 = c1.toNat - 48 by omega, ← dig_back (by omega) (by omega), ← dig_back (by omega) (by omega)]
          rfl
        · rw [if_neg k3, if_pos (by omega)] at h
          simp at h

/-- bytes that begin with a size's head, the size one that may be -/
def HeadOf (l : List UInt8) (w h : Nat) (r : List UInt8) : Prop := l = headL w h ++ r ∧ 1 ≤ w ∧ w ≤ 64 ∧ 1 ≤ h ∧ h ≤ 64

theorem HeadOf.one {l : List UInt8} {w h w' h' : Nat} {r r' : List UInt8} (a : HeadOf l w h r) (b : HeadOf l w' h' r') : w = w' ∧ h = h' ∧ r = r' := by
  obtain ⟨a0, a1, a2, a3, a4⟩ := a
  obtain ⟨b0, b1, b2, b3, b4⟩ := b
  rw [a0] at b0
  unfold headL at b0
  simp only [List.append_assoc, List.cons_append, List.nil_append, List.cons.injEq, true_and] at b0
  have e1 := side_dec a1 (show w < 100 by omega) (e := 32) (by decide) (dec h ++ 10 :: 50 :: 53 :: 53 :: 10 :: r)
  have e2 := side_dec b1 (show w' < 100 by omega) (e := 32) (by decide) (dec h' ++ 10 :: 50 :: 53 :: 53 :: 10 :: r')
  rw [b0, e2] at e1
  simp only [Option.some.injEq, Prod.mk.injEq] at e1
  obtain ⟨rfl, e3⟩ := e1
  have f1 := side_dec a3 (show h < 100 by omega) (e := 10) (by decide) (50 :: 53 :: 53 :: 10 :: r)
  have f2 := side_dec b3 (show h' < 100 by omega) (e := 10) (by decide) (50 :: 53 :: 53 :: 10 :: r')
  rw [← e3, f2] at f1
  simp only [Option.some.injEq, Prod.mk.injEq, List.cons.injEq, true_and] at f1
  obtain ⟨rfl, rfl⟩ := f1
  exact ⟨rfl, rfl, rfl⟩

/-- what bytes are read as: an error's number, or a size and its bytes -/
inductive Dec (l : List UInt8) : Nat → Nat → Nat → List UInt8 → Prop
  | magic : l.take 3 ≠ [80, 54, 10] → Dec l 20 0 0 []
  | form : l.take 3 = [80, 54, 10] → (∀ w h r, ¬ HeadOf l w h r) → Dec l 10 0 0 []
  | short {w h r} : HeadOf l w h r → r.length < 3 * (w * h) → Dec l 9 0 0 []
  | long {w h r} : HeadOf l w h r → 3 * (w * h) < r.length → Dec l 10 0 0 []
  | ok {w h r} : HeadOf l w h r → r.length = 3 * (w * h) → Dec l 0 w h r

theorem HeadOf.magic {l : List UInt8} {w h : Nat} {r : List UInt8} (a : HeadOf l w h r) : l.take 3 = [80, 54, 10] := by rw [a.1]; rfl

theorem Dec.one {l : List UInt8} {e w h e' w' h' : Nat} {r r' : List UInt8} (a : Dec l e w h r) (b : Dec l e' w' h' r') : e = e' ∧ w = w' ∧ h = h' ∧ r = r' := by
  cases a with
  | magic a =>
    cases b with
    | magic b => exact ⟨rfl, rfl, rfl, rfl⟩
    | form b _ => exact absurd b a
    | short b _ => exact absurd b.magic a
    | long b _ => exact absurd b.magic a
    | ok b _ => exact absurd b.magic a
  | form a a' =>
    cases b with
    | magic b => exact absurd a b
    | form b _ => exact ⟨rfl, rfl, rfl, rfl⟩
    | short b _ => exact absurd b (a' _ _ _)
    | long b _ => exact absurd b (a' _ _ _)
    | ok b _ => exact absurd b (a' _ _ _)
  | short a a' =>
    cases b with
    | magic b => exact absurd a.magic b
    | form _ b => exact absurd a (b _ _ _)
    | short b b' => exact ⟨rfl, rfl, rfl, rfl⟩
    | long b b' => obtain ⟨rfl, rfl, rfl⟩ := a.one b; omega
    | ok b b' => obtain ⟨rfl, rfl, rfl⟩ := a.one b; omega
  | long a a' =>
    cases b with
    | magic b => exact absurd a.magic b
    | form _ b => exact absurd a (b _ _ _)
    | short b b' => obtain ⟨rfl, rfl, rfl⟩ := a.one b; omega
    | long b b' => exact ⟨rfl, rfl, rfl, rfl⟩
    | ok b b' => obtain ⟨rfl, rfl, rfl⟩ := a.one b; omega
  | ok a a' =>
    cases b with
    | magic b => exact absurd a.magic b
    | form _ b => exact absurd a (b _ _ _)
    | short b b' => obtain ⟨rfl, rfl, rfl⟩ := a.one b; omega
    | long b b' => obtain ⟨rfl, rfl, rfl⟩ := a.one b; omega
    | ok b b' => obtain ⟨rfl, rfl, rfl⟩ := a.one b; exact ⟨rfl, rfl, rfl, rfl⟩

/-- what was laid is read -/
theorem dec_laid {w h : Nat} {r : List UInt8} (h1 : 1 ≤ w) (h2 : w ≤ 64) (h3 : 1 ≤ h) (h4 : h ≤ 64) (hr : r.length = 3 * (w * h)) : Dec (headL w h ++ r) 0 w h r := .ok ⟨rfl, h1, h2, h3, h4⟩ hr

theorem dec_len {n : Nat} : 1 ≤ (dec n).length ∧ (dec n).length ≤ 2 := by
  unfold dec; split <;> simp

theorem head_len (w h : Nat) : 11 ≤ (headL w h).length ∧ (headL w h).length ≤ 13 := by
  have a := dec_len (n := w)
  have b := dec_len (n := h)
  unfold headL
  simp
  omega

theorem dec_is {n : Nat} (h : n < 100) : Lib.decDigits n = dec n := by
  unfold dec
  by_cases h1 : n < 10
  · rw [if_pos h1, Lib.decDigits, dif_pos h1]
  · rw [if_neg h1, Lib.decDigits, dif_neg h1, Lib.decDigits, dif_pos (by omega)]
    rfl

end Go.Proofs.YtcohehekkeeeoaaDoor.Pg
