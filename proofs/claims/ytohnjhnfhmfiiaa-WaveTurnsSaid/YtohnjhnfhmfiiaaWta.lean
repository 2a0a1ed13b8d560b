/- Turning matrices, number by number; three matrices in a row. -/
import Derived.Test.YtohnjhnfhmfiiaaVcb
import Derived.Test.YtohnjhnfhmfiiaaVcc
import Derived.Test.YtohnjhnfhmfiiaaWv
namespace Go.Proofs.Ytohnjhnfhmfiiaa.Ve
open Go.RowKit Go.Proofs.Ytohnjhnfhmfiiaa Go.Proofs.Ytohnjhnfhmfiiaa.Wa Go.Proofs.Ytohnjhnfhmfiiaa.Wv

def turn0 (s c : Int) (j : Nat) : Int := if j = 4 then c else if j = 5 then s else if j = 7 then -s else if j = 8 then c else if j = 0 then 65536 else 0
def turn1 (s c : Int) (j : Nat) : Int := if j = 0 then c else if j = 2 then -s else if j = 6 then s else if j = 8 then c else if j = 4 then 65536 else 0
def turn2 (s c : Int) (j : Nat) : Int := if j = 0 then c else if j = 1 then s else if j = 3 then -s else if j = 4 then c else if j = 8 then 65536 else 0

/-- what turns about an axis -/
def turnN (a t : Int) : Nat → Int := if a = 0 then turn0 (Pl.sin t) (Pl.cos t) else if a = 1 then turn1 (Pl.sin t) (Pl.cos t) else turn2 (Pl.sin t) (Pl.cos t)

/-- three matrices in a row -/
def cat3 (a b c : Nat → Int) (j : Nat) : Int := if j < 12 then a j else if j < 24 then b (j - 12) else c (j - 24)

def turnsN (x y z : Int) : Nat → Int := chainN (cat3 (turnN 0 x) (turnN 1 y) (turnN 2 z)) 3

theorem cat36 (w : World) (a b c : Nat → Int) (t : TypeId) : w.heap.size < (w.alloc (.cells #[.int .i64 (a 0), .int .i64 (a 1), .int .i64 (a 2), .int .i64 (a 3), .int .i64 (a 4), .int .i64 (a 5), .int .i64 (a 6), .int .i64 (a 7), .int .i64 (a 8), .int .i64 (a 9), .int .i64 (a 10), .int .i64 (a 11), .int .i64 (b 0), .int .i64 (b 1), .int .i64 (b 2), .int .i64 (b 3), .int .i64 (b 4), .int .i64 (b 5), .int .i64 (b 6), .int .i64 (b 7), .int .i64 (b 8), .int .i64 (b 9), .int .i64 (b 10), .int .i64 (b 11), .int .i64 (c 0), .int .i64 (c 1), .int .i64 (c 2), .int .i64 (c 3), .int .i64 (c 4), .int .i64 (c 5), .int .i64 (c 6), .int .i64 (c 7), .int .i64 (c 8), .int .i64 (c 9), .int .i64 (c 10), .int .i64 (c 11)] t)).heap.size ∧ ∀ j, j < 3 * 12 → (w.alloc (.cells #[.int .i64 (a 0), .int .i64 (a 1), .int .i64 (a 2), .int .i64 (a 3), .int .i64 (a 4), .int .i64 (a 5), .int .i64 (a 6), .int .i64 (a 7), .int .i64 (a 8), .int .i64 (a 9), .int .i64 (a 10), .int .i64 (a 11), .int .i64 (b 0), .int .i64 (b 1), .int .i64 (b 2), .int .i64 (b 3), .int .i64 (b 4), .int .i64 (b 5), .int .i64 (b 6), .int .i64 (b 7), .int .i64 (b 8), .int .i64 (b 9), .int .i64 (b 10), .int .i64 (b 11), .int .i64 (c 0), .int .i64 (c 1), .int .i64 (c 2), .int .i64 (c 3), .int .i64 (c 4), .int .i64 (c 5), .int .i64 (c 6), .int .i64 (c 7), .int .i64 (c 8), .int .i64 (c 9), .int .i64 (c 10), .int .i64 (c 11)] t)).cell? ⟨w.heap.size, 0 + j, none⟩ = some (.int .i64 (cat3 a b c j)) := by
  refine ⟨by simp, fun j hj => ?_⟩
  rw [Nat.zero_add]
  have hj2 : j < 36 := hj
  match j, hj2 with
  | 0, _ => go_simp; rfl
  | 1, _ => go_simp; rfl
  | 2, _ => go_simp; rfl
  | 3, _ => go_simp; rfl
  | 4, _ => go_simp; rfl
  | 5, _ => go_simp; rfl
  | 6, _ => go_simp; rfl
  | 7, _ => go_simp; rfl
  | 8, _ => go_simp; rfl
  | 9, _ => go_simp; rfl
  | 10, _ => go_simp; rfl
  | 11, _ => go_simp; rfl
  | 12, _ => go_simp; rfl
  | 13, _ => go_simp; rfl
  | 14, _ => go_simp; rfl
  | 15, _ => go_simp; rfl
  | 16, _ => go_simp; rfl
  | 17, _ => go_simp; rfl
  | 18, _ => go_simp; rfl
  | 19, _ => go_simp; rfl
  | 20, _ => go_simp; rfl
  | 21, _ => go_simp; rfl
  | 22, _ => go_simp; rfl
  | 23, _ => go_simp; rfl
  | 24, _ => go_simp; rfl
  | 25, _ => go_simp; rfl
  | 26, _ => go_simp; rfl
  | 27, _ => go_simp; rfl
  | 28, _ => go_simp; rfl
  | 29, _ => go_simp; rfl
  | 30, _ => go_simp; rfl
  | 31, _ => go_simp; rfl
  | 32, _ => go_simp; rfl
  | 33, _ => go_simp; rfl
  | 34, _ => go_simp; rfl
  | 35, _ => go_simp; rfl
  | k + 36, h => exact absurd h (by omega)

theorem chain36 (w : World) (a b c : Nat → Int) (t : TypeId) : Calls Try.prog 30 #[.slice (some ⟨w.heap.size, 0, none⟩) 3 3] (w.alloc (.cells #[.int .i64 (a 0), .int .i64 (a 1), .int .i64 (a 2), .int .i64 (a 3), .int .i64 (a 4), .int .i64 (a 5), .int .i64 (a 6), .int .i64 (a 7), .int .i64 (a 8), .int .i64 (a 9), .int .i64 (a 10), .int .i64 (a 11), .int .i64 (b 0), .int .i64 (b 1), .int .i64 (b 2), .int .i64 (b 3), .int .i64 (b 4), .int .i64 (b 5), .int .i64 (b 6), .int .i64 (b 7), .int .i64 (b 8), .int .i64 (b 9), .int .i64 (b 10), .int .i64 (b 11), .int .i64 (c 0), .int .i64 (c 1), .int .i64 (c 2), .int .i64 (c 3), .int .i64 (c 4), .int .i64 (c 5), .int .i64 (c 6), .int .i64 (c 7), .int .i64 (c 8), .int .i64 (c 9), .int .i64 (c 10), .int .i64 (c 11)] t)) fun r w' => r = .returned (MV (chainN (cat3 a b c) 3)) ∧ Below w.heap.size w w' :=
  (chain_row w.heap.size 0 3 3 (cat3 a b c) (by omega) _ (cat36 w a b c t)).mono fun _ _ ⟨x, y⟩ => ⟨x, (below_n1 w _).trans (y.mono (by simp))⟩

theorem rchain36 (w : World) (a b c : Nat → Int) (t : TypeId) : Calls Try.prog 31 #[.slice (some ⟨w.heap.size, 0, none⟩) 3 3] (w.alloc (.cells #[.int .i64 (a 0), .int .i64 (a 1), .int .i64 (a 2), .int .i64 (a 3), .int .i64 (a 4), .int .i64 (a 5), .int .i64 (a 6), .int .i64 (a 7), .int .i64 (a 8), .int .i64 (a 9), .int .i64 (a 10), .int .i64 (a 11), .int .i64 (b 0), .int .i64 (b 1), .int .i64 (b 2), .int .i64 (b 3), .int .i64 (b 4), .int .i64 (b 5), .int .i64 (b 6), .int .i64 (b 7), .int .i64 (b 8), .int .i64 (b 9), .int .i64 (b 10), .int .i64 (b 11), .int .i64 (c 0), .int .i64 (c 1), .int .i64 (c 2), .int .i64 (c 3), .int .i64 (c 4), .int .i64 (c 5), .int .i64 (c 6), .int .i64 (c 7), .int .i64 (c 8), .int .i64 (c 9), .int .i64 (c 10), .int .i64 (c 11)] t)) fun r w' => r = .returned (MV (chainN (cat3 a b c) 3)) ∧ Below w.heap.size w w' :=
  (rchain_row w.heap.size 0 3 3 (cat3 a b c) (by omega) _ (cat36 w a b c t)).mono fun _ _ ⟨x, y⟩ => ⟨x, (below_n1 w _).trans (y.mono (by simp))⟩


end Go.Proofs.Ytohnjhnfhmfiiaa.Ve
