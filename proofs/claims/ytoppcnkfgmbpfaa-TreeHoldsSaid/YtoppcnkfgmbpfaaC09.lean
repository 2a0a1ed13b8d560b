/- What the laws' walks over points share: the points that came in, behind calls and new variables. -/
import Derived.Test.YtoppcnkfgmbpfaaC06
import Derived.ChangeKeysEq
import Derived.OwnWalk
import Derived.Test.YtoppcnkfgmbpfaaC08
namespace Go.Proofs.Ytoppcnkfgmbpfaa.Ve
open Go.RowKit Go.Proofs.Ytoppcnkfgmbpfaa Go.Proofs.Ytoppcnkfgmbpfaa.Wa

theorem old1 {w : World} {k j : Nat} {v : Value} (o1 : Obj) (hk : k < w.heap.size) (h : w.cell? ⟨k, j, none⟩ = some v) : (w.alloc o1).cell? ⟨k, j, none⟩ = some v := by
  rw [World.cell?_alloc_past _ _ _ hk]; exact h

theorem old2 {w : World} {k j : Nat} {v : Value} (o1 o2 : Obj) (hk : k < w.heap.size) (h : w.cell? ⟨k, j, none⟩ = some v) : ((w.alloc o1).alloc o2).cell? ⟨k, j, none⟩ = some v :=
  old1 o2 (by simp; omega) (old1 o1 hk h)

theorem infoInt : (Try.prog.info? 2).map (fun i => (i.zero, i.size, i.bytes)) = some (some (.int .i64 0), 1, 8) := by kernel_rfl

theorem cellsInt : Try.prog.cellsOf 2 = 1 := by kernel_rfl

theorem eq_v3 (x y z : Int) (W : World) : (Op.equalIn 10000 47 (.agg #[.int .i64 x, .int .i64 y, .int .i64 z]) (.agg #[.int .i64 x, .int .i64 y, .int .i64 z])).run Try.prog W = .ok true W := by
  obtain ⟨i0, hi, hz0, hz1, hz2⟩ := info_parts infoInt
  rw [run_equalIn_array W 9999 _ _ Try.underlying47 hi, cellsInt]
  simp only [show List.range 3 = [0, 1, 2] from rfl, Op.eqItems, Sem.run_bind]
  simp [go_sem]

theorem held_on {W w9 : World} {p : Addr} {v : Value} (hbn : Below W.heap.size W w9) (h : W.cell? p = some v) : w9.cell? p = some v :=
  (hbn.cell (World.block_lt_of_cell? _ _ h)).trans h

theorem to_exact (ax ay az : Int) (w : World) :
    Calls Try.prog 28 #[V3 ax ay az] w fun e w' => e = .returned (V3 ax ay az) ∧ w' = (w.alloc (.cells #[.int .i64 ax, .int .i64 ay, .int .i64 az] 47)).alloc (.cells #[.int .i64 ax, .int .i64 ay, .int .i64 az] 39) := by
  go_enter Try.func28, Try.ntmps28
  go_wp2
  exact bodyPost_ret (v := V3 ax ay az) (by simp [results, Try.results28, go_sem]) rfl ⟨rfl, rfl⟩

end Go.Proofs.Ytoppcnkfgmbpfaa.Ve

/- Boxes: as values; the small questions about them, the program's and the document's. -/
namespace Go.Proofs.Ytoppcnkfgmbpfaa.Bx
open Go.RowKit Go.Proofs.Ytoppcnkfgmbpfaa Go.Proofs.Ytoppcnkfgmbpfaa.Wa Go.Proofs.Ytoppcnkfgmbpfaa.Ve
set_option linter.unusedVariables false

/-- a box as a value -/
abbrev B6 (a b c d e f : Int) : Value := .agg #[.int .i64 a, .int .i64 b, .int .i64 c, .int .i64 d, .int .i64 e, .int .i64 f]

/-- on no axis one lies above the other -/
def le3 (a b c d e f : Int) : Bool := decide (a ≤ d) && (decide (b ≤ e) && decide (c ≤ f))

def has6 (a b c d e f x y z : Int) : Bool := le3 a b c x y z && le3 x y z d e f

def holds6 (a b c d e f x y z u v t : Int) : Bool := has6 a b c d e f x y z && has6 a b c d e f u v t

def meets6 (a b c d e f x y z u v t : Int) : Bool := le3 a b c u v t && le3 x y z d e f

theorem bmiddle_any (a b c d e f : Int) (w : World) : Calls Try.prog 39 #[B6 a b c d e f] w fun e' w' => e' = .returned (V3 (Pl.lerp a d 32768) (Pl.lerp b e 32768) (Pl.lerp c f 32768)) ∧ Below w.heap.size w w' := by
  go_enter Try.func39, Try.ntmps39
  go_wp2_with fail
  refine (mix_any _ _ _ _ _ _ _ _).mono ?_
  rintro e' w1 ⟨rfl, hb⟩
  obtain ⟨hc, hf⟩ := bcell hb
  have hz := hb.size
  simp at hz
  go_wp2
  exact bodyPost_ret (v := V3 (Pl.lerp a d 32768) (Pl.lerp b e 32768) (Pl.lerp c f 32768)) (by simp [results, Try.results39, go_sem, hc]) rfl ⟨rfl, below_put3 (below_c2 hb) (by omega) _ _ _⟩

theorem bsize_any (a b c d e f : Int) (w : World) : Calls Try.prog 41 #[B6 a b c d e f] w fun e' w' => e' = .returned (V3 (Pl.sub d a) (Pl.sub e b) (Pl.sub f c)) ∧ Below w.heap.size w w' := by
  go_enter Try.func41, Try.ntmps41
  go_wp2_with fail
  refine (vsub_any _ _ _ _ _ _ _).mono ?_
  rintro e' w1 ⟨rfl, hb⟩
  obtain ⟨hc, hf⟩ := bcell hb
  have hz := hb.size
  simp at hz
  go_wp2
  exact bodyPost_ret (v := V3 (Pl.sub d a) (Pl.sub e b) (Pl.sub f c)) (by simp [results, Try.results41, go_sem, hc]) rfl ⟨rfl, below_put3 (below_c2 hb) (by omega) _ _ _⟩

end Go.Proofs.Ytoppcnkfgmbpfaa.Bx
