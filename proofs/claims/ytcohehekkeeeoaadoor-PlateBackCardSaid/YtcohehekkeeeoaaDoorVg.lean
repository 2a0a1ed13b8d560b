/- What the laws' walks over points share: the points that came in, behind calls and new variables. -/
import Derived.Test.YtcohehekkeeeoaaDoorVc
import Derived.ChangeKeysEq
import Derived.OwnWalk
namespace Go.Proofs.YtcohehekkeeeoaaDoor.Ve
open Go.RowKit Go.Proofs.YtcohehekkeeeoaaDoor Go.Proofs.YtcohehekkeeeoaaDoor.Wa

theorem old1 {w : World} {k j : Nat} {v : Value} (o1 : Obj) (hk : k < w.heap.size) (h : w.cell? ⟨k, j, none⟩ = some v) : (w.alloc o1).cell? ⟨k, j, none⟩ = some v := by
  rw [World.cell?_alloc_past _ _ _ hk]; exact h

theorem old2 {w : World} {k j : Nat} {v : Value} (o1 o2 : Obj) (hk : k < w.heap.size) (h : w.cell? ⟨k, j, none⟩ = some v) : ((w.alloc o1).alloc o2).cell? ⟨k, j, none⟩ = some v :=
  old1 o2 (by simp; omega) (old1 o1 hk h)

theorem infoInt : (Tryd.prog.info? 2).map (fun i => (i.zero, i.size, i.bytes)) = some (some (.int .i64 0), 1, 8) := by kernel_rfl

theorem cellsInt : Tryd.prog.cellsOf 2 = 1 := by kernel_rfl

theorem eq_v3 (x y z : Int) (W : World) : (Op.equalIn 10000 73 (.agg #[.int .i64 x, .int .i64 y, .int .i64 z]) (.agg #[.int .i64 x, .int .i64 y, .int .i64 z])).run Tryd.prog W = .ok true W := by
  obtain ⟨i0, hi, hz0, hz1, hz2⟩ := info_parts infoInt
  rw [run_equalIn_array W 9999 _ _ Tryd.underlying73 hi, cellsInt]
  simp only [show List.range 3 = [0, 1, 2] from rfl, Op.eqItems, Sem.run_bind]
  simp [go_sem]

theorem held_on {W w9 : World} {p : Addr} {v : Value} (hbn : Below W.heap.size W w9) (h : W.cell? p = some v) : w9.cell? p = some v :=
  (hbn.cell (World.block_lt_of_cell? _ _ h)).trans h

theorem to_exact (ax ay az : Int) (w : World) :
    Calls Tryd.prog 29 #[V3 ax ay az] w fun e w' => e = .returned (V3 ax ay az) ∧ w' = (w.alloc (.cells #[.int .i64 ax, .int .i64 ay, .int .i64 az] 73)).alloc (.cells #[.int .i64 ax, .int .i64 ay, .int .i64 az] 75) := by
  go_enter Tryd.func29, Tryd.ntmps29
  go_wp2
  exact bodyPost_ret (v := V3 ax ay az) (by simp [results, Tryd.results29, go_sem]) rfl ⟨rfl, rfl⟩

end Go.Proofs.YtcohehekkeeeoaaDoor.Ve
