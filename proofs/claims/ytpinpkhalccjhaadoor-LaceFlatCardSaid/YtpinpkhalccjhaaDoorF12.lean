/- The contract of layer 2's each at products. -/
import Derived.Test.YtpinpkhalccjhaaDoorF10
import Derived.Test.YtpinpkhalccjhaaDoorF11
import Derived.ChangeKeysEq
import Derived.OwnWalk
namespace Go.Proofs.YtpinpkhalccjhaaDoor.Ve
open Go.RowKit Go.Proofs.YtpinpkhalccjhaaDoor Go.Proofs.YtpinpkhalccjhaaDoor.Wa

set_option maxHeartbeats 800000 in
theorem each_mul (ax ay az bx by_ bz : Int) (w : World) :
    Calls Tryd.prog 150 #[V3 ax ay az, V3 bx by_ bz, .func (.func 117) #[] #[]] w fun e w' => e = .returned (V3 (Pl.mul ax bx) (Pl.mul ay by_) (Pl.mul az bz)) ∧ Below w.heap.size w w' := by
  go_enter Tryd.func150, Tryd.ntmps150
  go_wp2_with fail
  go_region_held3 (fun w' => w'.cell? ⟨w.heap.size, 0, none⟩ = some (.int .i64 ax) ∧ w'.cell? ⟨w.heap.size, 1, none⟩ = some (.int .i64 ay) ∧ w'.cell? ⟨w.heap.size, 2, none⟩ = some (.int .i64 az) ∧ w'.cell? ⟨w.heap.size + 1, 0, none⟩ = some (.int .i64 bx) ∧ w'.cell? ⟨w.heap.size + 1, 1, none⟩ = some (.int .i64 by_) ∧ w'.cell? ⟨w.heap.size + 1, 2, none⟩ = some (.int .i64 bz)) (go_keep) (first | (go_at_call 117; refine (mul_any _ _ _).mono ?_; rintro e w1 ⟨rfl, rfl⟩))
  go_wp2
  exact bodyPost_ret (v := V3 (Pl.mul ax bx) (Pl.mul ay by_) (Pl.mul az bz)) (by simp [results, Tryd.results150, go_sem]) rfl ⟨rfl, below3 _ _ _ _⟩

end Go.Proofs.YtpinpkhalccjhaaDoor.Ve

/- The contract of layer 2's each at ways between two. -/
namespace Go.Proofs.YtpinpkhalccjhaaDoor.Ve
open Go.RowKit Go.Proofs.YtpinpkhalccjhaaDoor Go.Proofs.YtpinpkhalccjhaaDoor.Wa

end Go.Proofs.YtpinpkhalccjhaaDoor.Ve

/- The contracts of layer 2's functions on points, number by number. -/
namespace Go.Proofs.YtpinpkhalccjhaaDoor.Ve
open Go.RowKit Go.Proofs.YtpinpkhalccjhaaDoor Go.Proofs.YtpinpkhalccjhaaDoor.Wa

theorem to_any (ax ay az : Int) (w : World) :
    Calls Tryd.prog 51 #[V3 ax ay az] w fun e w' => e = .returned (V3 ax ay az) ∧ Below w.heap.size w w' := by
  go_enter Tryd.func51, Tryd.ntmps51
  go_wp2
  exact bodyPost_ret (v := V3 ax ay az) (by simp [results, Tryd.results51, go_sem]) rfl ⟨rfl, below_n2 _ _ _⟩

end Go.Proofs.YtpinpkhalccjhaaDoor.Ve

/- What the laws' walks over points share: the points that came in, behind calls and new variables. -/
namespace Go.Proofs.YtpinpkhalccjhaaDoor.Ve
open Go.RowKit Go.Proofs.YtpinpkhalccjhaaDoor Go.Proofs.YtpinpkhalccjhaaDoor.Wa

theorem old1 {w : World} {k j : Nat} {v : Value} (o1 : Obj) (hk : k < w.heap.size) (h : w.cell? ⟨k, j, none⟩ = some v) : (w.alloc o1).cell? ⟨k, j, none⟩ = some v := by
  rw [World.cell?_alloc_past _ _ _ hk]; exact h

theorem old2 {w : World} {k j : Nat} {v : Value} (o1 o2 : Obj) (hk : k < w.heap.size) (h : w.cell? ⟨k, j, none⟩ = some v) : ((w.alloc o1).alloc o2).cell? ⟨k, j, none⟩ = some v :=
  old1 o2 (by simp; omega) (old1 o1 hk h)

theorem infoInt : (Tryd.prog.info? 2).map (fun i => (i.zero, i.size, i.bytes)) = some (some (.int .i64 0), 1, 8) := by kernel_rfl

theorem cellsInt : Tryd.prog.cellsOf 2 = 1 := by kernel_rfl

theorem eq_v3 (x y z : Int) (W : World) : (Op.equalIn 10000 107 (.agg #[.int .i64 x, .int .i64 y, .int .i64 z]) (.agg #[.int .i64 x, .int .i64 y, .int .i64 z])).run Tryd.prog W = .ok true W := by
  obtain ⟨i0, hi, hz0, hz1, hz2⟩ := info_parts infoInt
  rw [run_equalIn_array W 9999 _ _ Tryd.underlying107 hi, cellsInt]
  simp only [show List.range 3 = [0, 1, 2] from rfl, Op.eqItems, Sem.run_bind]
  simp [go_sem]

theorem held_on {W w9 : World} {p : Addr} {v : Value} (hbn : Below W.heap.size W w9) (h : W.cell? p = some v) : w9.cell? p = some v :=
  (hbn.cell (World.block_lt_of_cell? _ _ h)).trans h

theorem to_exact (ax ay az : Int) (w : World) :
    Calls Tryd.prog 51 #[V3 ax ay az] w fun e w' => e = .returned (V3 ax ay az) ∧ w' = (w.alloc (.cells #[.int .i64 ax, .int .i64 ay, .int .i64 az] 107)).alloc (.cells #[.int .i64 ax, .int .i64 ay, .int .i64 az] 105) := by
  go_enter Tryd.func51, Tryd.ntmps51
  go_wp2
  exact bodyPost_ret (v := V3 ax ay az) (by simp [results, Tryd.results51, go_sem]) rfl ⟨rfl, rfl⟩

end Go.Proofs.YtpinpkhalccjhaaDoor.Ve
