/- More of what the walks over points share: worlds behind new blocks and a call that makes memory. -/
import Derived.Test.YtpinpkhalccjhaaDoorF10
namespace Go.Proofs.YtpinpkhalccjhaaDoor.Ve
open Go.RowKit Go.Proofs.YtpinpkhalccjhaaDoor Go.Proofs.YtpinpkhalccjhaaDoor.Wa

theorem below_n1 (w : World) (o1 : Obj) : Below w.heap.size w (w.alloc o1) := (Below.refl _ _).alloc (Nat.le_refl _) o1

theorem below_n2 (w : World) (o1 o2 : Obj) : Below w.heap.size w ((w.alloc o1).alloc o2) := (below_n1 w o1).alloc (by simp) o2

theorem below_n3 (w : World) (o1 o2 o3 : Obj) : Below w.heap.size w (((w.alloc o1).alloc o2).alloc o3) := (below_n2 w o1 o2).alloc (by simp; omega) o3

theorem below_n4 (w : World) (o1 o2 o3 o4 : Obj) : Below w.heap.size w ((((w.alloc o1).alloc o2).alloc o3).alloc o4) := (below_n3 w o1 o2 o3).alloc (by simp; omega) o4

theorem below_put3 {B : Nat} {a w : World} (h : Below B a w) {k : Nat} (hk : B ≤ k) (x y z : Value) : Below B a (((w.setCell ⟨k, 0, none⟩ x).setCell ⟨k, 1, none⟩ y).setCell ⟨k, 2, none⟩ z) :=
  ((h.setCell hk x).setCell hk y).setCell hk z

theorem below_c1 {w w1 : World} {o1 : Obj} (hb : Below (w.alloc o1).heap.size (w.alloc o1) w1) : Below w.heap.size w w1 := (below_n1 w o1).trans (hb.mono (by simp))

theorem below_c2 {w w1 : World} {o1 o2 : Obj} (hb : Below ((w.alloc o1).alloc o2).heap.size ((w.alloc o1).alloc o2) w1) : Below w.heap.size w w1 := (below_n2 w o1 o2).trans (hb.mono (by simp; omega))

theorem below_c3 {w w1 : World} {o1 o2 o3 : Obj} (hb : Below (((w.alloc o1).alloc o2).alloc o3).heap.size (((w.alloc o1).alloc o2).alloc o3) w1) : Below w.heap.size w w1 := (below_n3 w o1 o2 o3).trans (hb.mono (by simp; omega))

theorem below_c4 {w w1 : World} {o1 o2 o3 o4 : Obj} (hb : Below ((((w.alloc o1).alloc o2).alloc o3).alloc o4).heap.size ((((w.alloc o1).alloc o2).alloc o3).alloc o4) w1) : Below w.heap.size w w1 := (below_n4 w o1 o2 o3 o4).trans (hb.mono (by simp; omega))

theorem below_d1 {w w1 : World} {o1 : Obj} (hb : Below (w.alloc o1).drew.heap.size (w.alloc o1).drew w1) : Below w.heap.size w w1 := below_c1 ⟨hb.os, hb.tape, hb.output, hb.size, hb.block⟩

theorem below_d2 {w w1 : World} {o1 o2 : Obj} (hb : Below ((w.alloc o1).alloc o2).drew.heap.size ((w.alloc o1).alloc o2).drew w1) : Below w.heap.size w w1 := below_c2 ⟨hb.os, hb.tape, hb.output, hb.size, hb.block⟩

theorem below_d3 {w w1 : World} {o1 o2 o3 : Obj} (hb : Below (((w.alloc o1).alloc o2).alloc o3).drew.heap.size (((w.alloc o1).alloc o2).alloc o3).drew w1) : Below w.heap.size w w1 := below_c3 ⟨hb.os, hb.tape, hb.output, hb.size, hb.block⟩

theorem below_d4 {w w1 : World} {o1 o2 o3 o4 : Obj} (hb : Below ((((w.alloc o1).alloc o2).alloc o3).alloc o4).drew.heap.size ((((w.alloc o1).alloc o2).alloc o3).alloc o4).drew w1) : Below w.heap.size w w1 := below_c4 ⟨hb.os, hb.tape, hb.output, hb.size, hb.block⟩

end Go.Proofs.YtpinpkhalccjhaaDoor.Ve

/- The contract of layer 2's each at sums. -/
namespace Go.Proofs.YtpinpkhalccjhaaDoor.Ve
open Go.RowKit Go.Proofs.YtpinpkhalccjhaaDoor Go.Proofs.YtpinpkhalccjhaaDoor.Wa

set_option maxHeartbeats 800000 in
theorem each_add (ax ay az bx by_ bz : Int) (w : World) :
    Calls Tryd.prog 150 #[V3 ax ay az, V3 bx by_ bz, .func (.func 62) #[] #[]] w fun e w' => e = .returned (V3 (Pl.add ax bx) (Pl.add ay by_) (Pl.add az bz)) ∧ Below w.heap.size w w' := by
  go_enter Tryd.func150, Tryd.ntmps150
  go_wp2_with fail
  go_region_held3 (fun w' => w'.cell? ⟨w.heap.size, 0, none⟩ = some (.int .i64 ax) ∧ w'.cell? ⟨w.heap.size, 1, none⟩ = some (.int .i64 ay) ∧ w'.cell? ⟨w.heap.size, 2, none⟩ = some (.int .i64 az) ∧ w'.cell? ⟨w.heap.size + 1, 0, none⟩ = some (.int .i64 bx) ∧ w'.cell? ⟨w.heap.size + 1, 1, none⟩ = some (.int .i64 by_) ∧ w'.cell? ⟨w.heap.size + 1, 2, none⟩ = some (.int .i64 bz)) (go_keep) (first | (go_at_call 62; refine (add_any _ _ _).mono ?_; rintro e w1 ⟨rfl, rfl⟩))
  go_wp2
  exact bodyPost_ret (v := V3 (Pl.add ax bx) (Pl.add ay by_) (Pl.add az bz)) (by simp [results, Tryd.results150, go_sem]) rfl ⟨rfl, below3 _ _ _ _⟩

end Go.Proofs.YtpinpkhalccjhaaDoor.Ve

/- The contract of layer 2's each at differences. -/
namespace Go.Proofs.YtpinpkhalccjhaaDoor.Ve
open Go.RowKit Go.Proofs.YtpinpkhalccjhaaDoor Go.Proofs.YtpinpkhalccjhaaDoor.Wa

set_option maxHeartbeats 800000 in
theorem each_sub (ax ay az bx by_ bz : Int) (w : World) :
    Calls Tryd.prog 150 #[V3 ax ay az, V3 bx by_ bz, .func (.func 144) #[] #[]] w fun e w' => e = .returned (V3 (Pl.sub ax bx) (Pl.sub ay by_) (Pl.sub az bz)) ∧ Below w.heap.size w w' := by
  go_enter Tryd.func150, Tryd.ntmps150
  go_wp2_with fail
  go_region_held3 (fun w' => w'.cell? ⟨w.heap.size, 0, none⟩ = some (.int .i64 ax) ∧ w'.cell? ⟨w.heap.size, 1, none⟩ = some (.int .i64 ay) ∧ w'.cell? ⟨w.heap.size, 2, none⟩ = some (.int .i64 az) ∧ w'.cell? ⟨w.heap.size + 1, 0, none⟩ = some (.int .i64 bx) ∧ w'.cell? ⟨w.heap.size + 1, 1, none⟩ = some (.int .i64 by_) ∧ w'.cell? ⟨w.heap.size + 1, 2, none⟩ = some (.int .i64 bz)) (go_keep) (first | (go_at_call 144; refine (sub_any _ _ _).mono ?_; rintro e w1 ⟨rfl, rfl⟩))
  go_wp2
  exact bodyPost_ret (v := V3 (Pl.sub ax bx) (Pl.sub ay by_) (Pl.sub az bz)) (by simp [results, Tryd.results150, go_sem]) rfl ⟨rfl, below3 _ _ _ _⟩

end Go.Proofs.YtpinpkhalccjhaaDoor.Ve
