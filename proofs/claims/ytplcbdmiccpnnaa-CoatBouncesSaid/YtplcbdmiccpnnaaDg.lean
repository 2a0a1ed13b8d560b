/- The contracts of layer 4's directions, and of the document's own: any direction. -/
import Derived.Test.YtplcbdmiccpnnaaVm
import Derived.Test.YtplcbdmiccpnnaaVu
import Derived.Test.YtplcbdmiccpnnaaVo
import Derived.Test.YtplcbdmiccpnnaaVd
import Derived.Test.YtplcbdmiccpnnaaVr
import Derived.Test.YtplcbdmiccpnnaaWv
namespace Go.Proofs.Ytplcbdmiccpnnaa.Ve
open Go.RowKit Go.Proofs.Ytplcbdmiccpnnaa Go.Proofs.Ytplcbdmiccpnnaa.Wa Go.Proofs.Ytplcbdmiccpnnaa.Wv

/-- how high a direction points, and how far from the axis it ends -/
def gz (u : Int) : Int := 65536 - 2 * Pl.unit u
def gr (u : Int) : Int := Pl.root (65536 - Pl.mul (gz u) (gz u))
def gx (u v : Int) : Int := Pl.mul (gr u) (Pl.cos v)
def gy (u v : Int) : Int := Pl.mul (gr u) (Pl.sin v)

theorem sq_mul {z : Int} (h0 : -65536 ≤ z) (h1 : z ≤ 65536) : 0 ≤ Pl.mul z z ∧ Pl.mul z z ≤ 65536 := by
  have a : 0 ≤ z * z := by
    rcases Int.le_total 0 z with h | h
    · exact Int.mul_nonneg h h
    · have := Int.mul_nonneg (a := -z) (b := -z) (by omega) (by omega)
      rwa [Int.neg_mul_neg] at this
  have b : 0 ≤ (65536 - z) * (65536 + z) := Int.mul_nonneg (by omega) (by omega)
  simp only [Int.sub_mul, Int.mul_add] at b
  unfold Pl.mul
  rw [Pl.held_in (n := z) (by omega) (by omega), Pl.held_in (by omega) (by omega)]
  omega

theorem gz_bd (u : Int) : -65536 ≤ gz u ∧ gz u ≤ 65536 := by
  have := Pl.unit_lo u
  have := Pl.unit_hi u
  unfold gz; omega

theorem sub_one {a : Int} (h0 : 0 ≤ a) (h1 : a ≤ 65536) : Pl.sub 65536 a = 65536 - a := by
  unfold Pl.sub
  rw [Pl.held_in (n := 65536) (by omega) (by omega), Pl.held_in (n := a) (by omega) (by omega), Pl.held_in (by omega) (by omega)]

set_option maxHeartbeats 2000000 in
set_option maxRecDepth 100000 in
theorem globe_any' (u v : Int) (w : World) :
    Calls Try.prog 55 #[.int .i64 u, .int .i64 v] w fun e w' => e = .returned (V3 (Pl.mul (Pl.root (65536 - Pl.mul (65536 - 2 * Pl.unit u) (65536 - 2 * Pl.unit u))) (Pl.cos v)) (Pl.mul (Pl.root (65536 - Pl.mul (65536 - 2 * Pl.unit u) (65536 - 2 * Pl.unit u))) (Pl.sin v)) (65536 - 2 * Pl.unit u)) ∧ Below w.heap.size w w' := by
  have u0 := Pl.unit_lo u
  have u1 := Pl.unit_hi u
  have ⟨q0, q1⟩ := sq_mul (z := 65536 - 2 * Pl.unit u) (by omega) (by omega)
  have HS := Lib.hid (sub_one q0 q1)
  go_enter Try.func55, Try.ntmps55
  have hbk : Below w.heap.size w (w.alloc (.cells #[.int .i64 0, .int .i64 0, .int .i64 0] 39)) := below_n1 _ _
  have ho : Bk w.heap.size 3 (f3 0 0 0) (w.alloc (.cells #[.int .i64 0, .int .i64 0, .int .i64 0] 39)) := new3 _ _ rfl 0 0 0 _
  go_wp2_with (first | (go_at_call 46; refine (unit_any _ _).mono ?_; rintro e w8 ⟨rfl, rfl⟩) | (go_at_call 44; refine (mul_any _ _ _).mono ?_; rintro e w8 ⟨rfl, rfl⟩) | (go_at_call 81; refine (root_any _ _).mono ?_; rintro e w8 ⟨rfl, rfl⟩) | (go_at_call 82; refine (cos_any _ _).mono ?_; rintro e w8 ⟨rfl, rfl⟩) | (go_at_call 83; refine (sin_any _ _).mono ?_; rintro e w8 ⟨rfl, rfl⟩) | (go_at_call 57; refine (new_any _ _ _ _).mono ?_; rintro e w9 ⟨rfl, hbn⟩; have hbm := hbn; replace hbk := hbk.trans (hbm.mono hbk.size); replace ho := ho.on hbm; obtain ⟨-, -, of⟩ := id ho; obtain ⟨o0, o1, o2⟩ := ho.v3))
  have hz : Bk w.heap.size 3 (f3 (Pl.mul (Pl.root (65536 - Pl.mul (65536 - 2 * Pl.unit u) (65536 - 2 * Pl.unit u))) (Pl.cos v)) (Pl.mul (Pl.root (65536 - Pl.mul (65536 - 2 * Pl.unit u) (65536 - 2 * Pl.unit u))) (Pl.sin v)) (65536 - 2 * Pl.unit u)) (((w9.setCell ⟨w.heap.size, 0, none⟩ (.int .i64 (Pl.mul (Pl.root (65536 - Pl.mul (65536 - 2 * Pl.unit u) (65536 - 2 * Pl.unit u))) (Pl.cos v)))).setCell ⟨w.heap.size, 1, none⟩ (.int .i64 (Pl.mul (Pl.root (65536 - Pl.mul (65536 - 2 * Pl.unit u) (65536 - 2 * Pl.unit u))) (Pl.sin v)))).setCell ⟨w.heap.size, 2, none⟩ (.int .i64 (65536 - 2 * Pl.unit u))) := ho.putf3 (Pl.mul (Pl.root (65536 - Pl.mul (65536 - 2 * Pl.unit u) (65536 - 2 * Pl.unit u))) (Pl.cos v)) (Pl.mul (Pl.root (65536 - Pl.mul (65536 - 2 * Pl.unit u) (65536 - 2 * Pl.unit u))) (Pl.sin v)) (65536 - 2 * Pl.unit u)
  have hbz : Below w.heap.size w (((w9.setCell ⟨w.heap.size, 0, none⟩ (.int .i64 (Pl.mul (Pl.root (65536 - Pl.mul (65536 - 2 * Pl.unit u) (65536 - 2 * Pl.unit u))) (Pl.cos v)))).setCell ⟨w.heap.size, 1, none⟩ (.int .i64 (Pl.mul (Pl.root (65536 - Pl.mul (65536 - 2 * Pl.unit u) (65536 - 2 * Pl.unit u))) (Pl.sin v)))).setCell ⟨w.heap.size, 2, none⟩ (.int .i64 (65536 - 2 * Pl.unit u))) := below_set3 hbk (by omega) _ _ _
  obtain ⟨wz, hwz⟩ : ∃ wz, wz = (((w9.setCell ⟨w.heap.size, 0, none⟩ (.int .i64 (Pl.mul (Pl.root (65536 - Pl.mul (65536 - 2 * Pl.unit u) (65536 - 2 * Pl.unit u))) (Pl.cos v)))).setCell ⟨w.heap.size, 1, none⟩ (.int .i64 (Pl.mul (Pl.root (65536 - Pl.mul (65536 - 2 * Pl.unit u) (65536 - 2 * Pl.unit u))) (Pl.sin v)))).setCell ⟨w.heap.size, 2, none⟩ (.int .i64 (65536 - 2 * Pl.unit u))) := ⟨_, rfl⟩
  rw [← hwz] at hz hbz ⊢
  obtain ⟨z0, z1, z2⟩ := hz.v3
  clear hwz
  go_wp2
  exact bodyPost_ret (v := V3 (Pl.mul (Pl.root (65536 - Pl.mul (65536 - 2 * Pl.unit u) (65536 - 2 * Pl.unit u))) (Pl.cos v)) (Pl.mul (Pl.root (65536 - Pl.mul (65536 - 2 * Pl.unit u) (65536 - 2 * Pl.unit u))) (Pl.sin v)) (65536 - 2 * Pl.unit u)) (by simp [results, Try.results55, go_sem, z0, z1, z2]) rfl ⟨rfl, hbz⟩


theorem globe_any (u v : Int) (w : World) : Calls Try.prog 55 #[.int .i64 u, .int .i64 v] w fun e w' => e = .returned (V3 (gx u v) (gy u v) (gz u)) ∧ Below w.heap.size w w' := globe_any' u v w

set_option maxHeartbeats 2000000 in
set_option maxRecDepth 100000 in
theorem rglobe_any' (u v : Int) (w : World) :
    Calls Try.prog 60 #[.int .i64 u, .int .i64 v] w fun e w' => e = .returned (V3 (Pl.mul (Pl.root (65536 - Pl.mul (65536 - 2 * Pl.unit u) (65536 - 2 * Pl.unit u))) (Pl.cos v)) (Pl.mul (Pl.root (65536 - Pl.mul (65536 - 2 * Pl.unit u) (65536 - 2 * Pl.unit u))) (Pl.sin v)) (65536 - 2 * Pl.unit u)) ∧ Below w.heap.size w w' := by
  have u0 := Pl.unit_lo u
  have u1 := Pl.unit_hi u
  have ⟨q0, q1⟩ := sq_mul (z := 65536 - 2 * Pl.unit u) (by omega) (by omega)
  have HS := Lib.hid (sub_one q0 q1)
  go_enter Try.func60, Try.ntmps60
  have hbk : Below w.heap.size w (w.alloc (.cells #[.int .i64 0, .int .i64 0, .int .i64 0] 47)) := below_n1 _ _
  have ho : Bk w.heap.size 3 (f3 0 0 0) (w.alloc (.cells #[.int .i64 0, .int .i64 0, .int .i64 0] 47)) := new3 _ _ rfl 0 0 0 _
  go_wp2_with (first | (go_at_call 48; refine (refUnit_any _ _).mono ?_; rintro e w8 ⟨rfl, rfl⟩) | (go_at_call 63; refine (refMul_any _ _ _).mono ?_; rintro e w8 ⟨rfl, rfl⟩) | (go_at_call 86; refine (refSub_any _ _ _).mono ?_; rintro e w8 ⟨rfl, rfl⟩; rw [HS.out]) | (go_at_call 85; refine (refRoot_any _ _).mono ?_; rintro e w8 ⟨rfl, rfl⟩) | (go_at_call 87; refine (rcos_any _ _).mono ?_; rintro e w8 ⟨rfl, rfl⟩) | (go_at_call 88; refine (rsin_any _ _).mono ?_; rintro e w8 ⟨rfl, rfl⟩))
  exact bodyPost_ret (v := V3 (Pl.mul (Pl.root (65536 - Pl.mul (65536 - 2 * Pl.unit u) (65536 - 2 * Pl.unit u))) (Pl.cos v)) (Pl.mul (Pl.root (65536 - Pl.mul (65536 - 2 * Pl.unit u) (65536 - 2 * Pl.unit u))) (Pl.sin v)) (65536 - 2 * Pl.unit u)) (by simp [results, Try.results60, go_sem]) rfl ⟨rfl, below_n1 _ _⟩


theorem rglobe_any (u v : Int) (w : World) : Calls Try.prog 60 #[.int .i64 u, .int .i64 v] w fun e w' => e = .returned (V3 (gx u v) (gy u v) (gz u)) ∧ Below w.heap.size w w' := rglobe_any' u v w


end Go.Proofs.Ytplcbdmiccpnnaa.Ve
