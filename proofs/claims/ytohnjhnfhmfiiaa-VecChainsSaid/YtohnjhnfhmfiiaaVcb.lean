/- The contract of layer 2's matrices one behind the other. -/
import Derived.Test.YtohnjhnfhmfiiaaVca
import Derived.Test.YtohnjhnfhmfiiaaVmt
namespace Go.Proofs.Ytohnjhnfhmfiiaa.Ve
open Go.RowKit Go.Proofs.Ytohnjhnfhmfiiaa Go.Proofs.Ytohnjhnfhmfiiaa.Wa

set_option maxHeartbeats 4000000 in
set_option maxRecDepth 100000 in
theorem chain_row (g off n cap : Nat) (L : Nat → Int) (hn : n ≤ 4611686018427387904) (w : World) (hp : g < w.heap.size ∧ ∀ j, j < n * 12 → w.cell? ⟨g, off + j, none⟩ = some (.int .i64 (L j))) :
    Calls Try.prog 30 #[.slice (some ⟨g, off, none⟩) n cap] w fun e w' => e = .returned (MV (chainN L n)) ∧ Below w.heap.size w w' := by
  go_enter Try.func30, Try.ntmps30
  have hbk : Below w.heap.size w (w.alloc (.cells #[.int .i64 0, .int .i64 0, .int .i64 0, .int .i64 0, .int .i64 0, .int .i64 0, .int .i64 0, .int .i64 0, .int .i64 0, .int .i64 0, .int .i64 0, .int .i64 0] 31)) := below_n1 _ _
  have ho : Bk w.heap.size 12 (fun _ => 0) (w.alloc (.cells #[.int .i64 0, .int .i64 0, .int .i64 0, .int .i64 0, .int .i64 0, .int .i64 0, .int .i64 0, .int .i64 0, .int .i64 0, .int .i64 0, .int .i64 0, .int .i64 0] 31)) := new12 _ _ (by simp) (fun _ => 0) _
  have HP := Lib.hid hp
  clear hp
  go_wp2_with (first | (go_at_call 29; refine (same_any _).mono ?_; rintro e w9 ⟨rfl, hbn⟩; have hbm := hbn; replace hbk := hbk.trans (hbm.mono hbk.size); replace ho := ho.on hbm))
  have HO := Lib.hid ho.lt
  have hs : Bk w9.heap.size 12 (chainN L 0) (w9.alloc (.cells #[.int .i64 (sizeN 65536 0), .int .i64 (sizeN 65536 1), .int .i64 (sizeN 65536 2), .int .i64 (sizeN 65536 3), .int .i64 (sizeN 65536 4), .int .i64 (sizeN 65536 5), .int .i64 (sizeN 65536 6), .int .i64 (sizeN 65536 7), .int .i64 (sizeN 65536 8), .int .i64 (sizeN 65536 9), .int .i64 (sizeN 65536 10), .int .i64 (sizeN 65536 11)] 31)) := new12 _ _ rfl (sizeN 65536) _
  replace ho : Bk w.heap.size 12 (fun _ => 0) (w9.alloc (.cells #[.int .i64 (sizeN 65536 0), .int .i64 (sizeN 65536 1), .int .i64 (sizeN 65536 2), .int .i64 (sizeN 65536 3), .int .i64 (sizeN 65536 4), .int .i64 (sizeN 65536 5), .int .i64 (sizeN 65536 6), .int .i64 (sizeN 65536 7), .int .i64 (sizeN 65536 8), .int .i64 (sizeN 65536 9), .int .i64 (sizeN 65536 10), .int .i64 (sizeN 65536 11)] 31)) := ho.on (below_n1 _ _)
  replace hbk : Below w.heap.size w (w9.alloc (.cells #[.int .i64 (sizeN 65536 0), .int .i64 (sizeN 65536 1), .int .i64 (sizeN 65536 2), .int .i64 (sizeN 65536 3), .int .i64 (sizeN 65536 4), .int .i64 (sizeN 65536 5), .int .i64 (sizeN 65536 6), .int .i64 (sizeN 65536 7), .int .i64 (sizeN 65536 8), .int .i64 (sizeN 65536 9), .int .i64 (sizeN 65536 10), .int .i64 (sizeN 65536 11)] 31)) := hbk.alloc hbk.size _
  have n_ho_hs : w.heap.size ≠ w9.heap.size := Nat.ne_of_lt (show w.heap.size < w9.heap.size from HO.out)
  have hg0 : w.heap.size ≤ w9.heap.size := Nat.le_of_lt HO.out
  obtain ⟨gm, hgm⟩ : ∃ g, g = w9.heap.size := ⟨_, rfl⟩
  rw [← hgm] at hs n_ho_hs hg0 ⊢
  go_loopw [9] (fun s wr => ∃ k : Nat, k ≤ n ∧ s = .int .i64 k ∧ Bk gm 12 (chainN L k) wr ∧ Bk w.heap.size 12 (fun _ => 0) wr ∧ Below w.heap.size w wr) (fun s _ => n - (intOf s).toNat)
  case atStart => exact ⟨0, Nat.zero_le _, rfl, hs, ho, hbk⟩
  case round =>
    clear hs ho hbk HO hgm
    obtain ⟨k, hk, rfl, hs, ho, hbk⟩ := hrel
    by_cases hlt : k < n
    · have hsz := hbk.size
      have C0 : wr.cell? ⟨g, off + k * 12, none⟩ = some (.int .i64 (L (k * 12))) := (hbk.cell (p := ⟨g, off + (k * 12 + 0), none⟩) HP.out.1).trans (HP.out.2 (k * 12 + 0) (by omega))
      have C1 : wr.cell? ⟨g, off + k * 12 + 1, none⟩ = some (.int .i64 (L (k * 12 + 1))) := (hbk.cell (p := ⟨g, off + (k * 12 + 1), none⟩) HP.out.1).trans (HP.out.2 (k * 12 + 1) (by omega))
      have C2 : wr.cell? ⟨g, off + k * 12 + 2, none⟩ = some (.int .i64 (L (k * 12 + 2))) := (hbk.cell (p := ⟨g, off + (k * 12 + 2), none⟩) HP.out.1).trans (HP.out.2 (k * 12 + 2) (by omega))
      have C3 : wr.cell? ⟨g, off + k * 12 + 3, none⟩ = some (.int .i64 (L (k * 12 + 3))) := (hbk.cell (p := ⟨g, off + (k * 12 + 3), none⟩) HP.out.1).trans (HP.out.2 (k * 12 + 3) (by omega))
      have C4 : wr.cell? ⟨g, off + k * 12 + 4, none⟩ = some (.int .i64 (L (k * 12 + 4))) := (hbk.cell (p := ⟨g, off + (k * 12 + 4), none⟩) HP.out.1).trans (HP.out.2 (k * 12 + 4) (by omega))
      have C5 : wr.cell? ⟨g, off + k * 12 + 5, none⟩ = some (.int .i64 (L (k * 12 + 5))) := (hbk.cell (p := ⟨g, off + (k * 12 + 5), none⟩) HP.out.1).trans (HP.out.2 (k * 12 + 5) (by omega))
      have C6 : wr.cell? ⟨g, off + k * 12 + 6, none⟩ = some (.int .i64 (L (k * 12 + 6))) := (hbk.cell (p := ⟨g, off + (k * 12 + 6), none⟩) HP.out.1).trans (HP.out.2 (k * 12 + 6) (by omega))
      have C7 : wr.cell? ⟨g, off + k * 12 + 7, none⟩ = some (.int .i64 (L (k * 12 + 7))) := (hbk.cell (p := ⟨g, off + (k * 12 + 7), none⟩) HP.out.1).trans (HP.out.2 (k * 12 + 7) (by omega))
      have C8 : wr.cell? ⟨g, off + k * 12 + 8, none⟩ = some (.int .i64 (L (k * 12 + 8))) := (hbk.cell (p := ⟨g, off + (k * 12 + 8), none⟩) HP.out.1).trans (HP.out.2 (k * 12 + 8) (by omega))
      have C9 : wr.cell? ⟨g, off + k * 12 + 9, none⟩ = some (.int .i64 (L (k * 12 + 9))) := (hbk.cell (p := ⟨g, off + (k * 12 + 9), none⟩) HP.out.1).trans (HP.out.2 (k * 12 + 9) (by omega))
      have C10 : wr.cell? ⟨g, off + k * 12 + 10, none⟩ = some (.int .i64 (L (k * 12 + 10))) := (hbk.cell (p := ⟨g, off + (k * 12 + 10), none⟩) HP.out.1).trans (HP.out.2 (k * 12 + 10) (by omega))
      have C11 : wr.cell? ⟨g, off + k * 12 + 11, none⟩ = some (.int .i64 (L (k * 12 + 11))) := (hbk.cell (p := ⟨g, off + (k * 12 + 11), none⟩) HP.out.1).trans (HP.out.2 (k * 12 + 11) (by omega))
      go_upto_region 5 with fail
      obtain ⟨wq, hwq⟩ : ∃ wq, wq = (wr.alloc (.cells #[.int .i64 (L (k * 12)), .int .i64 (L (k * 12 + 1)), .int .i64 (L (k * 12 + 2)), .int .i64 (L (k * 12 + 3)), .int .i64 (L (k * 12 + 4)), .int .i64 (L (k * 12 + 5)), .int .i64 (L (k * 12 + 6)), .int .i64 (L (k * 12 + 7)), .int .i64 (L (k * 12 + 8)), .int .i64 (L (k * 12 + 9)), .int .i64 (L (k * 12 + 10)), .int .i64 (L (k * 12 + 11))] 31)) := ⟨_, rfl⟩
      rw [← hwq]
      have he : Bk wr.heap.size 12 (matAt L k) wq := by subst hwq; exact new12 _ _ rfl (matAt L k) _
      have bq : Below wr.heap.size wr wq := by subst hwq; exact below_n1 _ _
      replace hs := hs.on bq
      replace ho := ho.on bq
      replace hbk := hbk.trans (bq.mono hsz)
      clear hwq bq C0 C1 C2 C3 C4 C5 C6 C7 C8 C9 C10 C11
      obtain ⟨e0, e1, e2, e3, e4, e5, e6, e7, e8, e9, e10, e11⟩ := he.c12
      obtain ⟨s0, s1, s2, s3, s4, s5, s6, s7, s8, s9, s10, s11⟩ := hs.c12
      go_wp2_with (first | (go_at_call 23; refine (times_any (chainN L k) (matAt L k) _).mono ?_; rintro e w9 ⟨rfl, hbn⟩; have hbm := hbn; replace hbk := hbk.trans (hbm.mono hbk.size); replace hs := hs.on hbm; replace ho := ho.on hbm; obtain ⟨-, -, sf⟩ := id hs; obtain ⟨s0, s1, s2, s3, s4, s5, s6, s7, s8, s9, s10, s11⟩ := hs.c12))
      go_roundw
      case rel => exact ⟨k + 1, by omega, by go_num, hs.put12 (timesN (chainN L k) (matAt L k)), ho.far12 n_ho_hs _ _ _ _ _ _ _ _ _ _ _ _, below_set12 hbk hg0 _ _ _ _ _ _ _ _ _ _ _ _⟩
      case measure => simp [intOf]; omega
    · obtain rfl : k = n := by omega
      obtain ⟨s0, s1, s2, s3, s4, s5, s6, s7, s8, s9, s10, s11⟩ := hs.c12
      obtain ⟨-, -, of⟩ := id ho
      obtain ⟨o0, o1, o2, o3, o4, o5, o6, o7, o8, o9, o10, o11⟩ := ho.c12
      go_wp2
      have hz : Bk w.heap.size 12 (chainN L k) ((((((((((((wr.setCell ⟨w.heap.size, 0, none⟩ (.int .i64 (chainN L k 0))).setCell ⟨w.heap.size, 1, none⟩ (.int .i64 (chainN L k 1))).setCell ⟨w.heap.size, 2, none⟩ (.int .i64 (chainN L k 2))).setCell ⟨w.heap.size, 3, none⟩ (.int .i64 (chainN L k 3))).setCell ⟨w.heap.size, 4, none⟩ (.int .i64 (chainN L k 4))).setCell ⟨w.heap.size, 5, none⟩ (.int .i64 (chainN L k 5))).setCell ⟨w.heap.size, 6, none⟩ (.int .i64 (chainN L k 6))).setCell ⟨w.heap.size, 7, none⟩ (.int .i64 (chainN L k 7))).setCell ⟨w.heap.size, 8, none⟩ (.int .i64 (chainN L k 8))).setCell ⟨w.heap.size, 9, none⟩ (.int .i64 (chainN L k 9))).setCell ⟨w.heap.size, 10, none⟩ (.int .i64 (chainN L k 10))).setCell ⟨w.heap.size, 11, none⟩ (.int .i64 (chainN L k 11))) := ho.put12 (chainN L k)
      have hbz : Below w.heap.size w ((((((((((((wr.setCell ⟨w.heap.size, 0, none⟩ (.int .i64 (chainN L k 0))).setCell ⟨w.heap.size, 1, none⟩ (.int .i64 (chainN L k 1))).setCell ⟨w.heap.size, 2, none⟩ (.int .i64 (chainN L k 2))).setCell ⟨w.heap.size, 3, none⟩ (.int .i64 (chainN L k 3))).setCell ⟨w.heap.size, 4, none⟩ (.int .i64 (chainN L k 4))).setCell ⟨w.heap.size, 5, none⟩ (.int .i64 (chainN L k 5))).setCell ⟨w.heap.size, 6, none⟩ (.int .i64 (chainN L k 6))).setCell ⟨w.heap.size, 7, none⟩ (.int .i64 (chainN L k 7))).setCell ⟨w.heap.size, 8, none⟩ (.int .i64 (chainN L k 8))).setCell ⟨w.heap.size, 9, none⟩ (.int .i64 (chainN L k 9))).setCell ⟨w.heap.size, 10, none⟩ (.int .i64 (chainN L k 10))).setCell ⟨w.heap.size, 11, none⟩ (.int .i64 (chainN L k 11))) := below_set12 hbk (by omega) _ _ _ _ _ _ _ _ _ _ _ _
      obtain ⟨wz, hwz⟩ : ∃ wz, wz = ((((((((((((wr.setCell ⟨w.heap.size, 0, none⟩ (.int .i64 (chainN L k 0))).setCell ⟨w.heap.size, 1, none⟩ (.int .i64 (chainN L k 1))).setCell ⟨w.heap.size, 2, none⟩ (.int .i64 (chainN L k 2))).setCell ⟨w.heap.size, 3, none⟩ (.int .i64 (chainN L k 3))).setCell ⟨w.heap.size, 4, none⟩ (.int .i64 (chainN L k 4))).setCell ⟨w.heap.size, 5, none⟩ (.int .i64 (chainN L k 5))).setCell ⟨w.heap.size, 6, none⟩ (.int .i64 (chainN L k 6))).setCell ⟨w.heap.size, 7, none⟩ (.int .i64 (chainN L k 7))).setCell ⟨w.heap.size, 8, none⟩ (.int .i64 (chainN L k 8))).setCell ⟨w.heap.size, 9, none⟩ (.int .i64 (chainN L k 9))).setCell ⟨w.heap.size, 10, none⟩ (.int .i64 (chainN L k 10))).setCell ⟨w.heap.size, 11, none⟩ (.int .i64 (chainN L k 11))) := ⟨_, rfl⟩
      rw [← hwz] at hz hbz ⊢
      obtain ⟨z0, z1, z2, z3, z4, z5, z6, z7, z8, z9, z10, z11⟩ := hz.c12
      clear hwz
      go_wp2
      exact bodyPost_ret (v := MV (chainN L k)) (by simp [results, Try.results30, go_sem, z0, z1, z2, z3, z4, z5, z6, z7, z8, z9, z10, z11]) rfl ⟨rfl, hbz⟩

set_option maxHeartbeats 2000000 in
set_option maxRecDepth 100000 in
theorem chain_none (a : Option Addr) (cap : Nat) (w : World) :
    Calls Try.prog 30 #[.slice a 0 cap] w fun e w' => e = .returned (MV (sizeN 65536)) ∧ Below w.heap.size w w' := by
  go_enter Try.func30, Try.ntmps30
  have hbk : Below w.heap.size w (w.alloc (.cells #[.int .i64 0, .int .i64 0, .int .i64 0, .int .i64 0, .int .i64 0, .int .i64 0, .int .i64 0, .int .i64 0, .int .i64 0, .int .i64 0, .int .i64 0, .int .i64 0] 31)) := below_n1 _ _
  have ho : Bk w.heap.size 12 (fun _ => 0) (w.alloc (.cells #[.int .i64 0, .int .i64 0, .int .i64 0, .int .i64 0, .int .i64 0, .int .i64 0, .int .i64 0, .int .i64 0, .int .i64 0, .int .i64 0, .int .i64 0, .int .i64 0] 31)) := new12 _ _ (by simp) (fun _ => 0) _
  go_wp2_with (first | (go_at_call 29; refine (same_any _).mono ?_; rintro e w9 ⟨rfl, hbn⟩; have hbm := hbn; replace hbk := hbk.trans (hbm.mono hbk.size); replace ho := ho.on hbm; obtain ⟨-, -, of⟩ := id ho; obtain ⟨o0, o1, o2, o3, o4, o5, o6, o7, o8, o9, o10, o11⟩ := ho.c12))
  have hs : Bk w9.heap.size 12 (sizeN 65536) (w9.alloc (.cells #[.int .i64 (sizeN 65536 0), .int .i64 (sizeN 65536 1), .int .i64 (sizeN 65536 2), .int .i64 (sizeN 65536 3), .int .i64 (sizeN 65536 4), .int .i64 (sizeN 65536 5), .int .i64 (sizeN 65536 6), .int .i64 (sizeN 65536 7), .int .i64 (sizeN 65536 8), .int .i64 (sizeN 65536 9), .int .i64 (sizeN 65536 10), .int .i64 (sizeN 65536 11)] 31)) := new12 _ _ rfl (sizeN 65536) _
  replace ho : Bk w.heap.size 12 (fun _ => 0) (w9.alloc (.cells #[.int .i64 (sizeN 65536 0), .int .i64 (sizeN 65536 1), .int .i64 (sizeN 65536 2), .int .i64 (sizeN 65536 3), .int .i64 (sizeN 65536 4), .int .i64 (sizeN 65536 5), .int .i64 (sizeN 65536 6), .int .i64 (sizeN 65536 7), .int .i64 (sizeN 65536 8), .int .i64 (sizeN 65536 9), .int .i64 (sizeN 65536 10), .int .i64 (sizeN 65536 11)] 31)) := ho.on (below_n1 _ _)
  replace hbk : Below w.heap.size w (w9.alloc (.cells #[.int .i64 (sizeN 65536 0), .int .i64 (sizeN 65536 1), .int .i64 (sizeN 65536 2), .int .i64 (sizeN 65536 3), .int .i64 (sizeN 65536 4), .int .i64 (sizeN 65536 5), .int .i64 (sizeN 65536 6), .int .i64 (sizeN 65536 7), .int .i64 (sizeN 65536 8), .int .i64 (sizeN 65536 9), .int .i64 (sizeN 65536 10), .int .i64 (sizeN 65536 11)] 31)) := hbk.alloc hbk.size _
  obtain ⟨wr, hwr⟩ : ∃ wr, wr = (w9.alloc (.cells #[.int .i64 (sizeN 65536 0), .int .i64 (sizeN 65536 1), .int .i64 (sizeN 65536 2), .int .i64 (sizeN 65536 3), .int .i64 (sizeN 65536 4), .int .i64 (sizeN 65536 5), .int .i64 (sizeN 65536 6), .int .i64 (sizeN 65536 7), .int .i64 (sizeN 65536 8), .int .i64 (sizeN 65536 9), .int .i64 (sizeN 65536 10), .int .i64 (sizeN 65536 11)] 31)) := ⟨_, rfl⟩
  rw [← hwr] at hs ho hbk ⊢
  clear hwr of o0 o1 o2 o3 o4 o5 o6 o7 o8 o9 o10 o11
  obtain ⟨-, -, of⟩ := id ho
  obtain ⟨o0, o1, o2, o3, o4, o5, o6, o7, o8, o9, o10, o11⟩ := ho.c12
  obtain ⟨s0, s1, s2, s3, s4, s5, s6, s7, s8, s9, s10, s11⟩ := hs.c12
  refine wp_loop_rounds 1 ?_
  rw [rounds_succ]
  go_wp2
  have hz : Bk w.heap.size 12 (sizeN 65536) ((((((((((((wr.setCell ⟨w.heap.size, 0, none⟩ (.int .i64 (sizeN 65536 0))).setCell ⟨w.heap.size, 1, none⟩ (.int .i64 (sizeN 65536 1))).setCell ⟨w.heap.size, 2, none⟩ (.int .i64 (sizeN 65536 2))).setCell ⟨w.heap.size, 3, none⟩ (.int .i64 (sizeN 65536 3))).setCell ⟨w.heap.size, 4, none⟩ (.int .i64 (sizeN 65536 4))).setCell ⟨w.heap.size, 5, none⟩ (.int .i64 (sizeN 65536 5))).setCell ⟨w.heap.size, 6, none⟩ (.int .i64 (sizeN 65536 6))).setCell ⟨w.heap.size, 7, none⟩ (.int .i64 (sizeN 65536 7))).setCell ⟨w.heap.size, 8, none⟩ (.int .i64 (sizeN 65536 8))).setCell ⟨w.heap.size, 9, none⟩ (.int .i64 (sizeN 65536 9))).setCell ⟨w.heap.size, 10, none⟩ (.int .i64 (sizeN 65536 10))).setCell ⟨w.heap.size, 11, none⟩ (.int .i64 (sizeN 65536 11))) := ho.put12 (sizeN 65536)
  have hbz : Below w.heap.size w ((((((((((((wr.setCell ⟨w.heap.size, 0, none⟩ (.int .i64 (sizeN 65536 0))).setCell ⟨w.heap.size, 1, none⟩ (.int .i64 (sizeN 65536 1))).setCell ⟨w.heap.size, 2, none⟩ (.int .i64 (sizeN 65536 2))).setCell ⟨w.heap.size, 3, none⟩ (.int .i64 (sizeN 65536 3))).setCell ⟨w.heap.size, 4, none⟩ (.int .i64 (sizeN 65536 4))).setCell ⟨w.heap.size, 5, none⟩ (.int .i64 (sizeN 65536 5))).setCell ⟨w.heap.size, 6, none⟩ (.int .i64 (sizeN 65536 6))).setCell ⟨w.heap.size, 7, none⟩ (.int .i64 (sizeN 65536 7))).setCell ⟨w.heap.size, 8, none⟩ (.int .i64 (sizeN 65536 8))).setCell ⟨w.heap.size, 9, none⟩ (.int .i64 (sizeN 65536 9))).setCell ⟨w.heap.size, 10, none⟩ (.int .i64 (sizeN 65536 10))).setCell ⟨w.heap.size, 11, none⟩ (.int .i64 (sizeN 65536 11))) := below_set12 hbk (by omega) _ _ _ _ _ _ _ _ _ _ _ _
  obtain ⟨wz, hwz⟩ : ∃ wz, wz = ((((((((((((wr.setCell ⟨w.heap.size, 0, none⟩ (.int .i64 (sizeN 65536 0))).setCell ⟨w.heap.size, 1, none⟩ (.int .i64 (sizeN 65536 1))).setCell ⟨w.heap.size, 2, none⟩ (.int .i64 (sizeN 65536 2))).setCell ⟨w.heap.size, 3, none⟩ (.int .i64 (sizeN 65536 3))).setCell ⟨w.heap.size, 4, none⟩ (.int .i64 (sizeN 65536 4))).setCell ⟨w.heap.size, 5, none⟩ (.int .i64 (sizeN 65536 5))).setCell ⟨w.heap.size, 6, none⟩ (.int .i64 (sizeN 65536 6))).setCell ⟨w.heap.size, 7, none⟩ (.int .i64 (sizeN 65536 7))).setCell ⟨w.heap.size, 8, none⟩ (.int .i64 (sizeN 65536 8))).setCell ⟨w.heap.size, 9, none⟩ (.int .i64 (sizeN 65536 9))).setCell ⟨w.heap.size, 10, none⟩ (.int .i64 (sizeN 65536 10))).setCell ⟨w.heap.size, 11, none⟩ (.int .i64 (sizeN 65536 11))) := ⟨_, rfl⟩
  rw [← hwz] at hz hbz ⊢
  obtain ⟨z0, z1, z2, z3, z4, z5, z6, z7, z8, z9, z10, z11⟩ := hz.c12
  clear hwz
  go_wp2
  exact bodyPost_ret (v := MV (sizeN 65536)) (by simp [results, Try.results30, go_sem, z0, z1, z2, z3, z4, z5, z6, z7, z8, z9, z10, z11]) rfl ⟨rfl, hbz⟩


end Go.Proofs.Ytohnjhnfhmfiiaa.Ve
