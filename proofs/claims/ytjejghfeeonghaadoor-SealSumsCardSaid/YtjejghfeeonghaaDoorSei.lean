/- Layer 22: the document's example is met by the program. -/
import Derived.Test.YtjejghfeeonghaaDoorSeg
import Derived.Test.YtjejghfeeonghaaDoorSeh
import Derived.Lib.SlBytesConst
namespace Go.Proofs.YtjejghfeeonghaaDoor.Se
open Go Go.RowKit Go.Proofs.YtjejghfeeonghaaDoor Go.Proofs.YtjejghfeeonghaaDoor.Au Go.Proofs.YtjejghfeeonghaaDoor.Re
set_option linter.unusedVariables false
set_option linter.unusedSimpArgs false

def abcB : List UInt8 := [186, 120, 22, 191, 143, 1, 207, 234, 65, 65, 64, 222, 93, 174, 34, 35, 176, 3, 97, 163, 150, 23, 122, 156, 180, 16, 255, 97, 242, 0, 21, 173]

theorem abc_vals : nums .u8 (sha [97, 98, 99]) = vals abcB := by rw [sha_abc]; rfl

theorem abc_hex : hexL abcB = [98, 97, 55, 56, 49, 54, 98, 102, 56, 102, 48, 49, 99, 102, 101, 97, 52, 49, 52, 49, 52, 48, 100, 101, 53, 100, 97, 101, 50, 50, 50, 51, 98, 48, 48, 51, 54, 49, 97, 51, 57, 54, 49, 55, 55, 97, 57, 99, 98, 52, 49, 48, 102, 102, 54, 49, 102, 50, 48, 48, 49, 53, 97, 100] := by decide +kernel

/-- one part, in a block of its own -/
theorem parts_one {w : World} {b g : Nat} {x : Value} {l : List UInt8} {T : TypeId} (hb : w.heap[b]? = some (.cells #[x] T (0, 0))) (hg : b ≠ g) (hx : BsC w x l) (hne : ∀ ad n c, x = .slice (some ad) n c → l ≠ [] → ad.block ≠ g) : Parts w g (.slice (some ⟨b, 0, none⟩) 1 1) [l] :=
  .inr ⟨b, 0, 1, rfl, hg, fun j l' hj => by
    match j, hj with
    | 0, hj =>
      simp at hj
      subst hj
      exact ⟨x, cell_of_row _ _ 0 _ _ _ hb, hx, hne⟩
    | j + 1, hj => simp at hj⟩

theorem bsc_row {w : World} {b : Nat} {l : List UInt8} {T : TypeId} {n : Nat} {fr : Nat × Nat} (hn : n = l.length) (h : w.heap[b]? = some (.cells (vals l).toArray T fr)) : BsC w (.slice (some ⟨b, 0, none⟩) n n) l :=
  .inr ⟨⟨b, 0, none⟩, n, by rw [hn], by omega, fun j u hu => by
    rw [add_at, Nat.zero_add]
    simp [World.cell?, h, hu]⟩

theorem slice_all (q : Nat) (W : World) : (Instr.sliceAt 70 (.pointer (some ⟨q, 0, none⟩)) none none none).run Tryd.prog W = .ok (.slice (some ⟨q, 0, none⟩) 32 32) W := by
  have hu : Tryd.prog.underlying 70 = some (.array (Tryd.prog.arrayLen 70) (Tryd.prog.elem 70)) := by kernel_rfl
  have hl : Tryd.prog.arrayLen 70 = 32 := by kernel_rfl
  have he : Tryd.prog.elem 70 = Tryd.prog.elem 146 := by kernel_rfl
  rw [run_sliceAt_array_all W 70 ⟨q, 0, none⟩ hu, he, size_u8, hl]
  rfl

set_option maxHeartbeats 4000000 in
set_option maxRecDepth 100000 in
theorem awake_any (w : World) (hT : Tabs w) : Calls Tryd.prog 30 #[] w fun e' w' => e' = .returned (.bool true) ∧ Below w.heap.size w w' := by
  have HT := Lib.hid hT
  clear hT
  go_enter Tryd.func30, Tryd.ntmps30
  have kc := fun (w : World) (C : Array Value) (n c : Nat) => Lib.run_convert_bytes_const (P := Tryd.prog) w 56 5 C n c Tryd.underlying56 Tryd.underlying5
  have hR := Au.rows2 w (.cells #[.int .u8 97, .int .u8 98, .int .u8 99] 5 (3, 4)) (.cells #[.slice (some ⟨w.heap.size, 0, none⟩) 3 3] 56)
  have HUx := Ve.below_n2 w (.cells #[.int .u8 97, .int .u8 98, .int .u8 99] 5 (3, 4)) (.cells #[.slice (some ⟨w.heap.size, 0, none⟩) 3 3] 56)
  obtain ⟨y0, hy0⟩ : ∃ y, (w.alloc (.cells #[.int .u8 97, .int .u8 98, .int .u8 99] 5 (3, 4))).alloc (.cells #[.slice (some ⟨w.heap.size, 0, none⟩) 3 3] 56) = y := ⟨_, rfl⟩
  have HY := Lib.hid hy0
  rw [hy0] at hR HUx
  have HU0 := Lib.hid HUx
  have HR := Lib.hid hR
  have HSZ0 := Lib.hid (show y0.heap.size = w.heap.size + 2 by rw [← hy0]; simp)
  clear hR HUx hy0
  go_wp2_with fail
  rw [HY.out]
  refine (of_any (.slice (some ⟨w.heap.size + 1, 0, none⟩) 1 1) [[97, 98, 99]] y0 (fun w' g hb hg => ?_) (by decide) (HT.out.on HU0.out) (by decide)).mono ?_
  · have h1 := (hb.block _ (lt_heap HR.out.1)).trans HR.out.1
    have h2 := (hb.block _ (lt_heap HR.out.2)).trans HR.out.2
    have := HSZ0.out
    exact parts_one h2 (by omega) (bsc_row (l := [97, 98, 99]) rfl h1) (fun ad n c e _ => by cases e; show w.heap.size ≠ g; omega)
  rintro e y1 ⟨rfl, hb1⟩
  rw [show ([[97, 98, 99]] : List (List UInt8)).flatten = [97, 98, 99] from rfl, abc_vals]
  obtain ⟨D, hD⟩ : ∃ D, D = (vals abcB).toArray := ⟨_, rfl⟩
  have hDs : D.size = 32 := by rw [hD]; rfl
  rw [← hD]
  have HD := Lib.hid hD
  have HSZ := Lib.hid (show (Tryd.prog.info? 70).map (·.size) = some D.size by rw [hDs]; kernel_rfl)
  have HZZ := Lib.hid (show Y32.size = D.size by rw [hDs]; rfl)
  have HOO := Lib.hid (show D.all (·.oneCell') = true by rw [hD]; exact all_oneCell_toArray (vals_one _))
  have HAL := Lib.hid (heap_alloc_last y1 (.cells Y32 70))
  have HU1 := Lib.hid (HU0.out.trans (hb1.mono HU0.out.size))
  clear hD hDs hb1
  go_upto_region 2 with (refine Au.wpList_store_row rfl 70 (.tmp 1) (.tmp 5) rfl (y1.alloc (.cells Y32 70)) Y32 D y1.heap.size 70 HAL.out rfl rfl HSZ.out HZZ.out HOO.out ?_)
  have hN := setRow_heap _ (y1.heap.size) _ D _ _ HAL.out
  have HUy := below_setRow (g := y1.heap.size) (HU1.out.trans ((Ve.below_n1 y1 (.cells Y32 70)).mono HU1.out.size)) HU1.out.size D
  obtain ⟨y2, hy2⟩ : ∃ y, (y1.alloc (.cells Y32 70)).setRow y1.heap.size D = y := ⟨_, rfl⟩
  obtain ⟨q, hq⟩ : ∃ q, q = y1.heap.size := ⟨_, rfl⟩
  rw [hy2] at hN HUy ⊢
  rw [← hq] at hN ⊢
  rw [HD.out] at hN
  have HN := Lib.hid hN
  have HU2 := Lib.hid HUy
  clear hy2 hq hN HUy HAL HSZ HZZ HOO
  have hsl : ∀ W, (Instr.sliceAt 70 (.pointer (some ⟨q, 0, none⟩)) none none none).run Tryd.prog W = .ok (.slice (some ⟨q, 0, none⟩) 32 32) W := fun W => slice_all q W
  go_wp2_with fail
  refine (hex_go ⟨q, 0, none⟩ 32 abcB 32 y2 rfl (by omega) (fun j u hu => by rw [add_at, Nat.zero_add]; simp [World.cell?, HN.out, hu])).mono ?_
  rintro e y3 ⟨rfl, hb3⟩
  rw [abc_hex]
  go_wp2
  go_ret
  exact ⟨rfl, HU2.out.trans (hb3.mono HU2.out.size)⟩
end Go.Proofs.YtjejghfeeonghaaDoor.Se
