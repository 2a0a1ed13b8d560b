/- Layer 7: values that came in; whether they aren't too many. -/
import Derived.Test.YtgabpmoibmhigaaRit
import Derived.Test.YtgabpmoibmhigaaRsn
namespace Go.Proofs.Ytgabpmoibmhigaa.Re
open Go.RowKit Go.Proofs.Ytgabpmoibmhigaa Go.Proofs.Ytgabpmoibmhigaa.Rp
set_option linter.unusedVariables false

/-- a slice of values: their cells, and their bytes, lie in memory -/
def Items (w : World) (a : Option Addr) (L : Nat → It) (len : Nat) : Prop :=
  len = 0 ∨ ∃ b off, a = some ⟨b, off, none⟩ ∧ b < w.heap.size ∧ ∀ k, k < len → ItOk (L k) ∧ w.rangeAt b (off + k * 39) (L k).cells ∧ Bs w (.slice (L k).a (L k).plen (L k).pcap) (L k).p

theorem bs_block_lt {w : World} {a : Option Addr} {n c : Nat} {p : List UInt8} (h : Bs w (.slice a n c) p) {ad : Addr} (ha : a = some ad) (hp : p ≠ []) : ad.block < w.heap.size := by
  rcases h with ⟨h, rfl⟩ | ⟨ad', cap, h, hc⟩
  · exact absurd rfl hp
  · cases h
    cases ha
    match p, hp with
    | b0 :: r, _ =>
      have := hc 0 (.int .u8 (b0.toNat : Int)) (by simp [vals])
      have := World.block_lt_of_cell? w _ this
      rwa [ad_block] at this

theorem Items.on {w w' : World} {a : Option Addr} {L : Nat → It} {len : Nat} (h : Items w a L len) (hb : Below w.heap.size w w') : Items w' a L len := by
  rcases h with h | ⟨b, off, rfl, hlt, hk⟩
  · exact .inl h
  · exact .inr ⟨b, off, rfl, Nat.lt_of_lt_of_le hlt hb.size, fun k hkl => by
      obtain ⟨h1, h2, h3⟩ := hk k hkl
      exact ⟨h1, fun j v hv => (hb.cell (p := ⟨b, off + k * 39 + j, none⟩) hlt).trans (h2 j v hv), h3.on hb⟩⟩
theorem Items.at {w : World} {a : Option Addr} {L : Nat → It} {len k : Nat} (h : Items w a L len) (hk : k < len) : ∃ b off, a = some ⟨b, off, none⟩ ∧ b < w.heap.size ∧ ItOk (L k) ∧ w.rangeAt b (off + k * 39) (L k).cells ∧ Bs w (.slice (L k).a (L k).plen (L k).pcap) (L k).p := by
  rcases h with h | ⟨b, off, rfl, hlt, hkk⟩
  · omega
  · obtain ⟨h1, h2, h3⟩ := hkk k hk
    exact ⟨b, off, rfl, hlt, h1, h2, h3⟩

theorem size_item {x : It} (h : ItOk x) : (Try.prog.info? 33).map (·.size) = some x.cells.length := by rw [It.cells_length h]; kernel_rfl
theorem size_item2 {x : It} (h : ItOk x) : (Try.prog.info? 33).map (·.size) = some x.cells.toArray.size := by rw [List.size_toArray, It.cells_length h]; kernel_rfl
theorem It.one (x : It) : ∀ v ∈ x.cells, v.oneCell' = true := by
  intro v hv
  simp only [It.cells, List.mem_cons, List.mem_append, List.not_mem_nil, or_false] at hv
  rcases hv with rfl | rfl | rfl | rfl | rfl | hv | rfl | rfl
  · rfl
  · rfl
  · rfl
  · rfl
  · rfl
  · exact vals_one _ _ hv
  · rfl
  · rfl
theorem It.all (x : It) : x.cells.toArray.all (·.oneCell') = true := all_oneCell_toArray x.one

abbrev Z39 : Array Value := #[.int .i64 0, .int .i64 0, .int .i64 0, .int .i64 0, .int .i64 0, .int .u8 0, .int .u8 0, .int .u8 0, .int .u8 0, .int .u8 0, .int .u8 0, .int .u8 0, .int .u8 0, .int .u8 0, .int .u8 0, .int .u8 0, .int .u8 0, .int .u8 0, .int .u8 0, .int .u8 0, .int .u8 0, .int .u8 0, .int .u8 0, .int .u8 0, .int .u8 0, .int .u8 0, .int .u8 0, .int .u8 0, .int .u8 0, .int .u8 0, .int .u8 0, .int .u8 0, .int .u8 0, .int .u8 0, .int .u8 0, .int .u8 0, .int .u8 0, .slice none 0 0, .int .i64 0]

theorem cells_size {x : It} (h : ItOk x) : x.cells.toArray.size = 39 := by rw [List.size_toArray, It.cells_length h]
theorem z39_size {x : It} (h : ItOk x) : Z39.size = x.cells.toArray.size := (rfl : Z39.size = 39).trans (cells_size h).symm

set_option maxHeartbeats 2000000 in
set_option maxRecDepth 100000 in
theorem fits_any (a : Option Addr) (len cap : Nat) (L : Nat → It) (w : World) (hI : Items w a L len) (hl : len ≤ 140737488355328) :
    Calls Try.prog 7 #[.slice a len cap] w fun e w' => (∃ r, e = .returned (.bool r) ∧ (r = true → len ≤ 60 ∧ ∀ k, k < len → (L k).plen ≤ 3000)) ∧ Below w.heap.size w w' := by
  have HI := Lib.hid hI
  clear hI
  go_enter Try.func7, Try.ntmps7
  go_wp2_with fail
  go_loopw [7] (fun i wr => ∃ k : Nat, k ≤ len ∧ i = .int .i64 k ∧ Hid (∀ j, j < k → (L j).plen ≤ 3000) ∧ Below w.heap.size w wr) (fun i _ => len - (intOf i).toNat)
  case atStart => exact ⟨0, Nat.zero_le _, rfl, Lib.hid (fun j hj => by omega), Below.refl _ _⟩
  case round =>
    obtain ⟨k, hk, rfl, HK, hbk⟩ := hrel
    by_cases hlt : k < len
    · have hlt' : (k : Int) < len := by omega
      obtain ⟨b, off, rfl, hblt, hok, hra, hbs⟩ := (HI.out.on hbk).at hlt
      obtain ⟨x, hx⟩ : ∃ x, x = L k := ⟨_, rfl⟩
      rw [← hx] at hok hra hbs
      obtain ⟨cs, hcs⟩ : ∃ cs, cs = x.cells := ⟨_, rfl⟩
      have HSZ := Lib.hid (size_item hok)
      have HSZ2 := Lib.hid (size_item2 hok)
      have HAL := Lib.hid x.all
      have HF := Lib.hid (box_facts (w := wr.alloc (.cells x.cells.toArray 33)) hok (heap_alloc_last wr _))
      have HZ := Lib.hid (z39_size hok)
      rw [← hcs] at hra HSZ HSZ2 HAL HF HZ
      have HR := Lib.hid hra
      have HX := Lib.hid hx
      clear hra hbs hcs hx
      have hsz := hbk.size
      obtain ⟨c0, c1, c2, c3, c4, c37, c38⟩ := HF.out.1
      have hA2 : Below w.heap.size w (wr.alloc (.cells cs.toArray 33)) := hbk.alloc hsz _
      by_cases hbig : 3000 < x.plen
      · have hbig' : (3000 : Int) < x.plen := by omega
        go_wp2_with (first | (with_reducible refine wpList_load_mid rfl 33 (.tmp 9) rfl b (off + k * 39) rfl cs _ HR.out Try.underlying33 rfl HSZ.out ?_) | (with_reducible refine wpList_store_new rfl 33 (.tmp 4) (.tmp 10) rfl wr Z39 cs.toArray wr.heap.size rfl rfl rfl HSZ2.out HZ.out HAL.out ?_))
        go_ret
        exact ⟨⟨false, rfl, fun h => by cases h⟩, hA2⟩
      · have hbig' : ¬ (3000 : Int) < x.plen := by omega
        go_wp2_with (first | (with_reducible refine wpList_load_mid rfl 33 (.tmp 9) rfl b (off + k * 39) rfl cs _ HR.out Try.underlying33 rfl HSZ.out ?_) | (with_reducible refine wpList_store_new rfl 33 (.tmp 4) (.tmp 10) rfl wr Z39 cs.toArray wr.heap.size rfl rfl rfl HSZ2.out HZ.out HAL.out ?_))
        go_roundw
        case rel => exact ⟨k + 1, by omega, by go_num, Lib.hid (fun j hj => by
          rcases Nat.lt_or_ge j k with h | h
          · exact HK.out j h
          · obtain rfl : j = k := by omega
            rw [← HX.out]; omega), hA2⟩
        case measure => simp [intOf]; omega
    · obtain rfl : k = len := by omega
      go_wp2
      go_ret
      exact ⟨⟨decide ((k : Int) ≤ 60), rfl, fun h => ⟨by have := of_decide_eq_true h; omega, HK.out⟩⟩, hbk⟩
end Go.Proofs.Ytgabpmoibmhigaa.Re
