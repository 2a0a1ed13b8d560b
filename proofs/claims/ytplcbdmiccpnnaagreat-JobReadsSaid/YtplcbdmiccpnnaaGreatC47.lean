/- Jobs: what both Parses answer, in one form. -/
import Derived.Test.YtplcbdmiccpnnaaGreatC46
import Derived.Test.YtplcbdmiccpnnaaGreatC44
namespace Go.Proofs.YtplcbdmiccpnnaaGreat.Jd
open Go Go.RowKit Go.Proofs.YtplcbdmiccpnnaaGreat Go.Proofs.YtplcbdmiccpnnaaGreat.Rp Go.Proofs.YtplcbdmiccpnnaaGreat.Re Go.Proofs.YtplcbdmiccpnnaaGreat.Au Go.Proofs.YtplcbdmiccpnnaaGreat.Sc Go.Proofs.YtplcbdmiccpnnaaGreat.Tk Go.Proofs.YtplcbdmiccpnnaaGreat.Jb
set_option linter.unusedVariables false
set_option linter.unusedSimpArgs false

set_option maxHeartbeats 8000000 in
set_option maxRecDepth 100000 in
theorem dparse_more (a : Option Addr) (n c : Nat) (w : World) (h : 65536 < n) : Calls Tryz.prog 5 #[.slice a n c] w fun e' w' => e' = .returned (.tuple #[.agg zeroC, .int .i64 8]) ∧ Below w.heap.size w w' := by
  have d := decide_eq_true (show (65536 : Int) < (n : Int) by omega)
  go_enter Tryz.func5, Tryz.ntmps5
  go_upto_region 1 with fail
  have hR := Au.rows1 w (.cells #[.int .i64 0, .int .i64 0, .int .i64 0, .int .i64 0, .int .i64 0, .int .i64 0, .int .u64 0, .int .i64 0, .int .i64 0, .int .i64 0, .int .i64 0, .int .i64 0, .int .i64 0, .slice none 0 0, .slice none 0 0, .slice none 0 0, .slice none 0 0] 49)
  have HUx := below_n1 w (.cells #[.int .i64 0, .int .i64 0, .int .i64 0, .int .i64 0, .int .i64 0, .int .i64 0, .int .u64 0, .int .i64 0, .int .i64 0, .int .i64 0, .int .i64 0, .int .i64 0, .int .i64 0, .slice none 0 0, .slice none 0 0, .slice none 0 0, .slice none 0 0] 49)
  obtain ⟨y0, hy0⟩ : ∃ y0, w.alloc (.cells #[.int .i64 0, .int .i64 0, .int .i64 0, .int .i64 0, .int .i64 0, .int .i64 0, .int .u64 0, .int .i64 0, .int .i64 0, .int .i64 0, .int .i64 0, .int .i64 0, .int .i64 0, .slice none 0 0, .slice none 0 0, .slice none 0 0, .slice none 0 0] 49) = y0 := ⟨_, rfl⟩
  rw [hy0] at hR HUx ⊢
  clear hy0
  have HU0 := Lib.hid HUx
  clear HUx
  have hr0_0 := hR
  clear hR
  go_upto_region 2 with fail
  have hHr := Lib.hid hr0_0
  have hHi := Lib.hid (show (Tryz.prog.info? 49).map (·.size) = some (#[.int .i64 0, .int .i64 0, .int .i64 0, .int .i64 0, .int .i64 0, .int .i64 0, .int .u64 0, .int .i64 0, .int .i64 0, .int .i64 0, .int .i64 0, .int .i64 0, .int .i64 0, .slice none 0 0, .slice none 0 0, .slice none 0 0, .slice none 0 0] : Array Value).size by kernel_rfl)
  have hHz := Lib.hid (show (#[.int .i64 0, .int .i64 0, .int .i64 0, .int .i64 0, .int .i64 0, .int .i64 0, .int .u64 0, .int .i64 0, .int .i64 0, .int .i64 0, .int .i64 0, .int .i64 0, .int .i64 0, .slice none 0 0, .slice none 0 0, .slice none 0 0, .slice none 0 0] : Array Value).size = (#[.int .i64 0, .int .i64 0, .int .i64 0, .int .i64 0, .int .i64 0, .int .i64 0, .int .u64 0, .int .i64 0, .int .i64 0, .int .i64 0, .int .i64 0, .int .i64 0, .int .i64 0, .slice none 0 0, .slice none 0 0, .slice none 0 0, .slice none 0 0] : Array Value).size from rfl)
  have hHo := Lib.hid (show (#[.int .i64 0, .int .i64 0, .int .i64 0, .int .i64 0, .int .i64 0, .int .i64 0, .int .u64 0, .int .i64 0, .int .i64 0, .int .i64 0, .int .i64 0, .int .i64 0, .int .i64 0, .slice none 0 0, .slice none 0 0, .slice none 0 0, .slice none 0 0] : Array Value).all (·.oneCell') = true by simp [Value.oneCell'])
  go_wp2_with (first | (refine Au.wpList_store_row rfl 49 (.tmp 2) (.tmp 28) rfl y0 #[.int .i64 0, .int .i64 0, .int .i64 0, .int .i64 0, .int .i64 0, .int .i64 0, .int .u64 0, .int .i64 0, .int .i64 0, .int .i64 0, .int .i64 0, .int .i64 0, .int .i64 0, .slice none 0 0, .slice none 0 0, .slice none 0 0, .slice none 0 0] #[.int .i64 0, .int .i64 0, .int .i64 0, .int .i64 0, .int .i64 0, .int .i64 0, .int .u64 0, .int .i64 0, .int .i64 0, .int .i64 0, .int .i64 0, .int .i64 0, .int .i64 0, .slice none 0 0, .slice none 0 0, .slice none 0 0, .slice none 0 0] (w.heap.size) 49 hHr.out rfl rfl hHi.out hHz.out hHo.out ?_))
  clear hHr hHi hHz hHo
  have hN := setRow_heap _ (w.heap.size) _ #[.int .i64 0, .int .i64 0, .int .i64 0, .int .i64 0, .int .i64 0, .int .i64 0, .int .u64 0, .int .i64 0, .int .i64 0, .int .i64 0, .int .i64 0, .int .i64 0, .int .i64 0, .slice none 0 0, .slice none 0 0, .slice none 0 0, .slice none 0 0] _ _ hr0_0
  have hsz := HU0.out.size
  have HUx := below_setRow (g := w.heap.size) HU0.out (by first | omega | (simp at *; omega)) #[.int .i64 0, .int .i64 0, .int .i64 0, .int .i64 0, .int .i64 0, .int .i64 0, .int .u64 0, .int .i64 0, .int .i64 0, .int .i64 0, .int .i64 0, .int .i64 0, .int .i64 0, .slice none 0 0, .slice none 0 0, .slice none 0 0, .slice none 0 0]
  have hO : ∀ kk, kk ≠ w.heap.size → (y0.setRow (w.heap.size) #[.int .i64 0, .int .i64 0, .int .i64 0, .int .i64 0, .int .i64 0, .int .i64 0, .int .u64 0, .int .i64 0, .int .i64 0, .int .i64 0, .int .i64 0, .int .i64 0, .int .i64 0, .slice none 0 0, .slice none 0 0, .slice none 0 0, .slice none 0 0]).heap[kk]? = y0.heap[kk]? := fun kk hk => setRow_other _ _ _ _ hk
  obtain ⟨y1, hy1⟩ : ∃ y, y0.setRow (w.heap.size) #[.int .i64 0, .int .i64 0, .int .i64 0, .int .i64 0, .int .i64 0, .int .i64 0, .int .u64 0, .int .i64 0, .int .i64 0, .int .i64 0, .int .i64 0, .int .i64 0, .int .i64 0, .slice none 0 0, .slice none 0 0, .slice none 0 0, .slice none 0 0] = y := ⟨_, rfl⟩
  rw [hy1] at hN HUx hO ⊢
  clear hy1 hsz
  have HU1 := Lib.hid HUx
  clear HUx
  have hr1_0 := hN
  clear hN hO
  clear hr0_0 HU0
  go_wp2
  exact bodyPost_ret (v := .tuple #[.agg zeroC, .int .i64 8]) (results_row2 (t := 49) Tryz.results5 rfl rfl hr1_0 Tryz.underlying49 rfl dinfo_scene) rfl ⟨rfl, HU1.out⟩

def zscn : Scn := { w := 0, h := 0, sm := 0, dp := 0, fr := 0, sh := 0, sd := 0, r := 0, g := 0, b := 0, ey := 0, lk := 0, wd := 0, np := 0, P := fun _ => 0, nt := 0, way := fun _ => 0, kn := fun _ => 0, K := fun _ _ => 0, nj := 0, J := fun _ => 0, ns := 0, S := fun _ => 0 }
def noPla : Pla := ⟨none, 0, none, 0, none, 0, none, 0⟩

theorem zero_at (w : World) : ScAt w zscn noPla :=
  ⟨⟨by show 0 * (5 * 8) ≤ 140737488351232; omega, .inl rfl⟩, ⟨by show 0 * 32 ≤ 140737488351232; omega, .inl rfl⟩, ⟨by show 0 * (4 * 8) ≤ 140737488351232; omega, .inl rfl⟩, ⟨by show 0 * (13 * 8) ≤ 140737488351232; omega, .inl rfl⟩, by show (0 : Nat) < 18446744073709551616; omega⟩

/-- the scene that some bytes are; one of nothing, if they are none -/
def parQ (l : List UInt8) : Scn := if parE l = 0 then parScn (l, 0) else zscn

theorem jp (l : List UInt8) (a : Option Addr) (n c : Nat) (w : World) (hv : Bs w (.slice a n c) l) (hn : l.length = n) :
    Calls Tryz.prog 4 #[.slice a n c] w fun e w' => (∃ p, e = .returned (.tuple #[SV (parQ l) p, .int .i64 (parE l)]) ∧ ∀ w2 : World, (∀ k, w.heap.size ≤ k → k < w'.heap.size → w2.heap[k]? = w'.heap[k]?) → ScAt w2 (parQ l) p) ∧ Below w.heap.size w w' :=
  (jparse_far l a n c w hv hn).mono fun e w' ⟨h1, h2⟩ => ⟨by
    unfold parQ
    rcases h1 with ⟨h0, he⟩ | ⟨h0, -, p, he, hs⟩
    · rw [if_neg h0]
      exact ⟨noPla, he, fun w2 _ => zero_at w2⟩
    · rw [if_pos h0, h0]
      exact ⟨p, he, hs⟩, h2⟩

theorem dp (l : List UInt8) (a : Option Addr) (n c : Nat) (w : World) (hv : Bs w (.slice a n c) l) (hn : l.length = n) :
    Calls Tryz.prog 5 #[.slice a n c] w fun e w' => (∃ p, e = .returned (.tuple #[SV (parQ l) p, .int .i64 (parE l)]) ∧ ScAt w' (parQ l) p) ∧ Below w.heap.size w w' := by
  by_cases h : 65536 < n
  · have hE : parE l = 8 := by unfold parE; rw [if_pos (by omega)]
    refine (dparse_more a n c w h).mono fun e w' ⟨h1, h2⟩ => ⟨?_, h2⟩
    unfold parQ
    rw [hE, if_neg (by decide)]
    exact ⟨noPla, h1, zero_at w'⟩
  · refine (dparse_in l a n c w hv hn h (fun ad ha hne => ?_)).mono fun e w' ⟨h1, h2⟩ => ⟨?_, h2⟩
    · rcases hv with ⟨-, h0⟩ | ⟨ad', cap, hs, hb⟩
      · exact absurd h0 hne
      · injection hs with e1 e2 e3
        rw [ha] at e1
        injection e1 with e1
        subst e1
        obtain ⟨x, r, rfl⟩ := List.exists_cons_of_ne_nil hne
        have := World.block_lt_of_cell? _ _ (hb 0 (.int .u8 (x.toNat : Int)) (by simp [vals]))
        rw [ad_block] at this
        exact this
    · unfold parQ
      rcases h1 with ⟨h0, he⟩ | ⟨h0, p, he, hs⟩
      · rw [if_neg h0]
        exact ⟨noPla, he, zero_at w'⟩
      · rw [if_pos h0, h0]
        exact ⟨p, he, hs⟩

end Go.Proofs.YtplcbdmiccpnnaaGreat.Jd
