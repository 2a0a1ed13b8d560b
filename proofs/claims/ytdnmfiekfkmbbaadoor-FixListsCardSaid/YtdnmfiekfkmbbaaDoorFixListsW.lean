/- The walk of FixLists: the law returns true, whatever list of numbers comes in; nothing that was there is written. -/
import Derived.Test.YtdnmfiekfkmbbaaDoorWk
import Derived.Test.YtdnmfiekfkmbbaaDoorLs
namespace Go.Proofs.YtdnmfiekfkmbbaaDoor.fixListsW
open Go.RowKit Go.Proofs.YtdnmfiekfkmbbaaDoor Go.Proofs.YtdnmfiekfkmbbaaDoor.Wa Go.Proofs.YtdnmfiekfkmbbaaDoor.Ls

theorem infoFix : (Tryd.prog.info? 22).map (fun i => (i.zero, i.size, i.bytes)) = some (some (.int .i64 0), 1, 8) := by kernel_rfl

theorem sum_none (a : Option Addr) (cap : Nat) (w : World) : Calls Tryd.prog 21 #[.slice a 0 cap] w fun e w' => e = .returned (.int .i64 0) ∧ w = w' := by
  go_enter Tryd.func21, Tryd.ntmps21
  go_wp2
  refine wp_loop_rounds 1 ?_
  rw [rounds_succ]
  go_wp2
  go_ret
  exact ⟨rfl, rfl⟩

theorem sum_row (g : Nat) (n cap : Nat) (xs : List Int) (hn : n = xs.length) (hm : n ≤ 9223372036854775807) (w : World) (hc : ∀ j, j < n → w.cell? ⟨g, j, none⟩ = some (.int .i64 (xs.getD j 0))) :
    Calls Tryd.prog 21 #[.slice (some ⟨g, 0, none⟩) n cap] w fun e w' => e = .returned (.int .i64 (sumL xs)) ∧ w = w' := by
  have HN := Lib.hid hn
  have HC := Lib.hid hc
  clear hn hc
  go_enter Tryd.func21, Tryd.ntmps21
  go_wp2
  go_loop [3, 8] (fun s i => ∃ k : Nat, k ≤ n ∧ i = .int .i64 k ∧ s = .int .i64 (sumL (xs.take k))) (fun _ i => n - (intOf i).toNat)
  case atStart => exact ⟨0, Nat.zero_le _, rfl, rfl⟩
  case round =>
    obtain ⟨k, hk, rfl, rfl⟩ := hrel
    by_cases hlt : k < n
    · have hcell := HC.out k hlt
      have HS := Lib.hid (sumL_snoc xs k (by have := HN.out; omega))
      go_wp2_with (go_at_call 15; refine (add_any _ _ _).mono ?_; rintro e w1 ⟨rfl, rfl⟩)
      go_round
      case rel => exact ⟨k + 1, by omega, by go_num, by rw [HS.out]; rfl⟩
      case measure => simp [intOf]; omega
    · have HE := Lib.hid (show sumL (xs.take k) = sumL xs by rw [show k = xs.length by have := HN.out; omega]; exact sumL_all xs)
      go_wp2
      go_ret
      exact ⟨ret_int HE.out, rfl⟩

theorem sum_own {B : Nat} {v : Value} {xs : List Int} {w : World} (hm : xs.length ≤ 9223372036854775807) (h : w.ownsRow B 22 1 v xs.length (xs.map (Value.int .i64))) :
    Calls Tryd.prog 21 #[v] w fun e w' => e = .returned (.int .i64 (sumL xs)) ∧ w = w' := by
  rcases h.2 with ⟨rfl, hn⟩ | ⟨g, cap, cur, rfl, -, -, -, -, -, -⟩
  · obtain rfl : xs = [] := List.length_eq_zero_iff.1 hn
    exact sum_none none 0 w
  · refine sum_row g xs.length cap xs rfl hm w fun j hj => ?_
    rw [h.cellAt j (by omega)]
    simp [hj]

theorem walk_none (a : Option Addr) (cap : Nat) (w : World) : Calls Tryd.prog 4 #[.slice a 0 cap] w fun e w' => e = .returned (.bool true) ∧ Below w.heap.size w w' := by
  go_enter Tryd.func4, Tryd.ntmps4
  go_wp2
  refine wp_loop_rounds 1 ?_
  rw [rounds_succ]
  go_wp2_with (first | (go_at_call 11; refine (awake_any _).mono ?_; rintro e w1 ⟨rfl, hb1⟩) | (go_at_call 21; refine (sum_none _ _ _).mono ?_; rintro e w1 ⟨rfl, rfl⟩))
  go_ret
  exact ⟨rfl, hb1⟩

set_option maxHeartbeats 1000000 in
set_option maxRecDepth 100000 in
theorem walk (a : Option Addr) (len cap : Nat) (zs : List Int) (w : World) (hr : IsRow .i64 w a len zs) :
    Calls Tryd.prog 4 #[.slice a len cap] w fun e w' => e = .returned (.bool true) ∧ Below w.heap.size w w' := by
  rcases hr with rfl | ⟨b, off, rfl, hb, hz, hreach, hc⟩
  · exact walk_none a cap w
  · obtain ⟨i0, hi, hz0, hz1, hz2⟩ := info_parts infoFix
    have HC := Lib.hid hc
    clear hc
    go_enter Tryd.func4, Tryd.ntmps4
    go_wp2
    go_loopw [3, 4, 9] (fun v s i wr => ∃ k : Nat, k ≤ len ∧ i = .int .i64 k ∧ s = .int .i64 (sumL (zs.take k)) ∧ wr.ownsRow w.heap.size 22 1 v (zs.take k).length ((zs.take k).map (Value.int .i64)) ∧ Below w.heap.size w wr) (fun _ _ i _ => len - (intOf i).toNat)
    case atStart => exact ⟨0, Nat.zero_le _, rfl, rfl, World.ownsRow_nil _ _ _ _, Below.refl _ _⟩
    case round =>
      obtain ⟨k, hk, rfl, rfl, hown, hnx⟩ := hrel
      have hws := hnx.size
      have hll : (zs.take k).length = k := by rw [List.length_take]; omega
      by_cases hlt : k < len
      · have hcell : wr.cell? ⟨b, off + k, none⟩ = some (.int .i64 (zs.getD k 0)) := (hnx.cell (p := ⟨b, off + k, none⟩) hb).trans (HC.out k hlt)
        have HS := Lib.hid (sumL_snoc zs k (by omega))
        have HL := Lib.hid hll
        rw [hll] at hown
        clear hll
        go_wp2_with (first | (at_builtin; refine wpList_append_own _ rfl _ _ 33 rfl w.heap.size 22 i0 (.int .i64 0) 1 8 Tryd.underlying33 hi hz0 hz1 hz2 rfl (by decide) _ _ _ rfl (hown.alloc _) ⟨wr.heap.size, 0, none⟩ 1 1 [.int .i64 (zs.getD k 0)] rfl rfl ?c1 ?c2 ?c3 ?c4 ?c5 ?_))
        case c1 =>
          intro j u hj
          match j, hj with
          | 0, hj => simp at hj; subst hj; simp [Addr.add]
        case c2 => intro u hu; simp at hu; subst hu; rfl
        case c3 => unfold maxLen; omega
        case c4 => omega
        case c5 => simp; omega
        intro v' w1 hown' hgrow _
        have hnx2 : Below w.heap.size w w1 := (hnx.alloc (by omega) _).grown hgrow (by simp; omega) (fun k hk => (hown.lt k hk).1)
        clear hgrow hown hnx
        go_wp2_with (go_at_call 16; refine (refAdd_any _ _ _).mono ?_; rintro e w2 ⟨rfl, rfl⟩)
        go_roundw
        case rel =>
          refine ⟨k + 1, by omega, by go_num, by rw [HS.out]; rfl, ?_, hnx2⟩
          have e1 : (zs.take (k + 1)).length = k + 1 := by rw [List.length_take]; omega
          have e2 : (zs.take (k + 1)).map (Value.int .i64) = List.take k (zs.map (Value.int .i64)) ++ [.int .i64 (zs[k]?.getD 0)] := by
            rw [List.take_succ_eq_append_getElem (by omega), List.map_append, List.map_take]
            simp [show k < zs.length by omega]
          rw [e1, e2]
          exact hown'
        case measure => simp [intOf]; omega
      · have HK := Lib.hid hll
        clear hll
        go_wp2_with (go_at_call 11; refine (awake_any _).mono ?_; rintro e w1 ⟨rfl, hb1⟩)
        refine (sum_own (by rw [HK.out]; omega) (own_below hown hb1)).mono ?_
        rintro e w2 ⟨rfl, rfl⟩
        go_wp2_with (go_at_call 21; refine (sum_none _ _ _).mono ?_; rintro e w2 ⟨rfl, rfl⟩)
        go_ret
        exact ⟨rfl, hnx.trans (hb1.mono hws)⟩
end Go.Proofs.YtdnmfiekfkmbbaaDoor.fixListsW
