/- The walk of ReelBack over no values. -/
import Derived.Test.YtgabpmoibmhigaaRnb
import Derived.Laws.AppendOwnNone
namespace Go.Proofs.Ytgabpmoibmhigaa.reelBackZ
open Go.RowKit Go.Proofs.Ytgabpmoibmhigaa Go.Proofs.Ytgabpmoibmhigaa.Re Go.Proofs.Ytgabpmoibmhigaa.Rp
set_option linter.unusedVariables false

set_option maxHeartbeats 4000000 in
set_option maxRecDepth 100000 in
theorem walk_none (w : World) :
    Calls Try.prog 5 #[.slice none 0 0] w fun e w' => e = .returned (.bool true) ∧ Below w.heap.size w w' := by
  obtain ⟨i0, hi, hz0, hz1, hz2⟩ := info_parts infoItem
  go_enter Try.func5, Try.ntmps5
  go_wp2_with fail
  refine (fits_any none 0 0 (fun _ => default) _ (.inl rfl) (by omega)).mono ?_
  rintro e w1 ⟨⟨r, rfl, -⟩, b1⟩
  cases r
  case false =>
    go_wp2_with fail
    refine (awake_any _).mono ?_
    rintro e w2 ⟨rfl, hb2⟩
    have b2 := b1.trans (hb2.mono b1.size)
    go_wp2_with fail
    go_ret
    exact ⟨rfl, b2⟩
  case true =>
    go_wp2_with fail
    refine (new_any _).mono ?_
    rintro e w2 ⟨rfl, hw2⟩
    have b2 : Below w.heap.size w w2 := by rw [hw2]; exact b1.alloc b1.size _
    obtain ⟨g, hg⟩ : ∃ g, g = w1.heap.size := ⟨_, rfl⟩
    have hgs : g < w2.heap.size := by rw [hg, hw2]; simp
    have HW0 := Lib.hid (show WAt g (fun k => False) [] w2 from ⟨hgs, fun k hk => hk.elim, fun h => h, by rw [hg, hw2]; exact fun j => by go_simp, _, by rw [hg, hw2]; go_simp, World.ownsRow_nil _ _ _ _, (fun q hq => by cases hq)⟩)
    rw [← hg]
    clear hw2 hg b1
    have HO0 := Lib.hid (World.ownsRow_lit w2 #[] 0 (e := 33) (size := 39) (base := w2.heap.size) (Nat.le_refl _) (by unfold maxLen; omega) rfl)
    go_wp2_with (first | (at_builtin; refine wpList_append_own_none rfl _ _ 22 rfl w2.heap.size 33 i0 39 Try.underlying22 hi _ _ _ rfl HO0.out rfl ?_))
    obtain ⟨w3, hw3⟩ : ∃ w3, w3 = w2.alloc (.cells #[] 33) := ⟨_, rfl⟩
    have b3 : Below w2.heap.size w2 w3 := by rw [hw3]; exact below_n1 w2 _
    rw [← hw3]
    clear hw3 HO0
    have b3w : Below w.heap.size w w3 := b2.trans (b3.mono b2.size)
    have HW3 := Lib.hid (HW0.out.on b3)
    clear b3 b2 HW0 hgs
    go_wp2_with fail
    go_loopw [22] (fun i wr => i = .int .i64 0 ∧ wr = w3) (fun _ _ => 0)
    case atStart => exact ⟨rfl, rfl⟩
    case round =>
      obtain ⟨rfl, rfl⟩ := hrel

      go_wp2_with fail
      go_loopw [56] (fun i wx => i = .int .i64 0 ∧ wx = wr) (fun _ _ => 0)
      case atStart => exact ⟨rfl, rfl⟩
      case round =>
        obtain ⟨rfl, rfl⟩ := hrel
        go_wp2_with fail
        refine (bytes_any g _ [] _ HW3.out (by simp)).mono ?_
        rintro e w4 ⟨⟨ba, bn, bc, rfl, hob⟩, hb4⟩
        have b4 := b3w.trans (hb4.mono b3w.size)
        have HBB := Lib.hid (own_bs hob)
        clear hob hb4 HW3 b3w
        go_wp2_with fail
        refine (read_any [] _ _ HBB.out (by simp)).mono ?_
        rintro e w5 ⟨⟨gr, rfl, hRR⟩, hb5⟩
        have b5 := b4.trans (hb5.mono b4.size)
        have hgr : w.heap.size ≤ gr := by have := hRR.out.1; have := b4.size; omega
        have HR := Lib.hid (show RP (.pointer (some ⟨gr, 0, none⟩)) gr w5.heap.size ([], 0) w5 from .inr ⟨rfl, hRR.out.rat⟩)
        clear hRR hb5 b4 HBB
        go_wp2_with fail
        go_loopw [69] (fun i wx => i = .int .i64 0 ∧ wx = w5) (fun _ _ => 0)
        case atStart => exact ⟨rfl, rfl⟩
        case round =>
          obtain ⟨rfl, rfl⟩ := hrel
          go_wp2_with fail
          refine (awake_any _).mono ?_
          rintro e y1 ⟨rfl, hy1⟩
          have HR1 := Lib.hid (HR.out.new hy1)
          have b6 := b5.trans (hy1.mono b5.size)
          clear hy1 HR b5
          go_wp2_with fail
          refine (end_any _ gr _ _ HR1.out).mono ?_
          rintro e y2 ⟨rfl, hr, hA⟩
          rw [show endS (([] : List UInt8), (0 : Int)) = ([], 0) from rfl]
          have b7 := b6.trans (hA.below hgr b6.size b6.size)
          clear hr hA b6
          go_wp2
          go_ret
          exact ⟨rfl, b7⟩

set_option maxHeartbeats 4000000 in
set_option maxRecDepth 100000 in
theorem walk_some (ad : Addr) (cap1 : Nat) (w : World) :
    Calls Try.prog 5 #[.slice (some ad) 0 cap1] w fun e w' => e = .returned (.bool true) ∧ Below w.heap.size w w' := by
  obtain ⟨i0, hi, hz0, hz1, hz2⟩ := info_parts infoItem
  go_enter Try.func5, Try.ntmps5
  go_wp2_with fail
  refine (fits_any (some ad) 0 cap1 (fun _ => default) _ (.inl rfl) (by omega)).mono ?_
  rintro e w1 ⟨⟨r, rfl, -⟩, b1⟩
  cases r
  case false =>
    go_wp2_with fail
    refine (awake_any _).mono ?_
    rintro e w2 ⟨rfl, hb2⟩
    have b2 := b1.trans (hb2.mono b1.size)
    go_wp2_with fail
    go_ret
    exact ⟨rfl, b2⟩
  case true =>
    go_wp2_with fail
    refine (new_any _).mono ?_
    rintro e w2 ⟨rfl, hw2⟩
    have b2 : Below w.heap.size w w2 := by rw [hw2]; exact b1.alloc b1.size _
    obtain ⟨g, hg⟩ : ∃ g, g = w1.heap.size := ⟨_, rfl⟩
    have hgs : g < w2.heap.size := by rw [hg, hw2]; simp
    have HW0 := Lib.hid (show WAt g (fun k => False) [] w2 from ⟨hgs, fun k hk => hk.elim, fun h => h, by rw [hg, hw2]; exact fun j => by go_simp, _, by rw [hg, hw2]; go_simp, World.ownsRow_nil _ _ _ _, (fun q hq => by cases hq)⟩)
    rw [← hg]
    clear hw2 hg b1
    go_wp2_with (first | (at_builtin; refine wpList_append_own _ rfl _ _ 22 rfl w2.heap.size 33 i0 (.agg Z39) 39 104 Try.underlying22 hi hz0 hz1 hz2 (by kernel_rfl) (by decide) _ _ _ rfl (World.ownsRow_lit w2 #[] 0 (Nat.le_refl _) (by unfold maxLen; omega) rfl) ad 0 cap1 [] rfl ?c1 ?c2 ?c2b ?c3 ?c4 ?c5 ?_))
    case c1 => rfl
    case c2 => intro j u hu; simp at hu
    case c2b => intro u hu; cases hu
    case c3 => unfold maxLen; omega
    case c4 => omega
    case c5 => simp
    intro v' w3 hown hgrow hnil
    have b3 : Below w2.heap.size w2 w3 := (below_n1 w2 (.cells #[] 33)).grown hgrow (by simp) (fun q hq => by simp [Value.ownBlock] at hq; omega)
    obtain ⟨q, cap, hv⟩ : ∃ q cap, v' = .slice (some ⟨q, 0, none⟩) 0 cap := by
      rcases hown.2 with ⟨h, -⟩ | ⟨q, cap', cur, h, -⟩
      · exact (hnil h).elim
      · exact ⟨q, cap', by simpa using h⟩
    subst hv
    clear hown hgrow hnil
    have b3w : Below w.heap.size w w3 := b2.trans (b3.mono b2.size)
    have HW3 := Lib.hid (HW0.out.on b3)
    clear b3 b2 HW0 hgs
    go_wp2_with fail
    go_loopw [22] (fun i wr => i = .int .i64 0 ∧ wr = w3) (fun _ _ => 0)
    case atStart => exact ⟨rfl, rfl⟩
    case round =>
      obtain ⟨rfl, rfl⟩ := hrel

      go_wp2_with fail
      go_loopw [56] (fun i wx => i = .int .i64 0 ∧ wx = wr) (fun _ _ => 0)
      case atStart => exact ⟨rfl, rfl⟩
      case round =>
        obtain ⟨rfl, rfl⟩ := hrel
        go_wp2_with fail
        refine (bytes_any g _ [] _ HW3.out (by simp)).mono ?_
        rintro e w4 ⟨⟨ba, bn, bc, rfl, hob⟩, hb4⟩
        have b4 := b3w.trans (hb4.mono b3w.size)
        have HBB := Lib.hid (own_bs hob)
        clear hob hb4 HW3 b3w
        go_wp2_with fail
        refine (read_any [] _ _ HBB.out (by simp)).mono ?_
        rintro e w5 ⟨⟨gr, rfl, hRR⟩, hb5⟩
        have b5 := b4.trans (hb5.mono b4.size)
        have hgr : w.heap.size ≤ gr := by have := hRR.out.1; have := b4.size; omega
        have HR := Lib.hid (show RP (.pointer (some ⟨gr, 0, none⟩)) gr w5.heap.size ([], 0) w5 from .inr ⟨rfl, hRR.out.rat⟩)
        clear hRR hb5 b4 HBB
        go_wp2_with fail
        go_loopw [69] (fun i wx => i = .int .i64 0 ∧ wx = w5) (fun _ _ => 0)
        case atStart => exact ⟨rfl, rfl⟩
        case round =>
          obtain ⟨rfl, rfl⟩ := hrel
          go_wp2_with fail
          refine (awake_any _).mono ?_
          rintro e y1 ⟨rfl, hy1⟩
          have HR1 := Lib.hid (HR.out.new hy1)
          have b6 := b5.trans (hy1.mono b5.size)
          clear hy1 HR b5
          go_wp2_with fail
          refine (end_any _ gr _ _ HR1.out).mono ?_
          rintro e y2 ⟨rfl, hr, hA⟩
          rw [show endS (([] : List UInt8), (0 : Int)) = ([], 0) from rfl]
          have b7 := b6.trans (hA.below hgr b6.size b6.size)
          clear hr hA b6
          go_wp2
          go_ret
          exact ⟨rfl, b7⟩

end Go.Proofs.Ytgabpmoibmhigaa.reelBackZ
