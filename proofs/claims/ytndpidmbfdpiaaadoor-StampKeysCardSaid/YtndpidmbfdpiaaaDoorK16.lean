/- Layer 7: the document's bytes of a number, a point, a blob: contracts. -/
import Derived.Test.YtndpidmbfdpiaaaDoorK15
import Derived.Laws.AppendOwnNone
import Derived.Deep.DeepCutAuto
namespace Go.Proofs.YtndpidmbfdpiaaaDoor.Re
open Go.RowKit Go.Proofs.YtndpidmbfdpiaaaDoor Go.Proofs.YtndpidmbfdpiaaaDoor.Rp
set_option linter.unusedVariables false

/-- what the loop of the document's Num keeps -/
def NumRel (w : World) (l : List UInt8) (n : Nat) (k : Nat) (m v : Value) (wr : World) : Prop :=
  m = .int .u64 (n / 256 ^ k : Nat) ∧ Hid (wr.ownsRow w.heap.size 5 1 v (l ++ bytesOf n k).length (vals (l ++ bytesOf n k))) ∧ Below w.heap.size w wr

theorem div_step (n k : Nat) : n / 256 ^ k / 256 = n / 256 ^ (k + 1) := by rw [Nat.div_div_eq_div_mul, Nat.pow_succ]

theorem vals_one1 (x : Int) (b : UInt8) (hx : x = (b.toNat : Int)) (w : World) (B : Nat) (hB : B = w.heap.size) : ∀ j u, (vals [b])[j]? = some u → (w.alloc (.cells #[.int .u8 x] 5)).cell? ((⟨B, 0, none⟩ : Addr).add j) = some u := by
  subst hB
  intro j u hu
  match j, hu with
  | 0, hu => simp [vals] at hu; subst hu; subst hx; simp [Addr.add]
  | j + 1, hu => simp [vals] at hu

set_option maxHeartbeats 4000000 in
theorem num_none (n size : Nat) (hn : n < 18446744073709551616) (hs : size ≤ 8) (w : World) :
    Calls Tryd.prog 28 #[.slice none 0 0, .int .u64 n, .int .i64 size] w fun e w' => (∃ v', e = .returned v' ∧ w'.ownsRow w.heap.size 5 1 v' ([] ++ bytesOf n size).length (vals ([] ++ bytesOf n size))) ∧ Below w.heap.size w w' := by
  obtain ⟨i0, hi, hz0, hz1, hz2⟩ := info_parts infoByte
  have HO := Lib.hid (World.ownsRow_lit (base := w.heap.size) (size := 1) w #[] 0 (e := 5) (Nat.le_refl _) (by unfold maxLen; omega) rfl)
  have HN := Lib.hid hn
  obtain ⟨l, hl0⟩ : ∃ l : List UInt8, l = [] := ⟨_, rfl⟩
  rw [← hl0]
  have hl : l.length + 8 ≤ 140737488355328 := by rw [hl0]; simp
  go_enter Tryd.func28, Tryd.ntmps28
  go_upto_region 2 with (first | (at_builtin; refine wpList_append_own_none rfl _ _ 22 rfl w.heap.size 5 i0 1 Tryd.underlying22 hi _ _ _ rfl HO.out rfl ?_))
  have HO2 := Lib.hid (show (w.alloc (.cells #[] 5)).ownsRow w.heap.size 5 1 (.slice (some ⟨w.heap.size, 0, none⟩) 0 0) l.length (vals l) by rw [hl0]; exact HO.out)
  have hB1 := below_n1 w (.cells #[] 5)
  clear HO hl0
  go_wp2_with fail
  go_loopw [1, 7, 8] (fun m v i wr => ∃ k : Nat, k ≤ size ∧ i = .int .i64 k ∧ NumRel w l n k m v wr) (fun _ _ i _ => size - (intOf i).toNat)
  case atStart => exact ⟨0, Nat.zero_le _, rfl, by simp, Lib.hid (by rw [bytesOf_zero, List.append_nil]; exact HO2.out), hB1⟩
  case round =>
    obtain ⟨k, hk, rfl, rfl, HI, hbk⟩ := hrel
    by_cases hlt : k < size
    · have hlt' : (k : Int) < size := by omega
      obtain ⟨m, hm⟩ : ∃ m, m = n / 256 ^ k := ⟨_, rfl⟩
      have hmn : m < 18446744073709551616 := by rw [hm]; exact Nat.lt_of_le_of_lt (Nat.div_le_self _ _) HN.out
      rw [← hm]
      have HM := Lib.hid hm
      clear hm
      have hsz := hbk.size
      have HI1 := Lib.hid (HI.out.alloc (.cells #[.int .u8 ((m : Int) % 256)] 5))
      have HV := Lib.hid (vals_one1 ((m : Int) % 256) (byteAt n k) (by rw [byteAt_toNat, ← HM.out]; simp) wr wr.heap.size rfl)
      have hlen : (l ++ bytesOf n k).length + 1 ≤ 140737488355328 := by rw [List.length_append, bytesOf_length]; omega
      go_wp2_with (first | (at_builtin; refine wpList_append_own _ rfl _ _ 22 rfl w.heap.size 5 i0 (.int .u8 0) 1 1 Tryd.underlying22 hi hz0 hz1 hz2 rfl (by decide) _ _ _ rfl HI1.out ⟨wr.heap.size, 0, none⟩ 1 1 (vals [byteAt n k]) rfl rfl HV.out (vals_one _) ?d3 ?d4 ?d5 ?_))
      case d3 => unfold maxLen; omega
      case d4 => omega
      case d5 => simp; omega
      intro v2 w2 hown2 hgrow2 _
      have hb2 : Below w.heap.size w w2 := (hbk.alloc hsz _).grown hgrow2 (by simp; omega) (fun q hq => (HI.out.lt q hq).1)
      have HI2 := Lib.hid (show w2.ownsRow w.heap.size 5 1 v2 (l ++ bytesOf n (k + 1)).length (vals (l ++ bytesOf n (k + 1))) by
        rw [bytesOf_succ, ← List.append_assoc, vals_append, List.length_append, List.length_append]; exact hown2)
      have HD := Lib.hid (show (m : Int) / 256 = ((n / 256 ^ (k + 1) : Nat) : Int) by rw [← div_step, ← HM.out]; simp)
      clear hown2 hgrow2 HI HI1 HV
      go_wp2_with fail
      go_roundw
      case rel => exact ⟨k + 1, by omega, by go_num, by rw [HD.out], HI2, hb2⟩
      case measure => simp [intOf]; omega
    · obtain rfl : k = size := by omega
      obtain ⟨a9, c9, hv⟩ := own_form HI.out
      subst hv
      go_wp2
      go_ret
      exact ⟨⟨_, rfl, HI.out⟩, hbk⟩

set_option maxHeartbeats 4000000 in
theorem num_some (l : List UInt8) (n size : Nat) (hn : n < 18446744073709551616) (hs : size ≤ 8) (ad : Addr) (cap : Nat) (w : World) (hb : ∀ j u, (vals l)[j]? = some u → w.cell? (ad.add j) = some u) (hl : l.length + 8 ≤ 140737488355328) :
    Calls Tryd.prog 28 #[.slice (some ad) l.length cap, .int .u64 n, .int .i64 size] w fun e w' => (∃ v', e = .returned v' ∧ w'.ownsRow w.heap.size 5 1 v' (l ++ bytesOf n size).length (vals (l ++ bytesOf n size))) ∧ Below w.heap.size w w' := by
  obtain ⟨i0, hi, hz0, hz1, hz2⟩ := info_parts infoByte
  have HO := Lib.hid (World.ownsRow_lit (base := w.heap.size) (size := 1) w #[] 0 (e := 5) (Nat.le_refl _) (by unfold maxLen; omega) rfl)
  have HB := Lib.hid (fun j u hu => old1 (.cells #[] 5) (hb j u hu))
  have HN := Lib.hid hn
  clear hb
  go_enter Tryd.func28, Tryd.ntmps28
  go_upto_region 2 with (first | (at_builtin; refine wpList_append_own _ rfl _ _ 22 rfl w.heap.size 5 i0 (.int .u8 0) 1 1 Tryd.underlying22 hi hz0 hz1 hz2 rfl (by decide) _ _ _ rfl HO.out ad l.length cap (vals l) rfl ?c1 HB.out (vals_one l) ?c3 ?c4 ?c5 ?_))
  case c1 => simp [vals_length]
  case c3 => unfold maxLen; omega
  case c4 => omega
  intro v0 w1 hown hgrow _
  have hB1 : Below w.heap.size w w1 := (below_n1 w (.cells #[] 5)).grown hgrow (by simp) (fun q hq => by simp [Value.ownBlock] at hq; omega)
  have HO2 := Lib.hid (show w1.ownsRow w.heap.size 5 1 v0 l.length (vals l) by simpa using hown)
  clear hown hgrow HO HB
  go_wp2_with fail
  go_loopw [1, 7, 8] (fun m v i wr => ∃ k : Nat, k ≤ size ∧ i = .int .i64 k ∧ NumRel w l n k m v wr) (fun _ _ i _ => size - (intOf i).toNat)
  case atStart => exact ⟨0, Nat.zero_le _, rfl, by simp, Lib.hid (by rw [bytesOf_zero, List.append_nil]; exact HO2.out), hB1⟩
  case round =>
    obtain ⟨k, hk, rfl, rfl, HI, hbk⟩ := hrel
    by_cases hlt : k < size
    · have hlt' : (k : Int) < size := by omega
      obtain ⟨m, hm⟩ : ∃ m, m = n / 256 ^ k := ⟨_, rfl⟩
      have hmn : m < 18446744073709551616 := by rw [hm]; exact Nat.lt_of_le_of_lt (Nat.div_le_self _ _) HN.out
      rw [← hm]
      have HM := Lib.hid hm
      clear hm
      have hsz := hbk.size
      have HI1 := Lib.hid (HI.out.alloc (.cells #[.int .u8 ((m : Int) % 256)] 5))
      have HV := Lib.hid (vals_one1 ((m : Int) % 256) (byteAt n k) (by rw [byteAt_toNat, ← HM.out]; simp) wr wr.heap.size rfl)
      have hlen : (l ++ bytesOf n k).length + 1 ≤ 140737488355328 := by rw [List.length_append, bytesOf_length]; omega
      go_wp2_with (first | (at_builtin; refine wpList_append_own _ rfl _ _ 22 rfl w.heap.size 5 i0 (.int .u8 0) 1 1 Tryd.underlying22 hi hz0 hz1 hz2 rfl (by decide) _ _ _ rfl HI1.out ⟨wr.heap.size, 0, none⟩ 1 1 (vals [byteAt n k]) rfl rfl HV.out (vals_one _) ?d3 ?d4 ?d5 ?_))
      case d3 => unfold maxLen; omega
      case d4 => omega
      case d5 => simp; omega
      intro v2 w2 hown2 hgrow2 _
      have hb2 : Below w.heap.size w w2 := (hbk.alloc hsz _).grown hgrow2 (by simp; omega) (fun q hq => (HI.out.lt q hq).1)
      have HI2 := Lib.hid (show w2.ownsRow w.heap.size 5 1 v2 (l ++ bytesOf n (k + 1)).length (vals (l ++ bytesOf n (k + 1))) by
        rw [bytesOf_succ, ← List.append_assoc, vals_append, List.length_append, List.length_append]; exact hown2)
      have HD := Lib.hid (show (m : Int) / 256 = ((n / 256 ^ (k + 1) : Nat) : Int) by rw [← div_step, ← HM.out]; simp)
      clear hown2 hgrow2 HI HI1 HV
      go_wp2_with fail
      go_roundw
      case rel => exact ⟨k + 1, by omega, by go_num, by rw [HD.out], HI2, hb2⟩
      case measure => simp [intOf]; omega
    · obtain rfl : k = size := by omega
      obtain ⟨a9, c9, hv⟩ := own_form HI.out
      subst hv
      go_wp2
      go_ret
      exact ⟨⟨_, rfl, HI.out⟩, hbk⟩

theorem num_any (l : List UInt8) (n size : Nat) (hn : n < 18446744073709551616) (hs : size ≤ 8) (v : Value) (w : World) (hb : Bs w v l) (hl : l.length + 8 ≤ 140737488355328) :
    Calls Tryd.prog 28 #[v, .int .u64 n, .int .i64 size] w fun e w' => (∃ v', e = .returned v' ∧ w'.ownsRow w.heap.size 5 1 v' (l ++ bytesOf n size).length (vals (l ++ bytesOf n size))) ∧ Below w.heap.size w w' := by
  rcases hb with ⟨rfl, rfl⟩ | ⟨ad, cap, rfl, hb⟩
  · exact num_none n size hn hs w
  · exact num_some l n size hn hs ad cap w hb hl
end Go.Proofs.YtndpidmbfdpiaaaDoor.Re
