/- Layer 25: which rule of the names a plan breaks first, by the program. -/
import Derived.Test.YtndpidmbfdpiaaaDoorK23
namespace Go.Proofs.YtndpidmbfdpiaaaDoor.Pn
open Go Go.RowKit Go.Shelf Go.Proofs Go.Proofs.YtndpidmbfdpiaaaDoor Go.Proofs.YtndpidmbfdpiaaaDoor.Au Go.Proofs.YtndpidmbfdpiaaaDoor.Re
set_option linter.unusedVariables false
set_option linter.unusedSimpArgs false

def ZS : Array Value := (List.replicate 256 (.bool false)).toArray
theorem ZS_size : ZS.size = 256 := by decide +kernel
theorem zeroS (w : World) : (zeroValue 90).run Tryd.prog w = .ok (.agg ZS) w := by kernel_rfl
theorem row_new (w : World) : (w.alloc (.cells ZS 90)).rowIs w.heap.size 90 256 (fun i => .bool (has [] (i : Int))) := by
  have := World.rowIs_alloc w ZS 90 (fun i => .bool (has [] (i : Int))) (fun i hi => by
    rw [ZS_size] at hi
    unfold ZS
    rw [List.getElem?_toArray, List.getElem?_replicate, if_pos hi, has_nil])
  rwa [ZS_size] at this
theorem row_seen {w : World} {g : Nat} {T : TypeId} {l : List Int} {m : Nat} (h : w.rowIs g T 256 (fun i => .bool (has l (i : Int)))) : (w.setCell ⟨g, m, none⟩ (.bool true)).rowIs g T 256 (fun i => .bool (has (l ++ [(m : Int)]) (i : Int))) :=
  (h.set m (.bool true)).congr fun i _ => by
    rw [has_append]
    by_cases e : i = m
    · subst e; simp
    · rw [if_neg e]
      have : ((m : Int) == (i : Int)) = false := by simpa using (by omega : (m : Int) ≠ (i : Int))
      rw [this, Bool.or_false]
theorem drop_at {l : List Int} {k : Nat} (h : k < l.length) : l.drop k = l.getD k 0 :: l.drop (k + 1) := by
  rw [List.drop_eq_getElem_cons h]
  simp [List.getD, h]
theorem take_at {l : List Int} {k : Nat} (h : k < l.length) : l.take (k + 1) = l.take k ++ [l.getD k 0] := by
  rw [List.take_succ_eq_append_getElem h]
  simp [List.getD, h]

theorem rows_drop {len : Nat} {L : List (List Int)} {i : Nat} (h : i < L.length) : rows len (L.drop i) = if row len [] L[i]! = 0 then rows len (L.drop (i + 1)) else row len [] L[i]! := by
  rw [List.drop_eq_getElem_cons h]
  rw [getElem!_pos L i h]
  rfl

set_option maxHeartbeats 2000000 in
set_option maxRecDepth 100000 in
theorem named_any (a : Option Addr) (c n : Nat) (L : List (List Int)) (w : World) (hn : n = L.length) (hP : PAt w a n L) :
    Calls Tryd.prog 34 #[.slice a n c] w fun e w' => e = .returned (.int .i64 (named L)) ∧ Below w.heap.size w w' := by
  have HP := Lib.hid hP
  have HN := Lib.hid hn
  have hnb := hP.2.1
  clear hP hn
  by_cases hbig : 256 < n
  · have hE := Lib.hid (show named L = 8 by unfold named; rw [if_pos (by rw [← HN.out]; exact hbig)])
    have d1 : decide ((256 : Int) < (n : Int)) = true := by simp; omega
    go_enter Tryd.func34, Tryd.ntmps34
    go_wp2_with fail
    go_ret
    rw [hE.out]
    exact ⟨rfl, Below.refl _ _⟩
  · have hE := Lib.hid (show named L = rows n L by unfold named; rw [if_neg (by rw [← HN.out]; exact hbig), HN.out])
    have d1 : decide ((256 : Int) < (n : Int)) = false := by simp; omega
    have hz := zeroS
    go_enter Tryd.func34, Tryd.ntmps34
    go_wp2_with fail
    clear d1
    go_loopw [13] (fun v wr => ∃ i : Nat, i ≤ n ∧ v = .int .i64 i ∧ Hid (Below w.heap.size w wr) ∧ Hid (rows n (L.drop i) = rows n L)) (fun v _ => n - (intOf v).toNat)
    case atStart => exact ⟨0, by omega, rfl, Lib.hid (Below.refl _ _), Lib.hid rfl⟩
    case round =>
      obtain ⟨i, hin, rfl, HB, HE⟩ := hrel
      by_cases hlt : i < n
      · have hlt' : (i : Int) < n := by omega
        have hi' : i < L.length := by rw [← HN.out]; exact hlt
        obtain ⟨b, off, ha, b', c', hcell, hro⟩ := (HP.out.on HB.out).row hlt
        subst ha
        have HD := Lib.hid (rows_drop (len := n) hi')
        generalize L[i]! = R at hcell hro HD
        obtain ⟨r, hr⟩ : ∃ r, r = R.length := ⟨_, rfl⟩
        rw [← hr] at hcell hro
        have HRL := Lib.hid hr
        have HRO := Lib.hid hro
        have hrb : r ≤ 9223372036854775807 := by
          obtain ⟨_, _, _, hv, _, hm, _⟩ := hro
          cases hv
          exact hm.1
        have hsz := HB.out.size
        have hb1 := Lib.hid (HB.out.alloc hsz (.cells ZS 90))
        have hr1 := Lib.hid (row_new wr)
        have HBY := Lib.hid ((Below.refl wr.heap.size wr).alloc (Nat.le_refl _) (.cells ZS 90))
        obtain ⟨g, hg⟩ : ∃ g, g = wr.heap.size := ⟨_, rfl⟩
        rw [← hg] at hr1 HBY
        have HG := Lib.hid (show w.heap.size ≤ g by omega)
        obtain ⟨y, hy⟩ : ∃ y, wr.alloc (.cells ZS 90) = y := ⟨_, rfl⟩
        rw [hy] at hb1 hr1 HBY
        obtain ⟨y0, hy0⟩ : ∃ y, y = wr := ⟨_, rfl⟩
        rw [← hy0] at HBY HRO hg
        have HY0 := Lib.hid hy0
        have HGW := Lib.hid (hg.trans (congrArg (fun u : World => u.heap.size) hy0))
        have HG0 := Lib.hid hg
        have HY := Lib.hid hy
        clear hr hro hi' hg hy hy0
        go_upto_region 7 with fail
        try rw [HY.out]
        try rw [← HGW.out]
        go_upto_region 8 with fail
        go_loopw [19] (fun v wq => ∃ k : Nat, k ≤ r ∧ v = .int .i64 k ∧ Hid (Below w.heap.size w wq) ∧ Hid (wq.rowIs g 90 256 (fun i => .bool (has (R.take k) (i : Int)))) ∧ Hid (Below g y0 wq) ∧ Hid (row n (R.take k) (R.drop k) = row n [] R)) (fun v _ => r - (intOf v).toNat)
        case atStart => exact ⟨0, by omega, rfl, hb1, hr1, HBY, Lib.hid rfl⟩
        case round =>
          obtain ⟨k, hk, rfl, HBq, HSq, HRq, HEq⟩ := hrel
          by_cases hkr : k < r
          · have hkr' : (k : Int) < r := by omega
            have hkl : k < R.length := by rw [← HRL.out]; exact hkr
            have HTk := Lib.hid (take_at hkl)
            have HDk := HEq.out
            rw [drop_at hkl, row] at HDk
            have HDk := Lib.hid HDk
            have hci : ∃ b2 off2, b' = some ⟨b2, off2, none⟩ ∧ wr.cell? ⟨b2, off2 + k, none⟩ = some (.int .i64 (R.getD k 0)) := by
              have hg0 := HG0.out
              have hB9 := HRq.out
              rw [hg0] at hB9
              obtain ⟨_, _, _, hv, hnn, _, h⟩ := HRO.out.on hB9
              cases hv
              rcases h with h | ⟨b2, off2, ha2, _, hc2⟩
              · omega
              · exact ⟨b2, off2, ha2, hc2 k hkr⟩
            obtain ⟨b2, off2, hb2, hci⟩ := hci
            subst hb2
            generalize hm : R.getD k 0 = m at hci HTk HDk
            have HMk := Lib.hid hm
            clear hm
            by_cases h0 : m < 0
            · have e1 := Lib.hid (show row n [] R = 1 by rw [← HDk.out, if_pos (.inl h0)])
              have d0 : decide (m < 0) = true := by simp [h0]
              go_wp2_with fail
              go_ret
              rw [hE.out, ← HE.out, HD.out, e1.out]
              exact ⟨rfl, HBq.out⟩
            · have d0 : decide (m < 0) = false := by simp; omega
              by_cases h1 : (n : Int) ≤ m
              · have e1 := Lib.hid (show row n [] R = 1 by rw [← HDk.out, if_pos (.inr h1)])
                have d1 : decide ((n : Int) ≤ m) = true := by simp [h1]
                go_wp2_with fail
                go_ret
                rw [hE.out, ← HE.out, HD.out, e1.out]
                exact ⟨rfl, HBq.out⟩
              · have d1 : decide ((n : Int) ≤ m) = false := by simp; omega
                obtain ⟨q, rfl⟩ : ∃ q : Nat, m = (q : Int) := ⟨m.toNat, by omega⟩
                have hq : q < 256 := by omega
                have hcs := HSq.out.cell hq
                have hfz := HSq.out.frozen q
                have HDk2 := HDk.out
                rw [if_neg (by omega)] at HDk2
                have HDk2 := Lib.hid HDk2
                cases hs : has (R.take k) (q : Int) with
                | true =>
                  have e1 := Lib.hid (show row n [] R = 7 by rw [← HDk2.out, hs]; rfl)
                  rw [hs] at hcs
                  go_wp2_with fail
                  go_ret
                  rw [hE.out, ← HE.out, HD.out, e1.out]
                  exact ⟨rfl, HBq.out⟩
                | false =>
                  have e1 := Lib.hid (show row n (R.take (k + 1)) (R.drop (k + 1)) = row n [] R by rw [← HDk2.out, hs, HTk.out]; rfl)
                  rw [hs] at hcs
                  go_wp2_with fail
                  go_roundw
                  case rel => exact ⟨k + 1, by omega, by go_num, Lib.hid (HBq.out.setCell HG.out _), Lib.hid (by rw [HTk.out]; exact row_seen HSq.out), Lib.hid (HRq.out.setCell (Nat.le_refl _) _), e1⟩
                  case measure => simp [intOf]; omega
          · have hge : ¬ (k : Int) < r := by omega
            have hkr' : k = r := by omega
            subst hkr'
            have hz0 := Lib.hid (show row n [] R = 0 by rw [← HEq.out, HRL.out, List.drop_length]; rfl)
            go_wp2_with fail
            go_roundw
            case rel => exact ⟨i + 1, by omega, by go_num, HBq, Lib.hid (by rw [← HE.out, HD.out, hz0.out, if_pos rfl])⟩
            case measure => simp [intOf]; omega
      · have hge : ¬ (i : Int) < n := by omega
        have hi' : i = n := by omega
        subst hi'
        have hE2 := Lib.hid (show rows i L = 0 by rw [← HE.out, HN.out, List.drop_length]; rfl)
        go_wp2_with fail
        go_ret
        rw [hE.out, hE2.out]
        exact ⟨rfl, HB.out⟩
end Go.Proofs.YtndpidmbfdpiaaaDoor.Pn
