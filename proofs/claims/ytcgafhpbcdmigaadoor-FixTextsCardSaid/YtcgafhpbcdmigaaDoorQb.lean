/- The contract of the program's guess: what it answers, whatever text comes in. -/
import Derived.Test.YtcgafhpbcdmigaaDoorQa
namespace Go.Proofs.YtcgafhpbcdmigaaDoor.Qa
open Go.RowKit Go.Proofs.YtcgafhpbcdmigaaDoor Go.Proofs.YtcgafhpbcdmigaaDoor.Wa
set_option linter.unusedVariables false

theorem cp_is (t x : List UInt8) (b : Bool) (hx : Lib.trimPrefix t [45] = x) (hb : Lib.hasPrefix t [45] = b) (w : World) :
    Calls Tryd.prog 24 #[.string ⟨t.toArray⟩, .string ⟨#[45]⟩] w fun e w' => e = .returned (.tuple #[.string ⟨x.toArray⟩, .bool b]) ∧ w = w' := by
  subst hx hb
  exact (Sh.strings_CutPrefix ⟨t.toArray⟩ ⟨#[45]⟩ w).mono fun _ _ ⟨he, hw⟩ => ⟨by simpa using he, hw.symm⟩

theorem cut_is (x y z : List UInt8) (b : Bool) (h : Lib.cut x [46] = (y, z, b)) (hx : x.length ≤ 1000) (w : World) (hL : Laid w) :
    Calls Tryd.prog 25 #[.string ⟨x.toArray⟩, .string ⟨#[46]⟩] w fun e w' => e = .returned (.tuple #[.string ⟨y.toArray⟩, .string ⟨z.toArray⟩, .bool b]) ∧ Below w.heap.size w w' := by
  obtain ⟨⟨m, hm⟩, -⟩ := hL
  refine (Sh.strings_Cut ⟨x.toArray⟩ ⟨#[46]⟩ m w (by show x.toArray.size < _; simp; omega) hm).mono ?_
  rintro e w' ⟨rfl, k, rfl⟩
  refine ⟨?_, ⟨rfl, rfl, rfl, Nat.le_refl _, fun _ _ => rfl⟩⟩
  simp [h]

theorem rep_is (c : Int) (n : Nat) (hc : c = n) (hn : n ≤ 16) (w : World) :
    Calls Tryd.prog 27 #[.string ⟨#[48]⟩, .int .i64 c] w fun e w' => (∃ l : List UInt8, e = .returned (.string ⟨l.toArray⟩) ∧ Hid (l = Pl.zeros n) ∧ l.length ≤ 16) ∧ Below w.heap.size w w' := by
  subst hc
  refine (Sh.strings_Repeat ⟨#[48]⟩ n w (by omega) (by show 1 * n ≤ _; omega)).mono ?_
  rintro e w' ⟨rfl, hb⟩
  have e1 : ∀ k, Lib.repeatL [48] k = Pl.zeros k := by
    intro k
    induction k with
    | zero => rfl
    | succ k ih => show [48] ++ Lib.repeatL [48] k = List.replicate (k + 1) 48; rw [ih]; rfl
  exact ⟨⟨_, by simp, Lib.hid (e1 n), by rw [e1]; simp [Pl.zeros]; omega⟩, hb⟩

theorem pu64_ok' (s : ByteArray) (l : List UInt8) (hs : s = ⟨l.toArray⟩) (hl : l.length ≤ 1000) (u : Nat) (h : Lib.parseUintB 64 l = .ok u) (w : World) :
    Calls Tryd.prog 26 #[.string s, .int .i64 10, .int .i64 64] w fun e w' => e = .returned (.tuple #[.int .u64 u, .nilIface]) ∧ Below w.heap.size w w' := by
  subst hs; exact pu64_ok l hl u h w

theorem pu64_bad' (s : ByteArray) (l : List UInt8) (hs : s = ⟨l.toArray⟩) (hl : l.length ≤ 1000) (h : ∀ u, Lib.parseUintB 64 l ≠ .ok u) (w : World) (hL : Laid w) :
    Calls Tryd.prog 26 #[.string s, .int .i64 10, .int .i64 64] w fun e w' => (∃ (u : Int) (N : Nat), e = .returned (.tuple #[.int .u64 u, .iface 71 (.pointer (some ⟨N, 0, none⟩))])) ∧ Below w.heap.size w w' := by
  subst hs; exact pu64_bad l hl h w hL

set_option maxHeartbeats 1000000 in
theorem guess_long (t x y z : List UInt8) (b c : Bool) (hx : Hid (Lib.trimPrefix t [45] = x)) (hb : Hid (Lib.hasPrefix t [45] = b)) (hc : Hid (Lib.cut x [46] = (y, z, c))) (hxl : x.length ≤ 500) (hyl : y.length ≤ 500) (hz : 16 < z.length) (hzl : z.length ≤ 500) (w : World) (hL : Laid w) :
    Calls Tryd.prog 13 #[.string ⟨t.toArray⟩] w fun e w' => e = .returned (.tuple #[.int .i64 0, .bool false]) ∧ Below w.heap.size w w' := by
  have hz' : (16 : Int) < z.length := by omega
  go_enter Tryd.func13, Tryd.ntmps13
  go_wp2_with fail
  refine (cp_is t x _ hx.out hb.out _).mono ?_
  rintro e w1 ⟨rfl, rfl⟩
  go_wp2_with fail
  refine (cut_is x y z c hc.out (by omega) _ hL).mono ?_
  rintro e w1 ⟨rfl, hb1⟩
  have hL1 := hL.on hb1
  go_wp2
  go_ret2
  exact ⟨rfl, hb1⟩

set_option maxHeartbeats 1000000 in
theorem guess_whole (t x y z : List UInt8) (b c : Bool) (hx : Hid (Lib.trimPrefix t [45] = x)) (hb : Hid (Lib.hasPrefix t [45] = b)) (hc : Hid (Lib.cut x [46] = (y, z, c))) (hxl : x.length ≤ 500) (hyl : y.length ≤ 500) (hz : z.length ≤ 16) (hp : Hid (∀ u, Lib.parseUintB 16 y ≠ .ok u)) (w : World) (hL : Laid w) :
    Calls Tryd.prog 13 #[.string ⟨t.toArray⟩] w fun e w' => e = .returned (.tuple #[.int .i64 0, .bool false]) ∧ Below w.heap.size w w' := by
  have hz' : ¬ (16 : Int) < z.length := by omega
  go_enter Tryd.func13, Tryd.ntmps13
  go_wp2_with fail
  refine (cp_is t x _ hx.out hb.out _).mono ?_
  rintro e w1 ⟨rfl, rfl⟩
  go_wp2_with fail
  refine (cut_is x y z c hc.out (by omega) _ hL).mono ?_
  rintro e w1 ⟨rfl, hb1⟩
  have hL1 := hL.on hb1
  go_wp2_with fail
  refine (pu16_bad y (by omega) hp.out _ hL1).mono ?_
  rintro e w2 ⟨⟨u, N, rfl⟩, hb2⟩
  go_wp2
  go_ret2
  exact ⟨rfl, hb1.trans (hb2.mono hb1.size)⟩

set_option maxHeartbeats 1000000 in
theorem guess_part (t x y z : List UInt8) (b c : Bool) (hx : Hid (Lib.trimPrefix t [45] = x)) (hb : Hid (Lib.hasPrefix t [45] = b)) (hc : Hid (Lib.cut x [46] = (y, z, c))) (hxl : x.length ≤ 500) (hyl : y.length ≤ 500) (hz : z.length ≤ 16) (u1 : Nat) (hp : Hid (Lib.parseUintB 16 y = .ok u1)) (hq : Hid (∀ u, Lib.parseUintB 64 (z ++ Pl.zeros (16 - z.length)) ≠ .ok u)) (w : World) (hL : Laid w) :
    Calls Tryd.prog 13 #[.string ⟨t.toArray⟩] w fun e w' => e = .returned (.tuple #[.int .i64 0, .bool false]) ∧ Below w.heap.size w w' := by
  have hz' : ¬ (16 : Int) < z.length := by omega
  go_enter Tryd.func13, Tryd.ntmps13
  go_wp2_with fail
  refine (cp_is t x _ hx.out hb.out _).mono ?_
  rintro e w1 ⟨rfl, rfl⟩
  go_wp2_with fail
  refine (cut_is x y z c hc.out (by omega) _ hL).mono ?_
  rintro e w1 ⟨rfl, hb1⟩
  have hL1 := hL.on hb1
  go_wp2_with fail
  refine (pu16_ok y (by omega) u1 hp.out _).mono ?_
  rintro e w2 ⟨rfl, hb2⟩
  have hL2 := hL1.on hb2
  go_wp2_with fail
  refine (rep_is _ (16 - z.length) (by omega) (by omega) _).mono ?_
  rintro e w3 ⟨⟨l, rfl, HL, hl⟩, hb3⟩
  have hL3 := hL2.on hb3
  have HQ := Lib.hid (show ∀ u, Lib.parseUintB 64 (z ++ l) ≠ .ok u by rw [HL.out]; exact hq.out)
  go_wp2_with fail
  refine (pu64_bad' _ (z ++ l) (cat z l) (by simp; omega) HQ.out _ hL3).mono ?_
  rintro e w4 ⟨⟨u, N, rfl⟩, hb4⟩
  go_wp2
  go_ret2
  exact ⟨rfl, ((hb1.trans (hb2.mono hb1.size)).trans (hb3.mono (hb1.trans (hb2.mono hb1.size)).size)).trans (hb4.mono ((hb1.trans (hb2.mono hb1.size)).trans (hb3.mono (hb1.trans (hb2.mono hb1.size)).size)).size)⟩

set_option maxHeartbeats 1000000 in
theorem guess_ok (t x y z : List UInt8) (b c : Bool) (hx : Hid (Lib.trimPrefix t [45] = x)) (hb : Hid (Lib.hasPrefix t [45] = b)) (hc : Hid (Lib.cut x [46] = (y, z, c))) (hxl : x.length ≤ 500) (hyl : y.length ≤ 500) (hz : z.length ≤ 16) (u1 u2 : Nat) (hp : Hid (Lib.parseUintB 16 y = .ok u1)) (hq : Hid (Lib.parseUintB 64 (z ++ Pl.zeros (16 - z.length)) = .ok u2)) (w : World) (hL : Laid w) :
    Calls Tryd.prog 13 #[.string ⟨t.toArray⟩] w fun e w' => e = .returned (.tuple #[.int .i64 (if b then -((u1 : Int) * 65536 + (u2 : Int) / 152587890625) else (u1 : Int) * 65536 + (u2 : Int) / 152587890625), .bool true]) ∧ Below w.heap.size w w' := by
  have hz' : ¬ (16 : Int) < z.length := by omega
  have b1 : u1 ≤ 65535 := parseB_le hp.out
  have b2 : u2 ≤ 18446744073709551615 := parseB_le hq.out
  cases b
  · go_enter Tryd.func13, Tryd.ntmps13
    go_wp2_with fail
    refine (cp_is t x _ hx.out hb.out _).mono ?_
    rintro e w1 ⟨rfl, rfl⟩
    go_wp2_with fail
    refine (cut_is x y z c hc.out (by omega) _ hL).mono ?_
    rintro e w1 ⟨rfl, hb1⟩
    have hL1 := hL.on hb1
    go_wp2_with fail
    refine (pu16_ok y (by omega) u1 hp.out _).mono ?_
    rintro e w2 ⟨rfl, hb2⟩
    go_wp2_with fail
    refine (rep_is _ (16 - z.length) (by omega) (by omega) _).mono ?_
    rintro e w3 ⟨⟨l, rfl, HL, hl⟩, hb3⟩
    have HQ := Lib.hid (show Lib.parseUintB 64 (z ++ l) = .ok u2 by rw [HL.out]; exact hq.out)
    go_wp2_with fail
    refine (pu64_ok' _ (z ++ l) (cat z l) (by simp; omega) u2 HQ.out _).mono ?_
    rintro e w4 ⟨rfl, hb4⟩
    go_wp2
    go_ret2
    exact ⟨by first | rfl | (simp; done), ((hb1.trans (hb2.mono hb1.size)).trans (hb3.mono (hb1.trans (hb2.mono hb1.size)).size)).trans (hb4.mono ((hb1.trans (hb2.mono hb1.size)).trans (hb3.mono (hb1.trans (hb2.mono hb1.size)).size)).size)⟩
  · go_enter Tryd.func13, Tryd.ntmps13
    go_wp2_with fail
    refine (cp_is t x _ hx.out hb.out _).mono ?_
    rintro e w1 ⟨rfl, rfl⟩
    go_wp2_with fail
    refine (cut_is x y z c hc.out (by omega) _ hL).mono ?_
    rintro e w1 ⟨rfl, hb1⟩
    have hL1 := hL.on hb1
    go_wp2_with fail
    refine (pu16_ok y (by omega) u1 hp.out _).mono ?_
    rintro e w2 ⟨rfl, hb2⟩
    go_wp2_with fail
    refine (rep_is _ (16 - z.length) (by omega) (by omega) _).mono ?_
    rintro e w3 ⟨⟨l, rfl, HL, hl⟩, hb3⟩
    have HQ := Lib.hid (show Lib.parseUintB 64 (z ++ l) = .ok u2 by rw [HL.out]; exact hq.out)
    go_wp2_with fail
    refine (pu64_ok' _ (z ++ l) (cat z l) (by simp; omega) u2 HQ.out _).mono ?_
    rintro e w4 ⟨rfl, hb4⟩
    go_wp2
    go_ret2
    exact ⟨by first | rfl | (simp; done), ((hb1.trans (hb2.mono hb1.size)).trans (hb3.mono (hb1.trans (hb2.mono hb1.size)).size)).trans (hb4.mono ((hb1.trans (hb2.mono hb1.size)).trans (hb3.mono (hb1.trans (hb2.mono hb1.size)).size)).size)⟩
end Go.Proofs.YtcgafhpbcdmigaaDoor.Qa
