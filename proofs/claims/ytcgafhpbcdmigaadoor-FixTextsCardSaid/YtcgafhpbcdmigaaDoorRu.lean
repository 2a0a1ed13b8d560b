/- The contract of the document's own text of a number. -/
import Derived.Test.YtcgafhpbcdmigaaDoorRt
namespace Go.Proofs.YtcgafhpbcdmigaaDoor.Wa
open Go.RowKit Go.Proofs.YtcgafhpbcdmigaaDoor

/-- a small number's digits, where the number is one of the walk's -/
theorem rdec_is (x : Int) (n : Nat) (hx : x = n) (hn : n < 100000) (w : World) : Calls Tryd.prog 20 #[.int .u64 x] w fun e w' => (∃ l : List UInt8, e = .returned (.string ⟨l.toArray⟩) ∧ Hid (l = Lib.decDigits n) ∧ l.length ≤ 5) ∧ Below w.heap.size w w' := by
  subst hx
  exact (rdecimal_any n hn w).mono fun e w' ⟨he, hb⟩ => ⟨⟨_, he, Lib.hid rfl, Pl.dec_len 4 n (by omega)⟩, hb⟩

def TxtRel (p0 : Nat) (pre : List UInt8) (w : World) (g : Nat) (p v : Value) (wr : World) : Prop :=
  ∃ (q j : Nat) (l : List UInt8), p = .int .i64 q ∧ q < 65536 ∧ g = j + 1 ∧ j ≤ 16 ∧ 2 ^ (16 - j) ∣ q ∧ Pl.digs 16 p0 = l ++ Pl.digs j q ∧ l.length + j = 16 ∧ (∃ y : List UInt8, v = .string ⟨y.toArray⟩ ∧ Hid (y = pre ++ l)) ∧ Below w.heap.size w wr

theorem held_is' (a h : Int) (ha : Pl.held a = h) (w : World) : Calls Tryd.prog 9 #[.int .i64 a] w fun e w' => e = .returned (.int .i64 h) ∧ w = w' := by
  subst ha; exact held_any a w

theorem cat_l (x y : List UInt8) : (⟨x.toArray⟩ : ByteArray) ++ ⟨y.toArray⟩ = ⟨(x ++ y).toArray⟩ := cat x y

theorem cat3' (l : List UInt8) : (⟨#[45]⟩ : ByteArray) ++ ⟨l.toArray⟩ ++ ⟨#[46]⟩ = ⟨(45 :: (l ++ [46])).toArray⟩ := by
  apply ByteArray.ext
  simp

set_option maxHeartbeats 2000000 in
set_option maxRecDepth 100000 in
theorem rtext_nw (h : Int) (m : Nat) (hm : h.natAbs = m) (hb : m ≤ 2147483648) (a : Int) (ha : Hid (Pl.held a = h)) (hs : h < 0) (hp : (m : Int) % 65536 = 0) (w : World) :
    Calls Tryd.prog 8 #[.int .i64 a] w fun e w' => e = .returned (.string ⟨(Pl.textOf h).toArray⟩) ∧ Below w.heap.size w w' := by
  have HF := Lib.hid (Pl.text_neg_whole hm hs hp)
  have hmi : -h = (m : Int) := by omega
  have hh0 : -2147483648 ≤ h := by omega
  have hh1 : h ≤ 2147483648 := by omega
  clear hm
  go_enter Tryd.func8, Tryd.ntmps8
  go_wp2_with fail
  refine (held_is' _ _ ha.out _).mono ?_
  rintro e w1 ⟨rfl, rfl⟩
  go_wp2_with fail
  refine (rdec_is _ ((m : Int) / 65536).toNat (by omega) (by omega) _).mono ?_
  rintro e w1 ⟨⟨l, rfl, HL, hl⟩, hb1⟩
  go_wp2_with fail
  go_ret
  exact ⟨ret_cat (by rw [HF.out, ← HL.out]; exact cat [45] l), hb1⟩

set_option maxHeartbeats 2000000 in
set_option maxRecDepth 100000 in
theorem rtext_pw (h : Int) (m : Nat) (hm : h.natAbs = m) (hb : m ≤ 2147483648) (a : Int) (ha : Hid (Pl.held a = h)) (hs : ¬ h < 0) (hp : (m : Int) % 65536 = 0) (w : World) :
    Calls Tryd.prog 8 #[.int .i64 a] w fun e w' => e = .returned (.string ⟨(Pl.textOf h).toArray⟩) ∧ Below w.heap.size w w' := by
  have HF := Lib.hid (Pl.text_pos_whole hm hs hp)
  have hmi : h = (m : Int) := by omega
  have hh0 : -2147483648 ≤ h := by omega
  have hh1 : h ≤ 2147483648 := by omega
  clear hm
  go_enter Tryd.func8, Tryd.ntmps8
  go_wp2_with fail
  refine (held_is' _ _ ha.out _).mono ?_
  rintro e w1 ⟨rfl, rfl⟩
  go_wp2_with fail
  refine (rdec_is _ ((m : Int) / 65536).toNat (by omega) (by omega) _).mono ?_
  rintro e w1 ⟨⟨l, rfl, HL, hl⟩, hb1⟩
  go_wp2_with fail
  go_ret
  exact ⟨ret_cat (by rw [HF.out, ← HL.out]; exact cat [] l), hb1⟩

set_option maxHeartbeats 2000000 in
set_option maxRecDepth 100000 in
theorem rtext_np (h : Int) (m : Nat) (hm : h.natAbs = m) (hb : m ≤ 2147483648) (a : Int) (ha : Hid (Pl.held a = h)) (hs : h < 0) (hp : ¬ (m : Int) % 65536 = 0) (w : World) :
    Calls Tryd.prog 8 #[.int .i64 a] w fun e w' => e = .returned (.string ⟨(Pl.textOf h).toArray⟩) ∧ Below w.heap.size w w' := by
  have HF := Lib.hid (Pl.text_neg_part hm hs hp)
  have hmi : -h = (m : Int) := by omega
  have hh0 : -2147483648 ≤ h := by omega
  have hh1 : h ≤ 2147483648 := by omega
  clear hm
  go_enter Tryd.func8, Tryd.ntmps8
  go_wp2_with fail
  refine (held_is' _ _ ha.out _).mono ?_
  rintro e w1 ⟨rfl, rfl⟩
  go_wp2_with fail
  refine (rdec_is _ ((m : Int) / 65536).toNat (by omega) (by omega) _).mono ?_
  rintro e w1 ⟨⟨l, rfl, HL, hl⟩, hb1⟩
  obtain ⟨p0, hp0⟩ : ∃ p0 : Nat, ((m : Int) % 65536) = p0 := ⟨((m : Int) % 65536).toNat, by omega⟩
  have hp1 : p0 < 65536 := by omega
  have hpn : p0 ≠ 0 := by omega
  have HP := Lib.hid (show ((m : Int) % 65536).toNat = p0 by omega)
  have HP0 := Lib.hid hp0
  have hpb : ((m : Int) % 65536 == 0) = false := by simp; omega
  clear hp0
  have HPRE := Lib.hid (cat3' l)
  clear hp
  go_wp2_with fail
  go_loopg [4, 3] 17 (fun g p' v wr => TxtRel p0 (45 :: (l ++ [46])) w g p' v wr)
  case atStart => exact ⟨p0, 16, [], by rw [← HP0.out], hp1, rfl, by omega, by simp, rfl, rfl, ⟨_, by first | rw [HPRE.out] | (rw [EMP.out, HPRE.out]), Lib.hid (by rw [List.append_nil])⟩, hb1⟩
  case round =>
    obtain ⟨q, j, d, rfl, hq, hg, hj, hd, hl', hlen, ⟨y, rfl, HY⟩, hnx⟩ := hrel
    by_cases h0 : q = 0
    · subst h0
      rw [Pl.digs_zero, List.append_nil] at hl'
      have HL' := Lib.hid hl'
      clear hl' hd hg hlen
      go_wp2
      go_ret
      exact ⟨ret_cat (by rw [HF.out, ← HL.out, HP.out, HL'.out, HY.out]; simp), hnx⟩
    · obtain ⟨i, rfl, hdg, hd2, hq2⟩ := Pl.digs_step hq h0 hj hd
      have HD := Lib.hid hdg
      have HL' := Lib.hid hl'
      have HN := Lib.hid hlen
      have HG := Lib.hid hg
      have hq0 : (0 : Int) < q := by omega
      have hll : d.length ≤ 16 := by omega
      have hyl : y.length ≤ 30 := by rw [HY.out]; simp; omega
      clear hdg hl' hlen hg hd
      go_wp2_with fail
      refine (rdec_is _ (q * 10 / 65536) (by omega) (by omega) _).mono ?_
      rintro e w2 ⟨⟨c, rfl, HC, hc⟩, hb2⟩
      have HCC := Lib.hid (show c = [UInt8.ofNat (48 + q * 10 / 65536)] by rw [HC.out]; exact dec_small (by omega))
      have HCAT := Lib.hid (cat_l y c)
      go_wp2_with fail
      go_roundg (i + 1)
      case measure => have := HG.out; omega
      case rel =>
        refine ⟨q * 10 % 65536, i, d ++ [UInt8.ofNat (48 + q * 10 / 65536)], by go_num, hq2, rfl, by omega, hd2, ?_, ?_, ?_, hnx.trans (hb2.mono hnx.size)⟩
        · rw [HL'.out, HD.out]; simp
        · have := HN.out; simp; omega
        · exact ⟨y ++ c, by rw [HCAT.out], Lib.hid (by rw [HY.out, HCC.out]; simp)⟩

set_option maxHeartbeats 2000000 in
set_option maxRecDepth 100000 in
theorem rtext_pp (h : Int) (m : Nat) (hm : h.natAbs = m) (hb : m ≤ 2147483648) (a : Int) (ha : Hid (Pl.held a = h)) (hs : ¬ h < 0) (hp : ¬ (m : Int) % 65536 = 0) (w : World) :
    Calls Tryd.prog 8 #[.int .i64 a] w fun e w' => e = .returned (.string ⟨(Pl.textOf h).toArray⟩) ∧ Below w.heap.size w w' := by
  have HF := Lib.hid (Pl.text_pos_part hm hs hp)
  have hmi : h = (m : Int) := by omega
  have hh0 : -2147483648 ≤ h := by omega
  have hh1 : h ≤ 2147483648 := by omega
  clear hm
  go_enter Tryd.func8, Tryd.ntmps8
  go_wp2_with fail
  refine (held_is' _ _ ha.out _).mono ?_
  rintro e w1 ⟨rfl, rfl⟩
  go_wp2_with fail
  refine (rdec_is _ ((m : Int) / 65536).toNat (by omega) (by omega) _).mono ?_
  rintro e w1 ⟨⟨l, rfl, HL, hl⟩, hb1⟩
  obtain ⟨p0, hp0⟩ : ∃ p0 : Nat, ((m : Int) % 65536) = p0 := ⟨((m : Int) % 65536).toNat, by omega⟩
  have hp1 : p0 < 65536 := by omega
  have hpn : p0 ≠ 0 := by omega
  have HP := Lib.hid (show ((m : Int) % 65536).toNat = p0 by omega)
  have HP0 := Lib.hid hp0
  have hpb : ((m : Int) % 65536 == 0) = false := by simp; omega
  clear hp0
  have HPRE := Lib.hid (cat l [46])
  have EMP := Lib.hid (show (⟨#[]⟩ : ByteArray) ++ ⟨l.toArray⟩ = ⟨l.toArray⟩ from cat [] l)
  clear hp
  go_wp2_with fail
  go_loopg [4, 3] 17 (fun g p' v wr => TxtRel p0 (l ++ [46]) w g p' v wr)
  case atStart => exact ⟨p0, 16, [], by rw [← HP0.out], hp1, rfl, by omega, by simp, rfl, rfl, ⟨_, by first | rw [HPRE.out] | (rw [EMP.out, HPRE.out]), Lib.hid (by rw [List.append_nil])⟩, hb1⟩
  case round =>
    obtain ⟨q, j, d, rfl, hq, hg, hj, hd, hl', hlen, ⟨y, rfl, HY⟩, hnx⟩ := hrel
    by_cases h0 : q = 0
    · subst h0
      rw [Pl.digs_zero, List.append_nil] at hl'
      have HL' := Lib.hid hl'
      clear hl' hd hg hlen
      go_wp2
      go_ret
      exact ⟨ret_cat (by rw [HF.out, ← HL.out, HP.out, HL'.out, HY.out]; simp), hnx⟩
    · obtain ⟨i, rfl, hdg, hd2, hq2⟩ := Pl.digs_step hq h0 hj hd
      have HD := Lib.hid hdg
      have HL' := Lib.hid hl'
      have HN := Lib.hid hlen
      have HG := Lib.hid hg
      have hq0 : (0 : Int) < q := by omega
      have hll : d.length ≤ 16 := by omega
      have hyl : y.length ≤ 30 := by rw [HY.out]; simp; omega
      clear hdg hl' hlen hg hd
      go_wp2_with fail
      refine (rdec_is _ (q * 10 / 65536) (by omega) (by omega) _).mono ?_
      rintro e w2 ⟨⟨c, rfl, HC, hc⟩, hb2⟩
      have HCC := Lib.hid (show c = [UInt8.ofNat (48 + q * 10 / 65536)] by rw [HC.out]; exact dec_small (by omega))
      have HCAT := Lib.hid (cat_l y c)
      go_wp2_with fail
      go_roundg (i + 1)
      case measure => have := HG.out; omega
      case rel =>
        refine ⟨q * 10 % 65536, i, d ++ [UInt8.ofNat (48 + q * 10 / 65536)], by go_num, hq2, rfl, by omega, hd2, ?_, ?_, ?_, hnx.trans (hb2.mono hnx.size)⟩
        · rw [HL'.out, HD.out]; simp
        · have := HN.out; simp; omega
        · exact ⟨y ++ c, by rw [HCAT.out], Lib.hid (by rw [HY.out, HCC.out]; simp)⟩

theorem rtext_any (a : Int) (w : World) : Calls Tryd.prog 8 #[.int .i64 a] w fun e w' => e = .returned (.string ⟨(Pl.textOf (Pl.held a)).toArray⟩) ∧ Below w.heap.size w w' := by
  have h0 := Pl.held_lo a
  have h1 := Pl.held_hi a
  by_cases hs : Pl.held a < 0
  · by_cases hp : (((Pl.held a).natAbs : Nat) : Int) % 65536 = 0
    · exact rtext_nw _ _ rfl (by omega) a (Lib.hid rfl) hs hp w
    · exact rtext_np _ _ rfl (by omega) a (Lib.hid rfl) hs hp w
  · by_cases hp : (((Pl.held a).natAbs : Nat) : Int) % 65536 = 0
    · exact rtext_pw _ _ rfl (by omega) a (Lib.hid rfl) hs hp w
    · exact rtext_pp _ _ rfl (by omega) a (Lib.hid rfl) hs hp w
end Go.Proofs.YtcgafhpbcdmigaaDoor.Wa
