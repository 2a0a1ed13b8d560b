/- The contracts of layer 1's texts: the digits of a part, and a number in decimal. -/
import Derived.Test.YtcgafhpbcdmigaaDoorWr
import Derived.Test.YtcgafhpbcdmigaaDoorPt
import Derived.Deep.LoopGhost
import Derived.Laws.BytesArg
namespace Go.Proofs.YtcgafhpbcdmigaaDoor.Wa
open Go.RowKit Go.Proofs.YtcgafhpbcdmigaaDoor

theorem ret_str {l m : List UInt8} (h : l = m) : Ending.returned (.string ⟨l.toArray⟩) = .returned (.string ⟨m.toArray⟩) := by rw [h]

theorem infoByte : (Tryd.prog.info? 5).map (fun i => (i.zero, i.size, i.bytes)) = some (some (.int .u8 0), 1, 1) := by kernel_rfl

theorem whole_small (n : Int) (h0 : 0 ≤ n) (h1 : n ≤ 2147483648) (w : World) : Calls Tryd.prog 17 #[.int .i64 n] w fun e w' => e = .returned (.int .i64 (n / 65536)) ∧ w = w' := by
  have := whole_any n w
  rwa [Pl.held_in (by omega) h1] at this

theorem part_small (n : Int) (h0 : 0 ≤ n) (h1 : n ≤ 2147483648) (w : World) : Calls Tryd.prog 18 #[.int .i64 n] w fun e w' => e = .returned (.int .i64 (n % 65536)) ∧ w = w' := by
  have := part_any n w
  rwa [Pl.held_in (by omega) h1] at this

def DigRel (B : Nat) (p0 : Nat) (w : World) (g : Nat) (p v : Value) (wr : World) : Prop :=
  ∃ (q j : Nat) (l : List UInt8), p = .int .i64 q ∧ q < 65536 ∧ g = j + 1 ∧ j ≤ 16 ∧ 2 ^ (16 - j) ∣ q ∧ Pl.digs 16 p0 = l ++ Pl.digs j q ∧ l.length + j = 16 ∧ wr.ownsRow B 5 1 v l.length (Lib.byteCells l) ∧ Below B w wr

set_option maxHeartbeats 1000000 in
set_option maxRecDepth 100000 in
theorem digitsOf_any (p : Nat) (hp : p < 65536) (w : World) : Calls Tryd.prog 19 #[.int .i64 p] w fun e w' => e = .returned (.string ⟨(Pl.digs 16 p).toArray⟩) ∧ Below w.heap.size w w' := by
  obtain ⟨i0, hi, hz0, hz1, hz2⟩ := info_parts infoByte
  go_enter Tryd.func19, Tryd.ntmps19
  go_wp2
  go_loopg [0, 3] 17 (fun g p' v wr => DigRel w.heap.size p w g p' v wr)
  case atStart => exact ⟨p, 16, [], rfl, hp, rfl, by omega, by simp, rfl, rfl, World.ownsRow_nil _ _ _ _, Below.refl _ _⟩
  case round =>
    obtain ⟨q, j, l, rfl, hq, hg, hj, hd, hl, hlen, hown, hnx⟩ := hrel
    by_cases h0 : q = 0
    · subst h0
      rw [Pl.digs_zero, List.append_nil] at hl
      have HL := Lib.hid hl
      clear hd hl hg hlen
      rcases hown.2 with ⟨rfl, hn⟩ | ⟨g, cap, cur, rfl, -, -, -, -, -, -⟩
      · have hcv : ∀ W, (convert 53 9 (.slice none 0 0)).run Tryd.prog W = .ok (.string ByteArray.empty) W := fun W => run_convert_bytes_nil W _ _ Tryd.underlying53 Tryd.underlying5 0 0 _ Tryd.underlying9
        go_wp2
        go_ret
        obtain rfl : l = [] := List.length_eq_zero_iff.1 hn
        exact ⟨ret_str (l := []) HL.out.symm, hnx⟩
      · have hcv := run_convert_bytes_back (P := Tryd.prog) wr 53 9 5 ⟨g, 0, none⟩ cap l Tryd.underlying53 Tryd.underlying5 Tryd.underlying9 (fun j hj => hown.cells (g := g) rfl j _ (by simp [Lib.byteCells, hj]))
        clear hown
        go_wp2
        go_ret
        exact ⟨ret_str HL.out.symm, hnx⟩
    · obtain ⟨i, rfl, hdg, hd2, hq2⟩ := Pl.digs_step hq h0 hj hd
      have HC := Lib.hid (Pl.digit_cell q hq)
      have HD := Lib.hid hdg
      have HL := Lib.hid hl
      have HN := Lib.hid hlen
      have HG := Lib.hid hg
      have hll : l.length ≤ 16 := by omega
      have hws := hnx.size
      clear hdg hl hlen hg hd
      go_wp2_with (first | (at_builtin; refine wpList_append_own _ rfl _ _ 53 rfl w.heap.size 5 i0 (.int .u8 0) 1 1 Tryd.underlying53 hi hz0 hz1 hz2 rfl (by decide) _ _ _ rfl (hown.alloc _) ⟨wr.heap.size, 0, none⟩ 1 1 [.int .u8 (48 + (q : Int) * 10 / 65536)] rfl rfl ?c1 ?c2 ?c3 ?c4 ?c5 ?_) | (go_at_call 17; refine (whole_small _ (by omega) (by omega) _).mono ?_; rintro e w1 ⟨rfl, rfl⟩) | (go_at_call 18; refine (part_small _ (by omega) (by omega) _).mono ?_; rintro e w1 ⟨rfl, rfl⟩))
      case c1 =>
        intro j u hj
        match j, hj with
        | 0, hj => simp at hj; subst hj; simp [Addr.add]
      case c2 => intro u hu; simp at hu; subst hu; rfl
      case c3 => unfold maxLen; omega
      case c4 => omega
      case c5 => simp; omega
      intro v' w1 hown' hgrow _
      have hnx2 : Below w.heap.size w w1 := (hnx.alloc (by omega) _).grown hgrow (by simp; omega) (fun k hk => (hown.lt k hk).1)
      clear hgrow hown hnx
      go_wp2_with (go_at_call 18; refine (part_small _ (by omega) (by omega) _).mono ?_; rintro e w1 ⟨rfl, rfl⟩)
      go_roundg (i + 1)
      case measure => have := HG.out; omega
      case rel =>
        refine ⟨q * 10 % 65536, i, l ++ [UInt8.ofNat (48 + q * 10 / 65536)], by go_num, hq2, rfl, by omega, hd2, ?_, ?_, ?_, hnx2⟩
        · rw [HL.out, HD.out]; simp
        · have := HN.out; simp; omega
        · have e : Lib.byteCells (l ++ [UInt8.ofNat (48 + q * 10 / 65536)]) = Lib.byteCells l ++ [.int .u8 (48 + (q : Int) * 10 / 65536)] := by
            simp only [Lib.byteCells, List.map_append, List.map_cons, List.map_nil, HC.out]
          rw [e]; simpa using hown'

theorem abs_of (h : Int) (m : Nat) (hm : h.natAbs = m) (hb : m ≤ 2147483648) (w : World) : Calls Tryd.prog 15 #[.int .i64 h] w fun e w' => e = .returned (.int .i64 m) ∧ w = w' := by
  have e : Pl.amount h = m := by
    unfold Pl.amount; rw [Pl.held_in (by omega) (by omega)]; split <;> omega
  have := abs_any h w
  rwa [e] at this

theorem digitsOf_int (p : Int) (h0 : 0 ≤ p) (h1 : p < 65536) (w : World) : Calls Tryd.prog 19 #[.int .i64 p] w fun e w' => (∃ l : List UInt8, e = .returned (.string ⟨l.toArray⟩) ∧ Hid (l = Pl.digs 16 p.toNat) ∧ l.length ≤ 16) ∧ Below w.heap.size w w' := by
  have := digitsOf_any p.toNat (by omega) w
  rw [show ((p.toNat : Nat) : Int) = p by omega] at this
  exact this.mono fun e w' ⟨he, hb⟩ => ⟨⟨_, he, Lib.hid rfl, Pl.digs_length _ _⟩, hb⟩

theorem cat (x y : List UInt8) : (⟨x.toArray⟩ : ByteArray) ++ ⟨y.toArray⟩ = ⟨(x ++ y).toArray⟩ := by
  apply ByteArray.ext
  simp

theorem cat2 (l d : List UInt8) : (⟨l.toArray⟩ : ByteArray) ++ ((⟨#[46]⟩ : ByteArray) ++ ⟨d.toArray⟩) = ⟨(l ++ 46 :: d).toArray⟩ := by
  apply ByteArray.ext
  simp

theorem cat3 (l d : List UInt8) : (⟨#[45]⟩ : ByteArray) ++ ((⟨l.toArray⟩ : ByteArray) ++ ((⟨#[46]⟩ : ByteArray) ++ ⟨d.toArray⟩)) = ⟨(45 :: (l ++ 46 :: d)).toArray⟩ := by
  apply ByteArray.ext
  simp

theorem ret_cat {a b : ByteArray} (h : a = b) : Ending.returned (.string a) = .returned (.string b) := by rw [h]

/-- what the numeral's contract says where it is called -/
def ItoaAt (n : Int) (w : World) : Prop := Calls Tryd.prog 16 #[.int .i64 n] w fun e w' => (∃ l : List UInt8, e = .returned (.string ⟨l.toArray⟩) ∧ Hid (l = Lib.decDigits n.toNat) ∧ l.length ≤ 21) ∧ Below w.heap.size w w'

theorem itoa_small (n : Nat) (h : n < 100) (w : World) : ItoaAt n w := by
  refine (Sh.strconv_Itoa_small n h w).mono ?_
  rintro e w' ⟨rfl, rfl⟩
  refine ⟨⟨_, rfl, Lib.hid (by rw [Int.toNat_natCast]), ?_⟩, Below.refl _ _⟩
  have := Pl.dec_len 9 n (by omega)
  omega

theorem text_held (h : Int) (m : Nat) (hm : h.natAbs = m) (hb : m ≤ 2147483648) (a : Int) (ha : Hid (Pl.held a = h)) (w : World) (hI : ItoaAt ((m : Int) / 65536) w) :
    Calls Tryd.prog 7 #[.int .i64 a] w fun e w' => e = .returned (.string ⟨(Pl.textOf h).toArray⟩) ∧ Below w.heap.size w w' := by
  have tk : ∀ W, Calls Tryd.prog 14 #[.int .i64 a] W fun e w' => e = .returned (.int .i64 h) ∧ W = w' := fun W => by have := take_any a W; rwa [ha.out] at this
  have TK := Lib.hid tk
  have HM := Lib.hid hm
  have HI := Lib.hid hI
  clear tk hI
  by_cases hs : h < 0
  · by_cases hp : (m : Int) % 65536 = 0
    · have HF := Lib.hid (Pl.text_neg_whole hm hs hp)
      clear hm
      go_enter Tryd.func7, Tryd.ntmps7
      go_wp2_with fail
      refine (TK.out _).mono ?_
      rintro e w1 ⟨rfl, rfl⟩
      go_wp2_with fail
      refine (abs_of h m HM.out hb _).mono ?_
      rintro e w1 ⟨rfl, rfl⟩
      go_wp2_with fail
      refine (whole_small _ (by omega) (by omega) _).mono ?_
      rintro e w1 ⟨rfl, rfl⟩
      go_wp2_with fail
      refine Calls.mono HI.out ?_
      rintro e w1 ⟨⟨l, rfl, HL, hl⟩, hb1⟩
      go_wp2_with fail
      refine (part_small _ (by omega) (by omega) _).mono ?_
      rintro e w2 ⟨rfl, rfl⟩
      go_wp2_with fail
      go_ret
      exact ⟨ret_cat (by rw [HF.out, ← HL.out]; exact cat [45] l), hb1⟩
    · have HF := Lib.hid (Pl.text_neg_part hm hs hp)
      clear hm
      go_enter Tryd.func7, Tryd.ntmps7
      go_wp2_with fail
      refine (TK.out _).mono ?_
      rintro e w1 ⟨rfl, rfl⟩
      go_wp2_with fail
      refine (abs_of h m HM.out hb _).mono ?_
      rintro e w1 ⟨rfl, rfl⟩
      go_wp2_with fail
      refine (whole_small _ (by omega) (by omega) _).mono ?_
      rintro e w1 ⟨rfl, rfl⟩
      go_wp2_with fail
      refine Calls.mono HI.out ?_
      rintro e w1 ⟨⟨l, rfl, HL, hl⟩, hb1⟩
      go_wp2_with fail
      refine (part_small _ (by omega) (by omega) _).mono ?_
      rintro e w2 ⟨rfl, rfl⟩
      go_wp2_with fail
      refine (digitsOf_int _ (by omega) (by omega) _).mono ?_
      rintro e w2 ⟨⟨d, rfl, HD, hd⟩, hb2⟩
      go_wp2_with fail
      go_ret
      exact ⟨ret_cat (by rw [HF.out, ← HL.out, ← HD.out]; exact cat3 l d), hb1.trans (hb2.mono hb1.size)⟩
  · by_cases hp : (m : Int) % 65536 = 0
    · have HF := Lib.hid (Pl.text_pos_whole hm hs hp)
      clear hm
      go_enter Tryd.func7, Tryd.ntmps7
      go_wp2_with fail
      refine (TK.out _).mono ?_
      rintro e w1 ⟨rfl, rfl⟩
      go_wp2_with fail
      refine (abs_of h m HM.out hb _).mono ?_
      rintro e w1 ⟨rfl, rfl⟩
      go_wp2_with fail
      refine (whole_small _ (by omega) (by omega) _).mono ?_
      rintro e w1 ⟨rfl, rfl⟩
      go_wp2_with fail
      refine Calls.mono HI.out ?_
      rintro e w1 ⟨⟨l, rfl, HL, hl⟩, hb1⟩
      go_wp2_with fail
      refine (part_small _ (by omega) (by omega) _).mono ?_
      rintro e w2 ⟨rfl, rfl⟩
      go_wp2_with fail
      go_ret
      exact ⟨ret_cat (by rw [HF.out, ← HL.out]), hb1⟩
    · have HF := Lib.hid (Pl.text_pos_part hm hs hp)
      clear hm
      go_enter Tryd.func7, Tryd.ntmps7
      go_wp2_with fail
      refine (TK.out _).mono ?_
      rintro e w1 ⟨rfl, rfl⟩
      go_wp2_with fail
      refine (abs_of h m HM.out hb _).mono ?_
      rintro e w1 ⟨rfl, rfl⟩
      go_wp2_with fail
      refine (whole_small _ (by omega) (by omega) _).mono ?_
      rintro e w1 ⟨rfl, rfl⟩
      go_wp2_with fail
      refine Calls.mono HI.out ?_
      rintro e w1 ⟨⟨l, rfl, HL, hl⟩, hb1⟩
      go_wp2_with fail
      refine (part_small _ (by omega) (by omega) _).mono ?_
      rintro e w2 ⟨rfl, rfl⟩
      go_wp2_with fail
      refine (digitsOf_int _ (by omega) (by omega) _).mono ?_
      rintro e w2 ⟨⟨d, rfl, HD, hd⟩, hb2⟩
      go_wp2_with fail
      go_ret
      exact ⟨ret_cat (by rw [HF.out, ← HL.out, ← HD.out]; exact cat2 l d), hb1.trans (hb2.mono hb1.size)⟩
end Go.Proofs.YtcgafhpbcdmigaaDoor.Wa
