/- Layer 22: the document's way to stir bytes, plainly: it is the program's. -/
import Derived.Test.YtndpidmbfdpiaaaDoorK40
namespace Go.Proofs.YtndpidmbfdpiaaaDoor.Se
open Go Go.RowKit Go.Proofs.YtndpidmbfdpiaaaDoor Go.Proofs.YtndpidmbfdpiaaaDoor.Au Go.Proofs.YtndpidmbfdpiaaaDoor.Re
set_option linter.unusedVariables false
set_option linter.unusedSimpArgs false

theorem bits_or_u32_nat (a b : Nat) (ha : a < 4294967296) (hb : b < 4294967296) : bits .or .u32 (a : Int) (b : Int) = ((a ||| b : Nat) : Int) := by
  have hx : a ||| b < 2 ^ 32 := Nat.or_lt_two_pow (by omega) (by omega)
  have h1 : (BitVec.ofInt 32 (a : Int)).toNat = a := by
    rw [BitVec.ofInt_natCast, BitVec.toNat_ofNat]; exact Nat.mod_eq_of_lt (by omega)
  have h2 : (BitVec.ofInt 32 (b : Int)).toNat = b := by
    rw [BitVec.ofInt_natCast, BitVec.toNat_ofNat]; exact Nat.mod_eq_of_lt (by omega)
  show IntKind.u32.wrap ((BitVec.ofInt 32 (a : Int) ||| BitVec.ofInt 32 (b : Int)).toNat : Int) = _
  rw [BitVec.toNat_or, h1, h2, IntKind.wrap_u32']
  omega

theorem or_low (x b : Nat) (hb : b < 256) : bits .or .u32 (wr ((x : Int) * 256)) (b : Int) = ((x % 16777216 * 256 + b : Nat) : Int) := by
  have e : wr ((x : Int) * 256) = ((x % 16777216 * 256 : Nat) : Int) := by unfold wr; omega
  rw [e, bits_or_u32_nat _ _ (by omega) (by omega)]
  have h := Nat.two_pow_add_eq_or_of_lt (i := 8) (b := b) (by omega) (x % 16777216)
  rw [Nat.mul_comm (x % 16777216) 256]
  exact congrArg (fun z : Nat => (z : Int)) (by simpa using h.symm)

theorem notw (e : Int) (h0 : 0 ≤ e) (h1 : e < 4294967296) : bits .xor .u32 IntKind.u32.max e = 4294967295 - e := by
  obtain ⟨n, rfl⟩ : ∃ n : Nat, e = (n : Int) := ⟨e.toNat, by omega⟩
  have h2 : (BitVec.ofInt 32 (n : Int)).toNat = n := by
    rw [BitVec.ofInt_natCast, BitVec.toNat_ofNat]; exact Nat.mod_eq_of_lt (by omega)
  have h3 : BitVec.ofInt 32 IntKind.u32.max = BitVec.allOnes 32 := by decide
  show IntKind.u32.wrap ((BitVec.ofInt 32 IntKind.u32.max ^^^ BitVec.ofInt 32 (n : Int)).toNat : Int) = _
  rw [h3, BitVec.allOnes_xor, BitVec.toNat_not, h2, IntKind.wrap_u32']
  omega

/-- a word of four bytes -/
def wordD (B : List UInt8) (i : Nat) : Int := byteAt B (4 * i) * 16777216 + byteAt B (4 * i + 1) * 65536 + byteAt B (4 * i + 2) * 256 + byteAt B (4 * i + 3)

theorem part_4 (B : List UInt8) (i : Nat) : part B i 4 = wordD B i := by
  have hb : ∀ j, ∃ n : Nat, byteAt B j = (n : Int) ∧ n < 256 := fun j => ⟨(B.getD j 0).toNat, rfl, (B.getD j 0).toNat_lt⟩
  obtain ⟨a, ha, a1⟩ := hb (4 * i)
  obtain ⟨b, hbb, b1⟩ := hb (4 * i + 1)
  obtain ⟨c, hc, c1⟩ := hb (4 * i + 2)
  obtain ⟨d, hd, d1⟩ := hb (4 * i + 3)
  have e1 : part B i 1 = (a : Int) := by
    show bits .or .u32 (wr ((0 : Int) * 256)) (byteAt B (4 * i + 0)) = _
    rw [Nat.add_zero, ha]
    have := or_low 0 a a1
    simpa using this
  have e2 : part B i 2 = ((a % 16777216 * 256 + b : Nat) : Int) := by
    show bits .or .u32 (wr (part B i 1 * 256)) (byteAt B (4 * i + 1)) = _
    rw [e1, hbb]; exact or_low a b b1
  have e3 : part B i 3 = (((a % 16777216 * 256 + b) % 16777216 * 256 + c : Nat) : Int) := by
    show bits .or .u32 (wr (part B i 2 * 256)) (byteAt B (4 * i + 2)) = _
    rw [e2, hc]; exact or_low _ c c1
  have e4 : part B i 4 = ((((a % 16777216 * 256 + b) % 16777216 * 256 + c) % 16777216 * 256 + d : Nat) : Int) := by
    show bits .or .u32 (wr (part B i 3 * 256)) (byteAt B (4 * i + 3)) = _
    rw [e3, hd]; exact or_low _ d d1
  rw [e4]
  unfold wordD
  rw [ha, hbb, hc, hd]
  omega

/-- the words, so far as they are reckoned -/
def schedN (B : List UInt8) (i : Nat) : List Int := if i < 16 then words B i else sched B (i - 16)

theorem schedN_len (B : List UInt8) (i : Nat) : (schedN B i).length = 64 := by
  unfold schedN; split
  · exact words_len B i
  · exact sched_len B _

theorem schedN_0 (B : List UInt8) : schedN B 0 = List.replicate 64 0 := by
  unfold schedN; rw [if_pos (by omega)]; exact words_0 B

theorem schedN_64 (B : List UInt8) : schedN B 64 = sched B 48 := by
  unfold schedN; rw [if_neg (by omega)]

theorem schedN_lo (B : List UInt8) (i : Nat) (h : i < 16) : schedN B (i + 1) = (schedN B i).set i (wordD B i) := by
  have e : schedN B (i + 1) = words B (i + 1) := by
    unfold schedN
    by_cases h1 : i + 1 < 16
    · rw [if_pos h1]
    · rw [if_neg h1, show i + 1 - 16 = 0 by omega, show i + 1 = 16 by omega]; rfl
  rw [e, ← words_set, part_4]
  unfold schedN
  rw [if_pos h]

theorem schedN_hi (B : List UInt8) (i : Nat) (h : 16 ≤ i) : schedN B (i + 1) = (schedN B i).set i (nx (schedN B i) i) := by
  unfold schedN
  rw [if_neg (by omega), if_neg (by omega), show i + 1 - 16 = (i - 16) + 1 by omega]
  show (sched B (i - 16)).set (16 + (i - 16)) (nx (sched B (i - 16)) (16 + (i - 16))) = _
  rw [show 16 + (i - 16) = i by omega]

/-- the same sum in another order -/
theorem nx_is (a b c d s0 s1 : Int) : wr (wr (wr (s1 + b) + s0) + a) = wr (wr (wr (a + s0) + b) + s1) := by unfold wr; omega

/-- words of 32 bits -/
def V8.ok (v : V8) : Prop := ∀ x ∈ v.l, 0 ≤ x ∧ x < 4294967296

theorem wr_bd (x : Int) : 0 ≤ wr x ∧ wr x < 4294967296 := by unfold wr; omega

theorem start_ok : start.ok := by
  intro x hx
  simp [V8.l, start] at hx
  omega

theorem rnd_ok (v : V8) (k w : Int) (h : v.ok) : (rnd v k w).ok := by
  have h' := h
  unfold V8.ok V8.l at h'
  simp only [List.mem_cons, List.not_mem_nil, or_false, forall_eq_or_imp, forall_eq] at h'
  intro x hx
  simp only [V8.l, rnd, List.mem_cons, List.not_mem_nil, or_false] at hx
  rcases hx with rfl | rfl | rfl | rfl | rfl | rfl | rfl | rfl
  · exact wr_bd _
  · exact h'.1
  · exact h'.2.1
  · exact h'.2.2.1
  · exact wr_bd _
  · exact h'.2.2.2.2.1
  · exact h'.2.2.2.2.2.1
  · exact h'.2.2.2.2.2.2.1

theorem rn_ok (v : V8) (L : List Int) (h : v.ok) : ∀ n, (rn v L n).ok
  | 0 => h
  | n + 1 => rnd_ok _ _ _ (rn_ok v L h n)

theorem stir_ok (v : V8) (B : List UInt8) : (stir v B).ok := by
  intro x hx
  simp only [stir, add8, V8.l, List.mem_cons, List.not_mem_nil, or_false] at hx
  rcases hx with rfl | rfl | rfl | rfl | rfl | rfl | rfl | rfl <;> exact wr_bd _

/-- one block of some bytes -/
def chunk (P : List UInt8) (k : Nat) : List UInt8 := (P.drop (64 * k)).take 64

/-- the words behind k blocks -/
def vk (P : List UInt8) : Nat → V8
  | 0 => start
  | k + 1 => stir (vk P k) (chunk P k)

theorem vk_ok (P : List UInt8) : ∀ k, (vk P k).ok
  | 0 => start_ok
  | k + 1 => stir_ok _ _

theorem splice_all (a c : List UInt8) (h : c.length = 64) (ha : a.length = 64) : splice a 0 c = c := by
  unfold splice
  rw [List.take_zero, List.nil_append, List.drop_eq_nil_of_le (by omega), List.append_nil]

theorem feeds_vk (P : List UInt8) : ∀ k, 64 * k ≤ P.length → ∃ blk : List UInt8, blk.length = 64 ∧ feeds press0 (P.take (64 * k)) = ⟨vk P k, blk, 64 * k⟩
  | 0, _ => ⟨List.replicate 64 0, by simp, rfl⟩
  | k + 1, h => by
    obtain ⟨blk, hb, e⟩ := feeds_vk P k (by omega)
    have hl : (chunk P k).length = 64 := by unfold chunk; rw [List.length_take, List.length_drop]; omega
    have et : P.take (64 * (k + 1)) = P.take (64 * k) ++ chunk P k := by
      unfold chunk
      rw [show 64 * (k + 1) = 64 * k + 64 by omega, List.take_add]
    refine ⟨chunk P k, hl, ?_⟩
    have hm : (64 * k) % 64 = 0 := by omega
    rw [et, feeds_app, e, feeds_chunk ⟨vk P k, blk, 64 * k⟩ hb (chunk P k) (fun e => by rw [e] at hl; simp at hl) (by show (64 * k) % 64 + _ ≤ 64; omega)]
    show Pst.mk (if (64 * k) % 64 + (chunk P k).length = 64 then stir (vk P k) (splice blk ((64 * k) % 64) (chunk P k)) else vk P k) (splice blk ((64 * k) % 64) (chunk P k)) (64 * k + (chunk P k).length) = _
    rw [hm, if_pos (by omega), splice_all _ _ hl hb, hl]
    rfl

theorem sha_vk (l : List UInt8) (K : Nat) (h : (l ++ pad l.length).length = 64 * K) : sha l = dig (vk (l ++ pad l.length) K) := by
  obtain ⟨blk, -, e⟩ := feeds_vk (l ++ pad l.length) K (by omega)
  rw [List.take_of_length_le (by omega)] at e
  have hn : (feeds press0 l).n = l.length := by rw [feeds_n]; show 0 + _ = _; omega
  unfold sha sumOf
  rw [hn, ← feeds_app, e]

theorem pad_len (n : Nat) : (pad n).length = zeros n + 9 := by simp [pad, be8]

theorem pad_whole (n : Nat) : ∃ K, n + (pad n).length = 64 * K := by
  refine ⟨(n + (pad n).length) / 64, ?_⟩
  rw [pad_len]
  unfold zeros
  omega

theorem chunk_at (P : List UInt8) (k j : Nat) (hj : j < 64) (h : 64 * (k + 1) ≤ P.length) : byteAt (chunk P k) j = ((P.getD (64 * k + j) 0).toNat : Int) := by
  unfold byteAt chunk
  simp [List.getD, List.getElem?_take, List.getElem?_drop, hj]

end Go.Proofs.YtndpidmbfdpiaaaDoor.Se
