/- Scenes in memory: rows of numbers, rows of tracks, a scene's value and its box. -/
import Derived.Test.YtfbppiamlolfpaaC25
import Derived.Test.YtfbppiamlolfpaaC15
namespace Go.Proofs.Ytfbppiamlolfpaa.Sc
open Go.RowKit Go.Proofs.Ytfbppiamlolfpaa Go.Proofs.Ytfbppiamlolfpaa.Wa Go.Proofs.Ytfbppiamlolfpaa.Ve Go.Proofs.Ytfbppiamlolfpaa.Tk
set_option linter.unusedVariables false

/-- a slice of things of so many numbers each -/
def Nums (c : Nat) (w : World) (a : Option Addr) (n : Nat) (L : Nat → Int) : Prop :=
  n * (c * 8) ≤ 140737488351232 ∧ (n = 0 ∨ ∃ b off, a = some ⟨b, off, none⟩ ∧ b < w.heap.size ∧ ∀ j, j < n * c → w.cell? ⟨b, off + j, none⟩ = some (.int .i64 (L j)))

theorem Nums.on {c : Nat} {w w' : World} {a : Option Addr} {n : Nat} {L : Nat → Int} (h : Nums c w a n L) (hb : Below w.heap.size w w') : Nums c w' a n L := by
  obtain ⟨h0, h | ⟨b, off, rfl, hlt, hc⟩⟩ := h
  · exact ⟨h0, .inl h⟩
  · exact ⟨h0, .inr ⟨b, off, rfl, Nat.lt_of_lt_of_le hlt hb.size, fun j hj => (hb.cell (p := ⟨b, off + j, none⟩) hlt).trans (hc j hj)⟩⟩

theorem Nums.congr {c : Nat} {w : World} {a : Option Addr} {n : Nat} {L M : Nat → Int} (h : Nums c w a n L) (he : ∀ j, j < n * c → L j = M j) : Nums c w a n M := by
  obtain ⟨h0, h | ⟨b, off, rfl, hlt, hc⟩⟩ := h
  · exact ⟨h0, .inl h⟩
  · exact ⟨h0, .inr ⟨b, off, rfl, hlt, fun j hj => by rw [hc j hj, he j hj]⟩⟩

/-- a slice of tracks -/
def Tracks (w : World) (a : Option Addr) (n : Nat) (way : Nat → Int) (kn : Nat → Nat) (K : Nat → Nat → Int) : Prop :=
  n * 32 ≤ 140737488351232 ∧ (n = 0 ∨ ∃ b off, a = some ⟨b, off, none⟩ ∧ b < w.heap.size ∧ ∀ i, i < n → ∃ ka kc, w.cell? ⟨b, off + i * 2, none⟩ = some (.int .i64 (way i)) ∧ w.cell? ⟨b, off + (i * 2 + 1), none⟩ = some (.slice ka (kn i) kc) ∧ KeysAt w ka (kn i) (K i))

theorem Tracks.on {w w' : World} {a : Option Addr} {n : Nat} {way : Nat → Int} {kn : Nat → Nat} {K : Nat → Nat → Int} (h : Tracks w a n way kn K) (hb : Below w.heap.size w w') : Tracks w' a n way kn K := by
  obtain ⟨h0, h | ⟨b, off, rfl, hlt, hc⟩⟩ := h
  · exact ⟨h0, .inl h⟩
  · refine ⟨h0, .inr ⟨b, off, rfl, Nat.lt_of_lt_of_le hlt hb.size, fun i hi => ?_⟩⟩
    obtain ⟨ka, kc, h1, h2, h3⟩ := hc i hi
    exact ⟨ka, kc, (hb.cell (p := ⟨b, off + i * 2, none⟩) hlt).trans h1, (hb.cell (p := ⟨b, off + (i * 2 + 1), none⟩) hlt).trans h2, h3.on hb⟩

/-- where a scene's lists stand -/
structure Pla where
  pa : Option Addr
  pc : Nat
  ta : Option Addr
  tc : Nat
  ja : Option Addr
  jc : Nat
  sa : Option Addr
  sc : Nat

abbrev HV (w h sm dp fr sh : Int) (sd : Nat) (r g b : Int) : Value := .agg #[.int .i64 w, .int .i64 h, .int .i64 sm, .int .i64 dp, .int .i64 fr, .int .i64 sh, .int .u64 sd, .int .i64 r, .int .i64 g, .int .i64 b]

abbrev HS (s : Scn) : Value := HV s.w s.h s.sm s.dp s.fr s.sh s.sd s.r s.g s.b

/-- a scene's cells -/
abbrev SC (s : Scn) (a : Pla) : Array Value := #[.int .i64 s.w, .int .i64 s.h, .int .i64 s.sm, .int .i64 s.dp, .int .i64 s.fr, .int .i64 s.sh, .int .u64 s.sd, .int .i64 s.r, .int .i64 s.g, .int .i64 s.b, .int .i64 s.ey, .int .i64 s.lk, .int .i64 s.wd, .slice a.pa s.np a.pc, .slice a.ta s.nt a.tc, .slice a.ja s.nj a.jc, .slice a.sa s.ns a.sc]

abbrev SV (s : Scn) (a : Pla) : Value := .agg (SC s a)

structure ScAt (w : World) (s : Scn) (a : Pla) : Prop where
  p : Nums 5 w a.pa s.np s.P
  t : Tracks w a.ta s.nt s.way s.kn s.K
  j : Nums 4 w a.ja s.nj s.J
  sh : Nums 13 w a.sa s.ns s.S
  sd : s.sd < 18446744073709551616

theorem ScAt.on {w w' : World} {s : Scn} {a : Pla} (h : ScAt w s a) (hb : Below w.heap.size w w') : ScAt w' s a := ⟨h.p.on hb, h.t.on hb, h.j.on hb, h.sh.on hb, h.sd⟩

/-- a block that holds a scene -/
def SBox (w : World) (q : Nat) (s : Scn) (a : Pla) : Prop := q < w.heap.size ∧
  w.cell? ⟨q, 0, none⟩ = some (.int .i64 s.w) ∧ w.cell? ⟨q, 1, none⟩ = some (.int .i64 s.h) ∧ w.cell? ⟨q, 2, none⟩ = some (.int .i64 s.sm) ∧ w.cell? ⟨q, 3, none⟩ = some (.int .i64 s.dp) ∧ w.cell? ⟨q, 4, none⟩ = some (.int .i64 s.fr) ∧ w.cell? ⟨q, 5, none⟩ = some (.int .i64 s.sh) ∧ w.cell? ⟨q, 6, none⟩ = some (.int .u64 s.sd) ∧ w.cell? ⟨q, 7, none⟩ = some (.int .i64 s.r) ∧ w.cell? ⟨q, 8, none⟩ = some (.int .i64 s.g) ∧ w.cell? ⟨q, 9, none⟩ = some (.int .i64 s.b) ∧ w.cell? ⟨q, 10, none⟩ = some (.int .i64 s.ey) ∧ w.cell? ⟨q, 11, none⟩ = some (.int .i64 s.lk) ∧ w.cell? ⟨q, 12, none⟩ = some (.int .i64 s.wd) ∧ w.cell? ⟨q, 13, none⟩ = some (.slice a.pa s.np a.pc) ∧ w.cell? ⟨q, 14, none⟩ = some (.slice a.ta s.nt a.tc) ∧ w.cell? ⟨q, 15, none⟩ = some (.slice a.ja s.nj a.jc) ∧ w.cell? ⟨q, 16, none⟩ = some (.slice a.sa s.ns a.sc)

theorem SBox.on {w w' : World} {q : Nat} {s : Scn} {a : Pla} (h : SBox w q s a) (hb : Below w.heap.size w w') : SBox w' q s a := by
  obtain ⟨h0, h⟩ := h
  have e : ∀ i, w'.cell? ⟨q, i, none⟩ = w.cell? ⟨q, i, none⟩ := fun i => hb.cell (p := ⟨q, i, none⟩) h0
  refine ⟨Nat.lt_of_lt_of_le h0 hb.size, ?_⟩
  rw [e, e, e, e, e, e, e, e, e, e, e, e, e, e, e, e, e]
  exact h

theorem SBox.new (w : World) (s : Scn) (a : Pla) (t : TypeId) : SBox (w.alloc (.cells (SC s a) t)) w.heap.size s a := by
  refine ⟨by simp, ?_⟩
  refine ⟨?_, ?_, ?_, ?_, ?_, ?_, ?_, ?_, ?_, ?_, ?_, ?_, ?_, ?_, ?_, ?_, ?_⟩ <;> simp [go_sem]

theorem SBox.range {w : World} {q : Nat} {s : Scn} {a : Pla} (h : SBox w q s a) : w.rangeAt q 0 (SC s a).toList := by
  obtain ⟨h0, h1, h2, h3, h4, h5, h6, h7, h8, h9, h10, h11, h12, h13, h14, h15, h16, h17⟩ := h
  intro j v hv
  match j, hv with
  | 0, hv => simp at hv; subst hv; exact h1
  | 1, hv => simp at hv; subst hv; exact h2
  | 2, hv => simp at hv; subst hv; exact h3
  | 3, hv => simp at hv; subst hv; exact h4
  | 4, hv => simp at hv; subst hv; exact h5
  | 5, hv => simp at hv; subst hv; exact h6
  | 6, hv => simp at hv; subst hv; exact h7
  | 7, hv => simp at hv; subst hv; exact h8
  | 8, hv => simp at hv; subst hv; exact h9
  | 9, hv => simp at hv; subst hv; exact h10
  | 10, hv => simp at hv; subst hv; exact h11
  | 11, hv => simp at hv; subst hv; exact h12
  | 12, hv => simp at hv; subst hv; exact h13
  | 13, hv => simp at hv; subst hv; exact h14
  | 14, hv => simp at hv; subst hv; exact h15
  | 15, hv => simp at hv; subst hv; exact h16
  | 16, hv => simp at hv; subst hv; exact h17
  | j + 17, hv => simp at hv

theorem eq_avec (x y z a b c : Int) (W : World) : (Op.equalIn 10000 73 (V3 x y z) (V3 a b c)).run Try.prog W = .ok (decide (x = a ∧ y = b ∧ z = c)) W := by
  rw [run_equalIn_struct W 9999 73 _ _ (by kernel_rfl) (by kernel_rfl)]
  simp only [Program.fieldsOf, Try.underlying73, Op.eqFields]
  by_cases h1 : x = a <;> by_cases h2 : y = b <;> by_cases h3 : z = c <;> simp [go_sem, h1, h2, h3]

theorem eq_rvec (x y z a b c : Int) (W : World) : (Op.equalIn 10000 80 (V3 x y z) (V3 a b c)).run Try.prog W = .ok (decide (x = a ∧ y = b ∧ z = c)) W := by
  obtain ⟨i0, hi, hz0, hz1, hz2⟩ := info_parts infoInt
  rw [run_equalIn_array W 9999 _ _ Try.underlying80 hi, cellsInt]
  simp only [show List.range 3 = [0, 1, 2] from rfl, Op.eqItems, Sem.run_bind]
  by_cases h1 : x = a <;> by_cases h2 : y = b <;> by_cases h3 : z = c <;> simp [go_sem, h1, h2, h3]

end Go.Proofs.Ytfbppiamlolfpaa.Sc
