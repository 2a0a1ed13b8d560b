/- What the texts' contracts ask of the world (the package variables as the program's text lays them), and what the library's numerals answer there. -/
import Derived.Test.YtcgafhpbcdmigaaDoorWt
import Derived.Test.YtcgafhpbcdmigaaDoorPx
import Derived.Lib.AppendIntMem
namespace Go.Proofs.YtcgafhpbcdmigaaDoor.Qa
open Go.RowKit Go.Proofs.YtcgafhpbcdmigaaDoor Go.Proofs.YtcgafhpbcdmigaaDoor.Wa

/-- the variables that are read, as they were laid -/
def Laid (w : World) : Prop :=
  (∃ m : Int, w.cell? ⟨0, 0, none⟩ = some (.int .i64 m)) ∧
  (∃ ev, w.cell? ⟨1, 0, none⟩ = some ev ∧ (ev = .nilIface ∨ ∃ te pe, ev = .iface te pe)) ∧
  (∃ ev, w.cell? ⟨2, 0, none⟩ = some ev ∧ (ev = .nilIface ∨ ∃ te pe, ev = .iface te pe)) ∧
  Lib.TabIs Tryd.prog w "internal/strconv.uint64pow10" .u64 Lib.pow10Tab

theorem cell_on {w w' : World} {p : Addr} {v : Value} (hb : Below w.heap.size w w') (h : w.cell? p = some v) : w'.cell? p = some v :=
  (hb.cell (World.block_lt_of_cell? _ _ h)).trans h

theorem tab_on {n : String} {g : Nat} {k : IntKind} {zs : List Int} {w w' : World} (hg : Tryd.prog.globalNamed n = some g) (h : Lib.TabIs Tryd.prog w n k zs) (hb : Below w.heap.size w w') : Lib.TabIs Tryd.prog w' n k zs := by
  unfold Lib.TabIs World.var? at h ⊢
  rw [hg] at h ⊢
  simp only [Option.bind_some] at h ⊢
  have hlt : g < w.heap.size := by
    rcases Nat.lt_or_ge g w.heap.size with h' | h'
    · exact h'
    · rw [Array.getElem?_eq_none h'] at h; cases h
  rw [hb.block g hlt]
  exact h

theorem Laid.on {w w' : World} (h : Laid w) (hb : Below w.heap.size w w') : Laid w' := by
  obtain ⟨⟨m, h1⟩, ⟨e1, h2, h2'⟩, ⟨e2, h3, h3'⟩, h4⟩ := h
  exact ⟨⟨m, cell_on hb h1⟩, ⟨e1, cell_on hb h2, h2'⟩, ⟨e2, cell_on hb h3, h3'⟩, tab_on (g := 3) (by kernel_rfl) h4 hb⟩

theorem itoa_at (n : Int) (h0 : 0 ≤ n) (h1 : n ≤ 2147483648) (w : World) (hL : Laid w) : ItoaAt n w := by
  refine (Sh.strconv_Itoa n (by omega) (by omega) w hL.2.2.2).mono ?_
  rintro e w' ⟨rfl, k, os, rfl⟩
  refine ⟨⟨_, rfl, Lib.hid ?_, ?_⟩, Lib.below_grow _ _ (Nat.le_refl _) _ _⟩
  · unfold Lib.itoa; rw [if_neg (by omega)]
  · unfold Lib.itoa; rw [if_neg (by omega)]
    have := Pl.dec_len 20 n.toNat (by omega)
    omega

theorem parse_le {M : Nat} : ∀ (l : List UInt8) (acc u : Nat), acc ≤ M → Lib.parseUintM M acc l = .ok u → u ≤ M
  | [], acc, u, ha, h => by
    simp only [Lib.parseUintM] at h
    injection h with h
    omega
  | c :: r, acc, u, ha, h => by
    unfold Lib.parseUintM at h
    split at h
    · split at h
      · cases h
      · split at h
        · cases h
        · exact parse_le r _ u (by omega) h
    · cases h

theorem parseB_le {B : Nat} {l : List UInt8} {u : Nat} (h : Lib.parseUintB B l = .ok u) : u ≤ 2 ^ B - 1 := by
  unfold Lib.parseUintB at h
  split at h
  · cases h
  · exact parse_le l 0 u (by omega) h

theorem ok_below {w w' : World} {e : TypeId} {s : ByteArray} (h : w' = w ∨ w' = Lib.bytesWorld w e s) : Below w.heap.size w w' := by
  rcases h with rfl | rfl
  · exact Below.refl _ _
  · exact Lib.bytesWorld_below _ _ _

theorem pu16_ok (l : List UInt8) (hl : l.length ≤ 1000) (u : Nat) (h : Lib.parseUintB 16 l = .ok u) (w : World) :
    Calls Tryd.prog 26 #[.string ⟨l.toArray⟩, .int .i64 10, .int .i64 16] w fun e w' => e = .returned (.tuple #[.int .u64 u, .nilIface]) ∧ Below w.heap.size w w' :=
  (Sh.strconv_ParseUint_10_at16_ok ⟨l.toArray⟩ (by show l.toArray.size ≤ _; simp; omega) u (by simpa using h) w).mono fun _ _ ⟨he, hw⟩ => ⟨he, ok_below hw⟩

theorem pu64_ok (l : List UInt8) (hl : l.length ≤ 1000) (u : Nat) (h : Lib.parseUintB 64 l = .ok u) (w : World) :
    Calls Tryd.prog 26 #[.string ⟨l.toArray⟩, .int .i64 10, .int .i64 64] w fun e w' => e = .returned (.tuple #[.int .u64 u, .nilIface]) ∧ Below w.heap.size w w' :=
  (Sh.strconv_ParseUint_10_at64_ok ⟨l.toArray⟩ (by show l.toArray.size ≤ _; simp; omega) u (by simpa using h) w).mono fun _ _ ⟨he, hw⟩ => ⟨he, ok_below hw⟩

theorem pu16_bad (l : List UInt8) (hl : l.length ≤ 1000) (h : ∀ u, Lib.parseUintB 16 l ≠ .ok u) (w : World) (hL : Laid w) :
    Calls Tryd.prog 26 #[.string ⟨l.toArray⟩, .int .i64 10, .int .i64 16] w fun e w' => (∃ (u : Int) (N : Nat), e = .returned (.tuple #[.int .u64 u, .iface 71 (.pointer (some ⟨N, 0, none⟩))])) ∧ Below w.heap.size w w' := by
  obtain ⟨-, ⟨e1, h2, h2'⟩, ⟨e2, h3, h3'⟩, -⟩ := hL
  have hsz : (⟨l.toArray⟩ : ByteArray).size ≤ 281474976710656 := by show l.toArray.size ≤ _; simp; omega
  cases hx : Lib.parseUintB 16 l
  · exact absurd hx (h _)
  · exact (Any.strconv_ParseUint_10_at16_syntax Sh.laysPu14 ⟨l.toArray⟩ hsz (by simpa using hx) e1 w h2 h2').mono fun _ _ ⟨N, he, _, _, hb⟩ => ⟨⟨_, N, he⟩, hb⟩
  · exact (Any.strconv_ParseUint_10_at16_range Sh.laysPu14 ⟨l.toArray⟩ hsz (by simpa using hx) e2 w h3 h3').mono fun _ _ ⟨N, he, _, _, hb⟩ => ⟨⟨_, N, he⟩, hb⟩

theorem pu64_bad (l : List UInt8) (hl : l.length ≤ 1000) (h : ∀ u, Lib.parseUintB 64 l ≠ .ok u) (w : World) (hL : Laid w) :
    Calls Tryd.prog 26 #[.string ⟨l.toArray⟩, .int .i64 10, .int .i64 64] w fun e w' => (∃ (u : Int) (N : Nat), e = .returned (.tuple #[.int .u64 u, .iface 71 (.pointer (some ⟨N, 0, none⟩))])) ∧ Below w.heap.size w w' := by
  obtain ⟨-, ⟨e1, h2, h2'⟩, ⟨e2, h3, h3'⟩, -⟩ := hL
  have hsz : (⟨l.toArray⟩ : ByteArray).size ≤ 281474976710656 := by show l.toArray.size ≤ _; simp; omega
  cases hx : Lib.parseUintB 64 l
  · exact absurd hx (h _)
  · exact (Any.strconv_ParseUint_10_at64_syntax Sh.laysPu14 ⟨l.toArray⟩ hsz (by simpa using hx) e1 w h2 h2').mono fun _ _ ⟨N, he, _, _, hb⟩ => ⟨⟨_, N, he⟩, hb⟩
  · exact (Any.strconv_ParseUint_10_at64_range Sh.laysPu14 ⟨l.toArray⟩ hsz (by simpa using hx) e2 w h3 h3').mono fun _ _ ⟨N, he, _, _, hb⟩ => ⟨⟨_, N, he⟩, hb⟩
end Go.Proofs.YtcgafhpbcdmigaaDoor.Qa
