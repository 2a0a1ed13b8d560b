/- Jobs: a writer, and what its calls leave be: all rows but those of bytes, and what lies below its base. -/
import Derived.Test.YtgkfoiekminfmaaRed
import Derived.Test.YtgkfoiekminfmaaAu
import Derived.Test.YtgkfoiekminfmaaLr
namespace Go.Proofs.Ytgkfoiekminfmaa.Jw
open Go.RowKit Go.Proofs.Ytgkfoiekminfmaa Go.Proofs.Ytgkfoiekminfmaa.Rp Go.Proofs.Ytgkfoiekminfmaa.Re Go.Proofs.Ytgkfoiekminfmaa.Au
set_option linter.unusedVariables false
set_option linter.unusedSimpArgs false

/-- a writer in block g, from the base B on: what it has laid -/
def WP (g B : Nat) (l : List UInt8) (w : World) : Prop :=
  g < w.heap.size ∧ B ≤ g ∧ (∀ j, w.frozen? ⟨g, j, none⟩ = false) ∧ ∃ v, w.cell? ⟨g, 0, none⟩ = some v ∧ w.ownsRow B 5 1 v l.length (vals l) ∧ ∀ q, v.ownBlock = some q → q ≠ g

/-- what its calls let be -/
def WS (g B : Nat) (w : World) (k : Nat) : Prop := k < w.heap.size ∧ k ≠ g ∧ (k < B ∨ ∃ cs t fr, w.heap[k]? = some (.cells cs t fr) ∧ t ≠ 5)

theorem own_lift {w : World} {v : Value} {n B : Nat} {xs : List Value} (h : w.ownsRow 0 5 1 v n xs) (hb : ∀ q, v.ownBlock = some q → B ≤ q) : w.ownsRow B 5 1 v n xs := by
  refine ⟨h.1, ?_⟩
  rcases h.2 with hn | ⟨q, cap, cur, rfl, h1, h2⟩
  · exact .inl hn
  · exact .inr ⟨q, cap, cur, rfl, hb q rfl, h2⟩

theorem own_drop {w : World} {v : Value} {n B : Nat} {xs : List Value} (h : w.ownsRow B 5 1 v n xs) : w.ownsRow 0 5 1 v n xs := by
  refine ⟨h.1, ?_⟩
  rcases h.2 with hn | ⟨q, cap, cur, rfl, h1, h2⟩
  · exact .inl hn
  · exact .inr ⟨q, cap, cur, rfl, Nat.zero_le _, h2⟩

theorem WP.use {g B : Nat} {l : List UInt8} {w : World} (h : WP g B l w) : WAt g (WS g B w) l w := by
  obtain ⟨h1, h2, h3, v, h4, h5, h6⟩ := h
  refine ⟨h1, fun k hk => hk.1, fun hk => hk.2.1 rfl, h3, v, h4, own_drop h5, fun q hq => ⟨fun hk => ?_, h6 q hq⟩⟩
  have hb := (h5.lt q hq).1
  rcases hk.2.2 with hk | ⟨cs, t, fr, hk, ht⟩
  · omega
  · rcases h5.2 with ⟨rfl, -⟩ | ⟨q', cap, cur, rfl, h7, h8, -⟩
    · simp [Value.ownBlock] at hq
    · simp [Value.ownBlock] at hq
      subst hq
      rw [h8] at hk
      simp at hk
      exact ht hk.2.1.symm

theorem WP.back {g B : Nat} {l : List UInt8} {w w' : World} (hB : B ≤ g) (hw : g < w.heap.size) (h : WAt g (WS g B w) l w') : WP g B l w' := by
  obtain ⟨h1, h2, h0, h3, v, h4, h5, h6⟩ := h
  refine ⟨h1, hB, h3, v, h4, own_lift h5 fun q hq => ?_, fun q hq => (h6 q hq).2⟩
  rcases Nat.lt_or_ge q B with hlt | hge
  · exact absurd ⟨by omega, (h6 q hq).2, .inl hlt⟩ (h6 q hq).1
  · exact hge

theorem aft_of_aw {g B : Nat} {w w' : World} (h : Aw (WS g B w) w w') : Aft g B w w' :=
  ⟨h.os, h.tape, h.output, h.size, fun k h1 h2 h3 => h.block k ⟨h2, h3, .inl h1⟩ h2, fun k cs t fr h1 h2 h3 => (h.block k ⟨lt_of_heap h3, h1, .inr ⟨cs, t, fr, h3, h2⟩⟩ (lt_of_heap h3)).trans h3⟩

theorem WP.new {g B : Nat} {l : List UInt8} {w w' : World} (h : WP g B l w) (hb : Below w.heap.size w w') : WP g B l w' := by
  obtain ⟨h1, h2, h3, v, h4, h5, h6⟩ := h
  exact ⟨Nat.lt_of_lt_of_le h1 hb.size, h2, fun j => (hb.frozen (p := ⟨g, j, none⟩) h1).trans (h3 j), v, (hb.cell (p := ⟨g, 0, none⟩) h1).trans h4, by
    refine ⟨h5.1, ?_⟩
    have hl := fun q hq => h5.lt q hq
    rcases h5.2 with hn | ⟨q, cap, cur, rfl, k1, k2, k3⟩
    · exact .inl hn
    · exact .inr ⟨q, cap, cur, rfl, k1, (hb.block q (hl q rfl).2).trans k2, k3⟩, h6⟩

theorem wp_drew {g B : Nat} {l : List UInt8} {w : World} (h : WP g B l w) : WP g B l w.drew := h.new (Below.refl _ w).drew

theorem WP.size {g B : Nat} {l : List UInt8} {w : World} (h : WP g B l w) : B ≤ g ∧ g < w.heap.size := ⟨h.2.1, h.1⟩

theorem lift {fn : FuncId} {args : Array Value} {g B : Nat} {l l' : List UInt8} {w : World} (hw : WP g B l w) (h : Calls Try.prog fn args w fun e w' => e = .returned (.tuple #[]) ∧ WAt g (WS g B w) l' w' ∧ Aw (WS g B w) w w') :
    Calls Try.prog fn args w fun e w' => e = .returned (.tuple #[]) ∧ WP g B l' w' ∧ Aft g B w w' :=
  h.mono fun e w' ⟨he, a, b⟩ => ⟨he, WP.back hw.2.1 hw.1 a, aft_of_aw b⟩

abbrev ivs (zs : List Int) : Array Value := (zs.map fun z => Value.int .i64 z).toArray

theorem ivs_at (zs : List Int) : ∀ j, j < zs.length → (ivs zs)[j]? = some (.int .i64 (zs.getD j 0)) := by
  intro j hj
  simp [ivs, List.getElem?_eq_getElem hj, List.getD]

theorem wints {g B b : Nat} {zs : List Int} {cs : Array Value} {t : TypeId} {w : World} (hr : w.heap[b]? = some (.cells cs t (0, 0))) (hc : cs = ivs zs) (ht : t ≠ 5) (hb : b ≠ g) : Ints (WS g B w) w (some ⟨b, 0, none⟩) zs := by
  subst hc
  exact Ints.cons zs hr ⟨lt_of_heap hr, hb, .inr ⟨_, _, _, hr, ht⟩⟩ (ivs_at zs)

theorem whalf (g B : Nat) (l : List UInt8) (zs : List Int) (b cap : Nat) (cs : Array Value) (t : TypeId) (w : World) (hw : WP g B l w) (hr : w.heap[b]? = some (.cells cs t (0, 0))) (hc : cs = ivs zs) (ht : t ≠ 5) (hb : b ≠ g) (hz : zs.length ≤ 1000) (hl : l.length ≤ 100000000) :
    Calls Try.prog 52 #[.pointer (some ⟨g, 0, none⟩), .slice (some ⟨b, 0, none⟩) zs.length cap] w fun e w' => e = .returned (.tuple #[]) ∧ WP g B (l ++ numsOf 2 zs) w' ∧ Aft g B w w' :=
  lift hw (half_any g _ l _ cap zs w hw.use (wints hr hc ht hb) (by omega) (by omega))

theorem wfix (g B : Nat) (l : List UInt8) (zs : List Int) (b cap : Nat) (cs : Array Value) (t : TypeId) (w : World) (hw : WP g B l w) (hr : w.heap[b]? = some (.cells cs t (0, 0))) (hc : cs = ivs zs) (ht : t ≠ 5) (hb : b ≠ g) (hz : zs.length ≤ 1000) (hl : l.length ≤ 100000000) :
    Calls Try.prog 55 #[.pointer (some ⟨g, 0, none⟩), .slice (some ⟨b, 0, none⟩) zs.length cap] w fun e w' => e = .returned (.tuple #[]) ∧ WP g B (l ++ numsOf 5 zs) w' ∧ Aft g B w w' :=
  lift hw (fix_list g _ l _ cap zs w hw.use (wints hr hc ht hb) hz (by omega))

theorem whue (g B : Nat) (l : List UInt8) (b cap : Nat) (t : TypeId) (x y z : Int) (w : World) (hw : WP g B l w) (hr : w.heap[b]? = some (.cells #[.int .i64 x, .int .i64 y, .int .i64 z] t (0, 0))) (ht : t ≠ 5) (hb : b ≠ g) (hl : l.length ≤ 100000000) :
    Calls Try.prog 53 #[.pointer (some ⟨g, 0, none⟩), .slice (some ⟨b, 0, none⟩) 1 cap] w fun e w' => e = .returned (.tuple #[]) ∧ WP g B (l ++ numsOf 5 [x, y, z]) w' ∧ Aft g B w w' :=
  lift hw (hue_any g _ l b cap t x y z w hw.use hr ⟨lt_of_heap hr, hb, .inr ⟨_, _, _, hr, ht⟩⟩ (by omega))

theorem wvec (g B : Nat) (l : List UInt8) (b cap : Nat) (t : TypeId) (x y z : Int) (w : World) (hw : WP g B l w) (hr : w.heap[b]? = some (.cells #[.int .i64 x, .int .i64 y, .int .i64 z] t (0, 0))) (ht : t ≠ 5) (hb : b ≠ g) (hl : l.length ≤ 100000000) :
    Calls Try.prog 56 #[.pointer (some ⟨g, 0, none⟩), .slice (some ⟨b, 0, none⟩) 1 cap] w fun e w' => e = .returned (.tuple #[]) ∧ WP g B (l ++ numsOf 5 [x, y, z]) w' ∧ Aft g B w w' :=
  lift hw (vec_any g _ l b cap t x y z w hw.use hr ⟨lt_of_heap hr, hb, .inr ⟨_, _, _, hr, ht⟩⟩ (by omega))

/-- the bytes of some points -/
def vecsOf (L : Nat → Int) : Nat → List UInt8
  | 0 => []
  | k + 1 => vecsOf L k ++ numsOf 5 [L (k * 3), L (k * 3 + 1), L (k * 3 + 2)]

theorem vecsOf_length (L : Nat → Int) (k : Nat) : (vecsOf L k).length = k * 15 := by
  induction k with
  | zero => rfl
  | succ k ih => simp only [vecsOf, List.length_append, ih, numsOf_length]; simp; omega

set_option maxHeartbeats 2000000 in
theorem wvecs (g B : Nat) (l : List UInt8) (b off cap n : Nat) (L : Nat → Int) (w : World) (hw : WP g B l w) (hr : ∀ W, Aft g B w W → ∀ j, j < n * 3 → W.cell? ⟨b, off + j, none⟩ = some (.int .i64 (L j))) (hn : n ≤ 1000) (hl : l.length ≤ 20000000) :
    Calls Try.prog 56 #[.pointer (some ⟨g, 0, none⟩), .slice (some ⟨b, off, none⟩) n cap] w fun e w' => e = .returned (.tuple #[]) ∧ WP g B (l ++ vecsOf L n) w' ∧ Aft g B w w' := by
  have HW := Lib.hid hw
  have HR := Lib.hid hr
  clear hw hr
  go_enter Try.func56, Try.ntmps56
  go_wp2_with fail
  go_loopw [8] (fun i wr => ∃ k : Nat, k ≤ n ∧ i = .int .i64 k ∧ Hid (WP g B (l ++ vecsOf L k) wr) ∧ Hid (Aft g B w wr)) (fun i _ => n - (intOf i).toNat)
  case atStart => exact ⟨0, by omega, rfl, Lib.hid (by rw [vecsOf, List.append_nil]; exact HW.out), Lib.hid (Aft.refl _ _ _)⟩
  case round =>
    obtain ⟨k, hk, rfl, HI, HA⟩ := hrel
    by_cases hlt : k < n
    · have hlt' : (k : Int) < n := by omega
      have c0 : wr.cell? ⟨b, off + k * 3, none⟩ = some (.int .i64 (L (k * 3))) := HR.out wr HA.out (k * 3) (by omega)
      have c1 : wr.cell? ⟨b, off + k * 3 + 1, none⟩ = some (.int .i64 (L (k * 3 + 1))) := HR.out wr HA.out (k * 3 + 1) (by omega)
      have c2 : wr.cell? ⟨b, off + k * 3 + 2, none⟩ = some (.int .i64 (L (k * 3 + 2))) := HR.out wr HA.out (k * 3 + 2) (by omega)
      obtain ⟨x, hx⟩ : ∃ x, x = L (k * 3) := ⟨_, rfl⟩
      obtain ⟨y, hy⟩ : ∃ y, y = L (k * 3 + 1) := ⟨_, rfl⟩
      obtain ⟨z, hz⟩ : ∃ z, z = L (k * 3 + 2) := ⟨_, rfl⟩
      rw [← hx] at c0
      rw [← hy] at c1
      rw [← hz] at c2
      have HXYZ := Lib.hid (show vecsOf L (k + 1) = vecsOf L k ++ numsOf 5 [x, y, z] by rw [hx, hy, hz]; rfl)
      clear hx hy hz
      go_wp2_with fail
      have HS := HI.out.size
      refine (wfix g B _ [x, y, z] _ 3 _ _ _ ((HI.out.new (below_n1 _ _)).new (below_n1 _ _)) (heap_last2 _ _ _) rfl (by decide) (by simp; omega) (by simp) (by rw [List.length_append, vecsOf_length]; omega)).mono ?_
      rintro e w1 ⟨rfl, hw1, ha1⟩
      have HI2 := Lib.hid (show WP g B (l ++ vecsOf L (k + 1)) w1 by rw [HXYZ.out, ← List.append_assoc]; exact hw1)
      have HA2 := Lib.hid ((HA.out.trans ((Aft.of (below_n1 _ _)).trans (Aft.of (below_n1 _ _)))).trans ha1)
      clear hw1 ha1 c0 c1 c2
      go_wp2_with fail
      go_roundw
      case rel => exact ⟨k + 1, by omega, by go_num, HI2, HA2⟩
      case measure => simp [intOf]; omega
    · obtain rfl : k = n := by omega
      go_wp2
      go_end0
      exact ⟨rfl, HI.out, HA.out⟩

theorem wnew (w : World) : Calls Try.prog 34 #[] w fun e w' => e = .returned (.pointer (some ⟨w.heap.size, 0, none⟩)) ∧ WP w.heap.size w.heap.size [] w' ∧ Below w.heap.size w w' := by
  refine (new_any w).mono ?_
  rintro e w' ⟨rfl, rfl⟩
  refine ⟨rfl, ?_, below_n1 _ _⟩
  have h := new_at w (fun k => k < w.heap.size) (fun k hk => hk)
  obtain ⟨h1, h2, h0, h3, v, h4, h5, h6⟩ := h
  exact ⟨h1, Nat.le_refl _, h3, v, h4, own_lift h5 fun q hq => Nat.le_of_not_lt (h6 q hq).1, fun q hq => (h6 q hq).2⟩

theorem wbytes_any (g B : Nat) (l : List UInt8) (w : World) (hw : WP g B l w) (hl : l.length ≤ 100000000) :
    Calls Try.prog 36 #[.pointer (some ⟨g, 0, none⟩)] w fun e w' => (∃ a n c, e = .returned (.slice a n c) ∧ w'.ownsRow w.heap.size 5 1 (.slice a n c) l.length (vals l)) ∧ Below w.heap.size w w' :=
  bytes_any g _ l w hw.use (by omega)

end Go.Proofs.Ytgkfoiekminfmaa.Jw
