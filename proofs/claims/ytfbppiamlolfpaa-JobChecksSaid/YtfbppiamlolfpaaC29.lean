/- Layer 7: a reader that is made, without what its laws ask beside. -/
import Derived.Test.YtfbppiamlolfpaaC10
import Derived.Test.YtfbppiamlolfpaaC14
namespace Go.Proofs.Ytfbppiamlolfpaa.Re
open Go.RowKit Go.Proofs.Ytfbppiamlolfpaa Go.Proofs.Ytfbppiamlolfpaa.Rp
set_option linter.unusedVariables false

theorem own_form3 {base : Nat} {w : World} {v : Value} {n : Nat} {xs : List Value} (h : w.ownsRow base 5 1 v n xs) : ∃ a m c, v = .slice a m c := by
  obtain ⟨a, c, hv⟩ := own_form h
  exact ⟨a, n, c, hv⟩

/-- a new reader in block gr, its bytes in a row of their own, both from block D on and ahead of block E -/
def RR (D E gr : Nat) (l : List UInt8) (w : World) : Prop :=
  D ≤ gr ∧ gr < E ∧ E ≤ w.heap.size ∧ (∀ j, w.frozen? ⟨gr, j, none⟩ = false) ∧ w.cell? ⟨gr, 1, none⟩ = some (.int .i64 0) ∧
    ∃ v, w.cell? ⟨gr, 0, none⟩ = some v ∧ w.ownsRow D 5 1 v l.length (vals l) ∧ ∀ q, v.ownBlock = some q → q ≠ gr ∧ q < E
theorem RR.on {D E gr : Nat} {l : List UInt8} {w w' : World} (h : RR D E gr l w) (hb : Below w.heap.size w w') : RR D E gr l w' := by
  obtain ⟨h1, h2, h3, h4, h5, v, h6, h7, h8⟩ := h
  have hg : gr < w.heap.size := by omega
  exact ⟨h1, h2, Nat.le_trans h3 hb.size, fun j => (hb.frozen (p := ⟨gr, j, none⟩) hg).trans (h4 j), (hb.cell (p := ⟨gr, 1, none⟩) hg).trans h5, v, (hb.cell (p := ⟨gr, 0, none⟩) hg).trans h6, own_heap h7 fun q hq => hb.block q (h7.lt q hq).2, h8⟩

theorem RR.rat {D E gr : Nat} {l : List UInt8} {w : World} (h : RR D E gr l w) : RAt gr E (l, 0) w := by
  obtain ⟨h1, h2, h3, h4, h5, v, h6, h7, h8⟩ := h
  refine ⟨h2, h3, h4, h5, v, h6, ?_⟩
  have h7' := h7
  rcases h7.2 with ⟨rfl, h0⟩ | ⟨q, cap, cur, rfl, k1, k2, k3, k4, k5, k6⟩
  · exact .inl ⟨rfl, List.eq_nil_of_length_eq_zero h0⟩
  · have hq := h8 q rfl
    refine .inr ⟨q, 0, cap, rfl, k3, hq.1, hq.2, fun j u hu => ?_⟩
    have hj : j < l.length := by have := (List.getElem?_eq_some_iff.1 hu).1; rwa [vals_length] at this
    rw [Nat.zero_add, h7'.cellAt j (by omega)]; exact hu

theorem read_any (l : List UInt8) (v : Value) (w : World) (hb : Bs w v l) (hsz : l.length ≤ 140737488355328) :
    Calls Try.prog 38 #[v] w fun e w' => (∃ gr, e = .returned (.pointer (some ⟨gr, 0, none⟩)) ∧ Hid (RR w.heap.size w'.heap.size gr l w')) ∧ Below w.heap.size w w' := by
  go_enter Try.func38, Try.ntmps38
  go_wp2_with fail
  refine (clone_any l v _ hb hsz).mono ?_
  rintro e w1 ⟨⟨v', rfl, ho⟩, hb1⟩
  obtain ⟨a9, n9, c9, hv9⟩ := own_form3 ho
  subst hv9
  have hs1 := hb1.size
  have HR := Lib.hid (show RR w.heap.size (w1.heap.size + 1) w1.heap.size l (w1.alloc (.cells #[.slice a9 n9 c9, .int .i64 0] 162)) from
    ⟨hs1, by omega, by simp, fun j => by go_simp, by go_simp, _, by go_simp, own_heap ho fun q hq => Below.heap_alloc _ _ _ (ho.lt q hq).2, fun q hq => by have := (ho.lt q hq).2; omega⟩)
  have hfin : Below w.heap.size w (w1.alloc (.cells #[.slice a9 n9 c9, .int .i64 0] 162)) := hb1.alloc hs1 _
  clear ho
  go_wp2
  go_ret
  exact ⟨⟨_, rfl, by simpa using HR⟩, hfin⟩

end Go.Proofs.Ytfbppiamlolfpaa.Re

/- What a fold over points gives, step by step; a row of points. -/
namespace Go.Proofs.Ytfbppiamlolfpaa.Ve
open Go.RowKit Go.Proofs.Ytfbppiamlolfpaa Go.Proofs.Ytfbppiamlolfpaa.Wa

/-- what has come out behind so many steps -/
def foldN (f : Int → Int → Int) (a : Int) (l : Nat → Int) : Nat → Int
  | 0 => a
  | k + 1 => f (foldN f a l k) (l k)

/-- a row of points of the call's own, or one whose cells are known -/
def Pts (w : World) (g n : Nat) (lx ly lz : Nat → Int) : Prop :=
  g < w.heap.size ∧ ∀ j, j < n → w.cell? ⟨g, j * 3, none⟩ = some (.int .i64 (lx j)) ∧ w.cell? ⟨g, j * 3 + 1, none⟩ = some (.int .i64 (ly j)) ∧ w.cell? ⟨g, j * 3 + 2, none⟩ = some (.int .i64 (lz j))

theorem Pts.on {w w' : World} {g n : Nat} {lx ly lz : Nat → Int} (h : Pts w g n lx ly lz) (hb : Below w.heap.size w w') : Pts w' g n lx ly lz :=
  ⟨Nat.lt_of_lt_of_le h.1 hb.size, fun j hj => ⟨(hb.cell (p := ⟨g, j * 3, none⟩) h.1).trans (h.2 j hj).1, (hb.cell (p := ⟨g, j * 3 + 1, none⟩) h.1).trans (h.2 j hj).2.1, (hb.cell (p := ⟨g, j * 3 + 2, none⟩) h.1).trans (h.2 j hj).2.2⟩⟩

/-- a slice of points: none, or a row whose cells are known -/
def PtsV (w : World) (v : Value) (n : Nat) (lx ly lz : Nat → Int) : Prop :=
  (v = .slice none 0 0 ∧ n = 0) ∨ ∃ g cap, v = .slice (some ⟨g, 0, none⟩) n cap ∧ Pts w g n lx ly lz

theorem PtsV.on {w w' : World} {v : Value} {n : Nat} {lx ly lz : Nat → Int} (h : PtsV w v n lx ly lz) (hb : Below w.heap.size w w') : PtsV w' v n lx ly lz := by
  rcases h with h | ⟨g, cap, hv, hp⟩
  · exact .inl h
  · exact .inr ⟨g, cap, hv, hp.on hb⟩

end Go.Proofs.Ytfbppiamlolfpaa.Ve

/- The contract of a fold by sums. -/
namespace Go.Proofs.Ytfbppiamlolfpaa.Ve
open Go.RowKit Go.Proofs.Ytfbppiamlolfpaa Go.Proofs.Ytfbppiamlolfpaa.Wa

theorem fold_add_none (ax ay az : Int) (w : World) :
    Calls Try.prog 122 #[V3 ax ay az, .slice none 0 0, .func (.func 163) #[] #[]] w fun e w' => e = .returned (V3 ax ay az) ∧ Below w.heap.size w w' := by
  go_enter Try.func122, Try.ntmps122
  go_wp2
  refine wp_loop_rounds 1 ?_
  rw [rounds_succ]
  go_wp2
  exact bodyPost_ret (v := V3 ax ay az) (by simp [results, Try.results122, go_sem]) rfl ⟨rfl, below_n2 _ _ _⟩

set_option maxHeartbeats 2000000 in
set_option maxRecDepth 100000 in
theorem fold_add (ax ay az : Int) (g n cap : Nat) (lx ly lz : Nat → Int) (hn : n ≤ 4611686018427387904) (w : World) (hp : Pts w g n lx ly lz) :
    Calls Try.prog 122 #[V3 ax ay az, .slice (some ⟨g, 0, none⟩) n cap, .func (.func 163) #[] #[]] w fun e w' => e = .returned (V3 (foldN Pl.add ax lx n) (foldN Pl.add ay ly n) (foldN Pl.add az lz n)) ∧ Below w.heap.size w w' := by
  have HP := Lib.hid hp
  clear hp
  go_enter Try.func122, Try.ntmps122
  go_wp2
  go_loopw [11] (fun i wr => ∃ k : Nat, k ≤ n ∧ i = .int .i64 k ∧ wr.cell? ⟨w.heap.size, 0, none⟩ = some (.int .i64 (foldN Pl.add ax lx k)) ∧ wr.cell? ⟨w.heap.size, 1, none⟩ = some (.int .i64 (foldN Pl.add ay ly k)) ∧ wr.cell? ⟨w.heap.size, 2, none⟩ = some (.int .i64 (foldN Pl.add az lz k)) ∧ (∀ j, wr.frozen? ⟨w.heap.size, j, none⟩ = false) ∧ (∀ j, wr.frozen? ⟨w.heap.size + 1, j, none⟩ = false) ∧ wr.cell? ⟨w.heap.size + 1, 0, none⟩ = some (.int .i64 0) ∧ wr.cell? ⟨w.heap.size + 1, 1, none⟩ = some (.int .i64 0) ∧ wr.cell? ⟨w.heap.size + 1, 2, none⟩ = some (.int .i64 0) ∧ Below w.heap.size w wr) (fun i _ => n - (intOf i).toNat)
  case atStart => exact ⟨0, Nat.zero_le _, rfl, by go_simp; rfl, by go_simp; rfl, by go_simp; rfl, fun j => by go_simp, fun j => by go_simp, by go_simp, by go_simp, by go_simp, below_n2 _ _ _⟩
  case round =>
    obtain ⟨k, hk, rfl, a0, a1, a2, af, bf, b0, b1, b2, hnx⟩ := hrel
    by_cases hlt : k < n
    · obtain ⟨e0, e1, e2⟩ := (HP.out.on hnx).2 k hlt
      have s0 := World.block_lt_of_cell? _ _ a0
      have s1 := World.block_lt_of_cell? _ _ b0
      simp only at s0 s1
      have t0 : w.heap.size < wr.heap.size + 1 := by omega
      have t1 : w.heap.size + 1 < wr.heap.size + 1 := by omega
      go_wp2_with fail
      refine (each_add _ _ _ _ _ _ _).mono ?_
      rintro e w1 ⟨rfl, hb⟩
      obtain ⟨hc, hf⟩ := bcell hb
      have hz := hb.size
      simp at hz
      go_wp2
      go_roundw
      case rel =>
        refine ⟨k + 1, by omega, by go_num, ?_, ?_, ?_, fun j => ?_, fun j => ?_, ?_, ?_, ?_, below_put3 ((hnx.alloc hnx.size _).trans (hb.mono (by simp; omega))) (Nat.le_refl _) _ _ _⟩
        · go_simp; rfl
        · go_simp; rfl
        · go_simp; rfl
        · go_simp
        · go_simp
        · go_simp
        · go_simp
        · go_simp
      case measure => simp [intOf]; omega
    · obtain rfl : k = n := by omega
      go_wp2
      exact bodyPost_ret (v := V3 (foldN Pl.add ax lx k) (foldN Pl.add ay ly k) (foldN Pl.add az lz k)) (by simp [results, Try.results122, go_sem, b0, b1, b2]) rfl ⟨rfl, below_put3 hnx (by omega) _ _ _⟩

theorem fold_add_v (ax ay az : Int) (v : Value) (n : Nat) (lx ly lz : Nat → Int) (hn : n ≤ 4611686018427387904) (w : World) (hp : PtsV w v n lx ly lz) :
    Calls Try.prog 122 #[V3 ax ay az, v, .func (.func 163) #[] #[]] w fun e w' => e = .returned (V3 (foldN Pl.add ax lx n) (foldN Pl.add ay ly n) (foldN Pl.add az lz n)) ∧ Below w.heap.size w w' := by
  rcases hp with ⟨rfl, rfl⟩ | ⟨g, cap, rfl, hp⟩
  · exact fold_add_none ax ay az w
  · exact fold_add ax ay az g n cap lx ly lz hn w hp

end Go.Proofs.Ytfbppiamlolfpaa.Ve
