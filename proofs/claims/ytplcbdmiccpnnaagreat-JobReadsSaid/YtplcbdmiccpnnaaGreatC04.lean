/- Layer 7: the contracts of a writer's New and put. -/
import Derived.Test.YtplcbdmiccpnnaaGreatC03
import Derived.Laws.AppendOwnNone
namespace Go.Proofs.YtplcbdmiccpnnaaGreat.Re
open Go.RowKit Go.Proofs.YtplcbdmiccpnnaaGreat Go.Proofs.YtplcbdmiccpnnaaGreat.Rp

theorem num_byte (n k : Nat) (x : Int) (hx : x = ((n / 256 ^ k % 256 : Nat) : Int)) (w : World) : ∀ j u, (vals [byteAt n k])[j]? = some u → (w.alloc (.cells #[.int .u8 x] 5)).cell? ((⟨w.heap.size, 0, none⟩ : Addr).add j) = some u := by
  intro j u hu
  match j, hu with
  | 0, hu => simp [vals, byteAt_toNat] at hu; subst hu; subst hx; simp [Addr.add]
  | j + 1, hu => simp [vals] at hu

theorem shr_byte (n k : Nat) : (n : Int) / 2 ^ (8 * k) % 256 = ((n / 256 ^ k % 256 : Nat) : Int) := by
  have e : (2 : Int) ^ (8 * k) = ((256 ^ k : Nat) : Int) := by
    rw [Int.pow_mul]; simp
  rw [e]; simp

end Go.Proofs.YtplcbdmiccpnnaaGreat.Re

/- Layer 7: the contracts of a writer's numbers of one, two, four, eight and five bytes. -/
namespace Go.Proofs.YtplcbdmiccpnnaaGreat.Re
open Go.RowKit Go.Proofs.YtplcbdmiccpnnaaGreat Go.Proofs.YtplcbdmiccpnnaaGreat.Rp

/-- a slice of integers that stays while a writer writes -/
def Ints (S : Nat → Prop) (w : World) (a : Option Addr) (zs : List Int) : Prop :=
  zs = [] ∨ ∃ b off, a = some ⟨b, off, none⟩ ∧ ∀ w', Aw S w w' → ∀ j, j < zs.length → w'.cell? ⟨b, off + j, none⟩ = some (.int .i64 (zs.getD j 0))

theorem Ints.cons {S : Nat → Prop} {w : World} {b : Nat} {cs : Array Value} {t : TypeId} {fr : Nat × Nat} (zs : List Int) (hb : w.heap[b]? = some (.cells cs t fr)) (hS : S b) (hc : ∀ j, j < zs.length → cs[j]? = some (.int .i64 (zs.getD j 0))) : Ints S w (some ⟨b, 0, none⟩) zs :=
  .inr ⟨b, 0, rfl, fun w' ha j hj => by
    rw [Nat.zero_add, cell_of_row w' b j cs t fr ((ha.block b hS (lt_of_heap hb)).trans hb)]; exact hc j hj⟩

theorem Ints.one {S : Nat → Prop} {w : World} (x : Int) (t : TypeId) : Ints (fun k => S k ∨ k = w.heap.size) (w.alloc (.cells #[.int .i64 x] t)) (some ⟨w.heap.size, 0, none⟩) [x] :=
  Ints.cons [x] (heap_alloc_last w _) (.inr rfl) (fun j hj => by
    match j, hj with
    | 0, _ => rfl)

theorem Ints.one2 {S : Nat → Prop} {w : World} (x : Int) (t : TypeId) (b : Nat) (hb : b = w.heap.size) : Ints (fun k => S k ∨ k = b) (w.alloc (.cells #[.int .i64 x] t)) (some ⟨b, 0, none⟩) [x] := by
  subst hb; exact Ints.one x t

theorem WAt.push2 {g : Nat} {S : Nat → Prop} {l : List UInt8} {w : World} (h : WAt g S l w) (o : Obj) (b : Nat) (hb : b = w.heap.size) : WAt g (fun k => S k ∨ k = b) l (w.alloc o) := by
  subst hb; exact h.push o

end Go.Proofs.YtplcbdmiccpnnaaGreat.Re

/- Layer 7: the contracts of a writer's points, lights, sums, blobs, and of its bytes; the document's example. -/
namespace Go.Proofs.YtplcbdmiccpnnaaGreat.Re
open Go.RowKit Go.Proofs.YtplcbdmiccpnnaaGreat Go.Proofs.YtplcbdmiccpnnaaGreat.Rp

abbrev V3 (x y z : Int) : Value := .agg #[.int .i64 x, .int .i64 y, .int .i64 z]

theorem from_any (ax ay az : Int) (w : World) : Calls Tryz.prog 23 #[V3 ax ay az] w fun e w' => e = .returned (V3 ax ay az) ∧ Below w.heap.size w w' := by
  go_enter Tryz.func23, Tryz.ntmps23
  go_wp2
  exact bodyPost_ret (v := V3 ax ay az) (by simp [results, Tryz.results23, go_sem]) rfl ⟨rfl, below_n2 _ _ _⟩

theorem hfrom_any (ax ay az : Int) (w : World) : Calls Tryz.prog 21 #[V3 ax ay az] w fun e w' => e = .returned (V3 ax ay az) ∧ Below w.heap.size w w' := by
  go_enter Tryz.func21, Tryz.ntmps21
  go_wp2
  exact bodyPost_ret (v := V3 ax ay az) (by simp [results, Tryz.results21, go_sem]) rfl ⟨rfl, below_n2 _ _ _⟩

theorem heap_last2 (w : World) (o o2 : Obj) : ((w.alloc o).alloc o2).heap[w.heap.size + 1]? = some o2 := by
  have h := heap_alloc_last (w.alloc o) o2
  simpa using h

theorem three_cells (x y z : Int) : ∀ j, j < [x, y, z].length → (#[.int .i64 x, .int .i64 y, .int .i64 z] : Array Value)[j]? = some (.int .i64 ([x, y, z].getD j 0)) := by
  intro j hj
  match j, hj with
  | 0, _ => rfl
  | 1, _ => rfl
  | 2, _ => rfl

theorem bs_block {w : World} {b : Nat} {t : TypeId} {fr : Nat × Nat} (p : List UInt8) (cap : Nat) (hb : w.heap[b]? = some (.cells (vals p).toArray t fr)) : Bs w (.slice (some ⟨b, 0, none⟩) p.length cap) p :=
  .inr ⟨_, cap, rfl, fun j u hu => by
    rw [Addr.add_mid, Nat.zero_add, cell_of_row w b j _ t fr hb]; simpa using hu⟩

end Go.Proofs.YtplcbdmiccpnnaaGreat.Re

/- Layer 7: the contracts of the library's Clone, of a writer's Bytes; the document's example. -/
namespace Go.Proofs.YtplcbdmiccpnnaaGreat.Re
open Go.RowKit Go.Proofs.YtplcbdmiccpnnaaGreat Go.Proofs.YtplcbdmiccpnnaaGreat.Rp

theorem clone_nil (w : World) : Calls Tryz.prog 24 #[.slice none 0 0] w fun e w' => e = .returned (.slice none 0 0) ∧ w' = w := by
  have hnn := fun wx => Lib.run_eql_slice_nil (P := Tryz.prog) wx 22 5 none 0 0 0 0 Tryz.underlying22
  go_enter Tryz.func24, Tryz.ntmps24
  go_wp2
  go_ret
  exact ⟨rfl, rfl⟩

set_option maxHeartbeats 1000000 in
theorem clone_some (l : List UInt8) (ad : Addr) (cap : Nat) (w : World) (hb : ∀ j u, (vals l)[j]? = some u → w.cell? (ad.add j) = some u) (hsz : l.length ≤ 140737488355328) :
    Calls Tryz.prog 24 #[.slice (some ad) l.length cap] w fun e w' => (∃ b cap', e = .returned (.slice (some ⟨b, 0, none⟩) l.length cap') ∧ w'.ownsRow w.heap.size 5 1 (.slice (some ⟨b, 0, none⟩) l.length cap') l.length (vals l)) ∧ Below w.heap.size w w' := by
  obtain ⟨i0, hi, hz0, hz1, hz2⟩ := info_parts infoByte
  have hnn := fun wx => Lib.run_eql_slice_nil (P := Tryz.prog) wx 22 5 (some ad) l.length cap 0 0 Tryz.underlying22
  have hb2 := fun j u hu => old1 (.cells #[] 5) (hb j u hu)
  have HB := Lib.hid hb2
  clear hb hb2
  go_enter Tryz.func24, Tryz.ntmps24
  go_wp2_with (first | (at_builtin; refine wpList_append_own _ rfl _ _ 22 rfl w.heap.size 5 i0 (.int .u8 0) 1 1 Tryz.underlying22 hi hz0 hz1 hz2 rfl (by decide) _ _ _ rfl (World.ownsRow_lit w #[] 0 (Nat.le_refl _) (by unfold maxLen; omega) rfl) ad l.length cap (vals l) rfl ?c1 HB.out (vals_one l) ?c3 ?c4 ?c5 ?_))
  case c1 => rw [vals_length]; omega
  case c3 => unfold maxLen; omega
  case c4 => omega
  case c5 => simp
  intro v' w1 hown hgrow hnil
  have hbel : Below w.heap.size w w1 := (below_n1 w (.cells #[] 5)).grown hgrow (by simp) (fun q hq => by simp [Value.ownBlock] at hq; omega)
  have hform : ∃ b cap', v' = .slice (some ⟨b, 0, none⟩) l.length cap' := by
    rcases hown.2 with ⟨h, -⟩ | ⟨q, cap', cur, h, -⟩
    · exact (hnil h).elim
    · exact ⟨q, cap', by rw [h]⟩
  obtain ⟨b, cap', hv⟩ := hform
  rw [hv] at hown ⊢
  have HO := Lib.hid (show w1.ownsRow w.heap.size 5 1 (.slice (some ⟨b, 0, none⟩) l.length cap') l.length (vals l) by simpa using hown)
  clear hown hgrow hnil hv hi hz0 hz1 hz2
  go_wp2
  go_ret
  exact ⟨⟨b, cap', rfl, HO.out⟩, hbel⟩

theorem clone_any (l : List UInt8) (v : Value) (w : World) (hb : Bs w v l) (hsz : l.length ≤ 140737488355328) :
    Calls Tryz.prog 24 #[v] w fun e w' => (∃ v', e = .returned v' ∧ w'.ownsRow w.heap.size 5 1 v' l.length (vals l)) ∧ Below w.heap.size w w' := by
  rcases hb with ⟨rfl, rfl⟩ | ⟨ad, cap, rfl, hb⟩
  · exact (clone_nil w).mono fun e w' ⟨he, hw⟩ => ⟨⟨_, he, World.ownsRow_nil _ _ _ _⟩, by rw [hw]; exact Below.refl _ _⟩
  · exact (clone_some l ad cap w hb hsz).mono fun e w' ⟨⟨b, c, he, ho⟩, hw⟩ => ⟨⟨_, he, ho⟩, hw⟩

/-! ### the document's example -/
def example7 : List UInt8 := [2, 1, 255, 255, 255, 255, 255]

theorem example7_is : ([] : List UInt8) ++ numsOf 2 [258] ++ numsOf 5 [-1] = example7 := by decide +kernel

end Go.Proofs.YtplcbdmiccpnnaaGreat.Re

/- Layer 7: a reader in memory (or nil), and the contracts of its error, what is left, and the next bytes. -/
namespace Go.Proofs.YtplcbdmiccpnnaaGreat.Re
open Go.RowKit Go.Proofs.YtplcbdmiccpnnaaGreat Go.Proofs.YtplcbdmiccpnnaaGreat.Rp

/-- bytes that lie from a place of a block on; none, of nil -/
def LeftIs (g B : Nat) (v : Value) (l : List UInt8) (w : World) : Prop :=
  (v = .slice none 0 0 ∧ l = []) ∨ ∃ b k cap, v = .slice (some ⟨b, k, none⟩) l.length cap ∧ l.length ≤ cap ∧ b ≠ g ∧ b < B ∧ ∀ j u, (vals l)[j]? = some u → w.cell? ⟨b, k + j, none⟩ = some u

theorem LeftIs.bs {g B : Nat} {v : Value} {l : List UInt8} {w : World} (h : LeftIs g B v l w) : Bs w v l := by
  rcases h with h | ⟨b, k, cap, rfl, -, -, -, hc⟩
  · exact .inl h
  · exact .inr ⟨_, _, rfl, fun j u hu => by rw [Addr.add_mid]; exact hc j u hu⟩

/-- a reader in block g: the bytes that are left, its error; they lie in blocks ahead of B -/
def RAt (g B : Nat) (s : St) (w : World) : Prop :=
  g < B ∧ B ≤ w.heap.size ∧ (∀ j, w.frozen? ⟨g, j, none⟩ = false) ∧ w.cell? ⟨g, 1, none⟩ = some (.int .i64 s.2) ∧ ∃ v, w.cell? ⟨g, 0, none⟩ = some v ∧ LeftIs g B v s.1 w

/-- a reader's pointer: nil, or to block g -/
def RP (p : Value) (g B : Nat) (s : St) (w : World) : Prop :=
  (p = .pointer none ∧ s = ([], 2)) ∨ (p = .pointer (some ⟨g, 0, none⟩) ∧ RAt g B s w)

theorem RAt.on {g B : Nat} {s : St} {w w' : World} (h : RAt g B s w) (hb : Below B w w') : RAt g B s w' := by
  obtain ⟨h1, hB, h2, h3, v, h4, h5⟩ := h
  refine ⟨h1, Nat.le_trans hB hb.size, fun j => (hb.frozen (p := ⟨g, j, none⟩) h1).trans (h2 j), (hb.cell (p := ⟨g, 1, none⟩) h1).trans h3, v, (hb.cell (p := ⟨g, 0, none⟩) h1).trans h4, ?_⟩
  rcases h5 with h | ⟨b, k, cap, rfl, k1, k2, k3, hc⟩
  · exact .inl h
  · exact .inr ⟨b, k, cap, rfl, k1, k2, k3, fun j u hu => (hb.cell (p := ⟨b, k + j, none⟩) k3).trans (hc j u hu)⟩

theorem RP.on {p : Value} {g B : Nat} {s : St} {w w' : World} (h : RP p g B s w) (hb : Below B w w') : RP p g B s w' := by
  rcases h with h | ⟨h, k⟩
  · exact .inl h
  · exact .inr ⟨h, k.on hb⟩

theorem RP.new {p : Value} {g B : Nat} {s : St} {w w' : World} (h : RP p g B s w) (hb : Below w.heap.size w w') : RP p g B s w' := by
  rcases h with h | ⟨h, k⟩
  · exact .inl h
  · exact .inr ⟨h, k.on (hb.mono k.2.1)⟩

theorem RP.set {p : Value} {g B : Nat} {s : St} {w : World} (h : RP p g B s w) {b : Nat} (hb : B ≤ b) (i : Nat) (u : Value) : RP p g B s (w.setCell ⟨b, i, none⟩ u) :=
  h.on ((Below.refl B w).setCell (p := ⟨b, i, none⟩) hb u)

theorem RP.lift {p : Value} {g B B2 : Nat} {s : St} {w : World} (h : RP p g B s w) (hb : B ≤ B2) (h2 : B2 ≤ w.heap.size) : RP p g B2 s w := by
  rcases h with h | ⟨rfl, h1, hB, k2, k3, v, k4, k5⟩
  · exact .inl h
  · refine .inr ⟨rfl, by omega, h2, k2, k3, v, k4, ?_⟩
    rcases k5 with h | ⟨b, k, cap, rfl, q1, q2, q3, hc⟩
    · exact .inl h
    · exact .inr ⟨b, k, cap, rfl, q1, q2, by omega, hc⟩

theorem LeftIs.set {g B : Nat} {v : Value} {l : List UInt8} {w : World} (h : LeftIs g B v l w) (i : Nat) (u : Value) : LeftIs g B v l (w.setCell ⟨g, i, none⟩ u) := by
  rcases h with h | ⟨b, k, cap, rfl, h1, h2, h3, hc⟩
  · exact .inl h
  · exact .inr ⟨b, k, cap, rfl, h1, h2, h3, fun j u hu => by rw [cfar h2]; exact hc j u hu⟩

theorem RAt.setErr {g B : Nat} {l : List UInt8} {e : Int} {w : World} (h : RAt g B (l, e) w) (x : Int) : RAt g B (l, x) (w.setCell ⟨g, 1, none⟩ (.int .i64 x)) := by
  obtain ⟨h1, hB, h2, h3, v, h4, h5⟩ := h
  exact ⟨h1, by simpa using hB, fun j => by rw [World.frozen?_setCell]; exact h2 j, by rw [cset h3, if_pos rfl], v, by rw [cset h3, if_neg (by omega)]; exact h4, h5.set _ _⟩

theorem RAt.setLeft {g B : Nat} {l l2 : List UInt8} {e : Int} {w : World} {v : Value} (h : RAt g B (l, e) w) (hl : LeftIs g B v l2 w) : RAt g B (l2, e) (w.setCell ⟨g, 0, none⟩ v) := by
  obtain ⟨h1, hB, h2, h3, v', h4, h5⟩ := h
  exact ⟨h1, by simpa using hB, fun j => by rw [World.frozen?_setCell]; exact h2 j, by rw [cset h4, if_neg (by omega)]; exact h3, v, by rw [cset h4, if_pos rfl], hl.set _ _⟩

theorem err_any (p : Value) (g : Nat) {B : Nat} (s : St) (w : World) (h : RP p g B s w) :
    Calls Tryz.prog 39 #[p] w fun e w' => e = .returned (.int .i64 s.2) ∧ w' = w := by
  rcases h with ⟨rfl, rfl⟩ | ⟨rfl, h1, hB, h2, h3, h4⟩
  · go_enter Tryz.func39, Tryz.ntmps39
    go_wp2
    go_ret
    exact ⟨rfl, rfl⟩
  · clear h4
    go_enter Tryz.func39, Tryz.ntmps39
    go_wp2
    go_ret
    exact ⟨rfl, rfl⟩

theorem fail_any (p : Value) (g : Nat) {B : Nat} (s : St) (x : Int) (w : World) (h : RP p g B s w) :
    Calls Tryz.prog 38 #[p, .int .i64 x] w fun e w' => e = .returned (.tuple #[]) ∧ RP p g B (failS s x) w' ∧ Aft g w.heap.size w w' := by
  by_cases he : s.2 = 0
  · rcases id h with ⟨rfl, rfl⟩ | ⟨rfl, hR⟩
    · simp at he
    · obtain ⟨l, e⟩ := s
      simp only at he
      subst he
      have HF := Lib.hid (show failS (l, 0) x = (l, x) by simp [failS])
      have HN := Lib.hid (hR.setErr x)
      obtain ⟨h1, hB, h2, h3, h4⟩ := hR
      have hf := h2 1
      clear h4
      go_enter Tryz.func38, Tryz.ntmps38
      go_wp2_with (go_at_call 39; refine (err_any _ g (l, 0) _ h).mono ?_; rintro e w9 ⟨rfl, rfl⟩)
      go_end0
      exact ⟨rfl, by rw [HF.out]; exact .inr ⟨rfl, HN.out⟩, (Aft.refl _ _ _).setCell _ _⟩
  · have he' : (s.2 == 0) = false := by simpa using he
    have HF := Lib.hid (show failS s x = s by simp [failS, he])
    clear he
    go_enter Tryz.func38, Tryz.ntmps38
    go_wp2_with (go_at_call 39; refine (err_any _ g s _ h).mono ?_; rintro e w9 ⟨rfl, rfl⟩)
    go_end0
    exact ⟨rfl, by rw [HF.out]; exact h, Aft.refl _ _ _⟩

theorem left_form {g B : Nat} {v : Value} {l : List UInt8} {w : World} (h : LeftIs g B v l w) : ∃ a c, v = .slice a l.length c := by
  rcases h with ⟨rfl, rfl⟩ | ⟨b, k, cap, rfl, -⟩
  · exact ⟨_, _, rfl⟩
  · exact ⟨_, _, rfl⟩

theorem left_any (p : Value) (g : Nat) {B : Nat} (s : St) (w : World) (h : RP p g B s w) :
    Calls Tryz.prog 37 #[p] w fun e w' => e = .returned (.int .i64 (leftS s : Nat)) ∧ w' = w := by
  by_cases he : s.2 = 0
  · rcases id h with ⟨rfl, rfl⟩ | ⟨rfl, h1, hB, h2, h3, v, h4, h5⟩
    · simp at he
    · obtain ⟨l, e⟩ := s
      simp only at he
      subst he
      have HF := Lib.hid (show leftS (l, 0) = l.length by simp [leftS])
      obtain ⟨a, c, rfl⟩ := left_form h5
      clear h5 h3
      go_enter Tryz.func37, Tryz.ntmps37
      go_wp2_with (go_at_call 39; refine (err_any _ g (l, 0) _ h).mono ?_; rintro e w9 ⟨rfl, rfl⟩)
      go_ret
      exact ⟨by rw [HF.out]; rfl, rfl⟩
  · have he' : (s.2 == 0) = false := by simpa using he
    have HF := Lib.hid (show leftS s = 0 by simp [leftS, he])
    go_enter Tryz.func37, Tryz.ntmps37
    go_wp2_with (go_at_call 39; refine (err_any _ g s _ h).mono ?_; rintro e w9 ⟨rfl, rfl⟩)
    go_ret
    exact ⟨by rw [HF.out]; rfl, rfl⟩
end Go.Proofs.YtplcbdmiccpnnaaGreat.Re
