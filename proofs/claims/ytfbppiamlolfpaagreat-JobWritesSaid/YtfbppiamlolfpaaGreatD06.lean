/- Layer 7: a reader in memory (or nil), and the contracts of its error, what is left, and the next bytes. -/
import Derived.Test.YtfbppiamlolfpaaGreatD05
import Derived.Test.YtfbppiamlolfpaaGreatD03
namespace Go.Proofs.YtfbppiamlolfpaaGreat.Re
open Go.RowKit Go.Proofs.YtfbppiamlolfpaaGreat Go.Proofs.YtfbppiamlolfpaaGreat.Rp

/-- bytes that lie from a place of a block on; none, of nil -/
def LeftIs (g B : Nat) (v : Value) (l : List UInt8) (w : World) : Prop :=
  (v = .slice none 0 0 ∧ l = []) ∨ ∃ b k cap, v = .slice (some ⟨b, k, none⟩) l.length cap ∧ l.length ≤ cap ∧ b ≠ g ∧ b < B ∧ ∀ j u, (vals l)[j]? = some u → w.cell? ⟨b, k + j, none⟩ = some u

theorem LeftIs.bs {g B : Nat} {v : Value} {l : List UInt8} {w : World} (h : LeftIs g B v l w) : Bs w v l := by
  rcases h with h | ⟨b, k, cap, rfl, -, -, -, hc⟩
  · exact .inl h
  · exact .inr ⟨_, _, rfl, fun j u hu => by rw [Addr.add_mid]; exact hc j u hu⟩

/-- a reader in block g: the bytes that are left, its error; they lie in blocks ahead of B -/
def RAt (g B : Nat) (s : St) (w : World) : Prop :=
  g < B ∧ B ≤ w.heap.size ∧ (∀ j, w.frozen? ⟨g, j, none⟩ = false) ∧ w.cell? ⟨g, 1, none⟩ = some (.int .i64 s.2) ∧ ∃ v, w.cell? ⟨g, 0, none⟩ = some v ∧ LeftIs g B v s.1 w

/-- a reader's pointer: nil, or to block g -/
def RP (p : Value) (g B : Nat) (s : St) (w : World) : Prop :=
  (p = .pointer none ∧ s = ([], 2)) ∨ (p = .pointer (some ⟨g, 0, none⟩) ∧ RAt g B s w)

theorem RAt.on {g B : Nat} {s : St} {w w' : World} (h : RAt g B s w) (hb : Below B w w') : RAt g B s w' := by
  obtain ⟨h1, hB, h2, h3, v, h4, h5⟩ := h
  refine ⟨h1, Nat.le_trans hB hb.size, fun j => (hb.frozen (p := ⟨g, j, none⟩) h1).trans (h2 j), (hb.cell (p := ⟨g, 1, none⟩) h1).trans h3, v, (hb.cell (p := ⟨g, 0, none⟩) h1).trans h4, ?_⟩
  rcases h5 with h | ⟨b, k, cap, rfl, k1, k2, k3, hc⟩
  · exact .inl h
  · exact .inr ⟨b, k, cap, rfl, k1, k2, k3, fun j u hu => (hb.cell (p := ⟨b, k + j, none⟩) k3).trans (hc j u hu)⟩

theorem RP.on {p : Value} {g B : Nat} {s : St} {w w' : World} (h : RP p g B s w) (hb : Below B w w') : RP p g B s w' := by
  rcases h with h | ⟨h, k⟩
  · exact .inl h
  · exact .inr ⟨h, k.on hb⟩

theorem RP.new {p : Value} {g B : Nat} {s : St} {w w' : World} (h : RP p g B s w) (hb : Below w.heap.size w w') : RP p g B s w' := by
  rcases h with h | ⟨h, k⟩
  · exact .inl h
  · exact .inr ⟨h, k.on (hb.mono k.2.1)⟩

theorem RP.set {p : Value} {g B : Nat} {s : St} {w : World} (h : RP p g B s w) {b : Nat} (hb : B ≤ b) (i : Nat) (u : Value) : RP p g B s (w.setCell ⟨b, i, none⟩ u) :=
  h.on ((Below.refl B w).setCell (p := ⟨b, i, none⟩) hb u)

theorem RP.lift {p : Value} {g B B2 : Nat} {s : St} {w : World} (h : RP p g B s w) (hb : B ≤ B2) (h2 : B2 ≤ w.heap.size) : RP p g B2 s w := by
  rcases h with h | ⟨rfl, h1, hB, k2, k3, v, k4, k5⟩
  · exact .inl h
  · refine .inr ⟨rfl, by omega, h2, k2, k3, v, k4, ?_⟩
    rcases k5 with h | ⟨b, k, cap, rfl, q1, q2, q3, hc⟩
    · exact .inl h
    · exact .inr ⟨b, k, cap, rfl, q1, q2, by omega, hc⟩

theorem LeftIs.set {g B : Nat} {v : Value} {l : List UInt8} {w : World} (h : LeftIs g B v l w) (i : Nat) (u : Value) : LeftIs g B v l (w.setCell ⟨g, i, none⟩ u) := by
  rcases h with h | ⟨b, k, cap, rfl, h1, h2, h3, hc⟩
  · exact .inl h
  · exact .inr ⟨b, k, cap, rfl, h1, h2, h3, fun j u hu => by rw [cfar h2]; exact hc j u hu⟩

theorem RAt.setErr {g B : Nat} {l : List UInt8} {e : Int} {w : World} (h : RAt g B (l, e) w) (x : Int) : RAt g B (l, x) (w.setCell ⟨g, 1, none⟩ (.int .i64 x)) := by
  obtain ⟨h1, hB, h2, h3, v, h4, h5⟩ := h
  exact ⟨h1, by simpa using hB, fun j => by rw [World.frozen?_setCell]; exact h2 j, by rw [cset h3, if_pos rfl], v, by rw [cset h3, if_neg (by omega)]; exact h4, h5.set _ _⟩

theorem RAt.setLeft {g B : Nat} {l l2 : List UInt8} {e : Int} {w : World} {v : Value} (h : RAt g B (l, e) w) (hl : LeftIs g B v l2 w) : RAt g B (l2, e) (w.setCell ⟨g, 0, none⟩ v) := by
  obtain ⟨h1, hB, h2, h3, v', h4, h5⟩ := h
  exact ⟨h1, by simpa using hB, fun j => by rw [World.frozen?_setCell]; exact h2 j, by rw [cset h4, if_neg (by omega)]; exact h3, v, by rw [cset h4, if_pos rfl], hl.set _ _⟩

theorem err_any (p : Value) (g : Nat) {B : Nat} (s : St) (w : World) (h : RP p g B s w) :
    Calls Tryz.prog 79 #[p] w fun e w' => e = .returned (.int .i64 s.2) ∧ w' = w := by
  rcases h with ⟨rfl, rfl⟩ | ⟨rfl, h1, hB, h2, h3, h4⟩
  · go_enter Tryz.func79, Tryz.ntmps79
    go_wp2
    go_ret
    exact ⟨rfl, rfl⟩
  · clear h4
    go_enter Tryz.func79, Tryz.ntmps79
    go_wp2
    go_ret
    exact ⟨rfl, rfl⟩

theorem fail_any (p : Value) (g : Nat) {B : Nat} (s : St) (x : Int) (w : World) (h : RP p g B s w) :
    Calls Tryz.prog 78 #[p, .int .i64 x] w fun e w' => e = .returned (.tuple #[]) ∧ RP p g B (failS s x) w' ∧ Aft g w.heap.size w w' := by
  by_cases he : s.2 = 0
  · rcases id h with ⟨rfl, rfl⟩ | ⟨rfl, hR⟩
    · simp at he
    · obtain ⟨l, e⟩ := s
      simp only at he
      subst he
      have HF := Lib.hid (show failS (l, 0) x = (l, x) by simp [failS])
      have HN := Lib.hid (hR.setErr x)
      obtain ⟨h1, hB, h2, h3, h4⟩ := hR
      have hf := h2 1
      clear h4
      go_enter Tryz.func78, Tryz.ntmps78
      go_wp2_with (go_at_call 79; refine (err_any _ g (l, 0) _ h).mono ?_; rintro e w9 ⟨rfl, rfl⟩)
      go_end0
      exact ⟨rfl, by rw [HF.out]; exact .inr ⟨rfl, HN.out⟩, (Aft.refl _ _ _).setCell _ _⟩
  · have he' : (s.2 == 0) = false := by simpa using he
    have HF := Lib.hid (show failS s x = s by simp [failS, he])
    clear he
    go_enter Tryz.func78, Tryz.ntmps78
    go_wp2_with (go_at_call 79; refine (err_any _ g s _ h).mono ?_; rintro e w9 ⟨rfl, rfl⟩)
    go_end0
    exact ⟨rfl, by rw [HF.out]; exact h, Aft.refl _ _ _⟩

theorem left_form {g B : Nat} {v : Value} {l : List UInt8} {w : World} (h : LeftIs g B v l w) : ∃ a c, v = .slice a l.length c := by
  rcases h with ⟨rfl, rfl⟩ | ⟨b, k, cap, rfl, -⟩
  · exact ⟨_, _, rfl⟩
  · exact ⟨_, _, rfl⟩

theorem left_any (p : Value) (g : Nat) {B : Nat} (s : St) (w : World) (h : RP p g B s w) :
    Calls Tryz.prog 77 #[p] w fun e w' => e = .returned (.int .i64 (leftS s : Nat)) ∧ w' = w := by
  by_cases he : s.2 = 0
  · rcases id h with ⟨rfl, rfl⟩ | ⟨rfl, h1, hB, h2, h3, v, h4, h5⟩
    · simp at he
    · obtain ⟨l, e⟩ := s
      simp only at he
      subst he
      have HF := Lib.hid (show leftS (l, 0) = l.length by simp [leftS])
      obtain ⟨a, c, rfl⟩ := left_form h5
      clear h5 h3
      go_enter Tryz.func77, Tryz.ntmps77
      go_wp2_with (go_at_call 79; refine (err_any _ g (l, 0) _ h).mono ?_; rintro e w9 ⟨rfl, rfl⟩)
      go_ret
      exact ⟨by rw [HF.out]; rfl, rfl⟩
  · have he' : (s.2 == 0) = false := by simpa using he
    have HF := Lib.hid (show leftS s = 0 by simp [leftS, he])
    go_enter Tryz.func77, Tryz.ntmps77
    go_wp2_with (go_at_call 79; refine (err_any _ g s _ h).mono ?_; rintro e w9 ⟨rfl, rfl⟩)
    go_ret
    exact ⟨by rw [HF.out]; rfl, rfl⟩
end Go.Proofs.YtfbppiamlolfpaaGreat.Re

/- Layer 7: the contract of a reader's next bytes. -/
namespace Go.Proofs.YtfbppiamlolfpaaGreat.Re
open Go.RowKit Go.Proofs.YtfbppiamlolfpaaGreat Go.Proofs.YtfbppiamlolfpaaGreat.Rp

theorem take_err (p : Value) (g : Nat) {B : Nat} (s : St) (n : Nat) (w : World) (h : RP p g B s w) (he : s.2 ≠ 0) :
    Calls Tryz.prog 127 #[p, .int .i64 n] w fun e w' => e = .returned (.slice none 0 0) ∧ w' = w := by
  have he' : (s.2 == 0) = false := by simpa using he
  clear he
  go_enter Tryz.func127, Tryz.ntmps127
  go_wp2_with (go_at_call 79; refine (err_any _ g s _ h).mono ?_; rintro e w9 ⟨rfl, rfl⟩)
  go_ret
  exact ⟨rfl, rfl⟩

theorem take_short (g : Nat) {B : Nat} (l : List UInt8) (n : Nat) (_hn : n ≤ 9223372036854775807) (w : World) (h : RAt g B (l, 0) w) (hs : l.length < n) :
    Calls Tryz.prog 127 #[.pointer (some ⟨g, 0, none⟩), .int .i64 n] w fun e w' => e = .returned (.slice none 0 0) ∧ RAt g B (l, 9) w' ∧ Aft g w.heap.size w w' := by
  have HP : RP (.pointer (some ⟨g, 0, none⟩)) g B (l, 0) w := .inr ⟨rfl, h⟩
  obtain ⟨h1, hB, h2, h3, v, h4, h5⟩ := h
  obtain ⟨a, c, rfl⟩ := left_form h5
  have hs' : (l.length : Int) < n := by omega
  clear h5 h3
  go_enter Tryz.func127, Tryz.ntmps127
  go_wp2_with (first | (go_at_call 79; refine (err_any _ g (l, 0) _ HP).mono ?_; rintro e w9 ⟨rfl, rfl⟩) | (go_at_call 78; refine (fail_any _ g (l, 0) 9 _ HP).mono ?_; rintro e w9 ⟨rfl, hw9, ha9⟩))
  go_ret
  refine ⟨rfl, ?_, ha9⟩
  rcases hw9 with ⟨h, -⟩ | ⟨-, h⟩
  · cases h
  · exact h

theorem take_nil (g : Nat) {B : Nat} (w : World) (h : RAt g B ([], 0) w) (h0 : w.cell? ⟨g, 0, none⟩ = some (.slice none 0 0)) :
    Calls Tryz.prog 127 #[.pointer (some ⟨g, 0, none⟩), .int .i64 0] w fun e w' => e = .returned (.slice none 0 0) ∧ RAt g B ([], 0) w' ∧ Aft g w.heap.size w w' := by
  have HP : RP (.pointer (some ⟨g, 0, none⟩)) g B ([], 0) w := .inr ⟨rfl, h⟩
  have HS := Lib.hid (h.setLeft (v := .slice none 0 0) (l2 := []) (.inl ⟨rfl, rfl⟩))
  have hf := h.2.2.1 0
  clear h
  go_enter Tryz.func127, Tryz.ntmps127
  go_wp2_with (go_at_call 79; refine (err_any _ g ([], 0) _ HP).mono ?_; rintro e w9 ⟨rfl, rfl⟩)
  go_ret
  exact ⟨rfl, HS.out, (Aft.refl _ _ _).setCell _ _⟩

theorem left_at {g B b k cap : Nat} {l : List UInt8} {e : Int} {w : World} (h : RAt g B (l, e) w) (h0 : w.cell? ⟨g, 0, none⟩ = some (.slice (some ⟨b, k, none⟩) l.length cap)) : l.length ≤ cap ∧ b ≠ g ∧ b < B ∧ ∀ j u, (vals l)[j]? = some u → w.cell? ⟨b, k + j, none⟩ = some u := by
  obtain ⟨-, -, -, -, v, h4, h5⟩ := h
  rw [h0] at h4
  cases h4
  rcases h5 with ⟨h, -⟩ | ⟨b', k', cap', h, h1⟩
  · cases h
  · cases h; exact h1

theorem vals_drop (l : List UInt8) (n : Nat) : vals (l.drop n) = (vals l).drop n := by simp [vals, List.map_drop]

theorem vals_take (l : List UInt8) (n : Nat) : vals (l.take n) = (vals l).take n := by simp [vals, List.map_take]

theorem left_drop {g B b k cap : Nat} {l : List UInt8} {w : World} (n : Nat) (h1 : b ≠ g) (h2 : b < B) (hc : l.length ≤ cap) (hn : n ≤ l.length) (h3 : ∀ j u, (vals l)[j]? = some u → w.cell? ⟨b, k + j, none⟩ = some u) : LeftIs g B (.slice (some ⟨b, k + n, none⟩) (l.length - n) (cap - n)) (l.drop n) w :=
  .inr ⟨b, k + n, cap - n, by rw [List.length_drop], by rw [List.length_drop]; omega, h1, h2, fun j u hu => by
    rw [vals_drop, List.getElem?_drop] at hu
    rw [Nat.add_assoc]; exact h3 _ u hu⟩

theorem left_all {g B b k : Nat} {l : List UInt8} {w : World} (n : Nat) (h1 : b ≠ g) (h2 : b < B) (hn : l.length ≤ n) : LeftIs g B (.slice (some ⟨b, k, none⟩) 0 0) (l.drop n) w :=
  .inr ⟨b, k, 0, by rw [List.length_drop, Nat.sub_eq_zero_of_le hn], by rw [List.length_drop]; omega, h1, h2, fun j u hu => by
    rw [List.drop_eq_nil_of_le hn] at hu; simp [vals] at hu⟩

theorem took_bs {b k cap : Nat} {l : List UInt8} {w : World} (n : Nat) (hn : n ≤ l.length) (h3 : ∀ j u, (vals l)[j]? = some u → w.cell? ⟨b, k + j, none⟩ = some u) : Bs w (.slice (some ⟨b, k, none⟩) n cap) (l.take n) :=
  .inr ⟨_, cap, by rw [List.length_take, Nat.min_eq_left hn], fun j u hu => by
    rw [vals_take, List.getElem?_take] at hu
    split at hu
    · rw [Addr.add_mid]; exact h3 j u hu
    · cases hu⟩

theorem take_some (g b k cap : Nat) {B : Nat} (l : List UInt8) (n : Nat) (w : World) (h : RAt g B (l, 0) w) (h0 : w.cell? ⟨g, 0, none⟩ = some (.slice (some ⟨b, k, none⟩) l.length cap)) (hn : n ≤ l.length) :
    Calls Tryz.prog 127 #[.pointer (some ⟨g, 0, none⟩), .int .i64 n] w fun e w' => e = .returned (.slice (some ⟨b, k, none⟩) n cap) ∧ Bs w' (.slice (some ⟨b, k, none⟩) n cap) (l.take n) ∧ RAt g B (l.drop n, 0) w' ∧ Aft g w.heap.size w w' := by
  have HP : RP (.pointer (some ⟨g, 0, none⟩)) g B (l, 0) w := .inr ⟨rfl, h⟩
  have HR := Lib.hid h
  have hf := h.2.2.1 0
  obtain ⟨hc, k1, k2, k3⟩ := left_at h h0
  have HT : ∀ v : Value, Bs (w.setCell ⟨g, 0, none⟩ v) (.slice (some ⟨b, k, none⟩) n cap) (l.take n) := fun v => took_bs n hn (fun j u hu => by rw [cfar k1]; exact k3 j u hu)
  have HT2 := Lib.hid HT
  clear HT
  by_cases hcn : cap = n
  · have HL := Lib.hid (HR.out.setLeft (left_all (k := k) (l := l) n k1 k2 (by omega)))
    obtain ⟨L, hL⟩ : ∃ L, L = l.length := ⟨_, rfl⟩
    rw [← hL] at h0 hc hn
    subst hcn
    clear h hL k3
    go_enter Tryz.func127, Tryz.ntmps127
    go_wp2_with (go_at_call 79; refine (err_any _ g (l, 0) _ HP).mono ?_; rintro e w9 ⟨rfl, rfl⟩)
    go_ret
    exact ⟨rfl, HT2.out _, HL.out, (Aft.refl _ _ _).setCell _ _⟩
  · have HL := Lib.hid (HR.out.setLeft (left_drop (k := k) (l := l) n k1 k2 hc hn k3))
    obtain ⟨L, hL⟩ : ∃ L, L = l.length := ⟨_, rfl⟩
    rw [← hL] at h0 hc hn HL
    clear h hL k3
    go_enter Tryz.func127, Tryz.ntmps127
    go_wp2_with (go_at_call 79; refine (err_any _ g (l, 0) _ HP).mono ?_; rintro e w9 ⟨rfl, rfl⟩)
    go_ret
    exact ⟨rfl, HT2.out _, HL.out, (Aft.refl _ _ _).setCell _ _⟩

/-- the next bytes, whatever the reader -/
theorem take_any (p : Value) (g : Nat) {B : Nat} (s : St) (n : Nat) (hn : n ≤ 9223372036854775807) (w : World) (h : RP p g B s w) :
    Calls Tryz.prog 127 #[p, .int .i64 n] w fun e w' => (∃ a c, e = .returned (.slice a (takeS s n).1.length c) ∧ Bs w' (.slice a (takeS s n).1.length c) (takeS s n).1) ∧ RP p g B (takeS s n).2 w' ∧ Aft g w.heap.size w w' := by
  by_cases he : s.2 = 0
  · rcases id h with ⟨rfl, rfl⟩ | ⟨rfl, hR⟩
    · simp at he
    · obtain ⟨l, e⟩ := s
      simp only at he
      subst he
      by_cases hs : l.length < n
      · rw [takeS_short hs]
        exact (take_short g l n hn w hR hs).mono fun e w' ⟨he, h1, h2⟩ => ⟨⟨none, 0, he, .inl ⟨rfl, rfl⟩⟩, .inr ⟨rfl, h1⟩, h2⟩
      · rw [takeS_ok (by omega)]
        obtain ⟨h1, hB, h2, h3, v, h4, h5⟩ := id hR
        rcases h5 with ⟨rfl, rfl⟩ | ⟨b, k, cap, rfl, -⟩
        · obtain rfl : n = 0 := by simp at hs; exact hs
          exact (take_nil g w hR h4).mono fun e w' ⟨he, h1, h2⟩ => ⟨⟨none, 0, he, .inl ⟨rfl, rfl⟩⟩, .inr ⟨rfl, h1⟩, h2⟩
        · refine (take_some g b k cap l n w hR h4 (by omega)).mono fun e w' ⟨he, h1, h2, h3⟩ => ⟨⟨some ⟨b, k, none⟩, cap, ?_, ?_⟩, .inr ⟨rfl, h2⟩, h3⟩
          · rw [he, List.length_take, Nat.min_eq_left (by omega)]
          · rw [List.length_take, Nat.min_eq_left (by omega)]; exact h1
  · obtain ⟨l, e⟩ := s
    rw [takeS_err n he]
    exact (take_err p g (l, e) n w h he).mono fun e w' ⟨he, h1⟩ => ⟨⟨none, 0, he, .inl ⟨rfl, rfl⟩⟩, by rw [h1]; exact h, by rw [h1]; exact Aft.refl _ _ _⟩

theorem take_lit (p : Value) (g : Nat) {B : Nat} (s : St) (x : Int) (n : Nat) (hx : x = n) (hn : n ≤ 9223372036854775807) (w : World) (h : RP p g B s w) :
    Calls Tryz.prog 127 #[p, .int .i64 x] w fun e w' => (∃ a m c, e = .returned (.slice a m c) ∧ Hid (m = (takeS s n).1.length) ∧ m ≤ n ∧ Bs w' (.slice a m c) (takeS s n).1) ∧ RP p g B (takeS s n).2 w' ∧ Aft g w.heap.size w w' := by
  subst hx
  exact (take_any p g s n hn w h).mono fun e w' ⟨⟨a, c, h1, h2⟩, h3, h4⟩ => ⟨⟨a, _, c, h1, Lib.hid rfl, takeS_len s n, h2⟩, h3, h4⟩
end Go.Proofs.YtfbppiamlolfpaaGreat.Re
