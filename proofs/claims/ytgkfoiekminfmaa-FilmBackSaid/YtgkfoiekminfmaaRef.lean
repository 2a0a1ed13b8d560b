/- Layer 7: the contract of a reader's next bytes. -/
import Derived.Test.YtgkfoiekminfmaaRee
namespace Go.Proofs.Ytgkfoiekminfmaa.Re
open Go.RowKit Go.Proofs.Ytgkfoiekminfmaa Go.Proofs.Ytgkfoiekminfmaa.Rp

theorem take_err (p : Value) (g : Nat) {B : Nat} (s : St) (n : Nat) (w : World) (h : RP p g B s w) (he : s.2 ≠ 0) :
    Calls Try.prog 78 #[p, .int .i64 n] w fun e w' => e = .returned (.slice none 0 0) ∧ w' = w := by
  have he' : (s.2 == 0) = false := by simpa using he
  clear he
  go_enter Try.func78, Try.ntmps78
  go_wp2_with (go_at_call 62; refine (err_any _ g s _ h).mono ?_; rintro e w9 ⟨rfl, rfl⟩)
  go_ret
  exact ⟨rfl, rfl⟩

theorem take_short (g : Nat) {B : Nat} (l : List UInt8) (n : Nat) (_hn : n ≤ 9223372036854775807) (w : World) (h : RAt g B (l, 0) w) (hs : l.length < n) :
    Calls Try.prog 78 #[.pointer (some ⟨g, 0, none⟩), .int .i64 n] w fun e w' => e = .returned (.slice none 0 0) ∧ RAt g B (l, 9) w' ∧ Aft g w.heap.size w w' := by
  have HP : RP (.pointer (some ⟨g, 0, none⟩)) g B (l, 0) w := .inr ⟨rfl, h⟩
  obtain ⟨h1, hB, h2, h3, v, h4, h5⟩ := h
  obtain ⟨a, c, rfl⟩ := left_form h5
  have hs' : (l.length : Int) < n := by omega
  clear h5 h3
  go_enter Try.func78, Try.ntmps78
  go_wp2_with (first | (go_at_call 62; refine (err_any _ g (l, 0) _ HP).mono ?_; rintro e w9 ⟨rfl, rfl⟩) | (go_at_call 61; refine (fail_any _ g (l, 0) 9 _ HP).mono ?_; rintro e w9 ⟨rfl, hw9, ha9⟩))
  go_ret
  refine ⟨rfl, ?_, ha9⟩
  rcases hw9 with ⟨h, -⟩ | ⟨-, h⟩
  · cases h
  · exact h

theorem take_nil (g : Nat) {B : Nat} (w : World) (h : RAt g B ([], 0) w) (h0 : w.cell? ⟨g, 0, none⟩ = some (.slice none 0 0)) :
    Calls Try.prog 78 #[.pointer (some ⟨g, 0, none⟩), .int .i64 0] w fun e w' => e = .returned (.slice none 0 0) ∧ RAt g B ([], 0) w' ∧ Aft g w.heap.size w w' := by
  have HP : RP (.pointer (some ⟨g, 0, none⟩)) g B ([], 0) w := .inr ⟨rfl, h⟩
  have HS := Lib.hid (h.setLeft (v := .slice none 0 0) (l2 := []) (.inl ⟨rfl, rfl⟩))
  have hf := h.2.2.1 0
  clear h
  go_enter Try.func78, Try.ntmps78
  go_wp2_with (go_at_call 62; refine (err_any _ g ([], 0) _ HP).mono ?_; rintro e w9 ⟨rfl, rfl⟩)
  go_ret
  exact ⟨rfl, HS.out, (Aft.refl _ _ _).setCell _ _⟩

theorem left_at {g B b k cap : Nat} {l : List UInt8} {e : Int} {w : World} (h : RAt g B (l, e) w) (h0 : w.cell? ⟨g, 0, none⟩ = some (.slice (some ⟨b, k, none⟩) l.length cap)) : l.length ≤ cap ∧ b ≠ g ∧ b < B ∧ ∀ j u, (vals l)[j]? = some u → w.cell? ⟨b, k + j, none⟩ = some u := by
  obtain ⟨-, -, -, -, v, h4, h5⟩ := h
  rw [h0] at h4
  cases h4
  rcases h5 with ⟨h, -⟩ | ⟨b', k', cap', h, h1⟩
  · cases h
  · cases h; exact h1

theorem vals_drop (l : List UInt8) (n : Nat) : vals (l.drop n) = (vals l).drop n := by simp [vals, List.map_drop]

theorem vals_take (l : List UInt8) (n : Nat) : vals (l.take n) = (vals l).take n := by simp [vals, List.map_take]

theorem left_drop {g B b k cap : Nat} {l : List UInt8} {w : World} (n : Nat) (h1 : b ≠ g) (h2 : b < B) (hc : l.length ≤ cap) (hn : n ≤ l.length) (h3 : ∀ j u, (vals l)[j]? = some u → w.cell? ⟨b, k + j, none⟩ = some u) : LeftIs g B (.slice (some ⟨b, k + n, none⟩) (l.length - n) (cap - n)) (l.drop n) w :=
  .inr ⟨b, k + n, cap - n, by rw [List.length_drop], by rw [List.length_drop]; omega, h1, h2, fun j u hu => by
    rw [vals_drop, List.getElem?_drop] at hu
    rw [Nat.add_assoc]; exact h3 _ u hu⟩

theorem left_all {g B b k : Nat} {l : List UInt8} {w : World} (n : Nat) (h1 : b ≠ g) (h2 : b < B) (hn : l.length ≤ n) : LeftIs g B (.slice (some ⟨b, k, none⟩) 0 0) (l.drop n) w :=
  .inr ⟨b, k, 0, by rw [List.length_drop, Nat.sub_eq_zero_of_le hn], by rw [List.length_drop]; omega, h1, h2, fun j u hu => by
    rw [List.drop_eq_nil_of_le hn] at hu; simp [vals] at hu⟩

theorem took_bs {b k cap : Nat} {l : List UInt8} {w : World} (n : Nat) (hn : n ≤ l.length) (h3 : ∀ j u, (vals l)[j]? = some u → w.cell? ⟨b, k + j, none⟩ = some u) : Bs w (.slice (some ⟨b, k, none⟩) n cap) (l.take n) :=
  .inr ⟨_, cap, by rw [List.length_take, Nat.min_eq_left hn], fun j u hu => by
    rw [vals_take, List.getElem?_take] at hu
    split at hu
    · rw [Addr.add_mid]; exact h3 j u hu
    · cases hu⟩

theorem take_some (g b k cap : Nat) {B : Nat} (l : List UInt8) (n : Nat) (w : World) (h : RAt g B (l, 0) w) (h0 : w.cell? ⟨g, 0, none⟩ = some (.slice (some ⟨b, k, none⟩) l.length cap)) (hn : n ≤ l.length) :
    Calls Try.prog 78 #[.pointer (some ⟨g, 0, none⟩), .int .i64 n] w fun e w' => e = .returned (.slice (some ⟨b, k, none⟩) n cap) ∧ Bs w' (.slice (some ⟨b, k, none⟩) n cap) (l.take n) ∧ RAt g B (l.drop n, 0) w' ∧ Aft g w.heap.size w w' := by
  have HP : RP (.pointer (some ⟨g, 0, none⟩)) g B (l, 0) w := .inr ⟨rfl, h⟩
  have HR := Lib.hid h
  have hf := h.2.2.1 0
  obtain ⟨hc, k1, k2, k3⟩ := left_at h h0
  have HT : ∀ v : Value, Bs (w.setCell ⟨g, 0, none⟩ v) (.slice (some ⟨b, k, none⟩) n cap) (l.take n) := fun v => took_bs n hn (fun j u hu => by rw [cfar k1]; exact k3 j u hu)
  have HT2 := Lib.hid HT
  clear HT
  by_cases hcn : cap = n
  · have HL := Lib.hid (HR.out.setLeft (left_all (k := k) (l := l) n k1 k2 (by omega)))
    obtain ⟨L, hL⟩ : ∃ L, L = l.length := ⟨_, rfl⟩
    rw [← hL] at h0 hc hn
    subst hcn
    clear h hL k3
    go_enter Try.func78, Try.ntmps78
    go_wp2_with (go_at_call 62; refine (err_any _ g (l, 0) _ HP).mono ?_; rintro e w9 ⟨rfl, rfl⟩)
    go_ret
    exact ⟨rfl, HT2.out _, HL.out, (Aft.refl _ _ _).setCell _ _⟩
  · have HL := Lib.hid (HR.out.setLeft (left_drop (k := k) (l := l) n k1 k2 hc hn k3))
    obtain ⟨L, hL⟩ : ∃ L, L = l.length := ⟨_, rfl⟩
    rw [← hL] at h0 hc hn HL
    clear h hL k3
    go_enter Try.func78, Try.ntmps78
    go_wp2_with (go_at_call 62; refine (err_any _ g (l, 0) _ HP).mono ?_; rintro e w9 ⟨rfl, rfl⟩)
    go_ret
    exact ⟨rfl, HT2.out _, HL.out, (Aft.refl _ _ _).setCell _ _⟩

/-- the next bytes, whatever the reader -/
theorem take_any (p : Value) (g : Nat) {B : Nat} (s : St) (n : Nat) (hn : n ≤ 9223372036854775807) (w : World) (h : RP p g B s w) :
    Calls Try.prog 78 #[p, .int .i64 n] w fun e w' => (∃ a c, e = .returned (.slice a (takeS s n).1.length c) ∧ Bs w' (.slice a (takeS s n).1.length c) (takeS s n).1) ∧ RP p g B (takeS s n).2 w' ∧ Aft g w.heap.size w w' := by
  by_cases he : s.2 = 0
  · rcases id h with ⟨rfl, rfl⟩ | ⟨rfl, hR⟩
    · simp at he
    · obtain ⟨l, e⟩ := s
      simp only at he
      subst he
      by_cases hs : l.length < n
      · rw [takeS_short hs]
        exact (take_short g l n hn w hR hs).mono fun e w' ⟨he, h1, h2⟩ => ⟨⟨none, 0, he, .inl ⟨rfl, rfl⟩⟩, .inr ⟨rfl, h1⟩, h2⟩
      · rw [takeS_ok (by omega)]
        obtain ⟨h1, hB, h2, h3, v, h4, h5⟩ := id hR
        rcases h5 with ⟨rfl, rfl⟩ | ⟨b, k, cap, rfl, -⟩
        · obtain rfl : n = 0 := by simp at hs; exact hs
          exact (take_nil g w hR h4).mono fun e w' ⟨he, h1, h2⟩ => ⟨⟨none, 0, he, .inl ⟨rfl, rfl⟩⟩, .inr ⟨rfl, h1⟩, h2⟩
        · refine (take_some g b k cap l n w hR h4 (by omega)).mono fun e w' ⟨he, h1, h2, h3⟩ => ⟨⟨some ⟨b, k, none⟩, cap, ?_, ?_⟩, .inr ⟨rfl, h2⟩, h3⟩
          · rw [he, List.length_take, Nat.min_eq_left (by omega)]
          · rw [List.length_take, Nat.min_eq_left (by omega)]; exact h1
  · obtain ⟨l, e⟩ := s
    rw [takeS_err n he]
    exact (take_err p g (l, e) n w h he).mono fun e w' ⟨he, h1⟩ => ⟨⟨none, 0, he, .inl ⟨rfl, rfl⟩⟩, by rw [h1]; exact h, by rw [h1]; exact Aft.refl _ _ _⟩

theorem take_lit (p : Value) (g : Nat) {B : Nat} (s : St) (x : Int) (n : Nat) (hx : x = n) (hn : n ≤ 9223372036854775807) (w : World) (h : RP p g B s w) :
    Calls Try.prog 78 #[p, .int .i64 x] w fun e w' => (∃ a m c, e = .returned (.slice a m c) ∧ Hid (m = (takeS s n).1.length) ∧ m ≤ n ∧ Bs w' (.slice a m c) (takeS s n).1) ∧ RP p g B (takeS s n).2 w' ∧ Aft g w.heap.size w w' := by
  subst hx
  exact (take_any p g s n hn w h).mono fun e w' ⟨⟨a, c, h1, h2⟩, h3, h4⟩ => ⟨⟨a, _, c, h1, Lib.hid rfl, takeS_len s n, h2⟩, h3, h4⟩
end Go.Proofs.Ytgkfoiekminfmaa.Re
