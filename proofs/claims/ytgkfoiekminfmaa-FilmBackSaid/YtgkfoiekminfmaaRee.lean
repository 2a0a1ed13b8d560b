/- Layer 7: a reader in memory (or nil), and the contracts of its error, what is left, and the next bytes. -/
import Derived.Test.YtgkfoiekminfmaaRed
import Derived.Test.YtgkfoiekminfmaaRcs
namespace Go.Proofs.Ytgkfoiekminfmaa.Re
open Go.RowKit Go.Proofs.Ytgkfoiekminfmaa Go.Proofs.Ytgkfoiekminfmaa.Rp

/-- bytes that lie from a place of a block on; none, of nil -/
def LeftIs (g B : Nat) (v : Value) (l : List UInt8) (w : World) : Prop :=
  (v = .slice none 0 0 ∧ l = []) ∨ ∃ b k cap, v = .slice (some ⟨b, k, none⟩) l.length cap ∧ l.length ≤ cap ∧ b ≠ g ∧ b < B ∧ ∀ j u, (vals l)[j]? = some u → w.cell? ⟨b, k + j, none⟩ = some u

theorem LeftIs.bs {g B : Nat} {v : Value} {l : List UInt8} {w : World} (h : LeftIs g B v l w) : Bs w v l := by
  rcases h with h | ⟨b, k, cap, rfl, -, -, -, hc⟩
  · exact .inl h
  · exact .inr ⟨_, _, rfl, fun j u hu => by rw [Addr.add_mid]; exact hc j u hu⟩

/-- a reader in block g: the bytes that are left, its error; they lie in blocks ahead of B -/
def RAt (g B : Nat) (s : St) (w : World) : Prop :=
  g < B ∧ B ≤ w.heap.size ∧ (∀ j, w.frozen? ⟨g, j, none⟩ = false) ∧ w.cell? ⟨g, 1, none⟩ = some (.int .i64 s.2) ∧ ∃ v, w.cell? ⟨g, 0, none⟩ = some v ∧ LeftIs g B v s.1 w

/-- a reader's pointer: nil, or to block g -/
def RP (p : Value) (g B : Nat) (s : St) (w : World) : Prop :=
  (p = .pointer none ∧ s = ([], 2)) ∨ (p = .pointer (some ⟨g, 0, none⟩) ∧ RAt g B s w)

theorem RAt.on {g B : Nat} {s : St} {w w' : World} (h : RAt g B s w) (hb : Below B w w') : RAt g B s w' := by
  obtain ⟨h1, hB, h2, h3, v, h4, h5⟩ := h
  refine ⟨h1, Nat.le_trans hB hb.size, fun j => (hb.frozen (p := ⟨g, j, none⟩) h1).trans (h2 j), (hb.cell (p := ⟨g, 1, none⟩) h1).trans h3, v, (hb.cell (p := ⟨g, 0, none⟩) h1).trans h4, ?_⟩
  rcases h5 with h | ⟨b, k, cap, rfl, k1, k2, k3, hc⟩
  · exact .inl h
  · exact .inr ⟨b, k, cap, rfl, k1, k2, k3, fun j u hu => (hb.cell (p := ⟨b, k + j, none⟩) k3).trans (hc j u hu)⟩

theorem RP.on {p : Value} {g B : Nat} {s : St} {w w' : World} (h : RP p g B s w) (hb : Below B w w') : RP p g B s w' := by
  rcases h with h | ⟨h, k⟩
  · exact .inl h
  · exact .inr ⟨h, k.on hb⟩

theorem RP.new {p : Value} {g B : Nat} {s : St} {w w' : World} (h : RP p g B s w) (hb : Below w.heap.size w w') : RP p g B s w' := by
  rcases h with h | ⟨h, k⟩
  · exact .inl h
  · exact .inr ⟨h, k.on (hb.mono k.2.1)⟩

theorem RP.set {p : Value} {g B : Nat} {s : St} {w : World} (h : RP p g B s w) {b : Nat} (hb : B ≤ b) (i : Nat) (u : Value) : RP p g B s (w.setCell ⟨b, i, none⟩ u) :=
  h.on ((Below.refl B w).setCell (p := ⟨b, i, none⟩) hb u)

theorem RP.lift {p : Value} {g B B2 : Nat} {s : St} {w : World} (h : RP p g B s w) (hb : B ≤ B2) (h2 : B2 ≤ w.heap.size) : RP p g B2 s w := by
  rcases h with h | ⟨rfl, h1, hB, k2, k3, v, k4, k5⟩
  · exact .inl h
  · refine .inr ⟨rfl, by omega, h2, k2, k3, v, k4, ?_⟩
    rcases k5 with h | ⟨b, k, cap, rfl, q1, q2, q3, hc⟩
    · exact .inl h
    · exact .inr ⟨b, k, cap, rfl, q1, q2, by omega, hc⟩

theorem LeftIs.set {g B : Nat} {v : Value} {l : List UInt8} {w : World} (h : LeftIs g B v l w) (i : Nat) (u : Value) : LeftIs g B v l (w.setCell ⟨g, i, none⟩ u) := by
  rcases h with h | ⟨b, k, cap, rfl, h1, h2, h3, hc⟩
  · exact .inl h
  · exact .inr ⟨b, k, cap, rfl, h1, h2, h3, fun j u hu => by rw [cfar h2]; exact hc j u hu⟩

theorem RAt.setErr {g B : Nat} {l : List UInt8} {e : Int} {w : World} (h : RAt g B (l, e) w) (x : Int) : RAt g B (l, x) (w.setCell ⟨g, 1, none⟩ (.int .i64 x)) := by
  obtain ⟨h1, hB, h2, h3, v, h4, h5⟩ := h
  exact ⟨h1, by simpa using hB, fun j => by rw [World.frozen?_setCell]; exact h2 j, by rw [cset h3, if_pos rfl], v, by rw [cset h3, if_neg (by omega)]; exact h4, h5.set _ _⟩

theorem RAt.setLeft {g B : Nat} {l l2 : List UInt8} {e : Int} {w : World} {v : Value} (h : RAt g B (l, e) w) (hl : LeftIs g B v l2 w) : RAt g B (l2, e) (w.setCell ⟨g, 0, none⟩ v) := by
  obtain ⟨h1, hB, h2, h3, v', h4, h5⟩ := h
  exact ⟨h1, by simpa using hB, fun j => by rw [World.frozen?_setCell]; exact h2 j, by rw [cset h4, if_neg (by omega)]; exact h3, v, by rw [cset h4, if_pos rfl], hl.set _ _⟩

theorem err_any (p : Value) (g : Nat) {B : Nat} (s : St) (w : World) (h : RP p g B s w) :
    Calls Try.prog 62 #[p] w fun e w' => e = .returned (.int .i64 s.2) ∧ w' = w := by
  rcases h with ⟨rfl, rfl⟩ | ⟨rfl, h1, hB, h2, h3, h4⟩
  · go_enter Try.func62, Try.ntmps62
    go_wp2
    go_ret
    exact ⟨rfl, rfl⟩
  · clear h4
    go_enter Try.func62, Try.ntmps62
    go_wp2
    go_ret
    exact ⟨rfl, rfl⟩

theorem fail_any (p : Value) (g : Nat) {B : Nat} (s : St) (x : Int) (w : World) (h : RP p g B s w) :
    Calls Try.prog 61 #[p, .int .i64 x] w fun e w' => e = .returned (.tuple #[]) ∧ RP p g B (failS s x) w' ∧ Aft g w.heap.size w w' := by
  by_cases he : s.2 = 0
  · rcases id h with ⟨rfl, rfl⟩ | ⟨rfl, hR⟩
    · simp at he
    · obtain ⟨l, e⟩ := s
      simp only at he
      subst he
      have HF := Lib.hid (show failS (l, 0) x = (l, x) by simp [failS])
      have HN := Lib.hid (hR.setErr x)
      obtain ⟨h1, hB, h2, h3, h4⟩ := hR
      have hf := h2 1
      clear h4
      go_enter Try.func61, Try.ntmps61
      go_wp2_with (go_at_call 62; refine (err_any _ g (l, 0) _ h).mono ?_; rintro e w9 ⟨rfl, rfl⟩)
      go_end0
      exact ⟨rfl, by rw [HF.out]; exact .inr ⟨rfl, HN.out⟩, (Aft.refl _ _ _).setCell _ _⟩
  · have he' : (s.2 == 0) = false := by simpa using he
    have HF := Lib.hid (show failS s x = s by simp [failS, he])
    clear he
    go_enter Try.func61, Try.ntmps61
    go_wp2_with (go_at_call 62; refine (err_any _ g s _ h).mono ?_; rintro e w9 ⟨rfl, rfl⟩)
    go_end0
    exact ⟨rfl, by rw [HF.out]; exact h, Aft.refl _ _ _⟩

theorem left_form {g B : Nat} {v : Value} {l : List UInt8} {w : World} (h : LeftIs g B v l w) : ∃ a c, v = .slice a l.length c := by
  rcases h with ⟨rfl, rfl⟩ | ⟨b, k, cap, rfl, -⟩
  · exact ⟨_, _, rfl⟩
  · exact ⟨_, _, rfl⟩

theorem left_any (p : Value) (g : Nat) {B : Nat} (s : St) (w : World) (h : RP p g B s w) :
    Calls Try.prog 60 #[p] w fun e w' => e = .returned (.int .i64 (leftS s : Nat)) ∧ w' = w := by
  by_cases he : s.2 = 0
  · rcases id h with ⟨rfl, rfl⟩ | ⟨rfl, h1, hB, h2, h3, v, h4, h5⟩
    · simp at he
    · obtain ⟨l, e⟩ := s
      simp only at he
      subst he
      have HF := Lib.hid (show leftS (l, 0) = l.length by simp [leftS])
      obtain ⟨a, c, rfl⟩ := left_form h5
      clear h5 h3
      go_enter Try.func60, Try.ntmps60
      go_wp2_with (go_at_call 62; refine (err_any _ g (l, 0) _ h).mono ?_; rintro e w9 ⟨rfl, rfl⟩)
      go_ret
      exact ⟨by rw [HF.out]; rfl, rfl⟩
  · have he' : (s.2 == 0) = false := by simpa using he
    have HF := Lib.hid (show leftS s = 0 by simp [leftS, he])
    go_enter Try.func60, Try.ntmps60
    go_wp2_with (go_at_call 62; refine (err_any _ g s _ h).mono ?_; rintro e w9 ⟨rfl, rfl⟩)
    go_ret
    exact ⟨by rw [HF.out]; rfl, rfl⟩
end Go.Proofs.Ytgkfoiekminfmaa.Re
