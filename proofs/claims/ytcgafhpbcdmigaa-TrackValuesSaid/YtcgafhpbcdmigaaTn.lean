/- Two keys in a row of their own: what the library's functions that Make calls do to them (the document's example). -/
import Derived.Test.YtcgafhpbcdmigaaTk
import Derived.Test.YtcgafhpbcdmigaaLs
import Derived.Test.YtcgafhpbcdmigaaVg
import Derived.Deep.AppendLies
import Derived.Deep.DeepCutAuto
namespace Go.Proofs.Ytcgafhpbcdmigaa.Tn
open Go.RowKit Go.Proofs.Ytcgafhpbcdmigaa Go.Proofs.Ytcgafhpbcdmigaa.Wa Go.Proofs.Ytcgafhpbcdmigaa.Ve Go.Proofs.Ytcgafhpbcdmigaa.Tk Go.Proofs.Ytcgafhpbcdmigaa.Ls

/-- two keys in a block -/
def Row2 (g : Nat) (f : Nat → Int) (w : World) : Prop := g < w.heap.size ∧ (∀ j, j < 8 → w.cell? ⟨g, j, none⟩ = some (.int .i64 (f j))) ∧ ∀ j, w.frozen? ⟨g, j, none⟩ = false

theorem Row2.on {g : Nat} {f : Nat → Int} {w w' : World} (h : Row2 g f w) (hb : Below w.heap.size w w') : Row2 g f w' :=
  ⟨Nat.lt_of_lt_of_le h.1 hb.size, fun j hj => (hb.cell (p := ⟨g, j, none⟩) h.1).trans (h.2.1 j hj), fun j => (hb.frozen (p := ⟨g, j, none⟩) h.1).trans (h.2.2 j)⟩

theorem nan_any (x : Int) (w : World) : Calls Try.prog 86 #[.int .i64 x] w fun e w' => e = .returned (.bool false) ∧ w = w' := by
  go_enter Try.func86, Try.ntmps86
  go_wp2
  go_ret
  exact ⟨rfl, rfl⟩

theorem cmp_less (a b : Int) (h : a < b) (w : World) : Calls Try.prog 76 #[.int .i64 a, .int .i64 b] w fun e w' => e = .returned (.int .i64 (-1)) ∧ w = w' := by
  go_enter Try.func76, Try.ntmps76
  go_wp2_with (go_at_call 86; refine (nan_any _ _).mono ?_; rintro e w9 ⟨rfl, rfl⟩)
  go_ret
  exact ⟨rfl, rfl⟩

theorem less_any (ta xa ya za tb xb yb zb : Int) (h : ta < tb) (w : World) : Calls Try.prog 75 #[K4 ta xa ya za, K4 tb xb yb zb] w fun e w' => e = .returned (.int .i64 (-1)) ∧ Below w.heap.size w w' := by
  go_enter Try.func75, Try.ntmps75
  go_wp2_with (go_at_call 76; refine (cmp_less _ _ h _).mono ?_; rintro e w9 ⟨rfl, rfl⟩)
  go_ret
  exact ⟨rfl, below_n2 _ _ _⟩

theorem same_no (ta xa ya za tb xb yb zb : Int) (h : ¬ ta = tb) (w : World) : Calls Try.prog 78 #[K4 ta xa ya za, K4 tb xb yb zb] w fun e w' => e = .returned (.bool false) ∧ Below w.heap.size w w' := by
  have h' : (ta == tb) = false := by simpa using h
  go_enter Try.func78, Try.ntmps78
  go_wp2
  go_ret
  exact ⟨rfl, below_n2 _ _ _⟩

theorem infoKey : (Try.prog.info? 72).map (fun i => (i.zero, i.size, i.bytes)) = some (some (.agg #[.int .i64 0, .int .i64 0, .int .i64 0, .int .i64 0]), 4, 32) := by kernel_rfl

theorem not_nil (g cap : Nat) (w : World) : Sem.run Try.prog (binOp BinOp.eql 56 (Value.slice (some ⟨g, 0, none⟩) 2 cap) (Value.slice none 0 0)) w = Result.ok (.bool false) w := by
  first
    | kernel_rfl
    | (simp [binOp, go_sem, Try.underlying56]; done)

set_option maxHeartbeats 1000000 in
set_option maxRecDepth 100000 in
theorem clone_any (g cap : Nat) (f : Nat → Int) (w : World) (hr : Row2 g f w) :
    Calls Try.prog 72 #[.slice (some ⟨g, 0, none⟩) 2 cap] w fun e w' => (∃ g' cap', e = .returned (.slice (some ⟨g', 0, none⟩) 2 cap') ∧ Row2 g' f w' ∧ w.heap.size ≤ g') ∧ Below w.heap.size w w' := by
  obtain ⟨i0, hi, hz0, hz1, hz2⟩ := info_parts infoKey
  have HR := Lib.hid hr
  clear hr
  have hnn := not_nil g cap
  go_enter Try.func72, Try.ntmps72
  go_wp2_with (first | (at_builtin; refine wpList_append_lies _ rfl _ _ 56 rfl w.heap.size 72 i0 (.agg #[.int .i64 0, .int .i64 0, .int .i64 0, .int .i64 0]) 4 32 Try.underlying56 hi hz0 hz1 hz2 rfl (by decide) _ _ _ rfl (World.ownsRow_lit w #[] 0 (Nat.le_refl _) (by unfold maxLen; omega) rfl) ⟨g, 0, none⟩ 2 cap [.int .i64 (f 0), .int .i64 (f 1), .int .i64 (f 2), .int .i64 (f 3), .int .i64 (f 4), .int .i64 (f 5), .int .i64 (f 6), .int .i64 (f 7)] rfl rfl ?c1 ?c2 (by omega) ?c3 ?c4 ?c5 _ rfl ?_))
  case c1 =>
    have ho := fun j hj => old1 (.cells #[] 72) HR.out.1 (HR.out.2.1 j hj)
    intro j u hj
    match j, hj with
    | 0, hj => simp at hj; subst hj; simpa [Addr.add] using ho 0 (by omega)
    | 1, hj => simp at hj; subst hj; simpa [Addr.add] using ho 1 (by omega)
    | 2, hj => simp at hj; subst hj; simpa [Addr.add] using ho 2 (by omega)
    | 3, hj => simp at hj; subst hj; simpa [Addr.add] using ho 3 (by omega)
    | 4, hj => simp at hj; subst hj; simpa [Addr.add] using ho 4 (by omega)
    | 5, hj => simp at hj; subst hj; simpa [Addr.add] using ho 5 (by omega)
    | 6, hj => simp at hj; subst hj; simpa [Addr.add] using ho 6 (by omega)
    | 7, hj => simp at hj; subst hj; simpa [Addr.add] using ho 7 (by omega)
  case c2 => intro u hu; simp at hu; rcases hu with rfl | rfl | rfl | rfl | rfl | rfl | rfl | rfl <;> rfl
  case c3 => unfold maxLen; omega
  case c4 => omega
  case c5 => simp
  intro g' cap' w1 hown hgrow hat hlt
  have hge : w.heap.size ≤ g' := by
    rcases hat with h | h
    · simp [Value.ownBlock] at h; omega
    · subst h; simp
  have hrow : Row2 g' f w1 := ⟨hlt, fun j hj => by
    have := hown.cellAt j (by omega)
    rw [this]
    match j, hj with
    | 0, _ => rfl
    | 1, _ => rfl
    | 2, _ => rfl
    | 3, _ => rfl
    | 4, _ => rfl
    | 5, _ => rfl
    | 6, _ => rfl
    | 7, _ => rfl, fun j => hown.frozenAt j⟩
  have hbel : Below w.heap.size w w1 := (below_n1 w (.cells #[] 72)).grown hgrow (by simp) (fun q hq => by simp [Value.ownBlock] at hq; omega)
  clear hown hgrow hat hi hz0 hz1 hz2
  go_wp2
  go_ret
  exact ⟨⟨_, _, rfl, hrow, hge⟩, hbel⟩
end Go.Proofs.Ytcgafhpbcdmigaa.Tn
