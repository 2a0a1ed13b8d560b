/- What the walks of layer 6's laws keep: the track that came in, the program's, and their keys. -/
import Derived.Test.YtcgafhpbcdmigaaTg
import Derived.Test.YtcgafhpbcdmigaaTy
import Derived.Test.YtcgafhpbcdmigaaTs
import Derived.Deep.DeepCutAuto
namespace Go.Proofs.Ytcgafhpbcdmigaa.tracksW
open Go.RowKit Go.Proofs.Ytcgafhpbcdmigaa Go.Proofs.Ytcgafhpbcdmigaa.Wa Go.Proofs.Ytcgafhpbcdmigaa.Ve Go.Proofs.Ytcgafhpbcdmigaa.Tk Go.Proofs.Ytcgafhpbcdmigaa.Tb

def TI (w : World) (xb : Nat) (way : Int) (a a' : Option Addr) (n cap cap' : Nat) (L : Nat → Int) (wr : World) : Prop :=
  wr.cell? ⟨w.heap.size, 0, none⟩ = some (.int .i64 way) ∧ wr.cell? ⟨w.heap.size, 1, none⟩ = some (.slice a n cap) ∧ wr.cell? ⟨xb, 0, none⟩ = some (.int .i64 way) ∧ wr.cell? ⟨xb, 1, none⟩ = some (.slice a' n cap') ∧
  KeysAt wr a n L ∧ KeysAt wr a' n L ∧ Below w.heap.size w wr

theorem TI.on {w : World} {xb : Nat} {way : Int} {a a' : Option Addr} {n cap cap' : Nat} {L : Nat → Int} {wr w' : World} (h : TI w xb way a a' n cap cap' L wr) (hb : Below wr.heap.size wr w') : TI w xb way a a' n cap cap' L w' := by
  obtain ⟨h1, h2, h3, h4, h5, h6, h7⟩ := h
  exact ⟨held_on hb h1, held_on hb h2, held_on hb h3, held_on hb h4, h5.on hb, h6.on hb, h7.trans (hb.mono h7.size)⟩

theorem TI.draw {w : World} {xb : Nat} {way : Int} {a a' : Option Addr} {n cap cap' : Nat} {L : Nat → Int} {wr : World} (h : TI w xb way a a' n cap cap' L wr) : TI w xb way a a' n cap cap' L wr.drew := by
  obtain ⟨h1, h2, h3, h4, h5, h6, h7⟩ := h
  exact ⟨h1, h2, h3, h4, h5, h6, h7.drew⟩

theorem at_is (way : Int) (a : Option Addr) (n cap : Nat) (L : Nat → Int) (t v1 v2 v3 : Int) (h : valN way n L t 1 = v1 ∧ valN way n L t 2 = v2 ∧ valN way n L t 3 = v3) (w : World) (hk : KeysAt w a n L) :
    Calls Try.prog 41 #[.agg #[.int .i64 way, .slice a n cap], .int .i64 t] w fun e w' => e = .returned (V3 v1 v2 v3) ∧ Below w.heap.size w w' := by
  obtain ⟨rfl, rfl, rfl⟩ := h; exact at_any way a n cap L t w hk

/-- what has come of To: the law's own copy of the track -/
theorem ti_start {w w1 : World} {way : Int} {a a' : Option Addr} {n cap cap' : Nat} {L : Nat → Int} (hk : KeysAt w a n L) (hk1 : KeysAt w1 a' n L)
    (hb1 : Below (w.alloc (.cells #[.int .i64 way, .slice a n cap] 55)).heap.size (w.alloc (.cells #[.int .i64 way, .slice a n cap] 55)) w1) :
    TI w w1.heap.size way a a' n cap cap' L (w1.alloc (.cells #[.int .i64 way, .slice a' n cap'] 58)) := by
  have hb0 := below_c1 hb1
  have hz := hb1.size
  simp at hz
  obtain ⟨hc, hf⟩ := bcell hb1
  have e0 : w1.cell? ⟨w.heap.size, 0, none⟩ = some (.int .i64 way) := by rw [hc _ _ (by simp)]; go_simp
  have e1 : w1.cell? ⟨w.heap.size, 1, none⟩ = some (.slice a n cap) := by rw [hc _ _ (by simp)]; go_simp
  exact ⟨old1 _ (by omega) e0, old1 _ (by omega) e1, by go_simp, by go_simp, (hk.on hb0).on (below_n1 _ _), hk1.on (below_n1 _ _), hb0.trans ((below_n1 _ _).mono hb0.size)⟩
end Go.Proofs.Ytcgafhpbcdmigaa.tracksW
