/- Layer 22: the document's example is met by the program. -/
import Derived.Test.YtndpidmbfdpiaaaDoorK18
import Derived.Lib.SlBytesConst
namespace Go.Proofs.YtndpidmbfdpiaaaDoor.Se
open Go Go.RowKit Go.Proofs.YtndpidmbfdpiaaaDoor Go.Proofs.YtndpidmbfdpiaaaDoor.Au Go.Proofs.YtndpidmbfdpiaaaDoor.Re
set_option linter.unusedVariables false
set_option linter.unusedSimpArgs false

def abcB : List UInt8 := [186, 120, 22, 191, 143, 1, 207, 234, 65, 65, 64, 222, 93, 174, 34, 35, 176, 3, 97, 163, 150, 23, 122, 156, 180, 16, 255, 97, 242, 0, 21, 173]

theorem abc_vals : nums .u8 (sha [97, 98, 99]) = vals abcB := by rw [sha_abc]; rfl

theorem abc_hex : hexL abcB = [98, 97, 55, 56, 49, 54, 98, 102, 56, 102, 48, 49, 99, 102, 101, 97, 52, 49, 52, 49, 52, 48, 100, 101, 53, 100, 97, 101, 50, 50, 50, 51, 98, 48, 48, 51, 54, 49, 97, 51, 57, 54, 49, 55, 55, 97, 57, 99, 98, 52, 49, 48, 102, 102, 54, 49, 102, 50, 48, 48, 49, 53, 97, 100] := by decide +kernel

/-- one part, in a block of its own -/
theorem parts_one {w : World} {b g : Nat} {x : Value} {l : List UInt8} {T : TypeId} (hb : w.heap[b]? = some (.cells #[x] T (0, 0))) (hg : b ≠ g) (hx : BsC w x l) (hne : ∀ ad n c, x = .slice (some ad) n c → l ≠ [] → ad.block ≠ g) : Parts w g (.slice (some ⟨b, 0, none⟩) 1 1) [l] :=
  .inr ⟨b, 0, 1, rfl, hg, fun j l' hj => by
    match j, hj with
    | 0, hj =>
      simp at hj
      subst hj
      exact ⟨x, cell_of_row _ _ 0 _ _ _ hb, hx, hne⟩
    | j + 1, hj => simp at hj⟩

theorem bsc_row {w : World} {b : Nat} {l : List UInt8} {T : TypeId} {n : Nat} {fr : Nat × Nat} (hn : n = l.length) (h : w.heap[b]? = some (.cells (vals l).toArray T fr)) : BsC w (.slice (some ⟨b, 0, none⟩) n n) l :=
  .inr ⟨⟨b, 0, none⟩, n, by rw [hn], by omega, fun j u hu => by
    rw [add_at, Nat.zero_add]
    simp [World.cell?, h, hu]⟩

theorem slice_all (q : Nat) (W : World) : (Instr.sliceAt 33 (.pointer (some ⟨q, 0, none⟩)) none none none).run Tryd.prog W = .ok (.slice (some ⟨q, 0, none⟩) 32 32) W := by
  have hu : Tryd.prog.underlying 33 = some (.array (Tryd.prog.arrayLen 33) (Tryd.prog.elem 33)) := by kernel_rfl
  have hl : Tryd.prog.arrayLen 33 = 32 := by kernel_rfl
  have he : Tryd.prog.elem 33 = Tryd.prog.elem 85 := by kernel_rfl
  rw [run_sliceAt_array_all W 33 ⟨q, 0, none⟩ hu, he, size_u8, hl]
  rfl

end Go.Proofs.YtndpidmbfdpiaaaDoor.Se
