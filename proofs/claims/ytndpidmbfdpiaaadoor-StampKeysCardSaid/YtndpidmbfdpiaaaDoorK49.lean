/- Layer 26 (stamp): a digest that came in; the tables as the rows list them. -/
import Derived.Test.YtndpidmbfdpiaaaDoorRows
import Derived.Test.YtndpidmbfdpiaaaDoorK12
import Derived.Test.YtndpidmbfdpiaaaDoorK48
import Derived.Deep.Slices
import Derived.Lib.LaidTab
import Derived.MakeChecks
import Derived.Stop.LaidErr
import Derived.OpenShut
namespace Go.Proofs.YtndpidmbfdpiaaaDoor.St
open Go Go.ChangeShapes Go.WideShapes Go.RowKit Go.Deep Go.Proofs.YtndpidmbfdpiaaaDoor Go.Proofs.YtndpidmbfdpiaaaDoor.Re Go.Proofs.YtndpidmbfdpiaaaDoor.Se
set_option linter.unusedVariables false

theorem tabs_of {W : World} (h : laidMet Tryd.prog Rows.stampOrderRow.laid W) : Tabs W := by
  have h1 : Lib.TabIs Tryd.prog W "zoetrope/seal.start" .u32 Se.start.l := Lib.tabIs_of_head (g := 1) (t := 84) (n := 8) (e := 27) (by kernel_rfl) (by kernel_rfl) (by kernel_rfl) Tryd.underlying27 (by kernel_rfl) (by kernel_rfl) h
  have h2 : Lib.TabIs Tryd.prog W "zoetrope/seal.rounds" .u32 kt := Lib.tabIs_of_head (g := 2) (t := 29) (n := 64) (e := 27) (by kernel_rfl) (by kernel_rfl) (by kernel_rfl) Tryd.underlying27 (by kernel_rfl) (by kernel_rfl) (laidMet.tail h)
  exact ⟨fun j hj => h1.cell (by kernel_rfl) j hj, fun j hj => h2.cell (by kernel_rfl) j hj⟩

theorem tabs_order {W : World} (hL : laidMetH Tryd.prog Rows.stampOrderRow.laid W) : Tabs W := by
  rw [Go.MakeChecks.laidMetH_plain Tryd.prog _ W (by decide)] at hL
  exact tabs_of hL

theorem tabs_works {W : World} (hL : laidMetH Tryd.prog Rows.stampWorksRow.laid W) : Tabs W := by
  rw [Go.MakeChecks.laidMetH_plain Tryd.prog _ W (by decide)] at hL
  exact tabs_of hL

theorem cells_u8 : Tryd.prog.cellsOf 5 = 1 := by kernel_rfl
theorem cells_d32 : Tryd.prog.cellsOf 26 = 32 := by kernel_rfl

theorem open_dig {H : Type} {enc : TypeId × Value → H} {W : World} {r : Reach} {b base : Nat} {sp : Nat → Bool} {held : Bool} {v : Value} {d : DataW H} {p : List MemPlace}
    (hv : Value.okWide Tryd.prog W r b 26 v) (h : DataW.Trod enc Tryd.prog W base sp held 26 v d p) : ∃ l : List UInt8, v = .agg (vals l).toArray ∧ l.length = 32 := by
  obtain ⟨cs, rfl, hsz, _⟩ : ∃ cs, v = .agg cs ∧ cs.size = Tryd.prog.cellsOf 26 ∧ Row.okWide Tryd.prog W r b 26 cs := by
    simpa [Value.okWide, Tryd.underlying26] using hv
  rw [cells_d32] at hsz
  obtain ⟨fuel, hf⟩ := h
  obtain ⟨l⟩ := cs
  simp only [Value.cells] at hf
  simp only [List.size_toArray] at hsz
  obtain ⟨xs, m, -, -, -, hl, hd⟩ := DataW.trod_array Tryd.underlying26 hf
  have hi : ∀ j, j < 32 → ∃ z : Int, l[j]? = some (.int .u8 z) ∧ (Lit.int .u8 z).wf = true := by
    intro j hj
    have h1 := hd j hj
    rw [List.getElem?_eq_getElem (by omega), cells_u8, Nat.mul_one] at h1
    obtain ⟨z, e, -, hw⟩ := DataW.trod_int Tryd.underlying5 h1
    refine ⟨z, ?_, hw⟩
    have h2 : ((l.drop j).take 1)[0]? = some (.int .u8 z) := by rw [e]; rfl
    rw [List.getElem?_take, if_pos (by omega), List.getElem?_drop] at h2
    simpa using h2
  obtain ⟨L, hL⟩ := choose_lt (α := Int) (n := 32) (p := fun j z => l[j]? = some (.int .u8 z) ∧ (Lit.int .u8 z).wf = true) hi
  refine ⟨toBytes ((List.range 32).map L), ?_, by simp [toBytes]⟩
  rw [toBytes_vals _ (fun n hn => by
    obtain ⟨j, hj, rfl⟩ := List.mem_map.1 hn
    rw [List.mem_range] at hj
    exact (hL j hj).2), List.map_map]
  congr 2
  apply List.ext_getElem?
  intro j
  by_cases hj : j < 32
  · rw [(hL j hj).1]; simp [hj]
  · rw [List.getElem?_eq_none (by omega), List.getElem?_eq_none (by simp; omega)]
end Go.Proofs.YtndpidmbfdpiaaaDoor.St
