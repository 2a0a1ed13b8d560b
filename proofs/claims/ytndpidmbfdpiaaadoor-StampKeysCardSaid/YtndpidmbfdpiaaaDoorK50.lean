/- Layer 26 (stamp), the kinds' names by both sides; the tables as StampKeys' row lists them. -/
import Derived.Test.YtndpidmbfdpiaaaDoorK49
import Derived.Test.YtndpidmbfdpiaaaDoorK28
namespace Go.Proofs.YtndpidmbfdpiaaaDoor.St
open Go Go.ChangeShapes Go.WideShapes Go.RowKit Go.Deep Go.Proofs.YtndpidmbfdpiaaaDoor Go.Proofs.YtndpidmbfdpiaaaDoor.Au Go.Proofs.YtndpidmbfdpiaaaDoor.Re Go.Proofs.YtndpidmbfdpiaaaDoor.Se
set_option linter.unusedVariables false
set_option linter.unusedSimpArgs false

def nms : List ByteArray := [⟨#[116, 114, 97, 99, 101]⟩, ⟨#[119, 97, 114, 112]⟩, ⟨#[108, 97, 99, 101]⟩, ⟨#[112, 108, 97, 116, 101]⟩]
def NamesAt (w : World) : Prop := ∀ j, j < 4 → w.cell? ⟨0, j, none⟩ = some (.string (nms.getD j ⟨#[]⟩))
/-- a kind's name -/
def nameS (k : Int) : ByteArray := if 0 ≤ k ∧ k < 4 then nms.getD k.toNat ⟨#[]⟩ else ⟨#[]⟩

theorem NamesAt.on {w w' : World} (h : NamesAt w) (hb : Below w.heap.size w w') : NamesAt w' :=
  fun j hj => (hb.cell (World.block_lt_of_cell? w _ (h j hj))).trans (h j hj)

theorem unknown_any (k : Int) (w : World) (hk : ¬ (0 ≤ k ∧ k < 4)) : Calls Tryd.prog 29 #[.int .i64 k] w fun e w' => e = .returned (.bool false) ∧ w = w' := by
  by_cases h0 : 0 ≤ k
  · have d0 : decide (0 ≤ k) = true := by simp; omega
    have d1 : decide (k < 4) = false := by simp; omega
    go_enter Tryd.func29, Tryd.ntmps29
    go_wp2_with fail
    go_ret
    first | exact ⟨rfl, rfl⟩ | exact ⟨by simp_all, rfl⟩
  · have d0 : decide (0 ≤ k) = false := by simp; omega
    go_enter Tryd.func29, Tryd.ntmps29
    go_wp2_with fail
    go_ret
    first | exact ⟨rfl, rfl⟩ | exact ⟨by simp_all, rfl⟩

theorem name_any (k : Int) (w : World) (hN : NamesAt w) : Calls Tryd.prog 12 #[.int .i64 k] w fun e w' => e = .returned (.string (nameS k)) ∧ w = w' := by
  by_cases hk : 0 ≤ k ∧ k < 4
  · obtain ⟨n, rfl⟩ : ∃ n : Nat, k = n := ⟨k.toNat, by omega⟩
    have hn : n < 4 := by omega
    have hc := hN n hn
    have he : nameS n = nms.getD n ⟨#[]⟩ := by unfold nameS; rw [if_pos hk, Int.toNat_natCast]
    rw [he]
    generalize nms.getD n ⟨#[]⟩ = S at hc ⊢
    have hkn := known_any n w hn
    clear hN he
    go_enter Tryd.func12, Tryd.ntmps12
    go_wp2_with (go_at_call 29; refine hkn.mono ?_; rintro e ww ⟨rfl, rfl⟩)
    go_ret
    first | exact ⟨rfl, rfl⟩ | exact ⟨by simp_all, rfl⟩
  · have he : nameS k = ⟨#[]⟩ := by unfold nameS; rw [if_neg hk]
    have hkn := unknown_any k w hk
    rw [he]
    go_enter Tryd.func12, Tryd.ntmps12
    go_wp2_with (go_at_call 29; refine hkn.mono ?_; rintro e ww ⟨rfl, rfl⟩)
    go_ret
    first | exact ⟨rfl, rfl⟩ | exact ⟨by simp_all, rfl⟩

theorem rname_any (k : Int) (w : World) : Calls Tryd.prog 13 #[.int .i64 k] w fun e w' => e = .returned (.string (nameS k)) ∧ Below w.heap.size w w' := by
  by_cases hk : 0 ≤ k ∧ k < 4
  · obtain ⟨n, rfl⟩ : ∃ n : Nat, k = n := ⟨k.toNat, by omega⟩
    have he : nameS n = nms.getD n ⟨#[]⟩ := by unfold nameS; rw [if_pos hk, Int.toNat_natCast]
    rw [he]
    obtain h | h | h | h : n = 0 ∨ n = 1 ∨ n = 2 ∨ n = 3 := by omega
    all_goals
      subst h
      go_enter Tryd.func13, Tryd.ntmps13
      go_wp2_with fail
      go_ret
      exact ⟨rfl, Ve.below_n1 _ _⟩
  · have he : nameS k = ⟨#[]⟩ := by unfold nameS; rw [if_neg hk]
    rw [he]
    by_cases h0 : k < 0
    · have d0 : decide (k < 0) = true := by simp; omega
      go_enter Tryd.func13, Tryd.ntmps13
      go_wp2_with fail
      go_ret
      exact ⟨rfl, Ve.below_n1 _ _⟩
    · have d0 : decide (k < 0) = false := by simp; omega
      have d1 : decide (4 ≤ k) = true := by simp; omega
      go_enter Tryd.func13, Tryd.ntmps13
      go_wp2_with fail
      go_ret
      exact ⟨rfl, Ve.below_n1 _ _⟩

theorem names_of {W : World} {rest : List (String × DataW Unit)} (h : laidMet Tryd.prog (("zoetrope/stamp.names", Rows.laid_zoetrope_stamp_names) :: rest) W) : NamesAt W := by
  obtain ⟨ps, ⟨g', t', cs, fuel, p, q, hg', ht', hvar, hd, _, _⟩, _⟩ := h
  obtain rfl := Option.some.inj ((show Tryd.prog.globalNamed "zoetrope/stamp.names" = some 0 by kernel_rfl).symm.trans hg')
  obtain rfl := Option.some.inj ((show (Tryd.prog.globals[(0 : Nat)]?).map (·.type) = some 71 by kernel_rfl).symm.trans ht')
  have hce : Tryd.prog.cellsOf 9 = 1 := by kernel_rfl
  obtain ⟨xs, m, hfu, hx0, h1, hl, hx⟩ := DataW.trod_array Tryd.underlying71 hd
  have hx1 : xs.map (·.1) = nms.map fun s => (DataW.lit (.string s.data.toList) : DataW Unit) := by
    have h := congrArg Prod.fst hx0
    simp only [Rows.laid_zoetrope_stamp_names, DataW.agg.injEq] at h
    exact h.symm
  intro j hj
  rw [World.var?_cell hg' hvar j]
  have h2 := hx j hj
  rw [List.getElem?_eq_getElem (by omega), hce, Nat.mul_one] at h2
  obtain ⟨s, e, hs, -⟩ := DataW.trod_string Tryd.underlying9 h2
  have h3 : cs[j]? = some (.string s) := by
    have h4 : ((cs.toList.drop j).take 1)[0]? = some (.string s) := by rw [e]; rfl
    rw [List.getElem?_take, if_pos (by omega), List.getElem?_drop] at h4
    simpa using h4
  have h5 : (xs.map (·.1))[j]? = some (.lit (.string s.data.toList)) := by
    rw [List.getElem?_map, List.getElem?_eq_getElem (by omega), hs]; rfl
  rw [hx1] at h5
  have hj4 : j < nms.length := hj
  rw [List.getElem?_map, List.getElem?_eq_getElem hj4] at h5
  simp only [Option.map_some, Option.some.injEq, DataW.lit.injEq, Lit.string.injEq] at h5
  rw [h3]
  congr 2
  rw [List.getD, List.getElem?_eq_getElem hj4, Option.getD_some]
  exact (ByteArray.ext (Array.toList_inj.1 h5)).symm

theorem tabs_gen {W : World} {rest : List (String × DataW Unit)} (h : laidMet Tryd.prog (("zoetrope/seal.start", Rows.laid_zoetrope_seal_start) :: ("zoetrope/seal.rounds", Rows.laid_zoetrope_seal_rounds) :: rest) W) : Tabs W := by
  have h1 : Lib.TabIs Tryd.prog W "zoetrope/seal.start" .u32 Se.start.l := Lib.tabIs_of_head (g := 1) (t := 84) (n := 8) (e := 27) (by kernel_rfl) (by kernel_rfl) (by kernel_rfl) Tryd.underlying27 (by kernel_rfl) (by kernel_rfl) h
  have h2 : Lib.TabIs Tryd.prog W "zoetrope/seal.rounds" .u32 kt := Lib.tabIs_of_head (g := 2) (t := 29) (n := 64) (e := 27) (by kernel_rfl) (by kernel_rfl) (by kernel_rfl) Tryd.underlying27 (by kernel_rfl) (by kernel_rfl) (laidMet.tail h)
  exact ⟨fun j hj => h1.cell (by kernel_rfl) j hj, fun j hj => h2.cell (by kernel_rfl) j hj⟩

theorem tabs_keys {W : World} (hL : laidMetH Tryd.prog Rows.stampKeysRow.laid W) : Tabs W ∧ NamesAt W := by
  rw [Go.MakeChecks.laidMetH_plain Tryd.prog _ W (by decide)] at hL
  exact ⟨tabs_gen hL, names_of (laidMet.tail (laidMet.tail hL))⟩
end Go.Proofs.YtndpidmbfdpiaaaDoor.St
