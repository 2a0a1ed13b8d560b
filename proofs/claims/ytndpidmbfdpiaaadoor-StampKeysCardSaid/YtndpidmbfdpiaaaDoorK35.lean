/- Layer 22: sums compared; nil presses. -/
import Derived.Test.YtndpidmbfdpiaaaDoorK34
import Derived.Laws.StructEq
import Derived.ChangeKeysEq
namespace Go.Proofs.YtndpidmbfdpiaaaDoor.Se
open Go Go.RowKit Go.Proofs.YtndpidmbfdpiaaaDoor Go.Proofs.YtndpidmbfdpiaaaDoor.Au Go.Proofs.YtndpidmbfdpiaaaDoor.Re
set_option linter.unusedVariables false
set_option linter.unusedSimpArgs false

theorem eq_nums (l : List Int) (W : World) (d : Nat) : ∀ is : List Nat, (∀ i ∈ is, i < l.length) → (Op.eqItems (d + 1) 5 1 (nums .u8 l).toArray (nums .u8 l).toArray is).run Tryd.prog W = .ok true W
  | [], _ => by simp [Op.eqItems]
  | i :: is, hi => by
    obtain ⟨z, hz⟩ : ∃ z, (nums .u8 l)[i]? = some (.int .u8 z) := ⟨_, nums_at (k := .u8) (hi i (by simp))⟩
    have ih := eq_nums l W d is (fun j hj => hi j (by simp [hj]))
    have hp := run_part_plain (P := Tryd.prog) (e := 5) (w := W) (by kernel_rfl) (xs := (nums .u8 l).toArray) (off := i) (v := .int .u8 z) (by simpa using hz)
    have he := run_equalIn_int (P := Tryd.prog) W d 5 .u8 .u8 z z Tryd.underlying5
    simp [Op.eqItems, Sem.run_bind, hp, he, ih]

theorem eq_dig (l : List Int) (hl : l.length = 32) (W : World) : (Op.equalIn 10000 33 (.agg (nums .u8 l).toArray) (.agg (nums .u8 l).toArray)).run Tryd.prog W = .ok true W := by
  obtain ⟨i0, hi, hz0, hz1, hz2⟩ := info_parts infoByte
  rw [run_equalIn_array W 9999 _ _ Tryd.underlying33 hi, show Tryd.prog.cellsOf 5 = 1 by kernel_rfl]
  exact eq_nums l W 9998 _ (fun i hi => by rw [hl]; simpa using hi)

theorem sha_len (l : List UInt8) : (sha l).length = 32 := by simp [sha, sumOf, dig, digs_len]

set_option maxHeartbeats 2000000 in
set_option maxRecDepth 100000 in
theorem sum_nil (w : World) : Calls Tryd.prog 27 #[.pointer none] w fun e' w' => e' = .returned (.agg Y32) ∧ Below w.heap.size w w' := by
  go_enter Tryd.func27, Tryd.ntmps27
  go_upto_region 1 with fail
  have hr0 := heap_alloc_last w (.cells Y32 33)
  have hb0 := Ve.below_n1 w (.cells Y32 33)
  obtain ⟨y0, hy0⟩ : ∃ y, w.alloc (.cells Y32 33) = y := ⟨_, rfl⟩
  rw [hy0] at hr0 hb0 ⊢
  obtain ⟨r, hr⟩ : ∃ r, r = w.heap.size := ⟨_, rfl⟩
  rw [← hr] at hr0 ⊢
  have hrw : w.heap.size ≤ r := by omega
  clear hy0 hr
  have HSZ := Lib.hid (show (Tryd.prog.info? 33).map (·.size) = some Y32.size by kernel_rfl)
  have HOO := Lib.hid (show Y32.all (·.oneCell') = true by decide +kernel)
  have HR0 := Lib.hid hr0
  go_wp2_with (refine Au.wpList_store_row rfl 33 (.tmp 2) (.tmp 6) rfl y0 Y32 Y32 r 33 HR0.out rfl rfl HSZ.out rfl HOO.out ?_)
  have hN2 := setRow_heap y0 r _ Y32 _ _ HR0.out
  exact bodyPost_ret (v := .agg Y32) (results_cell_row Tryd.results27 _ _ r 33 Y32 (0, 0) _ rfl hN2 Tryd.underlying33 rfl HSZ.out) rfl ⟨rfl, below_setRow (g := r) hb0 (by omega) Y32⟩

/-- a list of bytes that came in -/
def BsL (w : World) (a : Option Addr) (n : Nat) (f : Nat → List UInt8) : Prop :=
  n = 0 ∨ ∃ b o, a = some ⟨b, o, none⟩ ∧ b < w.heap.size ∧ ∀ k, k < n → ∃ x, w.cell? ⟨b, o + k, none⟩ = some x ∧ BsC w x (f k)

/-- two parts, in a block of their own -/
theorem parts_two {w : World} {b g : Nat} {x y : Value} {l m : List UInt8} {T : TypeId} (hb : w.heap[b]? = some (.cells #[x, y] T (0, 0))) (hg : b ≠ g) (hx : BsC w x l) (hne : ∀ ad n c, x = .slice (some ad) n c → l ≠ [] → ad.block ≠ g) (hy : BsC w y m) (hme : ∀ ad n c, y = .slice (some ad) n c → m ≠ [] → ad.block ≠ g) : Parts w g (.slice (some ⟨b, 0, none⟩) 2 2) [l, m] :=
  .inr ⟨b, 0, 2, rfl, hg, fun j l' hj => by
    match j, hj with
    | 0, hj =>
      simp at hj
      subst hj
      exact ⟨x, cell_of_row _ _ 0 _ _ _ hb, hx, hne⟩
    | 1, hj =>
      simp at hj
      subst hj
      exact ⟨y, cell_of_row _ _ 1 _ _ _ hb, hy, hme⟩
    | j + 2, hj => simp at hj⟩

/-- a slice cut in two -/
theorem halves (av : Option Addr) (nn cv h : Nat) (L : List UInt8) (hn : nn = L.length) (hh : h ≤ nn) (hc : av = none → nn = 0 ∧ cv = 0) (hcap : nn ≤ cv) : ∃ (a2 : Option Addr) (n2 c2 : Nat),
    (if cv = h then av else Option.map (fun x => x.add h) av) = a2 ∧ nn - h = n2 ∧ cv - h = c2 ∧
    (∀ w, BsC w (.slice av nn cv) L → BsC w (.slice av h cv) (L.take h) ∧ BsC w (.slice a2 n2 c2) (L.drop h)) ∧
    (∀ ad, a2 = some ad → ∃ b, av = some b ∧ ad.block = b.block) := by
  refine ⟨_, _, _, rfl, rfl, rfl, ?_, ?_⟩
  · intro w hb
    cases av with
    | none =>
      obtain ⟨rfl, rfl⟩ := hc rfl
      obtain rfl : h = 0 := by omega
      have hL : L = [] := List.eq_nil_of_length_eq_zero hn.symm
      subst hL
      exact ⟨.inl ⟨rfl, rfl⟩, .inl ⟨rfl, rfl⟩⟩
    | some ad =>
      rcases hb with ⟨h1, _⟩ | ⟨ad', cap', h1, h2, h3⟩
      · cases h1
      · cases h1
        refine ⟨.inr ⟨ad, cv, by rw [List.length_take]; congr 1; omega, by rw [List.length_take]; omega, fun j u hu => ?_⟩, .inr ⟨(if cv = h then ad else ad.add h), cv - h, by rw [List.length_drop]; split <;> rfl, by rw [List.length_drop]; omega, fun j u hu => ?_⟩⟩
        · refine h3 j u ?_
          unfold vals at hu ⊢
          rw [List.getElem?_map, List.getElem?_take] at hu
          split at hu
          · rw [List.getElem?_map]; exact hu
          · cases hu
        · have hlt : h + j < L.length := by
            have := (List.getElem?_eq_some_iff.1 hu).1
            rw [vals_length, List.length_drop] at this
            omega
          rw [if_neg (by omega), add_add]
          refine h3 (h + j) u ?_
          unfold vals at hu ⊢
          rw [List.getElem?_map, List.getElem?_drop] at hu
          rw [List.getElem?_map]
          exact hu
  · intro x e
    cases av with
    | none =>
      split at e <;> cases e
    | some ad =>
      refine ⟨ad, rfl, ?_⟩
      split at e
      · cases e; rfl
      · simp only [Option.map] at e
        cases e
        exact ad_block ad h

theorem own_caps {w : World} {base : Nat} {e : TypeId} {a : Option Addr} {n c : Nat} {xs : List Value} (h : w.ownsRow base e 1 (.slice a n c) n xs) : (a = none → n = 0 ∧ c = 0) ∧ n ≤ c ∧ ∀ ad, a = some ad → base ≤ ad.block ∧ ad.block < w.heap.size := by
  refine ⟨fun ha => ?_, ?_, fun ad ha => h.lt ad.block (by rw [ha]; rfl)⟩
  · rcases h.2 with ⟨h1, h2⟩ | ⟨g, cap, cur, h1, _⟩
    · cases h1; exact ⟨rfl, rfl⟩
    · subst ha; cases h1
  · rcases h.2 with ⟨h1, h2⟩ | ⟨g, cap, cur, h1, _, _, h4, _⟩
    · cases h1; omega
    · cases h1; exact h4

/-- bytes that may be turned -/
def Turn (B : Nat) (w : World) (a : Option Addr) (n : Nat) : Prop :=
  n = 0 ∨ ∃ q cs, a = some ⟨q, 0, none⟩ ∧ B ≤ q ∧ w.heap[q]? = some (.cells cs 5 (0, 0)) ∧ ∀ i, i < n → ∃ z, cs[i]? = some (.int .u8 z)

theorem turn_of {w : World} {B : Nat} {a : Option Addr} {n c : Nat} {l : List UInt8} (h : w.ownsRow B 5 1 (.slice a n c) n (vals l)) : Turn B w a n := by
  have h0 := h
  rcases h.2 with ⟨h1, h2⟩ | ⟨q, cap, cur, h1, h2, h3, -, -, -, h5⟩
  · exact .inl h2
  · cases h1
    refine .inr ⟨q, cur, rfl, h2, h3, fun i hi => ?_⟩
    rw [Nat.mul_one] at h5
    have e := congrArg (fun l => l[i]?) h5
    simp only [List.getElem?_take, if_pos hi] at e
    have hl := h0.1
    rw [Nat.mul_one, vals_length] at hl
    have : (vals l)[i]? = some (.int .u8 ((l[i]'(by omega)).toNat : Int)) := by unfold vals; rw [List.getElem?_map, List.getElem?_eq_getElem (by omega)]; rfl
    rw [this] at e
    exact ⟨_, by simpa using e⟩

end Go.Proofs.YtndpidmbfdpiaaaDoor.Se
