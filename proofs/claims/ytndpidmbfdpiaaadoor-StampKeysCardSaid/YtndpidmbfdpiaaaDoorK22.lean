/- Layer 25: where a plan lies; the program's Has, and which step may be done. -/
import Derived.Test.YtndpidmbfdpiaaaDoorK04
import Derived.Test.YtndpidmbfdpiaaaDoorK10
import Derived.Test.YtndpidmbfdpiaaaDoorK08
import Derived.Deep.OwnRows
import Derived.Shelf.SlicesE.IndexFunc
import Derived.Ground.SlgfProg
namespace Go.Proofs.YtndpidmbfdpiaaaDoor.Pn
open Go Go.RowKit Go.Shelf Go.Proofs Go.Proofs.YtndpidmbfdpiaaaDoor Go.Proofs.YtndpidmbfdpiaaaDoor.Au Go.Proofs.YtndpidmbfdpiaaaDoor.Re
set_option linter.unusedVariables false
set_option linter.unusedSimpArgs false

/-- A slice that holds these numbers. -/
def Ro (w : World) (v : Value) (l : List Int) : Prop :=
  ∃ a n c, v = .slice a n c ∧ n = l.length ∧ (n ≤ 9223372036854775807 ∧ n ≤ c) ∧ (n = 0 ∨ ∃ b off, a = some ⟨b, off, none⟩ ∧ b < w.heap.size ∧ ∀ j, j < n → w.cell? ⟨b, off + j, none⟩ = some (.int .i64 (l.getD j 0)))

theorem Ro.on {w w' : World} {v : Value} {l : List Int} (h : Ro w v l) (hb : Below w.heap.size w w') : Ro w' v l := by
  obtain ⟨a, n, c, hv, hn, hm, h⟩ := h
  refine ⟨a, n, c, hv, hn, hm, ?_⟩
  rcases h with h | ⟨b, off, ha, hlt, hc⟩
  · exact .inl h
  · exact .inr ⟨b, off, ha, Nat.lt_of_lt_of_le hlt hb.size, fun j hj => (hb.cell (p := ⟨b, off + j, none⟩) hlt).trans (hc j hj)⟩

/-- A plan lies: its steps' needs, row by row. -/
def PAt (w : World) (a : Option Addr) (n : Nat) (L : List (List Int)) : Prop :=
  n = L.length ∧ n ≤ 5864062014634 ∧ (n = 0 ∨ ∃ b off, a = some ⟨b, off, none⟩ ∧ b < w.heap.size ∧ ∀ j, j < n → ∃ v, w.cell? ⟨b, off + j, none⟩ = some v ∧ Ro w v L[j]!)

theorem PAt.on {w w' : World} {a : Option Addr} {n : Nat} {L : List (List Int)} (h : PAt w a n L) (hb : Below w.heap.size w w') : PAt w' a n L := by
  obtain ⟨hn, hm, h⟩ := h
  refine ⟨hn, hm, ?_⟩
  rcases h with h | ⟨b, off, ha, hlt, hc⟩
  · exact .inl h
  · refine .inr ⟨b, off, ha, Nat.lt_of_lt_of_le hlt hb.size, fun j hj => ?_⟩
    obtain ⟨v, h1, h2⟩ := hc j hj
    exact ⟨v, (hb.cell (p := ⟨b, off + j, none⟩) hlt).trans h1, h2.on hb⟩
theorem PAt.row {w : World} {a : Option Addr} {n : Nat} {L : List (List Int)} (h : PAt w a n L) {j : Nat} (hj : j < n) : ∃ b off, a = some ⟨b, off, none⟩ ∧ ∃ b' c', w.cell? ⟨b, off + j, none⟩ = some (.slice b' (L[j]!).length c') ∧ Ro w (.slice b' (L[j]!).length c') L[j]! := by
  obtain ⟨hn, hm, h⟩ := h
  rcases h with h | ⟨b, off, ha, hlt, hc⟩
  · omega
  · obtain ⟨v, h1, h2⟩ := hc j hj
    obtain ⟨a', n', c', hv, hn', _⟩ := id h2
    subst hv hn'
    exact ⟨b, off, ha, a', c', h1, h2⟩

def hasF (n : Nat) (f : Nat → Bool) (m : Int) : Bool := decide (0 ≤ m) && (decide (m < (n : Int)) && f m.toNat)
theorem hasF_db {L : List (List Int)} {out : List Int} (h : Ok L out) (m : Int) : hasF L.length (fun i => has out (i : Int)) m = has out m := by
  rw [← hasB_db h m]
  unfold hasF hasB
  rw [db_len]
  by_cases h0 : 0 ≤ m
  · by_cases h1 : m < (L.length : Int)
    · rw [db_get (by omega)]
    · simp [h1]
  · simp [h0]

theorem has_any (d n : Nat) (f : Nat → Bool) (T : TypeId) (m : Int) (w : World) (h : w.rowIs d T n (fun i => .bool (f i))) : Calls Tryd.prog 47 #[.slice (some ⟨d, 0, none⟩) n n, .int .i64 m] w fun e w' => e = .returned (.bool (hasF n f m)) ∧ ∃ q, w' = w.drewN q := by
  have HR := Lib.hid h
  clear h
  by_cases h0 : 0 ≤ m
  · by_cases h1 : m < (n : Int)
    · obtain ⟨k, rfl⟩ : ∃ k : Nat, m = (k : Int) := ⟨m.toNat, by omega⟩
      have hk : k < n := by omega
      have hc := HR.out.cell hk
      have hr : hasF n f (k : Int) = f k := by simp [hasF, hk]
      rw [hr]
      have d0 : decide (0 ≤ (k : Int)) = true := by simp
      have d1 : decide ((k : Int) < (n : Int)) = true := by simp [hk]
      go_enter Tryd.func47, Tryd.ntmps47
      go_wp2_with fail
      go_ret
      first | exact ⟨rfl, 0, rfl⟩ | exact ⟨by simp, 0, rfl⟩
    · have hr : hasF n f m = false := by simp [hasF, h1]
      rw [hr]
      have d0 : decide (0 ≤ m) = true := by simp [h0]
      have d1 : decide (m < (n : Int)) = false := by simp; omega
      go_enter Tryd.func47, Tryd.ntmps47
      go_wp2_with fail
      go_ret
      first | exact ⟨rfl, 0, rfl⟩ | exact ⟨by simp, 0, rfl⟩
  · have hr : hasF n f m = false := by simp [hasF, h0]
    rw [hr]
    have d0 : decide (0 ≤ m) = false := by simp; omega
    go_enter Tryd.func47, Tryd.ntmps47
    go_wp2_with fail
    go_ret
    first | exact ⟨rfl, 0, rfl⟩ | exact ⟨by simp, 0, rfl⟩

theorem lacks_any (a : Option Addr) (n c P D d : Nat) (f : Nat → Bool) (T : TypeId) (m : Int) (w : World) (hp : w.cell? ⟨P, 0, none⟩ = some (.slice a n c)) (hd : w.cell? ⟨D, 0, none⟩ = some (.slice (some ⟨d, 0, none⟩) n n)) (h : w.rowIs d T n (fun i => .bool (f i))) :
    Calls Tryd.prog 46 #[.int .i64 m, .pointer (some ⟨P, 0, none⟩), .pointer (some ⟨D, 0, none⟩)] w fun e w' => e = .returned (.bool (decide ((n : Int) ≤ m) || !hasF n f m)) ∧ ∃ q, w' = w.drewN q := by
  have HR := Lib.hid h
  clear h
  by_cases h1 : (n : Int) ≤ m
  · have d1 : decide ((n : Int) ≤ m) = true := by simp [h1]
    go_enter Tryd.func46, Tryd.ntmps46
    go_wp2_with fail
    go_ret
    first | exact ⟨by simp [h1], 0, rfl⟩
  · have d1 : decide ((n : Int) ≤ m) = false := by simp; omega
    obtain ⟨r, hr⟩ : ∃ r, r = hasF n f m := ⟨_, rfl⟩
    have hcall := has_any d n f T m w HR.out
    rw [← hr] at hcall ⊢
    clear hr
    go_enter Tryd.func46, Tryd.ntmps46
    go_wp2_with (go_at_call 47; refine hcall.mono ?_; rintro e w1 ⟨rfl, q, rfl⟩)
    go_ret
    refine ⟨?_, q, rfl⟩
    rw [d1, Bool.false_or]
    rfl

shelf_lay_g SlLaysH.n8 Slgf 8 at Tryd 48 as Tryd.cfl

theorem enters_lacks : ∀ args w, (callFunc 46 args).run Tryd.prog w = .ok (.enter 46 args) w := enters_of Tryd.func46 (by kernel_rfl) rfl

/-- slices.ContainsFunc of numbers, whatever is asked of each. -/
theorem contains_any (g : Nat) (lb : Array Value) (p : Int → Bool) (eg : ∀ args w, (callFunc g args).run Tryd.prog w = .ok (.enter g args) w) (v : Value) (l : List Int) (w : World) (h : Ro w v l) (hp : PredAt Tryd.prog g lb (Value.int .i64) p w) :
    Calls Tryd.prog 48 #[v, .func (.func g) #[] lb] w fun e w' => e = .returned (.bool (l.any p)) ∧ ∃ q, w' = w.drewN q := by
  obtain ⟨a, n, c, rfl, hn, hm, h⟩ := h
  rcases h with h | ⟨b, off, rfl, hlt, hc⟩
  · subst h
    have hl : l = [] := List.eq_nil_of_length_eq_zero hn.symm
    subst hl
    have := AnyE.slices_ContainsFunc_empty Tryd.cfl a c (.func (.func g) #[] lb) w
    refine Calls.mono this ?_
    rintro e w' ⟨rfl, rfl⟩
    exact ⟨rfl, 0, rfl⟩
  · have := AnyE.slices_ContainsFunc Tryd.cfl (Value.int .i64) p g lb eg b off n c l w hp (by omega) (by omega) (fun j hj => by
      rw [hc j (by omega)]
      simp [List.getD, hj])
    rw [List.take_of_length_le (by omega)] at this
    exact this

set_option maxHeartbeats 2000000 in
/-- May the step be done behind those of 'out'? -/
theorem may_any (a : Option Addr) (c d : Nat) (L : List (List Int)) (out : List Int) (T : TypeId) (k : Nat) (w : World) (hP : PAt w a L.length L) (hk : k < L.length) (ho : Ok L out) (h : w.rowIs d T L.length (fun i => .bool (has out (i : Int)))) :
    Calls Tryd.prog 42 #[.slice a L.length c, .int .i64 k, .slice (some ⟨d, 0, none⟩) L.length L.length] w fun e w' => e = .returned (.bool (may L out k)) ∧ Below w.heap.size w w' := by
  obtain ⟨n, hn⟩ : ∃ n, n = L.length := ⟨_, rfl⟩
  obtain ⟨b, off, rfl, b', c', hcell, hro⟩ := hP.row hk
  rw [may_eq]
  generalize L[k]! = R at hcell hro ⊢
  have hb := below_n2 w (.cells #[.slice (some ⟨b, off, none⟩) L.length c] 45) (.cells #[.slice (some ⟨d, 0, none⟩) L.length L.length] 78)
  have hr := rows2 w (.cells #[.slice (some ⟨b, off, none⟩) L.length c] 45) (.cells #[.slice (some ⟨d, 0, none⟩) L.length L.length] 78)
  obtain ⟨y, hy⟩ : ∃ y, (w.alloc (.cells #[.slice (some ⟨b, off, none⟩) L.length c] 45)).alloc (.cells #[.slice (some ⟨d, 0, none⟩) L.length L.length] 78) = y := ⟨_, rfl⟩
  rw [hy] at hb hr
  have hbw : b < w.heap.size := by
    have := World.block_lt_of_cell? w _ hcell
    simpa using this
  have hcell' := (hb.cell (p := ⟨b, off + k, none⟩) hbw).trans hcell
  have hro' := hro.on hb
  have hR := h.of_block (hb.block d h.lt)
  have c0 := cell_of_row _ _ 0 _ _ _ hr.1
  have c1 := cell_of_row _ _ 0 _ _ _ hr.2
  simp at c0 c1
  have hpred : PredAt Tryd.prog 46 #[.pointer (some ⟨w.heap.size, 0, none⟩), .pointer (some ⟨w.heap.size + 1, 0, none⟩)] (Value.int .i64) (fun m => !has out m) y := by
    intro W m hbW
    have e := lacks_eq ho m
    rw [← hasF_db ho m] at e
    have := lacks_any (some ⟨b, off, none⟩) L.length c w.heap.size (w.heap.size + 1) d (fun i => has out (i : Int)) T m W ((hbW.cell (p := ⟨w.heap.size, 0, none⟩) (lt_heap hr.1)).trans c0) ((hbW.cell (p := ⟨w.heap.size + 1, 0, none⟩) (lt_heap hr.2)).trans c1) (hR.of_block (hbW.block d hR.lt))
    rw [e] at this
    rw [hasF_db ho m] at this
    exact this
  have hcf := fun q : Nat => contains_any _ _ _ enters_lacks _ _ (y.drewN q) (hro'.on (below_drewN' (Below.refl _ y) q)) (hpred.later (below_drewN' (Below.refl _ y) q))
  have hh := has_any d L.length (fun i => has out (i : Int)) T (k : Int) y hR
  rw [hasF_db ho] at hh
  obtain ⟨r2, hr2⟩ : ∃ r2, r2 = R.any (fun m => !has out m) := ⟨_, rfl⟩
  obtain ⟨r1, hr1⟩ : ∃ r1, r1 = has out (k : Int) := ⟨_, rfl⟩
  rw [← hr2] at hcf ⊢
  rw [← hr1] at hh ⊢
  have HN := Lib.hid hn
  have HB := Lib.hid hb
  have HX := Lib.hid hr
  clear hr2 hr1 hn hb hr hpred hR hro hro' hP ho h hcell
  cases r1 with
  | true =>
    go_enter Tryd.func42, Tryd.ntmps42
    go_upto_region 1 with fail
    try rw [hy]
    go_wp2_with (go_at_call 47; refine hh.mono ?_; rintro e w1 ⟨rfl, q, rfl⟩)
    go_ret
    exact ⟨rfl, below_drewN' HB.out q⟩
  | false =>
    go_enter Tryd.func42, Tryd.ntmps42
    go_upto_region 1 with fail
    try rw [hy]
    go_wp2_with (first
      | (go_at_call 47; refine hh.mono ?_; rintro e w1 ⟨rfl, q, rfl⟩)
      | (go_at_call 48; refine (hcf _).mono ?_; rintro e w2 ⟨rfl, q2, rfl⟩))
    go_ret
    exact ⟨rfl, below_drewN' HB.out _⟩
end Go.Proofs.YtndpidmbfdpiaaaDoor.Pn
