/- The contract of the place of a time in a track. -/
import Derived.Test.YtcgafhpbcdmigaaTb
namespace Go.Proofs.Ytcgafhpbcdmigaa.Tb
open Go.RowKit Go.Shelf Go.Proofs.Ytcgafhpbcdmigaa Go.Proofs.Ytcgafhpbcdmigaa.Wa Go.Proofs.Ytcgafhpbcdmigaa.Ve Go.Proofs.Ytcgafhpbcdmigaa.Tk

attribute [local go_sem] Oper.semAt_some

set_option maxRecDepth 100000 in
set_option maxHeartbeats 4000000 in
theorem place_in (F : Fence) (n : Nat) (hp : F.fn 38) (hbk : F.fn 63) (hb1 : F.fn 81) (hro : F.round = none) (hn : 3 ≤ n) (way : Int) (a : Option Addr) (len cap : Nat) (L : Nat → Int) (t : Int) (w : World) (hI : KeysAt w a len L) :
    CallsIn F n Try.prog 38 #[.agg #[.int .i64 way, .slice a len cap], .int .i64 t] w fun e W' => e = .returned (.int .i64 (plc L t len)) ∧ Below w.heap.size w W' := by
  have h1 : 1 ≤ n := by omega
  refine callsIn_of_wp_marks Try.func38 rfl hp ?_ hro
  simp only [Try.ntmps38, List.size_toArray, List.length_cons, List.length_nil, Nat.reduceAdd, Nat.reduceSub, Array.replicate_succ, Array.replicate_zero, List.push_toArray, List.append_toArray, List.nil_append, List.cons_append]
  gi_wp2_with (gi_at_call 63; refine (back_in F (n - 1) hbk hro _ _ _ _).mono ?_; rintro e w' ⟨rfl, rfl⟩)
  have bT := (Boxed.new (w.alloc (.cells #[.int .i64 way, .slice a len cap] 58)) 24 (.int .i64 t)).alloc (.cells #[.int .i64 0] 3)
  have bR := Boxed.new ((w.alloc (.cells #[.int .i64 way, .slice a len cap] 58)).alloc (.cells #[.int .i64 t] 24)) 3 (.int .i64 0)
  have bN := Boxed.new (((w.alloc (.cells #[.int .i64 way, .slice a len cap] 58)).alloc (.cells #[.int .i64 t] 24)).alloc (.cells #[.int .i64 0] 3)) 56 (.slice a len cap)
  rw [World.size_alloc] at bT
  rw [World.size_alloc, World.size_alloc] at bR
  rw [World.size_alloc, World.size_alloc, World.size_alloc] at bN
  replace bT := bT.alloc (.cells #[.slice a len cap] 56)
  replace bR := bR.alloc (.cells #[.slice a len cap] 56)
  have hB0 := below_n4 w (.cells #[.int .i64 way, .slice a len cap] 58) (.cells #[.int .i64 t] 24) (.cells #[.int .i64 0] 3) (.cells #[.slice a len cap] 56)
  obtain ⟨W0, hW0⟩ : ∃ W0, (((w.alloc (.cells #[.int .i64 way, .slice a len cap] 58)).alloc (.cells #[.int .i64 t] 24)).alloc (.cells #[.int .i64 0] 3)).alloc (.cells #[.slice a len cap] 56) = W0 := ⟨_, rfl⟩
  have hsz : W0.heap.size = w.heap.size + 4 := by rw [← hW0]; simp
  rw [hW0] at bT bR bN hB0 ⊢
  refine wpIn_rangeFunc_ownH hro h1 (gf := 81) (lb := #[.pointer (some ⟨w.heap.size + 1 + 1 + 1, 0, none⟩)]) rfl hb1 (enters_of Try.func81 (by kernel_rfl) rfl)
    (back_stops F (n - 1) hb1 hro (by omega) (w.heap.size + 1 + 1 + 1) (w.heap.size + 4) a len cap L W0 (by omega) (by omega) bN.cell (hI.on hB0) (fun b off e h0 => by
      obtain ⟨-, h' | ⟨b', off', e', hlt, -⟩⟩ := hI
      · omega
      · rw [e'] at e; cases e; omega)) belowK_t (belowK_b (by omega)) (Below.refl _ _) (fun _ => rfl)
    (fun pre W => ((∀ p ∈ pre, t < L (p * 4)) ∧ Boxed W (w.heap.size + 1) 24 (.int .i64 t) ∧ Boxed W (w.heap.size + 1 + 1) 3 (.int .i64 0)) ∧ Below (w.heap.size + 4) W0 W)
    (fun c pre W => (c = .ret ∧ ∃ ini last, pre = ini ++ [last] ∧ (∀ p ∈ ini, t < L (p * 4)) ∧ L (last * 4) ≤ t ∧ W.cell? ⟨w.heap.size + 1 + 1, 0, none⟩ = some (.int .i64 (last : Int))) ∧ Below w.heap.size w W)
    (OwnFrom.and (OwnFrom.and (fun _ _ _ _ hs _ _ => hs) (OwnFrom.and (Own.from (boxed_own _ _ _) _) (Own.from (boxed_own _ _ _) _))) (ownFrom_below (by omega) (by omega)))
    (fun c => OwnFrom.and (Own.from (fun s A B row hs hg hr => by obtain ⟨hc, ini, last, e1, e2, e3, e4⟩ := hs; exact ⟨hc, ini, last, e1, e2, e3, cell_kept e4 hg hr⟩) _) (ownFrom_below (Nat.le_refl _) (by omega)))
    ⟨⟨by simp, bT, bR⟩, Below.refl _ _⟩
    (fun x a' W => ∃ Bx, w.heap.size + 4 ≤ Bx ∧ W.cell? ⟨Bx, 0, none⟩ = some (.int .i64 (L (x * 4))) ∧ a' = { tmps := #[.agg #[.int .i64 way, .slice a len cap], .int .i64 t, .pointer (some ⟨w.heap.size, 0, none⟩), .pointer (some ⟨w.heap.size + 1, 0, none⟩), .pointer (some ⟨w.heap.size + 1 + 1, 0, none⟩), .int .i64 (x : Int), .pointer (some ⟨Bx, 0, none⟩), .pointer (some ⟨w.heap.size, 1, none⟩), .slice a len cap, .func (.func 81) #[] #[.pointer (some ⟨w.heap.size + 1 + 1 + 1, 0, none⟩)], .int .i64 (x : Int), K4 (L (x * 4)) (L (x * 4 + 1)) (L (x * 4 + 2)) (L (x * 4 + 3)), undef, undef, undef, undef, undef], defers := [] })
    (fun x a' _ X Y row hs hg hr => by obtain ⟨Bx, h1, h2, h3⟩ := hs; exact ⟨Bx, h1, cell_kept h2 hg (fun r e => (hr r e).2), h3⟩)
    ?assign ?body ?done ?stop
  case assign =>
    rintro l pre x W K ⟨⟨hp1, bT1, bR1⟩, hB1⟩ hK
    have hsW : w.heap.size + 4 ≤ W.heap.size := by have := hB1.size; omega
    gi_wp2
    exact hK _ _ ((KeepsOthers.alloc _ _).from _) ((Below.refl _ W).alloc hsW _) ⟨⟨hp1, bT1.alloc _, bR1.alloc _⟩, hB1.alloc hsW _⟩ ⟨W.heap.size, hsW, by simp [go_sem], rfl⟩
  case body =>
    rintro l pre x a' W hl ⟨r, hr⟩ ⟨⟨hp1, bT1, bR1⟩, hB1⟩ ⟨Bx, hBx, cX, rfl⟩ hlt
    have cT := bT1.cell
    have cR := bR1.cell
    have fR := bR1.frozen
    gi_wp2
    · have hx : L (x * 4) ≤ t := by assumption
      exact ⟨(KeepsOthers.setCell _ _ _).from _, ⟨rfl, pre, x, rfl, hp1, hx, World.cell?_setCell_same' _ _ _ (by rw [cR]; rfl)⟩, (hB0.trans (hB1.mono (by omega))).setCell (p := ⟨w.heap.size + 1 + 1, 0, none⟩) (by show w.heap.size ≤ w.heap.size + 1 + 1; omega) _⟩
    · have hx : t < L (x * 4) := by first | assumption | omega
      exact ⟨KeepsFrom.refl _ _, Below.refl _ _, ⟨fun p hp' => (List.mem_append.1 hp').elim (hp1 p) (fun e => by simp at e; subst e; exact hx), bT1, bR1⟩, hB1⟩
  case done =>
    rintro D ys W hD rfl ⟨⟨hne, bT1, bR1⟩, hB1⟩ hK
    have cR := bR1.cell
    have fR := bR1.frozen
    gi_wp2
    have hK' := (KeepsOthers.setCell W ⟨w.heap.size + 1 + 1, 0, none⟩ (.int .i64 (-1))).same D _ hK rfl
    refine ⟨by simp, .inl ⟨_, _, rfl, run_takeDeferred hK', ?_⟩⟩
    have hc5 := cell_kept (World.cell?_setCell_same' W ⟨w.heap.size + 1 + 1, 0, none⟩ (.int .i64 (-1)) (by rw [cR]; rfl)) (grownBy_putObj' _ D (.deferred none)) (fun r e => by cases e; exact ⟨_, hK', rfl⟩)
    have hpl : plc L t len = -1 := plc_none len fun j hj => by
      have := hne j (by simp only [upto, List.mem_map, List.mem_range]; exact ⟨len - 1 - j, by omega, by omega⟩)
      omega
    refine ⟨.int .i64 (-1), ?_, by rw [hpl], ((hB0.trans (hB1.mono (by omega))).setCell (p := ⟨w.heap.size + 1 + 1, 0, none⟩) (by show w.heap.size ≤ w.heap.size + 1 + 1; omega) _).trans (belowK_b (w := w) (Nat.le_refl _) _ D _ _ (by omega) hK' rfl rfl)⟩
    simp [results, Try.results38, go_sem, hc5]
  case stop =>
    rintro D c pre W hD ⟨k, hk, rfl⟩ ⟨⟨rfl, ini, last, e1, e2, e3, hcr⟩, hB⟩ hK
    gi_wp2
    refine ⟨by simp, .inl ⟨_, _, rfl, run_takeDeferred hK, ?_⟩⟩
    have hc5 := cell_kept hcr (grownBy_putObj' _ D (.deferred none)) (fun r e => by cases e; exact ⟨_, hK, rfl⟩)
    obtain ⟨k', rfl⟩ : ∃ k', k = k' + 1 := by
      cases k with
      | zero => simp [upto] at e1
      | succ k' => exact ⟨k', rfl⟩
    rw [upto_succ] at e1
    obtain ⟨rfl, e5⟩ := List.append_inj' e1 rfl
    obtain rfl : len - 1 - k' = last := by simpa using e5
    have hpl : plc L t len = ((len - 1 - k' : Nat) : Int) := plc_last e3 len (by omega) fun j h1 h2 => by
      have := e2 j (by simp only [upto, List.mem_map, List.mem_range]; exact ⟨len - 1 - j, by omega, by omega⟩)
      omega
    refine ⟨.int .i64 ((len - 1 - k' : Nat) : Int), ?_, by rw [hpl], hB.trans (belowK_b (w := w) (Nat.le_refl _) _ D _ _ (by omega) hK rfl rfl)⟩
    simp [results, Try.results38, go_sem, hc5]

theorem place_any (way : Int) (a : Option Addr) (len cap : Nat) (L : Nat → Int) (t : Int) (w : World) (hI : KeysAt w a len L) :
    Calls Try.prog 38 #[.agg #[.int .i64 way, .slice a len cap], .int .i64 t] w fun e W' => e = .returned (.int .i64 (plc L t len)) ∧ Below w.heap.size w W' :=
  (callsIn_wide (n := 3)).1 (place_in _ 3 trivial trivial trivial rfl (by omega) way a len cap L t w hI)
end Go.Proofs.Ytcgafhpbcdmigaa.Tb
