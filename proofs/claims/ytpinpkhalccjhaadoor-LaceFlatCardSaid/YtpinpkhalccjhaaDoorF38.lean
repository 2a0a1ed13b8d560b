/- Sheets: a sheet that came in. -/
import Derived.Test.YtpinpkhalccjhaaDoorF37
namespace Go.Proofs.YtpinpkhalccjhaaDoor.Fm
open Go Go.RowKit Go.Proofs.YtpinpkhalccjhaaDoor Go.Proofs.YtpinpkhalccjhaaDoor.Rp Go.Proofs.YtpinpkhalccjhaaDoor.Re Go.Proofs.YtpinpkhalccjhaaDoor.Au Go.Proofs.YtpinpkhalccjhaaDoor.Jw Go.Proofs.YtpinpkhalccjhaaDoor.Ni
set_option linter.unusedVariables false
set_option linter.unusedSimpArgs false
variable {H : Type} {enc : TypeId × Value → H} {W : World} {base : Nat} {held : Bool}

set_option maxRecDepth 100000 in
set_option maxHeartbeats 1000000 in
theorem open_sheet {r : Reach} {bb : Nat} {v : Value} {d : DataW H} {p : List MemPlace} (hv : Value.okWide Tryd.prog W r bb 24 v) (h : DataW.Trod enc Tryd.prog W base (fun _ => true) held 24 v d p) (hlt : ∀ x ∈ p, x.block < W.heap.size)
    (hs : ∀ n ∈ d.weights Tryd.prog 24, n ≤ reachBytes) : ∃ (x y : Int) (a : Option Addr) (n c : Nat) (L : Nat → Int), v = .agg #[.int .i64 x, .int .i64 y, .slice a n c] ∧ Rw 3 W a n L ∧ n * 24 ≤ 140737488351232 := by
  obtain ⟨cs, rfl, hsz, _⟩ : ∃ cs, v = .agg cs ∧ cs.size = Tryd.prog.cellsOf 24 ∧ Row.okWide Tryd.prog W r bb 24 cs := by
    simpa [Value.okWide, Tryd.underlying24] using hv
  rw [cz_sheet] at hsz
  obtain ⟨fuel, hfu⟩ := h
  simp only [Value.cells] at hfu
  obtain ⟨l⟩ := cs
  simp only [List.size_toArray] at hsz hfu
  obtain ⟨xs, m, -, hx, -, hlen, hh⟩ := DataW.trod_struct Tryd.underlying24 hfu
  simp only [Prod.mk.injEq] at hx
  obtain ⟨rfl, rfl⟩ := hx
  match xs, hlen with
  | [u0, u1, u2], _ =>
    have g0 : DataW.trod enc Tryd.prog W base (fun _ => true) held m 3 ((l.drop 0).take (Tryd.prog.cellsOf 3)) = some u0 := hh 0 _ rfl
    have g1 : DataW.trod enc Tryd.prog W base (fun _ => true) held m 3 ((l.drop 1).take (Tryd.prog.cellsOf 3)) = some u1 := hh 1 _ rfl
    have g2 : DataW.trod enc Tryd.prog W base (fun _ => true) held m 22 ((l.drop 2).take (Tryd.prog.cellsOf 22)) = some u2 := hh 2 _ rfl
    clear hh
    rw [cz_int] at g0 g1
    rw [cz_sh] at g2
    obtain ⟨w0, f0⟩ := ints_part (ints_int Tryd.underlying3 g0) 0 (by omega)
    obtain ⟨w1, f1⟩ := ints_part (ints_int Tryd.underlying3 g1) 0 (by omega)
    obtain ⟨al, nl, cl, Ll, e0, hL, -⟩ := open_row Tryd.underlying22 cz_hue (by omega) (by kernel_rfl) (fun _ _ _ h => ints_hue h) g2 (fun x hx => hlt x (by simp [hx])) (fun n hn => hs n (by
      simp only [DataW.weights, Tryd.underlying24]
      exact DataW.weights_mem_each (j := 2) rfl rfl n hn))
    replace e0 := part1 e0
    match l, hsz with
    | [c0, c1, c2], _ =>
      simp at f0 f1 e0
      subst f0 f1 e0
      have hn := hL.1
      exact ⟨_, _, _, _, _, _, rfl, hL.2, by first | exact hn | (unfold reachBytes at hn; omega) | (have := hL.1; simp at this; omega)⟩
end Go.Proofs.YtpinpkhalccjhaaDoor.Fm
