/- Jobs: what is read off a reader is a scene that lies in memory. -/
import Derived.Test.YtfbppiamlolfpaaGreatC29
namespace Go.Proofs.YtfbppiamlolfpaaGreat.Jb
open Go.RowKit Go.Proofs.YtfbppiamlolfpaaGreat Go.Proofs.YtfbppiamlolfpaaGreat.Rp Go.Proofs.YtfbppiamlolfpaaGreat.Re Go.Proofs.YtfbppiamlolfpaaGreat.Au Go.Proofs.YtfbppiamlolfpaaGreat.Sc Go.Proofs.YtfbppiamlolfpaaGreat.Tk
set_option linter.unusedVariables false
set_option linter.unusedSimpArgs false

theorem lie_nums {c base : Nat} {e : TypeId} {a : Option Addr} {n : Nat} {L : Nat → Int} {w : World} (h : Lie c e base a n L w) (hs : n * (c * 8) ≤ 140737488351232) : Nums c w a n L := by
  refine ⟨hs, ?_⟩
  rcases h with h | ⟨b, h0, h1, ⟨cs, fr, h2⟩, h3⟩
  · exact .inl h
  · exact .inr ⟨b, 0, h0, lt_of_heap h2, fun j hj => by rw [Nat.zero_add]; exact h3 j hj⟩

theorem lp_keys {base : Nat} {e : TypeId} {a : Option Addr} {n : Nat} {L : Nat → Int} {w : World} (h : LP 4 e base w a n L) (hs : n * 32 ≤ 140737488351232) : KeysAt w a n L := by
  refine ⟨hs, ?_⟩
  rcases h with h | ⟨b, h0, h1, ⟨cs, fr, h2⟩, h3⟩
  · exact .inl h
  · exact .inr ⟨b, 0, h0, lt_of_heap h2, fun j hj => by rw [Nat.zero_add]; exact h3 j hj⟩

theorem liet_tracks {base : Nat} {a : Option Addr} {n : Nat} {s : St} {w : World} (h : LieT base a n s w) (hs : n * 32 ≤ 140737488351232) :
    Tracks w a n (fun i => trackW (itS trackE s i)) (fun i => trackN (itS trackE s i)) (fun i => trackK (itS trackE s i)) := by
  refine ⟨hs, ?_⟩
  rcases h with h | ⟨b, h0, h1, ⟨cs, fr, h2⟩, h3⟩
  · exact .inl h
  · refine .inr ⟨b, 0, h0, lt_of_heap h2, fun i hi => ?_⟩
    obtain ⟨ka, kc, q1, q2, q3⟩ := h3 i hi
    have hn := trackN_le (itS trackE s i)
    exact ⟨ka, kc, by rw [Nat.zero_add]; exact q1, by rw [Nat.zero_add]; exact q2, lp_keys q3 (show trackN (itS trackE s i) * 32 ≤ 140737488351232 by omega)⟩

set_option maxHeartbeats 4000000 in
/-- the program's reader reads the scene parScn s, and leaves the state sceneE s -/
theorem jscene (g : Nat) {B : Nat} (s : St) (w : World) (hw : RP (.pointer (some ⟨g, 0, none⟩)) g B s w) (hg : g < w.heap.size) (hB : B ≤ w.heap.size) :
    Calls Tryz.prog 26 #[.agg #[.pointer (some ⟨g, 0, none⟩)]] w fun e' w' => (∃ a, e' = .returned (SV (parScn s) a) ∧ ∀ w2 : World, (∀ k, w.heap.size ≤ k → k < w'.heap.size → w2.heap[k]? = w'.heap[k]?) → ScAt w2 (parScn s) a) ∧ RP (.pointer (some ⟨g, 0, none⟩)) g B (sceneE s) w' ∧ Aft g w.heap.size w w' := by
  have q1 : (m1 s).1 ≤ 32 := many_le _ 32 22
  have q2 : (m2 s).1 ≤ 32 := many_le _ 32 23
  have q3 : (m3 s).1 ≤ 32 := many_le _ 32 24
  have q4 : (m4 s).1 ≤ 128 := many_le _ 128 25
  refine (jscene_at g s (s1 s) (s2 s) (s3 s) (m1 s).2 (m2 s).2 (m3 s).2 (m4 s).2 (s5 s) (s6 s) (s7 s) (sceneE s) (s5 s) (headerV0 (s1 s)) (headerV1 (s1 s)) (headerV2 (s1 s)) (headerV3 (s1 s)) (headerV4 (s1 s)) (headerV5 (s1 s)) (headerU (s1 s)) (headerV7 (s1 s)) (headerV8 (s1 s)) (headerV9 (s1 s)) (lensV0 (s2 s)) (lensV1 (s2 s)) (lensV2 (s2 s)) (m1 s).1 (m2 s).1 (m3 s).1 (m4 s).1 (itV paintE paintV 5 (m4 s).2) (itV jointE jointV 4 (s6 s)) (itV shapeE shapeV 13 (s7 s))
    (fun W h a b => jmagic g s W h a b) (fun W h a b => jheaderR g (s1 s) W h a b) (fun W h a b => jlensR g (s2 s) W h a b)
    (fun W h a b => jmany g (s3 s) 32 22 W h a b) (fun W h a b => jmany g (m1 s).2 32 23 W h a b) (fun W h a b => jmany g (m2 s).2 32 24 W h a b) (fun W h a b => jmany g (m3 s).2 128 25 W h a b)
    (fun W h a b => (jlist_paint g (m4 s).2 (m1 s).1 (by omega) W h a b).mono fun e' w' ⟨⟨_, he, pa, pc, hv, hl⟩, k1, k2⟩ => ⟨⟨pa, pc, by rw [he, hv], hl⟩, k1, k2⟩)
    (fun W h a b => (jlist_track g (s5 s) (m2 s).1 (by omega) W h a b).mono fun e' w' ⟨⟨_, he, pa, pc, hv, hl⟩, k1, k2⟩ => ⟨⟨pa, pc, by rw [he, hv], hl⟩, k1, k2⟩)
    (fun W h a b => (jlist_joint g (s6 s) (m3 s).1 (by omega) W h a b).mono fun e' w' ⟨⟨_, he, pa, pc, hv, hl⟩, k1, k2⟩ => ⟨⟨pa, pc, by rw [he, hv], hl⟩, k1, k2⟩)
    (fun W h a b => (jlist_shape g (s7 s) (m4 s).1 (by omega) W h a b).mono fun e' w' ⟨⟨_, he, pa, pc, hv, hl⟩, k1, k2⟩ => ⟨⟨pa, pc, by rw [he, hv], hl⟩, k1, k2⟩)
    w hw hg hB).mono fun e' w' ⟨⟨pa, pc, ta, tc, ja, jc, sa, sc, he, hp, ht, hj, hs⟩, h1, h2⟩ => ⟨⟨⟨pa, pc, ta, tc, ja, jc, sa, sc⟩, ?_, ?_⟩, h1, h2⟩
  · rw [he]
    dsimp only [parScn]
  · intro w2 h3
    have k1 := lie_nums (LP.heap hp fun k cs fr h1 h2 => h3 k h1 (lt_of_heap h2)) (by omega)
    have k2 := liet_tracks (ht.block fun k cs t fr h1 h2 => h3 k h1 (lt_of_heap h2)) (by omega)
    have k3 := lie_nums (LP.heap hj fun k cs fr h1 h2 => h3 k h1 (lt_of_heap h2)) (by omega)
    have k4 := lie_nums (LP.heap hs fun k cs fr h1 h2 => h3 k h1 (lt_of_heap h2)) (by omega)
    constructor
    · dsimp only [parScn]; exact k1
    · dsimp only [parScn]; exact k2
    · dsimp only [parScn]; exact k3
    · dsimp only [parScn]; exact k4
    · dsimp only [parScn]; exact numS_lt _ 8

end Go.Proofs.YtfbppiamlolfpaaGreat.Jb
