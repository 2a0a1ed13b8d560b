/- Jobs: what is read off a reader is a scene that lies in memory. -/
import Derived.Test.YtplcbdmiccpnnaaGreatC30
namespace Go.Proofs.YtplcbdmiccpnnaaGreat.Jb
open Go.RowKit Go.Proofs.YtplcbdmiccpnnaaGreat Go.Proofs.YtplcbdmiccpnnaaGreat.Rp Go.Proofs.YtplcbdmiccpnnaaGreat.Re Go.Proofs.YtplcbdmiccpnnaaGreat.Au Go.Proofs.YtplcbdmiccpnnaaGreat.Sc Go.Proofs.YtplcbdmiccpnnaaGreat.Tk
set_option linter.unusedVariables false
set_option linter.unusedSimpArgs false

theorem lie_nums {c base : Nat} {e : TypeId} {a : Option Addr} {n : Nat} {L : Nat → Int} {w : World} (h : Lie c e base a n L w) (hs : n * (c * 8) ≤ 140737488351232) : Nums c w a n L := by
  refine ⟨hs, ?_⟩
  rcases h with h | ⟨b, h0, h1, ⟨cs, fr, h2⟩, h3⟩
  · exact .inl h
  · exact .inr ⟨b, 0, h0, lt_of_heap h2, fun j hj => by rw [Nat.zero_add]; exact h3 j hj⟩

theorem lp_keys {base : Nat} {e : TypeId} {a : Option Addr} {n : Nat} {L : Nat → Int} {w : World} (h : LP 4 e base w a n L) (hs : n * 32 ≤ 140737488351232) : KeysAt w a n L := by
  refine ⟨hs, ?_⟩
  rcases h with h | ⟨b, h0, h1, ⟨cs, fr, h2⟩, h3⟩
  · exact .inl h
  · exact .inr ⟨b, 0, h0, lt_of_heap h2, fun j hj => by rw [Nat.zero_add]; exact h3 j hj⟩

theorem liet_tracks {base : Nat} {a : Option Addr} {n : Nat} {s : St} {w : World} (h : LieT base a n s w) (hs : n * 32 ≤ 140737488351232) :
    Tracks w a n (fun i => trackW (itS trackE s i)) (fun i => trackN (itS trackE s i)) (fun i => trackK (itS trackE s i)) := by
  refine ⟨hs, ?_⟩
  rcases h with h | ⟨b, h0, h1, ⟨cs, fr, h2⟩, h3⟩
  · exact .inl h
  · refine .inr ⟨b, 0, h0, lt_of_heap h2, fun i hi => ?_⟩
    obtain ⟨ka, kc, q1, q2, q3⟩ := h3 i hi
    have hn := trackN_le (itS trackE s i)
    exact ⟨ka, kc, by rw [Nat.zero_add]; exact q1, by rw [Nat.zero_add]; exact q2, lp_keys q3 (show trackN (itS trackE s i) * 32 ≤ 140737488351232 by omega)⟩

set_option maxHeartbeats 4000000 in
/-- the program's reader reads the scene parScn s, and leaves the state sceneE s -/
theorem jscene (g : Nat) {B : Nat} (s : St) (w : World) (hw : RP (.pointer (some ⟨g, 0, none⟩)) g B s w) (hg : g < w.heap.size) (hB : B ≤ w.heap.size) :
    Calls Tryz.prog 10 #[.agg #[.pointer (some ⟨g, 0, none⟩)]] w fun e' w' => (∃ a, e' = .returned (SV (parScn s) a) ∧ ∀ w2 : World, (∀ k, w.heap.size ≤ k → k < w'.heap.size → w2.heap[k]? = w'.heap[k]?) → ScAt w2 (parScn s) a) ∧ RP (.pointer (some ⟨g, 0, none⟩)) g B (sceneE s) w' ∧ Aft g w.heap.size w w' := by
  have q1 : (m1 s).1 ≤ 32 := many_le _ 32 22
  have q2 : (m2 s).1 ≤ 32 := many_le _ 32 23
  have q3 : (m3 s).1 ≤ 32 := many_le _ 32 24
  have q4 : (m4 s).1 ≤ 128 := many_le _ 128 25
  refine (jscene_at g s (s1 s) (s2 s) (s3 s) (m1 s).2 (m2 s).2 (m3 s).2 (m4 s).2 (s5 s) (s6 s) (s7 s) (sceneE s) (s5 s) (headerV0 (s1 s)) (headerV1 (s1 s)) (headerV2 (s1 s)) (headerV3 (s1 s)) (headerV4 (s1 s)) (headerV5 (s1 s)) (headerU (s1 s)) (headerV7 (s1 s)) (headerV8 (s1 s)) (headerV9 (s1 s)) (lensV0 (s2 s)) (lensV1 (s2 s)) (lensV2 (s2 s)) (m1 s).1 (m2 s).1 (m3 s).1 (m4 s).1 (itV paintE paintV 5 (m4 s).2) (itV jointE jointV 4 (s6 s)) (itV shapeE shapeV 13 (s7 s))
    (fun W h a b => jmagic g s W h a b) (fun W h a b => jheaderR g (s1 s) W h a b) (fun W h a b => jlensR g (s2 s) W h a b)
    (fun W h a b => jmany g (s3 s) 32 22 W h a b) (fun W h a b => jmany g (m1 s).2 32 23 W h a b) (fun W h a b => jmany g (m2 s).2 32 24 W h a b) (fun W h a b => jmany g (m3 s).2 128 25 W h a b)
    (fun W h a b => (jlist_paint g (m4 s).2 (m1 s).1 (by omega) W h a b).mono fun e' w' ⟨⟨_, he, pa, pc, hv, hl⟩, k1, k2⟩ => ⟨⟨pa, pc, by rw [he, hv], hl⟩, k1, k2⟩)
    (fun W h a b => (jlist_track g (s5 s) (m2 s).1 (by omega) W h a b).mono fun e' w' ⟨⟨_, he, pa, pc, hv, hl⟩, k1, k2⟩ => ⟨⟨pa, pc, by rw [he, hv], hl⟩, k1, k2⟩)
    (fun W h a b => (jlist_joint g (s6 s) (m3 s).1 (by omega) W h a b).mono fun e' w' ⟨⟨_, he, pa, pc, hv, hl⟩, k1, k2⟩ => ⟨⟨pa, pc, by rw [he, hv], hl⟩, k1, k2⟩)
    (fun W h a b => (jlist_shape g (s7 s) (m4 s).1 (by omega) W h a b).mono fun e' w' ⟨⟨_, he, pa, pc, hv, hl⟩, k1, k2⟩ => ⟨⟨pa, pc, by rw [he, hv], hl⟩, k1, k2⟩)
    w hw hg hB).mono fun e' w' ⟨⟨pa, pc, ta, tc, ja, jc, sa, sc, he, hp, ht, hj, hs⟩, h1, h2⟩ => ⟨⟨⟨pa, pc, ta, tc, ja, jc, sa, sc⟩, ?_, ?_⟩, h1, h2⟩
  · rw [he]
    dsimp only [parScn]
  · intro w2 h3
    have k1 := lie_nums (LP.heap hp fun k cs fr h1 h2 => h3 k h1 (lt_of_heap h2)) (by omega)
    have k2 := liet_tracks (ht.block fun k cs t fr h1 h2 => h3 k h1 (lt_of_heap h2)) (by omega)
    have k3 := lie_nums (LP.heap hj fun k cs fr h1 h2 => h3 k h1 (lt_of_heap h2)) (by omega)
    have k4 := lie_nums (LP.heap hs fun k cs fr h1 h2 => h3 k h1 (lt_of_heap h2)) (by omega)
    constructor
    · dsimp only [parScn]; exact k1
    · dsimp only [parScn]; exact k2
    · dsimp only [parScn]; exact k3
    · dsimp only [parScn]; exact k4
    · dsimp only [parScn]; exact numS_lt _ 8

end Go.Proofs.YtplcbdmiccpnnaaGreat.Jb

/- Jobs, plainly: behind an error a reader stays as it is. -/
namespace Go.Proofs.YtplcbdmiccpnnaaGreat.Jb
open Go.RowKit Go.Proofs.YtplcbdmiccpnnaaGreat Go.Proofs.YtplcbdmiccpnnaaGreat.Rp
set_option linter.unusedVariables false
set_option linter.unusedSimpArgs false

theorem num_keep {s : St} (h : s.2 ≠ 0) (k : Nat) : numS s k = (0, s) := by
  obtain ⟨l, e⟩ := s
  unfold numS
  rw [takeS_err k h]
  rfl

theorem fail_keep {s : St} (h : s.2 ≠ 0) (e : Int) : failS s e = s := by unfold failS; rw [if_neg h]

theorem fix_keep {s : St} (h : s.2 ≠ 0) : fixS s = (0, s) := by
  unfold fixS
  rw [num_keep h]
  rw [show sign40 ((0, s) : Nat × St).1 = 0 from rfl, if_neg (by decide)]

theorem fixK_keep {s : St} (h : s.2 ≠ 0) : ∀ k, fixK s k = s
  | 0 => rfl
  | k + 1 => by
    show (fixS (fixK s k)).2 = s
    rw [fixK_keep h k, fix_keep h]

theorem three_keep {s : St} (h : s.2 ≠ 0) : (threeS s).2 = s := fixK_keep h 3

theorem many_keep {s : St} (h : s.2 ≠ 0) {most : Int} (hm : 0 ≤ most) (e : Int) : manyS s most e = (0, s) := by
  have hn := num_keep h 1
  rw [many_in (by rw [hn]; simp; omega), hn]

theorem mg_keep {s : St} (h : s.2 ≠ 0) (b : Nat) : mg b s = s := by
  unfold mg
  rw [num_keep h]
  split
  · rfl
  · exact fail_keep h 20

theorem it_keep {e : St → St} (he : ∀ s : St, s.2 ≠ 0 → e s = s) {s : St} {k : Nat} (h : (itS e s k).2 ≠ 0) : ∀ n, k ≤ n → itS e s n = itS e s k := by
  intro n
  induction n with
  | zero => intro hk; obtain rfl : k = 0 := by omega
            rfl
  | succ n ih =>
    intro hk
    by_cases e1 : k = n + 1
    · subst e1; rfl
    · show e (itS e s n) = _
      rw [ih (by omega)]
      exact he _ h

theorem it_stop {e : St → St} (he : ∀ s : St, s.2 ≠ 0 → e s = s) {s : St} (h : s.2 ≠ 0) (n : Nat) : itS e s n = s := it_keep (k := 0) he h n (Nat.zero_le _)

/-- no error stands at a later place: none stood at an earlier one -/
theorem it_ok {e : St → St} (he : ∀ s : St, s.2 ≠ 0 → e s = s) {s : St} {k n : Nat} (h : (itS e s n).2 = 0) (hk : k ≤ n) : (itS e s k).2 = 0 := by
  by_cases h1 : (itS e s k).2 = 0
  · exact h1
  · rw [it_keep he h1 n hk] at h; exact absurd h h1

theorem paint_keep (s : St) (h : s.2 ≠ 0) : paintE s = s := by
  unfold paintE
  rw [num_keep h, three_keep h, fix_keep h]

theorem key_keep (s : St) (h : s.2 ≠ 0) : keyE s = s := by
  unfold keyE
  rw [fix_keep h, three_keep h]

theorem joint_keep (s : St) (h : s.2 ≠ 0) : jointE s = s := by
  unfold jointE
  simp only [num_keep h, fix_keep h]

theorem track_keep (s : St) (h : s.2 ≠ 0) : trackE s = s := by
  have hM : trackM s = (0, s) := by
    unfold trackM
    rw [num_keep h]
    exact many_keep h (by decide) 23
  unfold trackE
  rw [hM]
  rfl

theorem shape_keep (s : St) (h : s.2 ≠ 0) : shapeE s = s := by
  unfold shapeE
  simp only [num_keep h, three_keep h, fix_keep h]
  rfl

end Go.Proofs.YtplcbdmiccpnnaaGreat.Jb

/- Jobs: tracks that the document's Parse has read, as they lie. -/
namespace Go.Proofs.YtplcbdmiccpnnaaGreat.Jd
open Go.RowKit Go.Proofs.YtplcbdmiccpnnaaGreat Go.Proofs.YtplcbdmiccpnnaaGreat.Rp Go.Proofs.YtplcbdmiccpnnaaGreat.Re Go.Proofs.YtplcbdmiccpnnaaGreat.Au Go.Proofs.YtplcbdmiccpnnaaGreat.Jb
set_option linter.unusedVariables false
set_option linter.unusedSimpArgs false

theorem dinfo_track : (Tryz.prog.info? 77).map (fun i => (i.zero, i.size, i.bytes)) = some (some (.agg #[.int .i64 0, .slice none 0 0]), 2, 32) := by kernel_rfl

theorem dinfo_key : (Tryz.prog.info? 79).map (fun i => (i.zero, i.size, i.bytes)) = some (some (.agg #[.int .i64 0, .int .i64 0, .int .i64 0, .int .i64 0]), 4, 32) := by kernel_rfl

/-- a row's values, two a track, and where their keys lie -/
def TrD (base : Nat) (w : World) (s : St) (k : Nat) (xs : List Value) : Prop :=
  xs.length = k * 2 ∧ ∀ i, i < k → ∃ ka kc, xs[i * 2]? = some (.int .i64 (trackW (itS trackE s i))) ∧ xs[i * 2 + 1]? = some (.slice ka (trackN (itS trackE s i)) kc) ∧ LP 4 79 base w ka (trackN (itS trackE s i)) (trackK (itS trackE s i))

theorem TrD.heap {base : Nat} {w w' : World} {s : St} {k : Nat} {xs : List Value} (h : TrD base w s k xs) (hk : ∀ k cs fr, base ≤ k → w.heap[k]? = some (.cells cs 79 fr) → w'.heap[k]? = w.heap[k]?) : TrD base w' s k xs :=
  ⟨h.1, fun i hi => by
    obtain ⟨ka, kc, h1, h2, h3⟩ := h.2 i hi
    exact ⟨ka, kc, h1, h2, h3.heap hk⟩⟩

theorem TrD.snoc {base : Nat} {w : World} {s : St} {k : Nat} {xs : List Value} {ka : Option Addr} {kc : Nat} (h : TrD base w s k xs) (hl : LP 4 79 base w ka (trackN (itS trackE s k)) (trackK (itS trackE s k))) :
    TrD base w s (k + 1) (xs ++ [.int .i64 (trackW (itS trackE s k)), .slice ka (trackN (itS trackE s k)) kc]) := by
  refine ⟨by rw [List.length_append, h.1]; simp; omega, fun i hi => ?_⟩
  by_cases e : i = k
  · subst e
    refine ⟨ka, kc, ?_, ?_, hl⟩
    · rw [List.getElem?_append_right (by rw [h.1]; omega), h.1]; simp
    · rw [List.getElem?_append_right (by rw [h.1]; omega), h.1, show i * 2 + 1 - i * 2 = 1 by omega]; rfl
  · obtain ⟨ka', kc', h1, h2, h3⟩ := h.2 i (by omega)
    exact ⟨ka', kc', by rw [List.getElem?_append_left (by rw [h.1]; omega)]; exact h1, by rw [List.getElem?_append_left (by rw [h.1]; omega)]; exact h2, h3⟩

/-- tracks that were read: none, or they begin a block that is new -/
def TLD (base : Nat) (w : World) (v : Value) (n : Nat) (s : St) : Prop :=
  ∃ a cap, v = .slice a n cap ∧ (n = 0 ∨ ∃ b, a = some ⟨b, 0, none⟩ ∧ base ≤ b ∧ (∃ cs fr, w.heap[b]? = some (.cells cs 77 fr)) ∧ ∀ i, i < n → ∃ ka kc, w.cell? ⟨b, i * 2, none⟩ = some (.int .i64 (trackW (itS trackE s i))) ∧ w.cell? ⟨b, i * 2 + 1, none⟩ = some (.slice ka (trackN (itS trackE s i)) kc) ∧ LP 4 79 base w ka (trackN (itS trackE s i)) (trackK (itS trackE s i)))

theorem tld_own {base : Nat} {w : World} {v : Value} {n : Nat} {s : St} {xs : List Value} (h : w.ownsRow base 77 2 v n xs) (ht : TrD base w s n xs) : TLD base w v n s := by
  have h' := h
  rcases h.2 with ⟨hv, hn⟩ | ⟨g, cap, cur, hv, hb, h2, hle, -, -, -⟩
  · subst hn; exact ⟨none, 0, hv, .inl rfl⟩
  · refine ⟨some ⟨g, 0, none⟩, cap, hv, .inr ⟨g, rfl, (h.lt g (by rw [hv]; rfl)).1, ⟨_, _, h2⟩, fun i hi => ?_⟩⟩
    rw [hv] at h'
    obtain ⟨ka, kc, h1, h2, h3⟩ := ht.2 i hi
    exact ⟨ka, kc, (h'.cellAt _ (by omega)).trans h1, (h'.cellAt _ (by omega)).trans h2, h3⟩


theorem tld_tracks {base : Nat} {a : Option Addr} {cap n : Nat} {s : St} {w : World} (h : TLD base w (.slice a n cap) n s) (hs : n * 32 ≤ 140737488351232) :
    Sc.Tracks w a n (fun i => trackW (itS trackE s i)) (fun i => trackN (itS trackE s i)) (fun i => trackK (itS trackE s i)) := by
  obtain ⟨a', cap', e, h⟩ := h
  injection e with e1 e2 e3
  subst e1
  refine ⟨hs, ?_⟩
  rcases h with h | ⟨b, h0, h1, ⟨cs, fr, h2⟩, h3⟩
  · exact .inl h
  · refine .inr ⟨b, 0, h0, lt_of_heap h2, fun i hi => ?_⟩
    obtain ⟨ka, kc, q1, q2, q3⟩ := h3 i hi
    have hn := trackN_le (itS trackE s i)
    exact ⟨ka, kc, by rw [Nat.zero_add]; exact q1, by rw [Nat.zero_add]; exact q2, lp_keys q3 (show trackN (itS trackE s i) * 32 ≤ 140737488351232 by omega)⟩

end Go.Proofs.YtplcbdmiccpnnaaGreat.Jd
