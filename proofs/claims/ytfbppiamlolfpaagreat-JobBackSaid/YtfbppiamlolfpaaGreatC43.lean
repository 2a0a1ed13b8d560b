/- Jobs, plainly: a scene that breaks no rule, laid and read, is of the same numbers; nothing is left, nothing is wrong. -/
import Derived.Test.YtfbppiamlolfpaaGreatC42
import Derived.Test.YtfbppiamlolfpaaGreatC39
namespace Go.Proofs.YtfbppiamlolfpaaGreat.Jb
open Go.RowKit Go.Proofs.YtfbppiamlolfpaaGreat Go.Proofs.YtfbppiamlolfpaaGreat.Rp Go.Proofs.YtfbppiamlolfpaaGreat.Re Go.Proofs.YtfbppiamlolfpaaGreat.Au Go.Proofs.YtfbppiamlolfpaaGreat.Sc Go.Proofs.YtfbppiamlolfpaaGreat.Tk
open Go.Proofs.YtfbppiamlolfpaaGreat.Jw (paintsOf tracksOf jointsOf shapesOf keysOf shpB mgL mgk encScn sceneB)
set_option linter.unusedVariables false
set_option linter.unusedSimpArgs false

theorem once_ok {b : Bool} (h : onceB b = -1) : b = true := by
  cases b with
  | true => rfl
  | false => simp [onceB] at h

theorem header_back (a1 a2 a3 a4 a5 a6 : Int) (sd : Nat) (r1 r2 r3 : Int) (h1 : 0 ≤ a1 ∧ a1 < 65536) (h2 : 0 ≤ a2 ∧ a2 < 65536) (h3 : 0 ≤ a3 ∧ a3 < 65536) (h4 : 0 ≤ a4 ∧ a4 < 65536) (h5 : 0 ≤ a5 ∧ a5 < 65536) (h6 : -2147483648 ≤ a6 ∧ a6 ≤ 2147483648) (hsd : sd < 18446744073709551616) (g1 : -2147483648 ≤ r1 ∧ r1 ≤ 2147483648) (g2 : -2147483648 ≤ r2 ∧ r2 ≤ 2147483648) (g3 : -2147483648 ≤ r3 ∧ r3 ≤ 2147483648) (l : List UInt8) :
    ∃ t : St, t = (numsOf 2 [a1, a2, a3, a4, a5] ++ (numsOf 5 [a6] ++ (bytesOf sd 8 ++ (numsOf 5 [r1, r2, r3] ++ l))), 0) ∧ headerE t = (l, 0) ∧ headerV0 t = a1 ∧ headerV1 t = a2 ∧ headerV2 t = a3 ∧ headerV3 t = a4 ∧ headerV4 t = a5 ∧ headerV5 t = a6 ∧ headerU t = sd ∧ headerV7 t = r1 ∧ headerV8 t = r2 ∧ headerV9 t = r3 := by
  refine ⟨_, rfl, ?_⟩
  simp only [nums_cons, numsOf_nil, List.append_assoc, List.nil_append, List.append_nil]
  obtain ⟨f, e, f0, f1, f2⟩ := three_app r1 r2 r3 g1 g2 g3 l
  unfold headerE headerV0 headerV1 headerV2 headerV3 headerV4 headerV5 headerU headerV7 headerV8 headerV9
  simp only [half_app a1 h1, half_app a2 h2, half_app a3 h3, half_app a4 h4, half_app a5 h5, fix_app a6 h6, long_app sd hsd, e, f0, f1, f2]
  refine ⟨trivial, ?_, ?_, ?_, ?_, ?_, trivial, trivial, trivial, trivial, trivial⟩ <;> omega

theorem lens_back (a1 a2 a3 : Int) (h1 : 0 ≤ a1 ∧ a1 < 65536) (h2 : 0 ≤ a2 ∧ a2 < 65536) (h3 : -2147483648 ≤ a3 ∧ a3 ≤ 2147483648) (l : List UInt8) :
    ∃ t : St, t = (numsOf 2 [a1, a2] ++ (numsOf 5 [a3] ++ l), 0) ∧ lensE t = (l, 0) ∧ lensV0 t = a1 ∧ lensV1 t = a2 ∧ lensV2 t = a3 := by
  refine ⟨_, rfl, ?_⟩
  simp only [nums_cons, numsOf_nil, List.append_assoc, List.nil_append, List.append_nil]
  unfold lensE lensV0 lensV1 lensV2
  simp only [half_app a1 h1, half_app a2 h2, fix_app a3 h3]
  refine ⟨trivial, ?_, ?_, trivial⟩ <;> omega

theorem scene_back (s : Scn) (h : (chk s).1 = 0) (hsd : s.sd < 18446744073709551616) : sceneE (encScn s, 0) = ([], 0) ∧ SameS (parScn (encScn s, 0)) s := by
  have hd := once_ok (ok_chk h 0 (by omega))
  have hp := whereB_ok (ok_chk h 1 (by omega))
  have ht := whereB_ok (ok_chk h 2 (by omega))
  have hj := whereB_ok (ok_chk h 3 (by omega))
  have hs := whereB_ok (ok_chk h 4 (by omega))
  have hl := once_ok (ok_chk h 5 (by omega))
  unfold hdB lightB at hd
  unfold lnB at hl
  simp only [Bool.and_eq_true, inB_true] at hd hl
  obtain ⟨R8, e8⟩ : ∃ R, R = shapesOf s.S s.ns ++ [] := ⟨_, rfl⟩
  obtain ⟨R7, e7⟩ : ∃ R, R = jointsOf s.J s.nj ++ R8 := ⟨_, rfl⟩
  obtain ⟨R6, e6⟩ : ∃ R, R = tracksOf s.way s.kn s.K s.nt ++ R7 := ⟨_, rfl⟩
  obtain ⟨R5, e5⟩ : ∃ R, R = paintsOf s.P s.np ++ R6 := ⟨_, rfl⟩
  obtain ⟨R4, e4⟩ : ∃ R, R = bytesOf (u64 (s.np : Int)) 1 ++ (bytesOf (u64 (s.nt : Int)) 1 ++ (bytesOf (u64 (s.nj : Int)) 1 ++ (bytesOf (u64 (s.ns : Int)) 1 ++ R5))) := ⟨_, rfl⟩
  obtain ⟨R3, e3⟩ : ∃ R, R = numsOf 2 [s.ey, s.lk] ++ (numsOf 5 [s.wd] ++ R4) := ⟨_, rfl⟩
  obtain ⟨R2, e2⟩ : ∃ R, R = numsOf 2 [s.w, s.h, s.sm, s.dp, s.fr] ++ (numsOf 5 [s.sh] ++ (bytesOf s.sd 8 ++ (numsOf 5 [s.r, s.g, s.b] ++ R3))) := ⟨_, rfl⟩
  have e1 : encScn s = mgL 4 ++ R2 := by
    rw [e2, e3, e4, e5, e6, e7, e8]
    unfold encScn sceneB
    simp only [nums_cons, numsOf_nil, List.append_assoc, List.append_nil, List.nil_append]
  obtain ⟨t, et⟩ : ∃ t : St, t = (encScn s, 0) := ⟨_, rfl⟩
  rw [← et]
  have q1 : s1 t = (R2, 0) := by unfold s1; rw [et, e1]; exact magic_back R2
  obtain ⟨t2, k2, hh⟩ := header_back s.w s.h s.sm s.dp s.fr s.sh s.sd s.r s.g s.b (by omega) (by omega) (by omega) (by omega) (by omega) (by omega) hsd (by omega) (by omega) (by omega) R3
  rw [← e2, ← q1] at k2
  rw [k2] at hh
  obtain ⟨q2, v0, v1, v2, v3, v4, v5, v6, v7, v8, v9⟩ := hh
  have q2 : s2 t = (R3, 0) := q2
  obtain ⟨t3, k3, hh⟩ := lens_back s.ey s.lk s.wd (by omega) (by omega) (by omega) R4
  rw [← e3, ← q2] at k3
  rw [k3] at hh
  obtain ⟨q3, u0, u1, u2⟩ := hh
  have q3 : s3 t = (R4, 0) := q3
  have m1e : m1 t = (s.np, (bytesOf (u64 (s.nt : Int)) 1 ++ (bytesOf (u64 (s.nj : Int)) 1 ++ (bytesOf (u64 (s.ns : Int)) 1 ++ R5)), 0)) := by unfold m1; rw [q3, e4]; exact many_app s.np 32 (by omega) 22 hp.1 _
  have m2e : m2 t = (s.nt, (bytesOf (u64 (s.nj : Int)) 1 ++ (bytesOf (u64 (s.ns : Int)) 1 ++ R5), 0)) := by unfold m2; rw [m1e]; exact many_app s.nt 32 (by omega) 23 ht.1 _
  have m3e : m3 t = (s.nj, (bytesOf (u64 (s.ns : Int)) 1 ++ R5, 0)) := by unfold m3; rw [m2e]; exact many_app s.nj 32 (by omega) 24 hj.1 _
  have m4e : m4 t = (s.ns, (R5, 0)) := by unfold m4; rw [m3e]; exact many_app s.ns 128 (by omega) 25 hs.1 _
  have b1 := paints_back s.P s.np (fun k hk => hp.2 k hk) R6
  have b2 := tracks_back s.way s.kn s.K s.nt (fun k hk => ht.2 k hk) R7
  have b3 := joints_back s.J s.nj s.nt (by omega) (by omega) (fun k hk => hj.2 k hk) R8
  have b4 := shapes_back s.S s.ns s.nj s.np (by omega) (by omega) (fun k hk => hs.2 k hk) []
  rw [← e5] at b1
  rw [← e6] at b2
  rw [← e7] at b3
  rw [← e8] at b4
  have q5 : s5 t = (R6, 0) := by unfold s5; rw [m4e, m1e]; exact b1.1
  have q6 : s6 t = (R7, 0) := by unfold s6; rw [q5, m2e]; exact b2.1
  have q7 : s7 t = (R8, 0) := by unfold s7; rw [q6, m3e]; exact b3.1
  have q8 : sceneE t = ([], 0) := by unfold sceneE; rw [q7, m4e]; exact b4.1
  refine ⟨q8, ?_⟩
  constructor
  · dsimp only [parScn]; exact v0
  · dsimp only [parScn]; exact v1
  · dsimp only [parScn]; exact v2
  · dsimp only [parScn]; exact v3
  · dsimp only [parScn]; exact v4
  · dsimp only [parScn]; exact v5
  · dsimp only [parScn]; exact v6
  · dsimp only [parScn]; exact v7
  · dsimp only [parScn]; exact v8
  · dsimp only [parScn]; exact v9
  · dsimp only [parScn]; exact u0
  · dsimp only [parScn]; exact u1
  · dsimp only [parScn]; exact u2
  · dsimp only [parScn]; rw [m1e]
  · intro j hj'; dsimp only [parScn]; rw [m4e]; exact b1.2 j hj'
  · dsimp only [parScn]; rw [m2e]
  · intro i hi; dsimp only [parScn]; rw [q5]; exact (b2.2 i hi).1
  · intro i hi; dsimp only [parScn]; rw [q5]; exact (b2.2 i hi).2.1
  · intro i hi; dsimp only [parScn]; rw [q5]; exact (b2.2 i hi).2.2
  · dsimp only [parScn]; rw [m3e]
  · intro j hj'; dsimp only [parScn]; rw [q6]; exact b3.2 j hj'
  · dsimp only [parScn]; rw [m4e]
  · intro j hj'; dsimp only [parScn]; rw [q7]; exact b4.2 j hj'

theorem badTo_congr {b c : Nat → Bool} : ∀ {n : Nat}, (∀ k, k < n → b k = c k) → badTo b n = badTo c n
  | 0, _ => rfl
  | n + 1, h => by
    unfold badTo
    rw [badTo_congr fun k hk => h k (by omega), h n (by omega)]

theorem okUpto_congr {L M : Nat → Int} : ∀ {n : Nat}, (∀ j, j < n * 4 → L j = M j) → okUpto L n = okUpto M n
  | 0, _ => rfl
  | n + 1, h => by
    unfold okUpto
    rw [okUpto_congr fun j hj => h j (by omega)]
    unfold okKey
    rw [h (n * 4) (by omega), h (n * 4 + 1) (by omega), h (n * 4 + 2) (by omega), h (n * 4 + 3) (by omega), h ((n - 1) * 4) (by omega)]

theorem lampsTo_congr {q s : Scn} (h : SameS q s) : ∀ k, k ≤ s.ns → lampsTo q k = lampsTo s k := by
  intro k
  induction k with
  | zero => intro _; rfl
  | succ k ih =>
    intro hk
    unfold lampsTo
    have e : lampB q k = lampB s k := by
      unfold lampB
      rw [h.S (k * 13 + 1) (by omega), h.np]
      by_cases h1 : 0 ≤ s.S (k * 13 + 1) ∧ s.S (k * 13 + 1) < (s.np : Int)
      · rw [h.P ((s.S (k * 13 + 1)).toNat * 5) (by omega)]
      · rw [decide_eq_false h1]; rfl
    rw [ih (by omega), e]

theorem wh_congr {q s : Scn} (h : SameS q s) : ∀ k, wh q k = wh s k := by
  intro k
  match k with
  | 0 => show onceB (hdB q) = onceB (hdB s); unfold hdB; rw [h.w, h.h, h.sm, h.dp, h.fr, h.sh, h.r, h.g, h.b]
  | 1 =>
    show whereB q.np 32 (pB q) = whereB s.np 32 (pB s)
    rw [h.np]; unfold whereB
    rw [badTo_congr (c := pB s) fun i hi => by unfold pB; rw [h.P (i * 5) (by omega), h.P (i * 5 + 1) (by omega), h.P (i * 5 + 2) (by omega), h.P (i * 5 + 3) (by omega), h.P (i * 5 + 4) (by omega)]]
  | 2 =>
    show whereB q.nt 32 (tB q) = whereB s.nt 32 (tB s)
    rw [h.nt]; unfold whereB
    rw [badTo_congr (c := tB s) fun i hi => by unfold tB rightB; rw [h.way i hi, h.kn i hi, okUpto_congr (h.K i hi)]]
  | 3 =>
    show whereB q.nj 32 (jB q) = whereB s.nj 32 (jB s)
    rw [h.nj]; unfold whereB
    rw [badTo_congr (c := jB s) fun i hi => by unfold jB; rw [h.nt, h.J (i * 4) (by omega), h.J (i * 4 + 1) (by omega), h.J (i * 4 + 2) (by omega), h.J (i * 4 + 3) (by omega)]]
  | 4 =>
    show whereB q.ns 128 (sB q) = whereB s.ns 128 (sB s)
    rw [h.ns]; unfold whereB
    rw [badTo_congr (c := sB s) fun i hi => by
      have hh : ∀ j, j < 13 → row13 q i j = row13 s i j := fun j hj => h.S (i * 13 + j) (by omega)
      unfold sB shapeB
      rw [h.nj, h.np, hh 0 (by omega), hh 1 (by omega), hh 2 (by omega), hh 3 (by omega), hh 4 (by omega), hh 5 (by omega), hh 6 (by omega), hh 7 (by omega), hh 8 (by omega), hh 9 (by omega), hh 10 (by omega), hh 11 (by omega), hh 12 (by omega)]]
  | 5 => show onceB (lnB q) = onceB (lnB s); unfold lnB; rw [h.nt, h.ey, h.lk, h.wd]
  | k + 6 =>
    show lampW q = lampW s
    have e : lamps q = lamps s := by unfold lamps; rw [h.ns]; exact lampsTo_congr h _ (Nat.le_refl _)
    unfold lampW
    rw [e]

theorem chk_congr {q s : Scn} (h : SameS q s) : chk q = chk s := by
  have e : ∀ n, chkTo q n = chkTo s n := by
    intro n
    induction n with
    | zero => rfl
    | succ n ih => unfold chkTo; rw [ih, wh_congr h n]
  unfold chk
  rw [e]

theorem tracks_len (way : Nat → Int) (kn : Nat → Nat) (K : Nat → Nat → Int) (n : Nat) (h : ∀ i, i < n → kn i ≤ 16) : ∀ k, k ≤ n → (tracksOf way kn K k).length ≤ k * 322 := by
  intro k
  induction k with
  | zero => intro _; exact Nat.le_refl _
  | succ k ih =>
    intro hk
    have h1 := ih (by omega)
    have h2 := h k (by omega)
    simp only [tracksOf, List.length_append, numsOf_length, Jw.keysOf_length, List.length_cons, List.length_nil]
    omega

theorem enc_len {s : Scn} (h : (chk s).1 = 0) : (encScn s).length ≤ 65536 := by
  have h1 := Jw.ok_np h
  have h2 := Jw.ok_nt h
  have h3 := Jw.ok_nj h
  have h4 := Jw.ok_ns h
  have h5 := tracks_len s.way s.kn s.K s.nt (fun i hi => Jw.ok_kn h i hi) s.nt (Nat.le_refl _)
  have h6 := Jw.shapesOf_length s.S s.ns
  unfold encScn sceneB
  simp only [List.length_append, numsOf_length, bytesOf_length, Jw.mgL_length, Jw.paintsOf_length, Jw.jointsOf_length, List.length_cons, List.length_nil]
  omega

/-- what was laid is a job, and that of the same scene -/
theorem par_enc (s : Scn) (h : (chk s).1 = 0) (hsd : s.sd < 18446744073709551616) : parE (encScn s) = 0 ∧ SameS (parScn (encScn s, 0)) s := by
  obtain ⟨h1, h2⟩ := scene_back s h hsd
  refine ⟨?_, h2⟩
  unfold parE
  rw [if_neg (by have := enc_len h; omega)]
  have hr : readE (encScn s) = 0 := by unfold readE; rw [h1]; rfl
  rw [if_pos hr, chk_congr h2]
  exact h

end Go.Proofs.YtfbppiamlolfpaaGreat.Jb
