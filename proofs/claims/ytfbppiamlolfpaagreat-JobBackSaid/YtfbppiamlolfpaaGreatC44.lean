/- Jobs, plainly: what was read, and nothing was wrong, is laid by the very bytes. -/
import Derived.Test.YtfbppiamlolfpaaGreatC41
import Derived.Test.YtfbppiamlolfpaaGreatC39
namespace Go.Proofs.YtfbppiamlolfpaaGreat.Jb
open Go.RowKit Go.Proofs.YtfbppiamlolfpaaGreat Go.Proofs.YtfbppiamlolfpaaGreat.Rp Go.Proofs.YtfbppiamlolfpaaGreat.Re Go.Proofs.YtfbppiamlolfpaaGreat.Au Go.Proofs.YtfbppiamlolfpaaGreat.Sc Go.Proofs.YtfbppiamlolfpaaGreat.Tk
open Go.Proofs.YtfbppiamlolfpaaGreat.Jw (paintsOf tracksOf jointsOf shapesOf keysOf shpB mgL mgk encScn sceneB)
set_option linter.unusedVariables false
set_option linter.unusedSimpArgs false

theorem byteAt_cons (b : UInt8) (m i : Nat) : byteAt (b.toNat + 256 * m) (i + 1) = byteAt m i := by
  unfold byteAt
  have hb := b.toNat_lt
  rw [Nat.pow_succ, Nat.mul_comm (256 ^ i) 256, ← Nat.div_div_eq_div_mul, show (b.toNat + 256 * m) / 256 = m by omega]

theorem byteAt_zero (b : UInt8) (m : Nat) : byteAt (b.toNat + 256 * m) 0 = b := by
  unfold byteAt
  have hb := b.toNat_lt
  rw [show (b.toNat + 256 * m) / 256 ^ 0 % 256 = b.toNat by rw [Nat.pow_zero, Nat.div_one]; omega]
  simp

theorem bytesOf_numOf : ∀ p : List UInt8, bytesOf (numOf p) p.length = p
  | [] => rfl
  | b :: r => by
    have ih := bytesOf_numOf r
    unfold bytesOf at ih ⊢
    rw [List.length_cons, List.range_succ_eq_map, List.map_cons, List.map_map]
    unfold numOf
    rw [byteAt_zero]
    congr 1
    refine Eq.trans (List.map_congr_left fun i _ => ?_) ih
    exact byteAt_cons b (numOf r) i

theorem bytesOf_mod (n k : Nat) : bytesOf (n % 256 ^ k) k = bytesOf n k := by
  have h := bytesOf_numOf (bytesOf n k)
  rwa [numOf_bytesOf, bytesOf_length] at h

theorem bytes_eq {n m k : Nat} (h : n % 256 ^ k = m % 256 ^ k) : bytesOf n k = bytesOf m k := by
  rw [← bytesOf_mod n k, h, bytesOf_mod]

/-- from the state s to t some bytes were read -/
def R (s t : St) (c : List UInt8) : Prop := t.2 = 0 → s.2 = 0 ∧ s.1 = c ++ t.1

theorem R.trans {s t u : St} {c d : List UInt8} (h : R s t c) (k : R t u d) : R s u (c ++ d) := fun hu => by
  obtain ⟨ht, et⟩ := k hu
  obtain ⟨hs, es⟩ := h ht
  exact ⟨hs, by rw [es, et, List.append_assoc]⟩

theorem R.is {s t : St} {c d : List UInt8} (h : R s t c) (e : c = d) : R s t d := by subst e; exact h

theorem fail_ne (s : St) (e : Int) (he : e ≠ 0) : (failS s e).2 ≠ 0 := by
  unfold failS
  split
  · exact he
  · assumption

theorem take_R (s : St) (n : Nat) (h : (takeS s n).2.2 = 0) : s.2 = 0 ∧ s.1 = (takeS s n).1 ++ (takeS s n).2.1 ∧ (takeS s n).1.length = n := by
  obtain ⟨l, e⟩ := s
  by_cases he : e = 0
  · subst he
    by_cases hl : l.length < n
    · rw [takeS_short hl] at h; simp at h
    · rw [takeS_ok (by omega)]
      exact ⟨rfl, by simp, by simp; omega⟩
  · rw [takeS_err n he] at h; exact absurd h he

theorem num_R0 (s : St) (k : Nat) : R s (numS s k).2 (bytesOf (numS s k).1 k) := fun h => by
  obtain ⟨h1, h2, h3⟩ := take_R s k h
  refine ⟨h1, ?_⟩
  have e := bytesOf_numOf (takeS s k).1
  rw [h3] at e
  show s.1 = bytesOf (numOf (takeS s k).1) k ++ (takeS s k).2.1
  rw [e]; exact h2

theorem num_R (s : St) (k : Nat) (hk : k ≤ 8) : R s (numS s k).2 (numsOf k [((numS s k).1 : Int)]) := by
  rw [numsOf_one, u64_nat _ (Nat.lt_of_lt_of_le (numS_lt s k) (Nat.le_trans (Nat.pow_le_pow_right (by omega) hk) (by decide)))]
  exact num_R0 s k

theorem small_R (s : St) : R s (numS s 2).2 (numsOf 2 [small16 (numS s 2).1]) := by
  refine (num_R0 s 2).is ?_
  have hn := numS_lt s 2
  generalize (numS s 2).1 = n at hn ⊢
  rw [numsOf_one]
  refine bytes_eq ?_
  have hu := u64_cast (small16 n)
  by_cases hc : 32768 ≤ n
  · rw [show small16 n = (n : Int) - 65536 from if_pos hc] at hu ⊢; omega
  · rw [show small16 n = (n : Int) from if_neg hc] at hu ⊢; omega

theorem fix_R (s : St) : R s (fixS s).2 (numsOf 5 [(fixS s).1]) := by
  have hn := numS_lt s 5
  have h0 := num_R0 s 5
  unfold fixS
  by_cases hc : sign40 (numS s 5).1 < -2147483648 ∨ 2147483648 < sign40 (numS s 5).1
  · rw [if_pos hc]
    exact fun h => absurd h (fail_ne _ 33 (by decide))
  · rw [if_neg hc]
    refine h0.is ?_
    generalize (numS s 5).1 = n at hn ⊢
    rw [numsOf_one]
    refine bytes_eq ?_
    have hu := u64_cast (sign40 n)
    show n % 256 ^ 5 = u64 (sign40 n) % 256 ^ 5
    by_cases hc : 549755813888 ≤ n
    · rw [show sign40 n = (n : Int) - 1099511627776 from if_pos hc] at hu ⊢; omega
    · rw [show sign40 n = (n : Int) from if_neg hc] at hu ⊢; omega

theorem three_R (s : St) : R s (threeS s).2 (numsOf 5 [(threeS s).1 0, (threeS s).1 1, (threeS s).1 2]) := fun h => by
  have h' : (fixK s 3).2 = 0 := h
  have e : (threeS s).1 = fixV s := by unfold threeS; rw [if_neg (by simp [h'])]
  have k : R s (fixK s 3) (numsOf 5 [fixV s 0] ++ numsOf 5 [fixV s 1] ++ numsOf 5 [fixV s 2]) := ((fix_R (fixK s 0)).trans (fix_R (fixK s 1))).trans (fix_R (fixK s 2))
  rw [e]
  exact (k.is (by simp only [nums_cons, numsOf_nil, List.append_nil, List.append_assoc])) h

theorem many_R (s : St) (most e : Int) (he : e ≠ 0) : R s (manyS s most e).2 (numsOf 1 [((manyS s most e).1 : Int)]) := by
  by_cases h : most < ((numS s 1).1 : Int)
  · rw [many_more h]; exact fun h => absurd h (fail_ne _ e he)
  · rw [many_in h]; exact num_R s 1 (by omega)

theorem mg_R (b : Nat) (s : St) : R s (mg b s) (bytesOf (u64 (b : Int)) 1) := by
  by_cases h : (numS s 1).1 = b
  · rw [mg_is h]
    refine (num_R s 1 (by omega)).is ?_
    rw [numsOf_one, h]
  · rw [mg_not h]; exact fun h => absurd h (fail_ne _ 20 (by decide))

/-- some bytes one behind the other -/
def catTo (c : Nat → List UInt8) : Nat → List UInt8
  | 0 => []
  | k + 1 => catTo c k ++ c k

theorem catTo_is {A c : Nat → List UInt8} (h0 : A 0 = []) (hA : ∀ k, A (k + 1) = A k ++ c k) : ∀ k, catTo c k = A k
  | 0 => h0.symm
  | k + 1 => by rw [catTo, catTo_is h0 hA k, hA]

theorem it_R {e : St → St} {c : St → List UInt8} (he : ∀ s, R s (e s) (c s)) (s : St) : ∀ k, R s (itS e s k) (catTo (fun i => c (itS e s i)) k)
  | 0 => fun h => ⟨h, rfl⟩
  | k + 1 => (it_R he s k).trans (he (itS e s k))

def paintC (s : St) : List UInt8 := numsOf 1 [paintV s 0] ++ (numsOf 5 [paintV s 1, paintV s 2, paintV s 3] ++ numsOf 5 [paintV s 4])

theorem paint_R (s : St) : R s (paintE s) (paintC s) :=
  (((num_R s 1 (by omega)).trans (three_R _)).trans (fix_R _)).is (List.append_assoc _ _ _)

def keyC (s : St) : List UInt8 := numsOf 5 [keyV s 0] ++ numsOf 5 [keyV s 1, keyV s 2, keyV s 3]

theorem key_R (s : St) : R s (keyE s) (keyC s) := (fix_R s).trans (three_R _)

def jointC (s : St) : List UInt8 := numsOf 2 [jointV s 0, jointV s 1, jointV s 2] ++ numsOf 5 [jointV s 3]

theorem joint_R (s : St) : R s (jointE s) (jointC s) :=
  ((((small_R s).trans (small_R _)).trans (small_R _)).trans (fix_R _)).is (by
    unfold jointC
    simp only [nums_cons, numsOf_nil, List.append_nil, List.append_assoc]
    rfl)

theorem paints_R (s : St) (n : Nat) : R s (itS paintE s n) (paintsOf (itV paintE paintV 5 s) n) :=
  (it_R paint_R s n).is (catTo_is rfl (fun k => by
    show _ ++ _ = _
    rw [show itV paintE paintV 5 s (k * 5) = paintV (itS paintE s k) 0 from itV_at paintE paintV 5 s k 0 (by omega), itV_at paintE paintV 5 s k 1 (by omega), itV_at paintE paintV 5 s k 2 (by omega), itV_at paintE paintV 5 s k 3 (by omega), itV_at paintE paintV 5 s k 4 (by omega)]
    rfl) n)

theorem keys_R (s : St) (n : Nat) : R s (itS keyE s n) (keysOf (itV keyE keyV 4 s) n) :=
  (it_R key_R s n).is (catTo_is rfl (fun k => by
    show _ ++ _ = _
    rw [show itV keyE keyV 4 s (k * 4) = keyV (itS keyE s k) 0 from itV_at keyE keyV 4 s k 0 (by omega), itV_at keyE keyV 4 s k 1 (by omega), itV_at keyE keyV 4 s k 2 (by omega), itV_at keyE keyV 4 s k 3 (by omega)]
    rfl) n)

theorem joints_R (s : St) (n : Nat) : R s (itS jointE s n) (jointsOf (itV jointE jointV 4 s) n) :=
  (it_R joint_R s n).is (catTo_is rfl (fun k => by
    show _ ++ _ = _
    rw [show itV jointE jointV 4 s (k * 4) = jointV (itS jointE s k) 0 from itV_at jointE jointV 4 s k 0 (by omega), itV_at jointE jointV 4 s k 1 (by omega), itV_at jointE jointV 4 s k 2 (by omega), itV_at jointE jointV 4 s k 3 (by omega)]
    rfl) n)

def trackC (s : St) : List UInt8 := numsOf 1 [trackW s, (trackN s : Int)] ++ keysOf (trackK s) (trackN s)

theorem track_R (s : St) : R s (trackE s) (trackC s) :=
  (((num_R s 1 (by omega)).trans (many_R _ 16 23 (by decide))).trans (keys_R _ _)).is (by
    unfold trackC
    rw [show numsOf 1 [trackW s, (trackN s : Int)] = numsOf 1 [trackW s] ++ numsOf 1 [(trackN s : Int)] by simp only [nums_cons, numsOf_nil, List.append_nil]]
    rfl)

theorem tracks_R (s : St) (n : Nat) : R s (itS trackE s n) (tracksOf (fun i => trackW (itS trackE s i)) (fun i => trackN (itS trackE s i)) (fun i => trackK (itS trackE s i)) n) :=
  (it_R track_R s n).is (catTo_is rfl (fun k => rfl) n)

def shapeC (s : St) : List UInt8 := shpB (shapeV s 0) (shapeV s 1) (shapeV s 2) (shapeV s 3) (shapeV s 4) (shapeV s 5) (shapeV s 6) (shapeV s 7) (shapeV s 8) (shapeV s 9) (shapeV s 10) (shapeV s 11) (shapeV s 12)

theorem shapes_R (h : ∀ s, R s (shapeE s) (shapeC s)) (s : St) (n : Nat) : R s (itS shapeE s n) (shapesOf (itV shapeE shapeV 13 s) n) :=
  (it_R h s n).is (catTo_is rfl (fun k => by
    show _ ++ _ = _
    rw [show itV shapeE shapeV 13 s (k * 13) = shapeV (itS shapeE s k) 0 from itV_at shapeE shapeV 13 s k 0 (by omega), itV_at shapeE shapeV 13 s k 1 (by omega), itV_at shapeE shapeV 13 s k 2 (by omega), itV_at shapeE shapeV 13 s k 3 (by omega), itV_at shapeE shapeV 13 s k 4 (by omega), itV_at shapeE shapeV 13 s k 5 (by omega), itV_at shapeE shapeV 13 s k 6 (by omega), itV_at shapeE shapeV 13 s k 7 (by omega), itV_at shapeE shapeV 13 s k 8 (by omega), itV_at shapeE shapeV 13 s k 9 (by omega), itV_at shapeE shapeV 13 s k 10 (by omega), itV_at shapeE shapeV 13 s k 11 (by omega), itV_at shapeE shapeV 13 s k 12 (by omega)]
    rfl) n)

theorem shape_R (s : St) : R s (shapeE s) (shapeC s) := by
  have hB := (((small_R s).trans (num_R (numS s 2).2 2 (by omega))).trans (num_R (numS (numS s 2).2 2).2 1 (by omega))).trans (three_R (numS (numS (numS s 2).2 2).2 1).2)
  have v0 : shapeV s 0 = small16 (numS s 2).1 := rfl
  have v1 : shapeV s 1 = ((numS (numS s 2).2 2).1 : Int) := rfl
  have v2 : shapeV s 2 = ((numS (numS (numS s 2).2 2).2 1).1 : Int) := rfl
  have v3 : shapeV s 3 = (threeS (numS (numS (numS s 2).2 2).2 1).2).1 0 := rfl
  have v4 : shapeV s 4 = (threeS (numS (numS (numS s 2).2 2).2 1).2).1 1 := rfl
  have v5 : shapeV s 5 = (threeS (numS (numS (numS s 2).2 2).2 1).2).1 2 := rfl
  have v6 : shapeV s 6 = if ((numS (numS (numS s 2).2 2).2 1).1 : Int) = 1 then (threeS (threeS (numS (numS (numS s 2).2 2).2 1).2).2).1 0 else 0 := rfl
  have v7 : shapeV s 7 = if ((numS (numS (numS s 2).2 2).2 1).1 : Int) = 1 then (threeS (threeS (numS (numS (numS s 2).2 2).2 1).2).2).1 1 else 0 := rfl
  have v8 : shapeV s 8 = if ((numS (numS (numS s 2).2 2).2 1).1 : Int) = 1 then (threeS (threeS (numS (numS (numS s 2).2 2).2 1).2).2).1 2 else 0 := rfl
  have v9 : shapeV s 9 = if ((numS (numS (numS s 2).2 2).2 1).1 : Int) = 1 then (threeS (threeS (threeS (numS (numS (numS s 2).2 2).2 1).2).2).2).1 0 else 0 := rfl
  have v10 : shapeV s 10 = if ((numS (numS (numS s 2).2 2).2 1).1 : Int) = 1 then (threeS (threeS (threeS (numS (numS (numS s 2).2 2).2 1).2).2).2).1 1 else 0 := rfl
  have v11 : shapeV s 11 = if ((numS (numS (numS s 2).2 2).2 1).1 : Int) = 1 then (threeS (threeS (threeS (numS (numS (numS s 2).2 2).2 1).2).2).2).1 2 else 0 := rfl
  have v12 : shapeV s 12 = if ((numS (numS (numS s 2).2 2).2 1).1 : Int) = 0 then (fixS (threeS (numS (numS (numS s 2).2 2).2 1).2).2).1 else 0 := rfl
  have hE : shapeE s = if ((numS (numS (numS s 2).2 2).2 1).1 : Int) = 0 then (fixS (threeS (numS (numS (numS s 2).2 2).2 1).2).2).2 else if ((numS (numS (numS s 2).2 2).2 1).1 : Int) = 1 then (threeS (threeS (threeS (numS (numS (numS s 2).2 2).2 1).2).2).2).2 else failS (threeS (numS (numS (numS s 2).2 2).2 1).2).2 25 := rfl
  unfold shapeC shpB
  rw [v0, v1, v2, v3, v4, v5, v6, v7, v8, v9, v10, v11, v12, hE]
  clear v0 v1 v2 v3 v4 v5 v6 v7 v8 v9 v10 v11 v12 hE
  generalize small16 (numS s 2).1 = x0 at hB ⊢
  generalize ((numS (numS s 2).2 2).1 : Int) = x1 at hB ⊢
  generalize ((numS (numS (numS s 2).2 2).2 1).1 : Int) = k at hB ⊢
  generalize threeS (numS (numS (numS s 2).2 2).2 1).2 = t at hB ⊢
  by_cases h0 : k = 0
  · rw [if_pos h0, if_pos h0, if_pos h0]
    exact (hB.trans (fix_R t.2)).is (by simp only [nums_cons, numsOf_nil, List.append_nil, List.append_assoc])
  · simp only [if_neg h0]
    by_cases h1 : k = 1
    · simp only [if_pos h1]
      exact ((hB.trans (three_R t.2)).trans (three_R _)).is (by simp only [nums_cons, numsOf_nil, List.append_nil, List.append_assoc])
    · rw [if_neg h1]
      exact fun h => absurd h (fail_ne _ 25 (by decide))

theorem magic_R (s : St) : R s (mgK s 4) (mgL 4) :=
  ((((mg_R 90 s).trans (mg_R 79 _)).trans (mg_R 69 _)).trans (mg_R 49 _)).is (by simp [mgL, mgk])

theorem header_R (s : St) : R s (headerE s) (numsOf 2 [headerV0 s, headerV1 s, headerV2 s, headerV3 s, headerV4 s] ++ (numsOf 5 [headerV5 s] ++ (bytesOf (headerU s) 8 ++ numsOf 5 [headerV7 s, headerV8 s, headerV9 s]))) :=
  ((((((((num_R s 2 (by omega)).trans (num_R _ 2 (by omega))).trans (num_R _ 2 (by omega))).trans (num_R _ 2 (by omega))).trans (num_R _ 2 (by omega))).trans (fix_R _)).trans (num_R0 _ 8)).trans (three_R _)).is (by
    rw [show numsOf 2 [headerV0 s, headerV1 s, headerV2 s, headerV3 s, headerV4 s] = numsOf 2 [headerV0 s] ++ (numsOf 2 [headerV1 s] ++ (numsOf 2 [headerV2 s] ++ (numsOf 2 [headerV3 s] ++ numsOf 2 [headerV4 s]))) by simp only [nums_cons, numsOf_nil, List.append_nil]]
    simp only [List.append_assoc]
    rfl)

theorem lens_R (s : St) : R s (lensE s) (numsOf 2 [lensV0 s, lensV1 s] ++ numsOf 5 [lensV2 s]) :=
  (((num_R s 2 (by omega)).trans (num_R _ 2 (by omega))).trans (fix_R _)).is (by
    rw [show numsOf 2 [lensV0 s, lensV1 s] = numsOf 2 [lensV0 s] ++ numsOf 2 [lensV1 s] by simp only [nums_cons, numsOf_nil, List.append_nil]]
    rfl)

set_option maxRecDepth 100000 in
set_option maxHeartbeats 2000000 in
theorem scene_R (t : St) : R t (sceneE t) (encScn (parScn t)) := by
  have h1 : R t (s1 t) (mgL 4) := magic_R t
  have h2 := header_R (s1 t)
  have h3 := lens_R (s2 t)
  have k1 : R (s3 t) (m1 t).2 (numsOf 1 [((m1 t).1 : Int)]) := many_R _ 32 22 (by decide)
  have k2 : R (m1 t).2 (m2 t).2 (numsOf 1 [((m2 t).1 : Int)]) := many_R _ 32 23 (by decide)
  have k3 : R (m2 t).2 (m3 t).2 (numsOf 1 [((m3 t).1 : Int)]) := many_R _ 32 24 (by decide)
  have k4 : R (m3 t).2 (m4 t).2 (numsOf 1 [((m4 t).1 : Int)]) := many_R _ 128 25 (by decide)
  have h5 : R (m4 t).2 (s5 t) (paintsOf (itV paintE paintV 5 (m4 t).2) (m1 t).1) := paints_R _ _
  have h6 : R (s5 t) (s6 t) _ := tracks_R (s5 t) (m2 t).1
  have h7 : R (s6 t) (s7 t) (jointsOf (itV jointE jointV 4 (s6 t)) (m3 t).1) := joints_R _ _
  have h8 : R (s7 t) (sceneE t) (shapesOf (itV shapeE shapeV 13 (s7 t)) (m4 t).1) := shapes_R shape_R _ _
  refine (h1.trans (h2.trans (h3.trans (k1.trans (k2.trans (k3.trans (k4.trans (h5.trans (h6.trans (h7.trans h8)))))))))).is ?_
  unfold encScn sceneB
  dsimp only [parScn]
  simp only [nums_cons, numsOf_nil, List.append_assoc, List.append_nil]

/-- what was parsed is encoded by the very bytes -/
theorem enc_par (l : List UInt8) (h : parE l = 0) : encScn (parScn (l, 0)) = l := by
  have hr : readE l = 0 := by
    by_cases hr0 : readE l = 0
    · exact hr0
    · exfalso
      unfold parE at h
      by_cases hl : 65536 < l.length
      · rw [if_pos hl] at h; exact absurd h (by decide)
      · rw [if_neg hl, if_neg hr0] at h; exact hr0 h
  unfold readE endS at hr
  by_cases hl : 0 < leftS (sceneE (l, 0))
  · rw [if_pos hl] at hr; exact absurd hr (fail_ne _ 10 (by decide))
  · rw [if_neg hl] at hr
    have h1 := (scene_R (l, 0) hr).2
    have h2 : (sceneE (l, 0)).1 = [] := by
      unfold leftS at hl
      rw [if_neg (by simp [hr])] at hl
      exact List.eq_nil_of_length_eq_zero (by omega)
    rw [h2, List.append_nil] at h1
    exact h1.symm

end Go.Proofs.YtfbppiamlolfpaaGreat.Jb
