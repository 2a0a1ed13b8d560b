/- Layer 22, the document's tables: rows of long numbers; the first primes; a number in four parts. -/
import Derived.Test.YtndpidmbfdpiaaaDoorK36
namespace Go.Proofs.YtndpidmbfdpiaaaDoor.Se
open Go Go.RowKit Go.Proofs.YtndpidmbfdpiaaaDoor Go.Proofs.YtndpidmbfdpiaaaDoor.Au Go.Proofs.YtndpidmbfdpiaaaDoor.Re
set_option linter.unusedVariables false
set_option linter.unusedSimpArgs false

theorem infoLong : (Tryd.prog.info? 61).map (fun i => (i.zero, i.size, i.bytes)) = some (some (.int .u64 0), 1, 8) := by kernel_rfl

/-- long numbers, as values -/
def us (l : List Nat) : List Value := l.map fun x : Nat => Value.int .u64 (x : Int)

theorem us_length (l : List Nat) : (us l).length = l.length := by simp [us]

theorem us_append (l m : List Nat) : us (l ++ m) = us l ++ us m := by simp [us]

theorem us_one (l : List Nat) : ∀ u ∈ us l, u.oneCell' = true := by
  intro u hu
  simp only [us, List.mem_map] at hu
  obtain ⟨b, -, rfl⟩ := hu
  rfl

theorem us_one1 (x : Nat) (w : World) (B : Nat) (hB : B = w.heap.size) : ∀ j u, (us [x])[j]? = some u → (w.alloc (.cells #[.int .u64 (x : Int)] 61)).cell? ((⟨B, 0, none⟩ : Addr).add j) = some u := by
  subst hB
  intro j u hu
  match j, hu with
  | 0, hu => simp [us] at hu; subst hu; simp [Addr.add]
  | j + 1, hu => simp [us] at hu

theorem own_formU {base : Nat} {w : World} {v : Value} {n : Nat} {xs : List Value} (h : w.ownsRow base 61 1 v n xs) : ∃ a cap, v = .slice a n cap := by
  rcases h.2 with ⟨rfl, h0⟩ | ⟨q, cap, cur, rfl, -⟩
  · exact ⟨none, 0, by rw [h0]⟩
  · exact ⟨_, cap, rfl⟩

/-- a number that is owned, read and put anew -/
theorem own_us {w : World} {base : Nat} {a : Option Addr} {n c : Nat} {l : List Nat} (h : w.ownsRow base 61 1 (.slice a n c) n (us l)) {j : Nat} (hj : j < n) : ∃ q, a = some ⟨q, 0, none⟩ ∧ base ≤ q ∧ q < w.heap.size ∧ w.cell? ⟨q, j, none⟩ = some (.int .u64 (l.getD j 0 : Nat)) ∧ w.frozen? ⟨q, j, none⟩ = false ∧ ∀ y : Nat, (w.setCell ⟨q, j, none⟩ (.int .u64 (y : Int))).ownsRow base 61 1 (.slice a n c) n (us (l.set j y)) := by
  have hl : n = l.length := by have := h.1; rw [us_length, Nat.mul_one] at this; exact this.symm
  rcases h.2 with ⟨h1, h2⟩ | ⟨q, cap, cur, h1, h2, h3, h4, h5, h6, h7⟩
  · omega
  · cases h1
    have hx : l[j]? = some (l.getD j 0) := by rw [List.getD_eq_getElem?_getD, List.getElem?_eq_getElem (by omega)]; rfl
    have hcur : cur[j]? = some (.int .u64 (l.getD j 0 : Nat)) := by
      rw [Nat.mul_one] at h7
      have e := congrArg (fun l => l[j]?) h7
      simp only [List.getElem?_take, if_pos hj] at e
      have hv : (us l)[j]? = some (.int .u64 (l.getD j 0 : Nat)) := by unfold us; rw [List.getElem?_map, hx]; rfl
      rw [hv] at e
      simpa using e
    refine ⟨q, rfl, h2, lt_heap h3, by simp [World.cell?, h3, hcur], by simp [World.frozen?, h3], fun y => ⟨?_, .inr ⟨q, _, cur.setIfInBounds j (.int .u64 (y : Int)), rfl, h2, heap_setCell_same _ _ _ _ _ _ h3, h4, h5, by simpa using h6, ?_⟩⟩⟩
    · rw [us_length, List.length_set, Nat.mul_one]; exact hl.symm
    · rw [Nat.mul_one] at h7 ⊢
      rw [Array.toList_setIfInBounds, List.take_set, h7]
      unfold us
      rw [List.map_set]

/-- does no number of a list divide p? -/
def noDiv (l : List Nat) (p : Nat) : Bool := l.all fun q => p % q != 0

/-- the primes below k + 2 -/
def prs : Nat → List Nat
  | 0 => []
  | k + 1 => if noDiv (prs k) (k + 2) then prs k ++ [k + 2] else prs k

theorem prs_le : ∀ k, ∀ q ∈ prs k, 2 ≤ q ∧ q < k + 2
  | 0 => fun q hq => by simp [prs] at hq
  | k + 1 => fun q hq => by
    have ih := prs_le k
    simp only [prs] at hq
    split at hq
    · rcases List.mem_append.1 hq with h | h
      · have := ih q h; omega
      · simp at h; omega
    · have := ih q hq; omega

theorem prs_all : (prs 310).length = 64 := by decide +kernel

theorem prs_309 : (prs 309).length = 63 := by decide +kernel

theorem prs_up (k : Nat) : ∀ m, (prs k).length ≤ (prs (k + m)).length
  | 0 => Nat.le_refl _
  | m + 1 => by
    refine Nat.le_trans (prs_up k m) ?_
    show _ ≤ (prs (k + m + 1)).length
    simp only [prs]
    split
    · simp
    · exact Nat.le_refl _

theorem prs_mono : ∀ k, (prs k).length ≤ k
  | 0 => by simp [prs]
  | k + 1 => by
    have := prs_mono k
    simp only [prs]
    split
    · simp; omega
    · omega

theorem noDiv_take (l : List Nat) (p i : Nat) (hi : i < l.length) : noDiv (l.take (i + 1)) p = (noDiv (l.take i) p && (p % l.getD i 0 != 0)) := by
  have hx : l[i]? = some (l.getD i 0) := by rw [List.getD_eq_getElem?_getD, List.getElem?_eq_getElem hi]; rfl
  unfold noDiv
  rw [List.take_add_one, hx]
  simp [List.all_append]

set_option maxHeartbeats 8000000 in
set_option maxRecDepth 100000 in
theorem primes_any (w : World) : Calls Tryd.prog 20 #[.int .i64 64] w fun e w' => (∃ v', e = .returned v' ∧ w'.ownsRow w.heap.size 61 1 v' 64 (us (prs 310))) ∧ Below w.heap.size w w' := by
  obtain ⟨i0, hi, hz0, hz1, hz2⟩ := info_parts infoLong
  go_enter Tryd.func20, Tryd.ntmps20
  go_wp2_with fail
  go_loopw [3, 4] (fun ov pv wr => ∃ (k n p : Nat) (a : Option Addr) (c : Nat), k ≤ 310 ∧ n ≤ k ∧ p = k + 2 ∧ Hid (n = (prs k).length) ∧ ov = .slice a n c ∧ pv = .int .u64 (p : Int) ∧ Hid (wr.ownsRow w.heap.size 61 1 (.slice a n c) n (us (prs k))) ∧ Hid (Below w.heap.size w wr)) (fun _ pv _ => 400 - (intOf pv).toNat)
  case atStart => exact ⟨0, 0, 2, none, 0, by omega, by omega, by omega, Lib.hid rfl, rfl, rfl, Lib.hid (World.ownsRow_nil _ _ _ _), Lib.hid (Below.refl _ _)⟩
  case round =>
    obtain ⟨k, n, p, a, c, hk, hnk, hp, HN, rfl, rfl, HI, HU⟩ := hrel
    obtain ⟨y1, hy1⟩ : ∃ y, y = wr := ⟨_, rfl⟩
    subst hy1
    have hsz := HU.out.size
    by_cases hn : n < 64
    · have hn' : (n : Int) < 64 := by omega
      have hk2 : k < 310 := by
        rcases Nat.lt_or_ge k 310 with h | h
        · exact h
        · have e : k = 310 := by omega
          have := HN.out
          rw [e, prs_all] at this
          omega
      have HP := Lib.hid hp
      have hp400 : p < 400 := by omega
      obtain ⟨p1, hp1⟩ : ∃ z : Nat, z = p + 1 := ⟨_, rfl⟩
      have e1 : (p : Int) + 1 = (p1 : Int) := by omega
      have w1 : IntKind.u64.wrap (p1 : Int) = (p1 : Int) := wrap64 _ (by omega) (by omega)
      have m1 : (p1 : Int) % 18446744073709551616 = (p1 : Int) := by omega
      have HP1 := Lib.hid (show p1 = k + 1 + 2 by omega)
      have hm1 : 400 - p1 < 400 - p := by omega
      clear hp hp1
      go_wp2_with fail
      go_loopw [5, 6] (fun bv iv wq => ∃ i : Nat, i ≤ n ∧ iv = .int .i64 i ∧ bv = .bool (noDiv ((prs k).take i) p) ∧ wq = y1) (fun _ iv _ => n - (intOf iv).toNat)
      case atStart => exact ⟨0, by omega, rfl, by simp [noDiv], by first | trivial | rfl⟩
      case round =>
        obtain ⟨i, hin, rfl, rfl, hwy⟩ := hrel
        have hwz := hwy.symm
        subst hwz
        clear hwy
        by_cases hlt : i < n
        · have hlt' : (i : Int) < n := by omega
          obtain ⟨q, ha, hqb, hql, hcell, -, -⟩ := own_us HI.out hlt
          subst ha
          obtain ⟨d, hd⟩ : ∃ d, d = (prs k).getD i 0 := ⟨_, rfl⟩
          rw [← hd] at hcell
          have hdm := prs_le k d (by rw [hd, List.getD_eq_getElem?_getD, List.getElem?_eq_getElem (by have := HN.out; omega)]; exact List.getElem_mem _)
          have hd0 : ¬ (d : Int) = 0 := by omega
          obtain ⟨r, hr⟩ : ∃ r : Nat, r = p % d := ⟨_, rfl⟩
          have e2 : (p : Int) % (d : Int) = (r : Int) := by rw [hr]; exact (Int.natCast_emod p d).symm
          have e3 : (p : Int).tmod (d : Int) = (r : Int) := by rw [Int.tmod_eq_emod_of_nonneg (by omega)]; exact e2
          have hrb : r < 400 := by rw [hr]; have := Nat.mod_lt p (show d > 0 by omega); omega
          have w2 : IntKind.u64.wrap (r : Int) = (r : Int) := wrap64 _ (by omega) (by omega)
          have HT := Lib.hid (show noDiv ((prs k).take (i + 1)) p = (noDiv ((prs k).take i) p && (r != 0)) by rw [noDiv_take _ _ _ (by have := HN.out; omega), ← hd, ← hr])
          clear hd hr
          by_cases hr0 : r = 0
          · subst hr0
            go_wp2_with fail
            go_roundw
            case rel => exact ⟨i + 1, by omega, by go_num, by rw [HT.out]; simp, by first | trivial | rfl⟩
            case measure => simp [intOf]; omega
          · have hr0' : ¬ (r : Int) = 0 := by omega
            go_wp2_with fail
            go_roundw
            case rel => exact ⟨i + 1, by omega, by go_num, by rw [HT.out]; simp [hr0], by first | trivial | rfl⟩
            case measure => simp [intOf]; omega
        · have hge : ¬ (i : Int) < n := by omega
          have HT := Lib.hid (show (prs k).take i = prs k from List.take_of_length_le (by have := HN.out; omega))
          rw [HT.out]
          by_cases hpr : noDiv (prs k) p = true
          · have HL := Lib.hid (show prs (k + 1) = prs k ++ [p] by simp only [prs]; rw [← HP.out, if_pos hpr])
            rw [hpr]
            have HI1 := Lib.hid (HI.out.alloc (.cells #[.int .u64 (p : Int)] 61))
            have HV := Lib.hid (us_one1 p y1 y1.heap.size rfl)
            go_wp2_with (first | (at_builtin; refine wpList_append_own _ rfl _ _ 58 rfl w.heap.size 61 i0 (.int .u64 0) 1 8 Tryd.underlying58 hi hz0 hz1 hz2 rfl (by decide) _ _ _ rfl HI1.out ⟨y1.heap.size, 0, none⟩ 1 1 (us [p]) rfl rfl HV.out (us_one _) ?d3 ?d4 ?d5 ?_))
            case d3 => unfold maxLen; omega
            case d4 => omega
            case d5 => first | omega | (simp; omega)
            intro v2 w2_ hown2 hgrow2 _
            have hb2 : Below w.heap.size w w2_ := (HU.out.alloc hsz _).grown hgrow2 (by simp; omega) (fun q hq => (HI.out.lt q hq).1)
            have HO2 := Lib.hid (show w2_.ownsRow w.heap.size 61 1 v2 (n + 1) (us (prs (k + 1))) by rw [HL.out, us_append]; exact hown2)
            obtain ⟨a9, c9, hv9⟩ := own_formU HO2.out
            subst hv9
            clear hown2 hgrow2 HI HI1 HV
            go_wp2_with fail
            go_roundw
            case rel => exact ⟨k + 1, n + 1, p1, a9, c9, by omega, by omega, HP1.out, Lib.hid (by rw [HL.out, List.length_append, ← HN.out]; rfl), rfl, rfl, HO2, Lib.hid hb2⟩
            case measure => simp [intOf]; omega
          · have hpf : noDiv (prs k) p = false := by simpa using hpr
            have HL := Lib.hid (show prs (k + 1) = prs k by simp only [prs]; rw [← HP.out, if_neg hpr])
            rw [hpf]
            go_wp2_with fail
            go_roundw
            case rel => exact ⟨k + 1, n, p1, a, c, by omega, by omega, HP1.out, Lib.hid (by rw [HL.out]; exact HN.out), rfl, rfl, by rw [HL.out]; exact HI, HU⟩
            case measure => simp [intOf]; omega
    · have hn' : ¬ (n : Int) < 64 := by omega
      have HE := Lib.hid (show prs k = prs 310 ∧ n = 64 by
        have h := HN.out
        rcases Nat.lt_or_ge k 310 with h1 | h1
        · have h2 := prs_up k (309 - k)
          rw [show k + (309 - k) = 309 by omega, prs_309] at h2
          omega
        · have e : k = 310 := by omega
          rw [e] at h ⊢
          exact ⟨rfl, by rw [h, prs_all]⟩)
      go_wp2_with fail
      go_ret
      exact ⟨⟨_, rfl, by have h := HI.out; rw [HE.out.1, HE.out.2] at h; rw [HE.out.2]; exact h⟩, HU.out⟩

/-- a number's first parts of 16 bits -/
def spl (x n : Nat) : List Nat := (List.range n).map fun j => x / 65536 ^ j % 65536

theorem spl_succ (x n : Nat) : spl x (n + 1) = spl x n ++ [x / 65536 ^ n % 65536] := by
  unfold spl
  rw [List.range_succ, List.map_append]
  rfl

theorem spl_len (x n : Nat) : (spl x n).length = n := by simp [spl]

set_option maxHeartbeats 8000000 in
set_option maxRecDepth 100000 in
theorem split_any (x : Nat) (w : World) (hx : x < 18446744073709551616) : Calls Tryd.prog 44 #[.int .u64 (x : Int)] w fun e w' => (∃ v', e = .returned v' ∧ w'.ownsRow w.heap.size 61 1 v' 4 (us (spl x 4))) ∧ Below w.heap.size w w' := by
  obtain ⟨i0, hi, hz0, hz1, hz2⟩ := info_parts infoLong
  go_enter Tryd.func44, Tryd.ntmps44
  go_wp2_with fail
  go_loopw [0, 3, 4] (fun xv ov iv wr => ∃ (k n y : Nat) (a : Option Addr) (c : Nat), k ≤ 4 ∧ n = k ∧ xv = .int .u64 (y : Int) ∧ ov = .slice a n c ∧ iv = .int .i64 k ∧ Hid (y = x / 65536 ^ k) ∧ y ≤ x ∧ Hid (wr.ownsRow w.heap.size 61 1 (.slice a n c) n (us (spl x k))) ∧ Hid (Below w.heap.size w wr)) (fun _ _ iv _ => 4 - (intOf iv).toNat)
  case atStart => exact ⟨0, 0, x, none, 0, by omega, rfl, rfl, rfl, rfl, Lib.hid (by simp), by omega, Lib.hid (World.ownsRow_nil _ _ _ _), Lib.hid (Below.refl _ _)⟩
  case round =>
    obtain ⟨k, n, y, a, c, hk, hnk, rfl, rfl, rfl, HY, hyx, HI, HU⟩ := hrel
    have hsz := HU.out.size
    have HNK := Lib.hid hnk
    have hn4 : n ≤ 4 := by omega
    clear hnk
    by_cases hlt : k < 4
    · have hlt' : (k : Int) < 4 := by omega
      obtain ⟨r, hr⟩ : ∃ r : Nat, r = y % 65536 := ⟨_, rfl⟩
      obtain ⟨d, hd⟩ : ∃ r : Nat, r = y / 65536 := ⟨_, rfl⟩
      have e1 : (y : Int) % 65536 = (r : Int) := by omega
      have e2 : (y : Int) / 65536 = (d : Int) := by omega
      have hdx : d ≤ x := by omega
      have HS := Lib.hid (show spl x (k + 1) = spl x k ++ [r] by rw [spl_succ, ← HY.out, hr])
      have HY2 := Lib.hid (show d = x / 65536 ^ (k + 1) by rw [hd, HY.out, Nat.div_div_eq_div_mul, Nat.pow_succ])
      clear hr hd
      have HI1 := Lib.hid (HI.out.alloc (.cells #[.int .u64 (r : Int)] 61))
      have HV := Lib.hid (us_one1 r wr wr.heap.size rfl)
      go_wp2_with (first | (at_builtin; refine wpList_append_own _ rfl _ _ 58 rfl w.heap.size 61 i0 (.int .u64 0) 1 8 Tryd.underlying58 hi hz0 hz1 hz2 rfl (by decide) _ _ _ rfl HI1.out ⟨wr.heap.size, 0, none⟩ 1 1 (us [r]) rfl rfl HV.out (us_one _) ?d3 ?d4 ?d5 ?_))
      case d3 => unfold maxLen; omega
      case d4 => omega
      case d5 => first | omega | (simp; omega)
      intro v2 w2_ hown2 hgrow2 _
      have hb2 : Below w.heap.size w w2_ := (HU.out.alloc hsz _).grown hgrow2 (by simp; omega) (fun q hq => (HI.out.lt q hq).1)
      have HO2 := Lib.hid (show w2_.ownsRow w.heap.size 61 1 v2 (n + 1) (us (spl x (k + 1))) by rw [HS.out, us_append]; exact hown2)
      obtain ⟨a9, c9, hv9⟩ := own_formU HO2.out
      subst hv9
      clear hown2 hgrow2 HI HI1 HV
      go_wp2_with fail
      go_roundw
      case rel => exact ⟨k + 1, n + 1, d, a9, c9, by omega, by have := HNK.out; omega, rfl, rfl, by go_num, HY2, hdx, HO2, Lib.hid hb2⟩
      case measure => simp [intOf]; omega
    · have hge : ¬ (k : Int) < 4 := by omega
      have HK := Lib.hid (show k = 4 by omega)
      go_wp2_with fail
      go_ret
      exact ⟨⟨_, rfl, by have h := HI.out; rw [HNK.out, HK.out] at h; rw [HNK.out, HK.out]; exact h⟩, HU.out⟩

end Go.Proofs.YtndpidmbfdpiaaaDoor.Se
