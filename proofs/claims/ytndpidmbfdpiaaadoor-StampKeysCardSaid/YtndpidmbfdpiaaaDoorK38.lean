/- Layer 22, the document's tables: the product of two numbers in parts. -/
import Derived.Test.YtndpidmbfdpiaaaDoorK37
namespace Go.Proofs.YtndpidmbfdpiaaaDoor.Se
open Go Go.RowKit Go.Proofs.YtndpidmbfdpiaaaDoor Go.Proofs.YtndpidmbfdpiaaaDoor.Au Go.Proofs.YtndpidmbfdpiaaaDoor.Re
set_option linter.unusedVariables false
set_option linter.unusedSimpArgs false

abbrev M64 : Nat := 18446744073709551616

def pin (ai : Nat) (b : List Nat) (i : Nat) (o : List Nat) : Nat → List Nat × Nat
  | 0 => (o, 0)
  | k + 1 =>
    let r := pin ai b i o k
    let n := ((r.1.getD (i + k) 0 + ai * b.getD k 0 % M64) % M64 + r.2) % M64
    (r.1.set (i + k) (n % 65536), n / 65536)

def pout (a b : List Nat) : Nat → List Nat
  | 0 => List.replicate (a.length + b.length) 0
  | i + 1 =>
    let r := pin (a.getD i 0) b i (pout a b i) b.length
    r.1.set (i + b.length) ((r.1.getD (i + b.length) 0 + r.2) % M64)

theorem pin_lt (ai : Nat) (b : List Nat) (i : Nat) (o : List Nat) : ∀ k, (pin ai b i o k).2 < M64
  | 0 => by simp [pin]
  | k + 1 => by
    simp only [pin]
    have h := Nat.mod_lt ((((pin ai b i o k).1.getD (i + k) 0 + ai * b.getD k 0 % M64) % M64 + (pin ai b i o k).2)) (show M64 > 0 by decide)
    have := Nat.div_le_self ((((pin ai b i o k).1.getD (i + k) 0 + ai * b.getD k 0 % M64) % M64 + (pin ai b i o k).2) % M64) 65536
    omega

theorem wrap_add (x y : Nat) : IntKind.u64.wrap ((x : Int) + (y : Int)) = (((x + y) % M64 : Nat) : Int) := by
  rw [IntKind.wrap_u64]
  show _ = (((x + y) % 18446744073709551616 : Nat) : Int)
  omega

theorem wrap_mul (x y : Nat) : IntKind.u64.wrap ((x : Int) * (y : Int)) = (((x * y) % M64 : Nat) : Int) := by
  rw [IntKind.wrap_u64, ← Int.natCast_mul]
  obtain ⟨z, hz⟩ : ∃ z, z = x * y := ⟨_, rfl⟩
  rw [← hz]
  show _ = ((z % 18446744073709551616 : Nat) : Int)
  omega

set_option maxHeartbeats 8000000 in
set_option maxRecDepth 100000 in
theorem product_any (qa qb ca cb na nb N : Nat) (A B : List Nat) (w : World) (hna : na = A.length) (hnb : nb = B.length) (hN : N = na + nb) (ba : na ≤ 16) (bb : nb ≤ 16) (bn : 0 < N) (hA : ∀ j, j < na → w.cell? ⟨qa, j, none⟩ = some (.int .u64 (A.getD j 0 : Nat))) (hB : ∀ j, j < nb → w.cell? ⟨qb, j, none⟩ = some (.int .u64 (B.getD j 0 : Nat))) : Calls Tryd.prog 43 #[.slice (some ⟨qa, 0, none⟩) na ca, .slice (some ⟨qb, 0, none⟩) nb cb] w fun e w' => (∃ v', e = .returned v' ∧ w'.ownsRow w.heap.size 61 1 v' N (us (pout A B na))) ∧ Below w.heap.size w w' := by
  obtain ⟨i0, hi, hz0, hz1, hz2⟩ := info_parts infoLong
  have HA := Lib.hid hA
  have HB := Lib.hid hB
  have HNA := Lib.hid hna
  have HNB := Lib.hid hnb
  have HN := Lib.hid hN
  have en : (na : Int) + (nb : Int) = (N : Int) := by omega
  have bN : N ≤ 32 := by omega
  clear hA hB hna hnb hN
  go_enter Tryd.func43, Tryd.ntmps43
  go_upto_region 2 with (at_make; refine wpList_make_full w rfl _ _ 58 rfl w.heap.size 61 i0 (.int .u64 0) 1 Tryd.underlying58 hi hz0 hz1 .i64 .i64 _ _ N rfl rfl rfl rfl (by rw [hz2]; omega) (by unfold maxLen; omega) (Nat.le_refl _) ?_)
  intro y1 hown hgrow
  have hb1 : Below w.heap.size w y1 := (Below.refl _ w).grown hgrow (Nat.le_refl _) (fun q hq => by cases hq)
  have HO0 := Lib.hid (show y1.ownsRow w.heap.size 61 1 (.slice (some ⟨w.heap.size, 0, none⟩) N N) N (us (pout A B 0)) from by
    have e : us (pout A B 0) = List.replicate N (.int .u64 0) := by simp [us, pout, ← HNA.out, ← HNB.out, ← HN.out]
    rw [e]; simpa [toList_madeCells_one] using hown)
  have HU0 := Lib.hid hb1
  obtain ⟨qo, hqo⟩ : ∃ q, q = w.heap.size := ⟨_, rfl⟩
  rw [← hqo] at HO0 ⊢
  have HQO := Lib.hid hqo
  clear hown hgrow hb1 hqo
  go_wp2_with fail
  go_loopw [6] (fun iv wr => ∃ i : Nat, i ≤ na ∧ iv = .int .i64 i ∧ Hid (wr.ownsRow qo 61 1 (.slice (some ⟨qo, 0, none⟩) N N) N (us (pout A B i))) ∧ Hid (Below w.heap.size w wr)) (fun iv _ => na - (intOf iv).toNat)
  case atStart => exact ⟨0, by omega, rfl, HO0, HU0⟩
  case round =>
    obtain ⟨i, hin, rfl, HI, HU⟩ := hrel
    by_cases hlt : i < na
    · have hlt' : (i : Int) < na := by omega
      obtain ⟨ai, hai⟩ : ∃ x, x = A.getD i 0 := ⟨_, rfl⟩
      have HAI := Lib.hid (show w.cell? ⟨qa, i, none⟩ = some (.int .u64 (ai : Nat)) by rw [hai]; exact HA.out i hlt)
      obtain ⟨o0, ho0⟩ : ∃ o, o = pout A B i := ⟨_, rfl⟩
      have HI0 := Lib.hid (show wr.ownsRow qo 61 1 (.slice (some ⟨qo, 0, none⟩) N N) N (us (pin ai B i o0 0).1) by rw [ho0]; exact HI.out)
      have HST := Lib.hid (show pout A B (i + 1) = (pin ai B i o0 nb).1.set (i + nb) (((pin ai B i o0 nb).1.getD (i + nb) 0 + (pin ai B i o0 nb).2) % M64) by simp only [pout]; rw [← hai, ← ho0, ← HNB.out])
      clear hai ho0
      go_wp2_with fail
      go_loopw [7, 8] (fun cv kv wr => ∃ (k c : Nat), k ≤ nb ∧ kv = .int .i64 k ∧ cv = .int .u64 (c : Int) ∧ c < M64 ∧ Hid (c = (pin ai B i o0 k).2) ∧ Hid (wr.ownsRow qo 61 1 (.slice (some ⟨qo, 0, none⟩) N N) N (us (pin ai B i o0 k).1)) ∧ Hid (Below w.heap.size w wr)) (fun _ kv _ => nb - (intOf kv).toNat)
      case atStart => exact ⟨0, 0, by omega, rfl, rfl, by decide, Lib.hid rfl, HI0, HU⟩
      case round =>
        obtain ⟨k, c, hkn, rfl, rfl, hcb, HC, HP, HU1⟩ := hrel
        by_cases hltk : k < nb
        · have hltk' : (k : Int) < nb := by omega
          obtain ⟨ik, hik⟩ : ∃ z : Nat, z = i + k := ⟨_, rfl⟩
          have e1 : (i : Int) + (k : Int) = (ik : Int) := by omega
          have hikN : ik < N := by have := HN.out; omega
          have hikN' : (ik : Int) < (N : Int) := by omega
          have wi : IntKind.i64.wrap (ik : Int) = (ik : Int) := by rw [IntKind.wrap_i64]; omega
          obtain ⟨q, hq, -, -, hco, hfo, hput⟩ := own_us HP.out hikN
          cases hq
          obtain ⟨bk, hbk⟩ : ∃ x, x = B.getD k 0 := ⟨_, rfl⟩
          have hcb2 : wr.cell? ⟨qb, k, none⟩ = some (.int .u64 (bk : Nat)) := by
            have h := HB.out k hltk
            rw [← hbk] at h
            rw [HU1.out.cell (World.block_lt_of_cell? w _ h)]; exact h
          have hca2 : wr.cell? ⟨qa, i, none⟩ = some (.int .u64 (ai : Nat)) := by
            have h := HAI.out
            rw [HU1.out.cell (World.block_lt_of_cell? w _ h)]; exact h
          obtain ⟨oo, hoo⟩ : ∃ x, x = (pin ai B i o0 k).1.getD ik 0 := ⟨_, rfl⟩
          rw [← hoo] at hco
          obtain ⟨m, hm⟩ : ∃ x, x = ai * bk % M64 := ⟨_, rfl⟩
          obtain ⟨s1, hs1⟩ : ∃ x, x = (oo + m) % M64 := ⟨_, rfl⟩
          obtain ⟨n, hn⟩ : ∃ x, x = (s1 + c) % M64 := ⟨_, rfl⟩
          have w1 : IntKind.u64.wrap ((ai : Int) * (bk : Int)) = (m : Int) := by rw [wrap_mul, hm]
          have w2 : IntKind.u64.wrap ((oo : Int) + (m : Int)) = (s1 : Int) := by rw [wrap_add, hs1]
          have w3 : IntKind.u64.wrap ((s1 : Int) + (c : Int)) = (n : Int) := by rw [wrap_add, hn]
          obtain ⟨r, hr⟩ : ∃ x, x = n % 65536 := ⟨_, rfl⟩
          obtain ⟨d, hd⟩ : ∃ x, x = n / 65536 := ⟨_, rfl⟩
          have e4 : (n : Int) % 65536 = (r : Int) := by omega
          have e5 : (n : Int) / 65536 = (d : Int) := by omega
          have hn64 : n < 18446744073709551616 := by have h := Nat.mod_lt (s1 + c) (show M64 > 0 by decide); rw [← hn] at h; exact h
          have wd : IntKind.u64.wrap (d : Int) = (d : Int) := wrap64 _ (by omega) (by omega)
          have hdM : d < M64 := by have := Nat.mod_lt (s1 + c) (show M64 > 0 by decide); omega
          have hst : pin ai B i o0 (k + 1) = ((pin ai B i o0 k).1.set ik r, d) := by
            simp only [pin]
            rw [← hik, ← hoo, ← hbk, ← HC.out, ← hm, ← hs1, ← hn, ← hr, ← hd]
          have HC2 := Lib.hid (show d = (pin ai B i o0 (k + 1)).2 by rw [hst])
          have HPUT := Lib.hid (show (wr.setCell ⟨qo, ik, none⟩ (.int .u64 (r : Int))).ownsRow qo 61 1 (.slice (some ⟨qo, 0, none⟩) N N) N (us (pin ai B i o0 (k + 1)).1) by rw [hst]; exact hput r)
          clear hik hoo hbk hm hs1 hn hr hd hst hput
          go_wp2_with fail
          refine wp_region_held_drew (S := fun y => y.cell? ⟨qo, ik, none⟩ = some (.int .u64 (oo : Int)) ∧ y.cell? ⟨qa, i, none⟩ = some (.int .u64 (ai : Int)) ∧ y.cell? ⟨qb, k, none⟩ = some (.int .u64 (bk : Int))) (by kernel_rfl) (⟨hco, hca2, hcb2⟩) (fun hS0 => ?_)
          refine wpAnyH_take (i := 0) (v := ?_) rfl (by kernel_rfl) (by kernel_rfl) (by kernel_rfl) (fun _ _ _ h => h) (Or.inl ⟨by kernel_rfl, by (intro wz hSz; go_simp; try with_reducible rfl)⟩) hS0 ?_
          go_simp
          refine wpAnyH_take (i := 1) (v := ?_) rfl (by kernel_rfl) (by kernel_rfl) (by kernel_rfl) (fun _ _ _ h => h) (Or.inl ⟨by kernel_rfl, by (intro wz hSz; go_simp; try with_reducible rfl)⟩) hS0 ?_
          go_simp
          refine wpAnyH_take (i := 2) (v := ?_) rfl (by kernel_rfl) (by kernel_rfl) (by kernel_rfl) (fun _ _ _ h => h) (Or.inl ⟨by kernel_rfl, by (intro wz hSz; go_simp; try with_reducible rfl)⟩) hS0 ?_
          go_simp
          refine wpAnyH_take (i := 3) (v := ?_) rfl (by kernel_rfl) (by kernel_rfl) (by kernel_rfl) (fun _ _ _ h => h) (Or.inl ⟨by kernel_rfl, by (intro wz hSz; go_simp; try with_reducible rfl)⟩) hS0 ?_
          go_simp
          refine wpAnyH_take (i := 4) (v := ?_) rfl (by kernel_rfl) (by kernel_rfl) (by kernel_rfl) (fun _ _ _ h => h) (Or.inl ⟨by kernel_rfl, by (intro wz hSz; go_simp; try with_reducible rfl)⟩) hS0 ?_
          go_simp
          refine wpAnyH_take (i := 5) (v := ?_) rfl (by kernel_rfl) (by kernel_rfl) (by kernel_rfl) (fun _ _ _ h => h) (Or.inl ⟨by kernel_rfl, by (intro wz hSz; have c0 := hSz.1; have c1 := hSz.2.1; have c2 := hSz.2.2; go_simp; try with_reducible rfl)⟩) hS0 ?_
          go_simp
          refine wpAnyH_take (i := 6) (v := ?_) rfl (by kernel_rfl) (by kernel_rfl) (by kernel_rfl) (fun _ _ _ h => h) (Or.inl ⟨by kernel_rfl, by (intro wz hSz; go_simp; try with_reducible rfl)⟩) hS0 ?_
          go_simp
          refine wpAnyH_take (i := 7) (v := ?_) rfl (by kernel_rfl) (by kernel_rfl) (by kernel_rfl) (fun _ _ _ h => h) (Or.inl ⟨by kernel_rfl, by (intro wz hSz; go_simp; try with_reducible rfl)⟩) hS0 ?_
          go_simp
          refine wpAnyH_take (i := 8) (v := ?_) rfl (by kernel_rfl) (by kernel_rfl) (by kernel_rfl) (fun _ _ _ h => h) (Or.inl ⟨by kernel_rfl, by (intro wz hSz; go_simp; try with_reducible rfl)⟩) hS0 ?_
          go_simp
          refine wpAnyH_take (i := 9) (v := ?_) rfl (by kernel_rfl) (by kernel_rfl) (by kernel_rfl) (fun _ _ _ h => h) (Or.inl ⟨by kernel_rfl, by (intro wz hSz; have c0 := hSz.1; have c1 := hSz.2.1; have c2 := hSz.2.2; go_simp; try with_reducible rfl)⟩) hS0 ?_
          go_simp
          refine wpAnyH_take (i := 10) (v := ?_) rfl (by kernel_rfl) (by kernel_rfl) (by kernel_rfl) (fun _ _ _ h => h) (Or.inl ⟨by kernel_rfl, by (intro wz hSz; go_simp; try with_reducible rfl)⟩) hS0 ?_
          go_simp
          refine wpAnyH_take (i := 11) (v := ?_) rfl (by kernel_rfl) (by kernel_rfl) (by kernel_rfl) (fun _ _ _ h => h) (Or.inl ⟨by kernel_rfl, by (intro wz hSz; go_simp; try with_reducible rfl)⟩) hS0 ?_
          go_simp
          refine wpAnyH_take (i := 12) (v := ?_) rfl (by kernel_rfl) (by kernel_rfl) (by kernel_rfl) (fun _ _ _ h => h) (Or.inl ⟨by kernel_rfl, by (intro wz hSz; go_simp; try with_reducible rfl)⟩) hS0 ?_
          go_simp
          refine wpAnyH_take (i := 13) (v := ?_) rfl (by kernel_rfl) (by kernel_rfl) (by kernel_rfl) (fun _ _ _ h => h) (Or.inl ⟨by kernel_rfl, by (intro wz hSz; have c0 := hSz.1; have c1 := hSz.2.1; have c2 := hSz.2.2; go_simp; try with_reducible rfl)⟩) hS0 ?_
          go_simp
          refine wpAnyH_take (i := 14) (v := ?_) rfl (by kernel_rfl) (by kernel_rfl) (by kernel_rfl) (fun _ _ _ h => h) (Or.inl ⟨by kernel_rfl, by (intro wz hSz; go_simp; try with_reducible rfl)⟩) hS0 ?_
          go_simp
          refine wpAnyH_take (i := 15) (v := ?_) rfl (by kernel_rfl) (by kernel_rfl) (by kernel_rfl) (fun _ _ _ h => h) (Or.inl ⟨by kernel_rfl, by (intro wz hSz; go_simp; try with_reducible rfl)⟩) hS0 ?_
          go_simp
          refine wpAnyH_take (i := 16) (v := ?_) rfl (by kernel_rfl) (by kernel_rfl) (by kernel_rfl) (fun _ _ _ h => h) (Or.inl ⟨by kernel_rfl, by (intro wz hSz; go_simp; try with_reducible rfl)⟩) hS0 ?_
          go_simp
          refine wpAnyH_take (i := 17) (v := ?_) rfl (by kernel_rfl) (by kernel_rfl) (by kernel_rfl) (fun _ _ _ h => h) (Or.inl ⟨by kernel_rfl, by (intro wz hSz; go_simp; try with_reducible rfl)⟩) hS0 ?_
          go_simp
          refine wpAnyH_take (i := 18) (v := ?_) rfl (by kernel_rfl) (by kernel_rfl) (by kernel_rfl) (fun _ _ _ h => h) (Or.inl ⟨by kernel_rfl, by (intro wz hSz; go_simp; try with_reducible rfl)⟩) hS0 ?_
          go_simp
          refine wpAnyH_done (by kernel_rfl) ?_ _
          obtain ⟨y2, hy2⟩ : ∃ y, wr.drew = y := ⟨_, rfl⟩
          have hco2 : y2.cell? ⟨qo, ik, none⟩ = some (.int .u64 (oo : Int)) := by rw [← hy2]; exact hco
          have hfo2 : y2.frozen? ⟨qo, ik, none⟩ = false := by rw [← hy2]; exact hfo
          have HP2 := Lib.hid (show (y2.setCell ⟨qo, ik, none⟩ (.int .u64 (r : Int))).ownsRow qo 61 1 (.slice (some ⟨qo, 0, none⟩) N N) N (us (pin ai B i o0 (k + 1)).1) by rw [← hy2]; exact HPUT.out)
          have HU2 := Lib.hid (show Below w.heap.size w y2 by rw [← hy2]; exact HU1.out.drew)
          rw [hy2]
          clear hy2 hco hfo hca2 hcb2 HPUT
          go_wp2_with fail
          go_roundw
          case rel => exact ⟨k + 1, d, by omega, by go_num, rfl, hdM, HC2, HP2, Lib.hid (HU2.out.setCell (by show w.heap.size ≤ qo; have := HQO.out; omega) _)⟩
          case measure => simp [intOf]; omega
        · have hge : ¬ (k : Int) < nb := by omega
          have HKB := Lib.hid (show k = nb by omega)
          obtain ⟨ib, hib⟩ : ∃ z : Nat, z = i + nb := ⟨_, rfl⟩
          have e1 : (i : Int) + (nb : Int) = (ib : Int) := by omega
          have hibN : ib < N := by have := HN.out; omega
          have hibN' : (ib : Int) < (N : Int) := by omega
          obtain ⟨q, hq, -, -, hco, hfo, hput⟩ := own_us HP.out hibN
          cases hq
          obtain ⟨oo, hoo⟩ : ∃ x, x = (pin ai B i o0 k).1.getD ib 0 := ⟨_, rfl⟩
          rw [← hoo] at hco
          obtain ⟨s1, hs1⟩ : ∃ x, x = (oo + c) % M64 := ⟨_, rfl⟩
          have w2 : IntKind.u64.wrap ((oo : Int) + (c : Int)) = (s1 : Int) := by rw [wrap_add, hs1]
          have e2 : ((oo : Int) + (c : Int)) % 18446744073709551616 = (s1 : Int) := by have h := wrap_add oo c; rw [IntKind.wrap_u64] at h; rw [h, hs1]
          have HPUT := Lib.hid (show (wr.setCell ⟨qo, ib, none⟩ (.int .u64 (s1 : Int))).ownsRow qo 61 1 (.slice (some ⟨qo, 0, none⟩) N N) N (us (pout A B (i + 1))) by rw [HST.out, ← HKB.out, show i + k = ib by rw [hib, HKB.out], ← HC.out, ← hoo, ← hs1]; exact hput s1)
          clear hib hoo hs1 hput
          go_wp2_with fail
          go_roundw
          case rel => exact ⟨i + 1, by omega, by go_num, HPUT, Lib.hid (HU1.out.setCell (by show w.heap.size ≤ qo; have := HQO.out; omega) _)⟩
          case measure => simp [intOf]; omega
    · have hge : ¬ (i : Int) < na := by omega
      have HK := Lib.hid (show i = na by omega)
      go_wp2_with fail
      go_ret
      exact ⟨⟨_, rfl, by have h := HI.out; rw [HK.out] at h; rw [← HQO.out]; exact h⟩, HU.out⟩

end Go.Proofs.YtndpidmbfdpiaaaDoor.Se
