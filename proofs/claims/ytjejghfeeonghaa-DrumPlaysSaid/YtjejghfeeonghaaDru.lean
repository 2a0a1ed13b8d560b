/- Layer 23: the document's Crash and New. -/
import Derived.Test.YtjejghfeeonghaaDrt
import Derived.Test.YtjejghfeeonghaaDre
import Derived.BigQuiet
namespace Go.Proofs.Ytjejghfeeonghaa.Dr
open Go Go.RowKit Go.Maps Go.Proofs.Ytjejghfeeonghaa Go.Proofs.Ytjejghfeeonghaa.Au Go.Proofs.Ytjejghfeeonghaa.Re
set_option linter.unusedVariables false
set_option linter.unusedSimpArgs false

/-- is block t among those that were kept, when the loose ones ahead of i are done, and of i's the first k of the keepers? -/
def cK (M : List E1) (K : List Int) (i k : Nat) (t : Int) : Bool :=
  (decide (t ∈ K) && (M.take i).any fun p => decide (p.1 = t)) || (decide (t ∈ K.take k) && decide ((M[i]?).map (·.1) = some t))

theorem ck_0 (M : List E1) (K : List Int) (t : Int) : cK M K 0 0 t = false := by simp [cK]

theorem ck_yes {M : List E1} {K : List Int} {i k : Nat} {y : E1} {a : Int} (hy : M[i]? = some y) (ha : K[k]? = some a) (h : a = y.1) (t : Int) : cK M K i (k + 1) t = (decide (t = y.1) || cK M K i k t) := by
  unfold cK
  rw [hy, List.take_add_one, ha, h]
  by_cases e : t = y.1
  · simp [e]
  · simp [e, Ne.symm e]

theorem ck_no {M : List E1} {K : List Int} {i k : Nat} {y : E1} {a : Int} (hy : M[i]? = some y) (ha : K[k]? = some a) (h : a ≠ y.1) (t : Int) : cK M K i (k + 1) t = cK M K i k t := by
  unfold cK
  rw [hy, List.take_add_one, ha]
  by_cases e : y.1 = t
  · subst e; simp [Ne.symm h]
  · simp [e]

theorem ck_next {M : List E1} {K : List Int} {i : Nat} {y : E1} (hy : M[i]? = some y) (t : Int) : cK M K (i + 1) 0 t = cK M K i K.length t := by
  unfold cK
  rw [hy, List.take_add_one, hy, List.take_length]
  by_cases e : y.1 = t <;> by_cases e2 : t ∈ K <;> simp [e, e2]

theorem ck_end {M : List E1} {K : List Int} (t : Int) : cK M K M.length 0 t = (decide (t ∈ K) && (findM M t).isSome) := by
  unfold cK findM
  have e : (M.any fun p => decide (p.1 = t)) = (M.find? fun p => decide (p.1 = t)).isSome := by rw [Bool.eq_iff_iff, List.find?_isSome, List.any_eq_true]
  rw [List.take_length, List.take_zero, Option.isSome_map, e]
  simp

theorem keep_at (M : List E1) : ∀ (K : List Int) (L : List Bk) (t : Nat), t < L.length → (∀ p ∈ M, 0 ≤ p.1 ∧ p.1 < L.length) → (keepL M K L).getD t zB = if (t : Int) ∈ K then (findM M t).getD (L.getD t zB) else L.getD t zB
  | [], L, t, _, _ => by simp [keepL]
  | a :: K, L, t, ht, hM => by
    have h1 : (keep1 M L a).length = L.length := by unfold keep1; split <;> simp
    have ih := keep_at M K (keep1 M L a) t (by omega) (by rw [h1]; exact hM)
    rw [show keepL M (a :: K) L = keepL M K (keep1 M L a) from rfl, ih]
    have h2 : (keep1 M L a).getD t zB = if (t : Int) = a then (findM M t).getD (L.getD t zB) else L.getD t zB := by
      unfold keep1
      cases hf : findM M a with
      | none =>
        by_cases e : (t : Int) = a
        · rw [if_pos e, e, hf]; rfl
        · rw [if_neg e]
      | some x =>
        have hk := hM _ (find_mem hf)
        rw [getD_set L a.toNat t x (by omega)]
        by_cases e : (t : Int) = a
        · rw [if_pos e, if_pos (by omega), e, hf]; rfl
        · rw [if_neg e, if_neg (by omega)]
    rw [h2]
    by_cases e : (t : Int) = a
    · subst e
      cases findM M (t : Int) <;> simp
    · by_cases e2 : (t : Int) ∈ K <;> simp [e, e2]

theorem find_at {M : List E1} (hu : M.Pairwise fun p q => p.1 < q.1) {i : Nat} {y : E1} (hy : M[i]? = some y) : findM M y.1 = some y.2 :=
  find_some (find_no (take_ne hu hy)) hy rfl

/-- what the sure list is on the way -/
def Kept (s : Dst) (K : List Int) (i k : Nat) (L : List Bk) : Prop := L.length = s.n ∧ ∀ t, t < s.n → L.getD t zB = if cK s.M K i k t then (findM s.M t).getD zB else s.L.getD t zB

theorem kept_end {s : Dst} {K : List Int} {L : List Bk} (h : Kept s K s.M.length 0 L) (hl : s.L.length = s.n) (hM : ∀ p ∈ s.M, 0 ≤ p.1 ∧ p.1 < s.n) : L = keepL s.M K s.L := by
  have hlen : ∀ (K : List Int) (L : List Bk), (keepL s.M K L).length = L.length := fun K => by
    induction K with
    | nil => intro L; rfl
    | cons a K ih => intro L; rw [show keepL s.M (a :: K) L = keepL s.M K (keep1 s.M L a) from rfl, ih]; unfold keep1; split <;> simp
  refine list_ext _ _ (by rw [hlen, hl]; exact h.1) fun t ht => ?_
  rw [h.1] at ht
  rw [h.2 t ht, keep_at s.M K s.L t (by omega) (by rw [hl]; exact hM), ck_end]
  by_cases e : (t : Int) ∈ K
  · cases hf : findM s.M (t : Int) <;> simp [e]
  · simp [e]

set_option maxHeartbeats 8000000 in
set_option maxRecDepth 100000 in
theorem rcrash_any (h : Nat) (aS : Option Addr) (cS : Nat) (aM : Option Addr) (cM : Nat) (S : List E1) (s : Dst) (w : World) (hr : RAt w h aS cS aM cM S s) (a : Option Addr) (m c : Nat) (K : List Int) (hm : m = K.length) (hmb : m ≤ 1000000) (hK : KS w (fun j => j ≠ h) a K) : Calls Try.prog 23 #[.pointer (some ⟨h, 0, none⟩), .slice a m c] w fun e w' => e = .returned (.tuple #[]) ∧ (∃ aS cS aM cM S, RAt w' h aS cS aM cM S (crashS s K)) ∧ Aw (fun j => j ≠ h) w w' := by
  have hhw := lt_heap hr.dev
  have HD0 := Lib.hid hr
  have HK := Lib.hid hK
  have HMK := Lib.hid hm
  obtain ⟨n, hn⟩ : ∃ n, n = s.M.length := ⟨_, rfl⟩
  have HN := Lib.hid hn
  have hnb : n ≤ 10000 := by have e1 := hr.okM.len; have e2 := hr.n0; omega
  have HUP := Lib.hid hr.okM.up
  have HKE := Lib.hid hr.okM.key
  have HLS := Lib.hid hr.len
  clear hr hn hm hK
  go_enter Try.func23, Try.ntmps23
  go_wp2_with fail
  go_loopw [4] (fun iv wr => ∃ (j : Nat) (aS' : Option Addr) (cS' : Nat) (S' : List E1) (L' : List Bk), j ≤ n ∧ iv = .int .i64 j ∧ Hid (Kept s K j 0 L') ∧ Hid (RAt wr h aS' cS' aM cM S' { s with L := L' }) ∧ Hid (Aw (fun j => j ≠ h) w wr)) (fun iv _ => n - (intOf iv).toNat)
  case atStart => exact ⟨0, _, _, _, s.L, by omega, rfl, Lib.hid ⟨HLS.out, fun t _ => by rw [ck_0]; rfl⟩, HD0, Lib.hid (Aw.refl _ _)⟩
  case round =>
    clear HD0
    obtain ⟨j, aS', cS', S', L', hj, rfl, HC, HD, HA⟩ := hrel
    have c2 := cell_of_row _ _ 2 _ _ _ HD.out.dev
    simp at c2
    rw [← HN.out] at c2
    by_cases hlt : j < n
    · have hlt' : (j : Int) < (n : Int) := by omega
      have hjM : j < s.M.length := by rw [← HN.out]; exact hlt
      obtain ⟨y, hyj⟩ : ∃ y, s.M[j]? = some y := ⟨_, List.getElem?_eq_getElem hjM⟩
      obtain ⟨aM', kM, e1, hRL⟩ := HD.out.loose.open HD.out.okM.b128
      cases e1
      obtain ⟨g, ha, hg0⟩ := (show ∃ g, aM = some ⟨g, 0, none⟩ ∧ g < wr.heap.size from by
        rcases hRL with e | ⟨g, h1, h2, h3⟩
        · have e2 := hyj; rw [show s.M = [] from e] at e2; simp at e2
        · exact ⟨g, h1, h2⟩)
      subst ha
      have HYJ := Lib.hid hyj
      clear hRL hg0 hyj hjM
      go_wp2_with fail
      clear c2
      go_loopw [5] (fun kv wr => ∃ (k : Nat) (aS' : Option Addr) (cS' : Nat) (S' : List E1) (L' : List Bk), k ≤ m ∧ kv = .int .i64 k ∧ Hid (Kept s K j k L') ∧ Hid (RAt wr h aS' cS' (some ⟨g, 0, none⟩) cM S' { s with L := L' }) ∧ Hid (Aw (fun j => j ≠ h) w wr)) (fun kv _ => m - (intOf kv).toNat)
      case atStart => exact ⟨0, _, _, _, _, by omega, rfl, HC, HD, HA⟩
      case round =>
        clear HC HD HA
        obtain ⟨k, aS', cS', S', L', hk, rfl, HC, HD0, HA0⟩ := hrel
        by_cases hlk : k < m
        · have hlk' : (k : Int) < (m : Int) := by omega
          have hkK : k < K.length := by rw [← HMK.out]; exact hlk
          obtain ⟨kb, ko, hab, hkb, hoff, hcell⟩ := (show ∃ kb ko, a = some ⟨kb, ko, none⟩ ∧ kb < w.heap.size ∧ kb ≠ h ∧ ∀ j, j < K.length → w.cell? ⟨kb, ko + j, none⟩ = some (.int .i64 (K.getD j 0)) from by
            rcases HK.out.2 with e | e
            · rw [e] at hkK; simp at hkK
            · exact e)
          subst hab
          obtain ⟨q, hq⟩ : ∃ q, q = K.getD k 0 := ⟨_, rfl⟩
          have HKQ := Lib.hid (show K[k]? = some q by rw [hq, List.getD_eq_getElem?_getD, List.getElem?_eq_getElem hkK]; rfl)
          have ck : wr.cell? ⟨kb, ko + k, none⟩ = some (.int .i64 q) := by
            rw [hq, HA0.out.cell (p := ⟨kb, ko + k, none⟩) hoff hkb]; exact hcell k hkK
          obtain ⟨z, hz⟩ : ∃ z : Dst, z = { s with L := L' } := ⟨_, rfl⟩
          have HZ := Lib.hid hz
          have HZM := Lib.hid (show z.M = s.M by rw [hz])
          have HZN := Lib.hid (show z.n = s.n by rw [hz])
          have HZL := Lib.hid (show z.L = L' by rw [hz])
          have HNL := Lib.hid (show z.M.length = n by rw [hz]; exact HN.out.symm)
          rw [← hz] at HD0
          have HYZ := Lib.hid (show z.M[j]? = some y by rw [HZM.out]; exact HYJ.out)
          obtain ⟨yi, hyi⟩ : ∃ i, i = y.1 := ⟨_, rfl⟩
          have c2 := cell_of_row _ _ 2 _ _ _ HD0.out.dev
          simp at c2
          rw [HNL.out] at c2
          have ky : wr.cell? ⟨g, j * 129, none⟩ = some (.int .i64 yi) := by
            obtain ⟨aM', kM, e1, hRL⟩ := HD0.out.loose.open HD0.out.okM.b128
            cases e1
            rcases hRL with e | ⟨g', h1, h2, h3⟩
            · have e2 := HYZ.out; rw [e] at e2; simp at e2
            · cases h1
              have e := h3 j y HYZ.out 0 (.int .i64 yi) (by rw [hyi]; rfl)
              simpa using e
          have HYI := Lib.hid hyi
          clear hq hkb hoff hcell hkK hz hyi
          by_cases hqy : q = yi
          · have d3 : (q == yi) = true := by simp [hqy]
            have HE := Lib.hid (show q = y.1 by rw [← HYI.out]; exact hqy)
            clear hqy
            go_wp2_with fail
            go_quiet (fail)
            obtain ⟨wq, hwq⟩ : ∃ y, wr.drewN nq = y := ⟨_, rfl⟩
            have HD := Lib.hid (show RAt wq h aS' cS' (some ⟨g, 0, none⟩) cM S' z by rw [← hwq]; exact HD0.out.on (drawnB (Below.refl _ _) _))
            have HA := Lib.hid (show Aw (fun j => j ≠ h) w wq by rw [← hwq]; exact HA0.out.trans (Aw.of (drawnB (Below.refl _ _) _)))
            rw [hwq]
            clear hwq ck c2 ky HD0 HA0
            have HFA := Lib.hid (find_at HUP.out HYJ.out)
            have hyk := HKE.out y (List.mem_of_getElem? HYJ.out)
            have HGD := Lib.hid (fun t => getD_set L' y.1.toNat t y.2 (by have e := HC.out.1; omega))
            have HSU := Lib.hid (show ∀ i, i < z.n → (z.L.set y.1.toNat y.2).getD i zB = (findM (putM y.1 y.2 S') (i : Int)).getD zB from fun i hi => by
              rw [HZL.out, HGD.out, find_put]
              by_cases e : i = y.1.toNat
              · rw [if_pos e, if_pos (by omega)]; rfl
              · rw [if_neg e, if_neg (by omega), ← HZL.out]; exact HD.out.sur i hi)
            have HLL := Lib.hid (show (z.L.set y.1.toNat y.2).length = z.n by rw [List.length_set]; exact HD.out.len)
            have HCN := Lib.hid (show Kept s K j (k + 1) (z.L.set y.1.toNat y.2) from ⟨by rw [HLL.out, HZN.out], fun t ht => by
              rw [HZL.out, HGD.out, ck_yes HYJ.out HKQ.out HE.out, HC.out.2 t ht]
              by_cases e : (t : Int) = y.1
              · rw [if_pos (by omega), e, HFA.out]; simp
              · rw [if_neg (by omega)]; simp [e]⟩)
            clear hyk
            go_wp2_with fail
            obtain ⟨aM', kM, e1, hRL⟩ := HD.out.loose.open HD.out.okM.b128
            cases e1
            obtain ⟨hg, hrg⟩ := (show g < wq.heap.size ∧ wq.rangeAt g (j * 129) (ent y) from by
              rcases hRL with e | ⟨g', h1, h2, h3⟩
              · have e2 := HYZ.out; rw [e] at e2; simp at e2
              · cases h1; exact ⟨h2, h3 j y HYZ.out⟩)
            clear hRL
            have HY1 := Lib.hid (HD.out.okM.b128 y (List.mem_of_getElem? HYZ.out))
            have HYK := Lib.hid (HD.out.okM.key y (List.mem_of_getElem? HYZ.out))
            obtain ⟨yl, HYL⟩ : ∃ l, Hid (l = ent y) := ⟨_, Lib.hid rfl⟩
            have HIY := Lib.hid (infoEL (show yl.length = 129 by rw [HYL.out]; exact ent_len HY1.out))
            have HRG := Lib.hid (show wq.rangeAt g (j * 129) yl by rw [HYL.out]; exact hrg)
            have HDV := Lib.hid HD.out.dev
            rw [HNL.out] at HDV
            clear hrg
            refine Ol.way_drew (S := fun y => y.heap[h]? = some (.cells #[.int .i64 z.n, .slice aS' S'.length cS', .slice (some ⟨g, 0, none⟩) n cM, .int .i64 z.fuse, .int .i64 z.steps, .bool z.down] 60 (0, 0)) ∧ y.rangeAt g (j * 129) yl) (stop := 15) (by kernel_rfl) (⟨HDV.out, HRG.out⟩) (fun hS0 => ?_)
            obtain ⟨y3, hy3⟩ : ∃ y, wq.drew = y := ⟨_, rfl⟩
            have HD3 := Lib.hid (show RAt y3 h aS' cS' (some ⟨g, 0, none⟩) cM S' z by rw [← hy3]; exact HD.out.drew)
            have HA3 := Lib.hid (show Aw (fun j => j ≠ h) w y3 by rw [← hy3]; exact HA.out.trans (Aw.of (Below.refl _ _).drew))
            have hg3 : g < y3.heap.size := by rw [← hy3]; exact hg
            rw [hy3] at hS0 ⊢
            clear hy3 HD HA HDV hg HRG
            obtain ⟨aS2, kS, e1, hRL⟩ := HD3.out.sure.open HD3.out.okS.b128
            cases e1
            have HPC := Lib.hid (show Calls Try.prog 32 #[.slice aS' S'.length cS', .agg yl.toArray] y3 fun e w' => ∃ v', e = .returned v' ∧ EB w' y3.heap.size v' (putM y.1 y.2 S') ∧ Below y3.heap.size y3 w' by
              rw [HYL.out]
              exact put_any aS' cS' S' y y3 hRL HD3.out.okS.b128 (by have := HD3.out.okS.len; have := HD3.out.n0; omega) HY1.out HD3.out.okS.up)
            have HOM := Lib.hid (show Okl z.n (putM y.1 y.2 S') from HD3.out.okS.put (x := y) HY1.out HYK.out)
            clear hRL
            refine Ol.way_plain (i := 0) (v := ?_) rfl (by kernel_rfl) (by kernel_rfl) (by kernel_rfl) (fun _ _ _ h => h) (by decide) (Or.inl ⟨by kernel_rfl, by (intro wz _; go_simp; try with_reducible rfl)⟩) (Ol.on hS0) ?_
            go_simp
            refine Ol.way_plain (i := 1) (v := ?_) rfl (by kernel_rfl) (by kernel_rfl) (by kernel_rfl) (fun _ _ _ h => h) (by decide) (Or.inl ⟨by kernel_rfl, by (intro wz _; go_simp; try with_reducible rfl)⟩) (Ol.on hS0) ?_
            go_simp
            refine Ol.way_plain (i := 2) (v := ?_) rfl (by kernel_rfl) (by kernel_rfl) (by kernel_rfl) (fun _ _ _ h => h) (by decide) (Or.inl ⟨by kernel_rfl, by (intro wz _; go_simp; try with_reducible rfl)⟩) (Ol.on hS0) ?_
            go_simp
            refine Ol.way_plain (i := 3) (v := ?_) rfl (by kernel_rfl) (by kernel_rfl) (by kernel_rfl) (fun _ _ _ h => h) (by decide) (Or.inl ⟨by kernel_rfl, by (intro wz _; go_simp; try with_reducible rfl)⟩) (Ol.on hS0) ?_
            go_simp
            refine Ol.way_take (i := 4) (v := ?_) rfl (by kernel_rfl) (by kernel_rfl) (by kernel_rfl) (fun _ _ _ h => h) (by decide) (by kernel_rfl) (by kernel_rfl) (Or.inl ⟨by kernel_rfl, by (intro wz hSz; have c1 := cell_of_row _ _ 1 _ _ _ hSz.1; simp at c1; go_simp; try with_reducible rfl)⟩) hS0 ?_
            go_simp
            refine Ol.way_plain (i := 5) (v := ?_) rfl (by kernel_rfl) (by kernel_rfl) (by kernel_rfl) (fun _ _ _ h => h) (by decide) (Or.inl ⟨by kernel_rfl, by (intro wz _; go_simp; try with_reducible rfl)⟩) (Ol.on hS0) ?_
            go_simp
            refine Ol.way_plain (i := 6) (v := ?_) rfl (by kernel_rfl) (by kernel_rfl) (by kernel_rfl) (fun _ _ _ h => h) (by decide) (Or.inl ⟨by kernel_rfl, by (intro wz _; go_simp; try with_reducible rfl)⟩) (Ol.on hS0) ?_
            go_simp
            refine Ol.way_plain (i := 7) (v := ?_) rfl (by kernel_rfl) (by kernel_rfl) (by kernel_rfl) (fun _ _ _ h => h) (by decide) (Or.inl ⟨by kernel_rfl, by (intro wz _; go_simp; try with_reducible rfl)⟩) (Ol.on hS0) ?_
            go_simp
            refine Ol.way_take (i := 8) (v := ?_) rfl (by kernel_rfl) (by kernel_rfl) (by kernel_rfl) (fun _ _ _ h => h) (by decide) (by kernel_rfl) (by kernel_rfl) (Or.inl ⟨by kernel_rfl, by (intro wz hSz; have c2 := cell_of_row _ _ 2 _ _ _ hSz.1; simp at c2; go_simp; try with_reducible rfl)⟩) hS0 ?_
            go_simp
            refine Ol.way_plain (i := 9) (v := ?_) rfl (by kernel_rfl) (by kernel_rfl) (by kernel_rfl) (fun _ _ _ h => h) (by decide) (Or.inl ⟨by kernel_rfl, by (intro wz _; go_simp; try with_reducible rfl)⟩) (Ol.on hS0) ?_
            go_simp
            refine Ol.way_plain (i := 10) (v := ?_) rfl (by kernel_rfl) (by kernel_rfl) (by kernel_rfl) (fun _ _ _ h => h) (by decide) (Or.inl ⟨by kernel_rfl, by (intro wz _; go_simp; try with_reducible rfl)⟩) (Ol.on hS0) ?_
            go_simp
            refine Ol.way_take (i := 11) (v := .agg yl.toArray) rfl (by kernel_rfl) (by kernel_rfl) (by kernel_rfl) (fun _ _ _ h => h) (by decide) (by kernel_rfl) (by kernel_rfl) (yieldsIf_load_mid (by kernel_rfl) 64 (.tmp 44) rfl g (j * 129) rfl yl _ (fun yy hh => hh.2) Try.underlying64 rfl HIY.out) hS0 ?_
            go_simp
            refine Ol.way_ready (rs := [12]) (by kernel_rfl) (by simp) ?_
            refine Ol.Each.cons rfl (fun K hK => ?_) Ol.Each.nil
            try go_simp
            go_wp2_with (go_at_call 32; refine HPC.out.mono ?_; rintro e y4 ⟨v', rfl, hE4, hb4⟩)
            obtain ⟨aN, cN, rfl, -⟩ := HOM.out.nval hE4
            have HE4 := Lib.hid hE4
            have HD4 := Lib.hid (HD3.out.on hb4)
            have HA4 := Lib.hid (HA3.out.trans (Aw.of hb4))
            refine Ol.keep hK _ _ (⟨(hb4.block h (lt_heap hS0.1)).trans hS0.1, fun i u hu => (hb4.cell (p := ⟨g, j * 129 + i, none⟩) hg3).trans (hS0.2 i u hu)⟩) (fun hS8 => ?_)
            clear hK K
            refine Ol.way_plain (i := 13) (v := ?_) rfl (by kernel_rfl) (by kernel_rfl) (by kernel_rfl) (fun _ _ _ h => h) (by decide) (Or.inl ⟨by kernel_rfl, by (intro wz _; go_simp; try with_reducible rfl)⟩) (Ol.on hS8) ?_
            go_simp
            refine Ol.way_plain (i := 14) (v := ?_) rfl (by kernel_rfl) (by kernel_rfl) (by kernel_rfl) (fun _ _ _ h => h) (by decide) (Or.inl ⟨by kernel_rfl, by (intro wz _; go_simp; try with_reducible rfl)⟩) (Ol.on hS8) ?_
            go_simp
            refine Ol.way_ready (rs := [15]) (by kernel_rfl) (by simp) ?_
            refine Ol.Each.cons rfl (fun K hK => ?_) Ol.Each.nil
            have p0 := cell_of_row _ _ 1 _ _ _ HD4.out.dev
            simp at p0
            have fz := row_free' HD4.out.dev
            go_simp
            clear fz p0
            have HD5 := Lib.hid (show RAt (y4.setCell ⟨h, 1, none⟩ (.slice aN (putM y.1 y.2 S').length cN)) h aN cN (some ⟨g, 0, none⟩) cM (putM y.1 y.2 S') { z with L := z.L.set y.1.toNat y.2 } from HD4.out.setS (HE4.out.mono (Nat.zero_le _)) HOM.out _ HLL.out HSU.out)
            have HA5 := Lib.hid (HA4.out.set (b := h) (by simp) 1 (.slice aN (putM y.1 y.2 S').length cN))
            refine Ol.past hK (by kernel_rfl) _ _ ?_
            clear hK K
            refine Ol.way_done (by kernel_rfl) ?_ _
            go_wp2_with fail
            go_roundw
            case rel => exact ⟨k + 1, aN, cN, _, z.L.set y.1.toNat y.2, by omega, by go_num, HCN, Lib.hid (by have e := HD5.out; rw [HZ.out] at e ⊢; exact e), HA5⟩
            case measure => simp [intOf]; omega
          · have d3 : (q == yi) = false := by simp [hqy]
            have HE := Lib.hid (show q ≠ y.1 by rw [← HYI.out]; exact hqy)
            clear hqy
            go_wp2_with fail
            go_quiet (fail)
            obtain ⟨wq, hwq⟩ : ∃ y, wr.drewN nq = y := ⟨_, rfl⟩
            have HD := Lib.hid (show RAt wq h aS' cS' (some ⟨g, 0, none⟩) cM S' z by rw [← hwq]; exact HD0.out.on (drawnB (Below.refl _ _) _))
            have HA := Lib.hid (show Aw (fun j => j ≠ h) w wq by rw [← hwq]; exact HA0.out.trans (Aw.of (drawnB (Below.refl _ _) _)))
            rw [hwq]
            clear hwq ck c2 ky HD0 HA0
            have HCN := Lib.hid (show Kept s K j (k + 1) L' from ⟨HC.out.1, fun t ht => by rw [ck_no HYJ.out HKQ.out HE.out]; exact HC.out.2 t ht⟩)
            go_wp2_with fail
            go_roundw
            case rel => exact ⟨k + 1, _, _, _, L', by omega, by go_num, HCN, Lib.hid (by have e := HD.out; rw [HZ.out] at e; exact e), HA⟩
            case measure => simp [intOf]; omega
        · have hge : ¬ (k : Int) < (m : Int) := by omega
          have hkm : k = K.length := by have := HMK.out; omega
          have HCN := Lib.hid (show Kept s K (j + 1) 0 L' from ⟨HC.out.1, fun t ht => by rw [ck_next HYJ.out, ← hkm]; exact HC.out.2 t ht⟩)
          clear hkm
          go_wp2_with fail
          go_roundw
          case rel => exact ⟨j + 1, _, _, _, L', by omega, by go_num, HCN, HD0, HA0⟩
          case measure => simp [intOf]; omega
    · have hge : ¬ (j : Int) < (n : Int) := by omega
      have hjn : j = s.M.length := by have := HN.out; omega
      have HLE := Lib.hid (show L' = keepL s.M K s.L by
        have e := HC.out
        rw [hjn] at e
        exact kept_end e HLS.out HKE.out)
      have fz := row_free' HD.out.dev
      have HE1 := HD.out.setM (a := none) (c := 0) (M := []) (World.ownsRow_nil _ _ _ _) (Okl.nil _)
      have HE2 := HE1.turn (s' := { s with L := L', M := [], fuse := -1 }) 3 (.int .i64 (-1)) rfl rfl rfl rfl
      have HE3 := Lib.hid (HE2.turn (s' := { s with L := L', M := [], fuse := -1, down := false }) 5 (.bool false) rfl rfl rfl rfl)
      have HAE := Lib.hid (((HA.out.set (b := h) (by simp) 2 (.slice none 0 0)).set (b := h) (by simp) 3 (.int .i64 (-1))).set (b := h) (by simp) 5 (.bool false))
      have c3 := cell_of_row _ _ 3 _ _ _ HD.out.dev
      have c5 := cell_of_row _ _ 5 _ _ _ HD.out.dev
      simp at c3 c5
      clear hjn HE1 HE2
      go_wp2_with fail
      go_end0
      refine ⟨rfl, ⟨aS', cS', none, 0, S', ?_⟩, HAE.out⟩
      have e := HE3.out
      rw [HLE.out] at e
      exact e

end Go.Proofs.Ytjejghfeeonghaa.Dr
