/- Layer 23: Crash by the program. -/
import Derived.Test.YtjejghfeeonghaaDrd
namespace Go.Proofs.Ytjejghfeeonghaa.Dr
open Go Go.RowKit Go.Maps Go.Proofs.Ytjejghfeeonghaa Go.Proofs.Ytjejghfeeonghaa.Au Go.Proofs.Ytjejghfeeonghaa.Re
set_option linter.unusedVariables false
set_option linter.unusedSimpArgs false

def keep1 (M : List (Int × Bk)) (L : List Bk) (k : Int) : List Bk := match findM M k with | some x => L.set k.toNat x | none => L

def keepL (M : List (Int × Bk)) (K : List Int) (L : List Bk) : List Bk := K.foldl (keep1 M) L

def crashI (s : Dst) (K : List Int) : Dst := { s with L := keepL s.M K s.L }

def crashS (s : Dst) (K : List Int) : Dst := startS { s with L := keepL s.M K s.L, M := [] }

theorem clear_run {w : World} {m N : Nat} {D : DV} (h : w.ownsMap Try.prog 3 hR m N D) : ∃ w', (∀ ty, (Builtin.clear_ #[55] ty #[.map (some m)]).run Try.prog w = .ok (.tuple #[]) w') ∧ w'.ownsMap Try.prog 3 hR m 9000 (dm []) ∧ w.grownBy w' (some m) := by
  obtain ⟨es, clock, hb, F, hs, rfl⟩ := h
  have ht : w.mapTurned (ChangeMaps.setBlock w m (.map #[] clock)) m := ⟨es, clock, #[], clock, hb, rfl⟩
  refine ⟨ChangeMaps.setBlock w m (.map #[] clock), fun ty => ?_, ⟨#[], clock, ChangeMaps.heap_setBlock_same hb _, ?_, by simp, rfl⟩, ht.grown⟩
  · simp [Builtin.clear_, run_underlying (Try.underlying55 ), MapKept.run_getObj_map hb, MapKept.run_setObj_map _ hb, Result.andThen]
    rfl
  · exact ⟨by simp, by simp [MapKept.Stamped], by simp⟩

theorem aw_cells {S : Nat → Prop} {b : Nat} (hb : ¬ S b) : ∀ (vs : List Value) (o : Nat) (a w : World), Aw S a w → Aw S a (w.setCells b o vs)
  | [], _, _, _, h => h
  | v :: r, o, a, w, h => by
    rw [World.setCells]
    exact aw_cells hb r (o + 1) a _ (h.set hb o v)

theorem size_cells (b : Nat) : ∀ (vs : List Value) (o : Nat) (w : World), (w.setCells b o vs).heap.size = w.heap.size
  | [], _, _ => rfl
  | v :: r, o, w => by
    rw [World.setCells, size_cells b r (o + 1)]
    simp

theorem DAt.setL {w : World} {g b m : Nat} {s : Dst} (h : DAt w g b m s) (k : Nat) (hk : k < s.n) (x : Bk) (hx : x.length = 128) : DAt (w.setCells b (k * 128) (vals x)) g b m { s with L := s.L.set k x } := by
  have hn := h.ne
  have hl := h.lt
  have hfl := flat_len s.L h.b128
  have hkl : k < s.L.length := by rw [h.len]; exact hk
  refine ⟨(World.heap_setCells_other w b _ _ hl.1 hn.1).trans h.dev, ?_, map_keep h.loose (World.heap_setCells_other w b _ _ hl.2.2 (Ne.symm hn.2.2)), by simp [h.len], h.n0, fun y hy => ?_, h.m128, h.up, h.mlen⟩
  · rw [heap_setCells_same b _ (vals x) (k * 128) w _ h.las (by simp only [List.size_toArray, vals_length, hfl, hx]; omega)]
    congr 3
    show _ = vals (s.L.set k x).flatten
    rw [flat_set s.L h.b128 k x hkl hx]
    unfold vals
    simp only [List.map_append, List.map_take, List.map_drop, List.length_map, hx]
    rw [show k * 128 = 128 * k by omega]
  · rcases List.mem_or_eq_of_mem_set hy with e | e
    · exact h.b128 y e
    · rw [e]; exact hx

theorem step_store_mid {ops : Array Oper} {o : Oper} {a : Act} {w : World} {Q : Exit → Act → World → Prop} {K : Act → World → Prop} {E : Prop} (hg : o.guard = none) (ty : TypeId) (x y : Operand) (ho : o.op = .store ty x y)
    (b off : Nat) (cells : Array Value) (hx : a.eval x = .pointer (some ⟨b, off, none⟩)) (hy : a.eval y = .agg cells)
    (ht : w.there b off cells.size) (hi : (Try.prog.info? ty).map (·.size) = some cells.size) (h1 : cells.all (·.oneCell') = true)
    (h : K (a.put o.dst undef) (w.setCells b off cells.toList)) : if Region.wanted o (yielded ops a.tmps) = true then Oper.wp Try.prog o a w K Q else E := by
  have hwt : Region.wanted o (yielded ops a.tmps) = true := by simp [Region.wanted, hg]
  rw [if_pos hwt]
  exact wp_store_mid ty x y ho b off cells hx hy ht hi h1 h

/-- a list of numbers that came in, apart from a device -/
def KS (w : World) (S : Nat → Prop) (a : Option Addr) (K : List Int) : Prop :=
  (∀ x ∈ K, (Lit.int .i64 x).wf = true) ∧ (K = [] ∨ ∃ kb ko, a = some ⟨kb, ko, none⟩ ∧ kb < w.heap.size ∧ S kb ∧ ∀ j, j < K.length → w.cell? ⟨kb, ko + j, none⟩ = some (.int .i64 (K.getD j 0)))

theorem keep_snoc (M : List (Int × Bk)) (K : List Int) (L : List Bk) (i : Nat) (h : i < K.length) : keepL M (K.take (i + 1)) L = keep1 M (keepL M (K.take i) L) (K.getD i 0) := by
  have e : K[i]? = some (K.getD i 0) := by rw [List.getD_eq_getElem?_getD, List.getElem?_eq_getElem h]; rfl
  unfold keepL
  rw [List.take_add_one, e, List.foldl_append]
  rfl

set_option maxHeartbeats 8000000 in
set_option maxRecDepth 100000 in
theorem crash_any (g b m : Nat) (s : Dst) (w : World) (h : DAt w g b m s) (a : Option Addr) (n c : Nat) (K : List Int) (hn : n = K.length) (hnb : n ≤ 1000000) (hK : KS w (Off g b m) a K) : Calls Try.prog 16 #[.pointer (some ⟨g, 0, none⟩), .slice a n c] w fun e w' => e = .returned (.int .i64 0) ∧ DAt w' g b m (crashS s K) ∧ Aw (Off g b m) w w' := by
  have HD := Lib.hid h
  have HN := Lib.hid hn
  have HK := Lib.hid hK
  have HGN := Lib.hid h.ne
  have hzv := zeroV
  have hzs := ZB_size
  clear h hn hK
  go_enter Try.func16, Try.ntmps16
  go_wp2_with fail
  go_loopw [13] (fun iv wr => ∃ i : Nat, i ≤ n ∧ iv = .int .i64 i ∧ Hid (DAt wr g b m (crashI s (K.take i))) ∧ Hid (Aw (Off g b m) w wr)) (fun iv _ => n - (intOf iv).toNat)
  case atStart => exact ⟨0, by omega, rfl, HD, Lib.hid (Aw.refl _ _)⟩
  case round =>
    obtain ⟨i, hi, rfl, HD1, HA1⟩ := hrel
    by_cases hlt : i < n
    · have hlt' : (i : Int) < (n : Int) := by omega
      have hiK : i < K.length := by rw [← HN.out]; exact hlt
      obtain ⟨kb, ko, hab, hkb, hoff, hcell⟩ := (show ∃ kb ko, a = some ⟨kb, ko, none⟩ ∧ kb < w.heap.size ∧ Off g b m kb ∧ ∀ j, j < K.length → w.cell? ⟨kb, ko + j, none⟩ = some (.int .i64 (K.getD j 0)) from by
        rcases HK.out.2 with e | e
        · rw [e] at hiK; simp at hiK
        · exact e)
      subst hab
      obtain ⟨k, hk⟩ : ∃ k, k = K.getD i 0 := ⟨_, rfl⟩
      have hkw : (Lit.int .i64 k).wf = true := HK.out.1 k (by rw [hk, List.getD_eq_getElem?_getD, List.getElem?_eq_getElem hiK]; exact List.getElem_mem _)
      have HKW := Lib.hid hkw
      have ck : wr.cell? ⟨kb, ko + i, none⟩ = some (.int .i64 k) := by
        rw [hk, HA1.out.cell (p := ⟨kb, ko + i, none⟩) hoff hkb]; exact hcell i hiK
      have HSN := Lib.hid (show keepL s.M (K.take (i + 1)) s.L = keep1 s.M (keepL s.M (K.take i) s.L) k by rw [hk]; exact keep_snoc _ _ _ _ hiK)
      have c5 := cell_of_row _ _ 5 _ _ _ HD1.out.dev
      simp at c5
      have HLO := Lib.hid (show wr.ownsMap Try.prog 3 hR m 9000 (dm s.M) from HD1.out.loose)
      have HAL := Lib.hid (heap_alloc_last wr (.cells ZB 36))
      have hbn := Ve.below_n1 wr (.cells ZB 36)
      clear hk hkw hcell
      cases hf : findM s.M k with
      | none =>
        have HF := Lib.hid hf
        have HI := Lib.hid (infoTB ZB_size)
        have HO := Lib.hid ZB_one
        have HUx := below_setRow (g := wr.heap.size) hbn (Nat.le_refl _) ZB
        have HST := Lib.hid (show DAt ((wr.alloc (.cells ZB 36)).setRow wr.heap.size ZB) g b m (crashI s (K.take (i + 1))) by
          have e : crashI s (K.take (i + 1)) = crashI s (K.take i) := by unfold crashI; rw [HSN.out]; unfold keep1; rw [hf]
          rw [e]; exact HD1.out.on HUx)
        have HA2 := Lib.hid (HA1.out.trans (Aw.of HUx))
        clear hf HUx hbn
        go_upto_region 7 with (first | (at_lookup; refine look_none rfl _ _ rfl m 9000 s.M rfl HLO.out k rfl HKW.out HF.out ?_) | refine Au.wpList_store_row rfl 36 (.tmp 7) (.tmp 24) rfl (wr.alloc (.cells ZB 36)) ZB ZB wr.heap.size 36 HAL.out rfl rfl HI.out rfl HO.out ?_)
        go_wp2_with fail
        go_roundw
        case rel => exact ⟨i + 1, by omega, by go_num, HST, HA2⟩
        case measure => simp [intOf]; omega
      | some x =>
        have HF := Lib.hid hf
        have hmx := HD1.out.m128 (k, x) (find_mem hf)
        obtain ⟨kn, hkn⟩ : ∃ kn : Nat, k = (kn : Int) := ⟨k.toNat, by have := hmx.2.1; omega⟩
        subst hkn
        have hkl : kn < s.n := by have h2 := hmx.2.2; have e : (crashI s (K.take i)).n = s.n := rfl; rw [e] at h2; dsimp only at h2; omega
        have hkl' : (kn : Int) < (s.n : Int) := by omega
        have hx : x.length = 128 := hmx.1
        obtain ⟨R, hRe⟩ : ∃ R, R = (vals x).toArray := ⟨_, rfl⟩
        have hRs : R.size = 128 := by rw [hRe]; simp [vals_length]; exact hx
        have HI := Lib.hid (infoTB hRs)
        have HZ := Lib.hid (show ZB.size = R.size by rw [hRs]; exact ZB_size)
        have HO := Lib.hid (show R.all (·.oneCell') = true by rw [hRe]; exact all_oneCell_toArray (vals_one _))
        have HBV := Lib.hid (show bv x = .agg R by rw [hRe]; rfl)
        have HUx := below_setRow (g := wr.heap.size) hbn (Nat.le_refl _) R
        have hN := setRow_heap _ (wr.heap.size) _ R _ _ HAL.out
        obtain ⟨y2, hy2⟩ : ∃ y, (wr.alloc (.cells ZB 36)).setRow wr.heap.size R = y := ⟨_, rfl⟩
        have HY2 := Lib.hid hy2
        rw [hy2] at HUx hN
        have HD2 := Lib.hid (HD1.out.on HUx)
        have HA2 := Lib.hid (HA1.out.trans (Aw.of HUx))
        have HL2 := Lib.hid (show R.toList = vals x by rw [hRe])
        have HST := Lib.hid (show ∀ y, DAt y g b m (crashI s (K.take i)) → DAt (y.setCells b (kn * 128) R.toList) g b m (crashI s (K.take (i + 1))) from fun y hy => by
          have e : crashI s (K.take (i + 1)) = { crashI s (K.take i) with L := (crashI s (K.take i)).L.set kn x } := by
            unfold crashI; rw [HSN.out]; unfold keep1; rw [hf]; simp
          rw [e, HL2.out]
          exact hy.setL kn hkl x hx)
        have HTH := Lib.hid (show ∀ y, DAt y g b m (crashI s (K.take i)) → y.there b (kn * 128) R.size from fun y hy => by
          have hfl := flat_len _ hy.b128
          rw [hy.len] at hfl
          have hnn : (crashI s (K.take i)).n = s.n := rfl
          intro j hj
          rw [hRs] at hj
          have hlt : kn * 128 + j < (vals (crashI s (K.take i)).L.flatten).length := by rw [vals_length, hfl, hnn]; omega
          exact ⟨by simp [World.cell?, hy.las, hlt], by simp [World.frozen?, hy.las]⟩)
        clear hf hmx hx hRe hRs hy2 HUx hbn
        go_upto_region 7 with (first | (at_lookup; refine look_some rfl _ _ rfl m 9000 s.M rfl HLO.out (kn : Int) rfl HKW.out x HF.out R HBV.out ?_) | refine Au.wpList_store_row rfl 36 (.tmp 7) (.tmp 24) rfl (wr.alloc (.cells ZB 36)) ZB R wr.heap.size 36 HAL.out rfl rfl HI.out HZ.out HO.out ?_)
        rw [HY2.out]
        obtain ⟨q, hq⟩ : ∃ q, q = wr.heap.size := ⟨_, rfl⟩
        rw [← hq] at hN ⊢
        have HQ := Lib.hid hN
        clear hq hN HAL c5 ck HLO HD1 HA1 HY2
        go_wp2_with fail
        refine Ol.way_drew (S := fun y => y.heap[g]? = some (.cells #[.int .i64 s.n, .int .i64 s.steps, .int .i64 s.fuse, .bool s.down, .slice (some ⟨b, 0, none⟩) s.n s.n, .map (some m)] 57 (0, 0)) ∧ y.heap[q]? = some (.cells R 36 (0, 0))) (stop := 7) (by kernel_rfl) (⟨HD2.out.dev, HQ.out⟩) (fun hS0 => ?_)
        obtain ⟨y3, hy3⟩ : ∃ y, y2.drew = y := ⟨_, rfl⟩
        have HD3 := Lib.hid (show DAt y3 g b m (crashI s (K.take i)) by rw [← hy3]; exact HD2.out.drew)
        have HA3 := Lib.hid (show Aw (Off g b m) w y3 by rw [← hy3]; exact HA2.out.trans (Aw.of (Below.refl _ _).drew))
        rw [hy3] at hS0 ⊢
        clear hy3 HD2 HA2 HQ
        refine Ol.way_plain (i := 0) (v := ?_) rfl (by kernel_rfl) (by kernel_rfl) (by kernel_rfl) (fun _ _ _ h => h) (by decide) (Or.inl ⟨by kernel_rfl, by (intro wz _; go_simp; try with_reducible rfl)⟩) (Ol.on hS0) ?_
        go_simp
        refine Ol.way_plain (i := 1) (v := ?_) rfl (by kernel_rfl) (by kernel_rfl) (by kernel_rfl) (fun _ _ _ h => h) (by decide) (Or.inl ⟨by kernel_rfl, by (intro wz _; go_simp; try with_reducible rfl)⟩) (Ol.on hS0) ?_
        go_simp
        refine Ol.way_plain (i := 2) (v := ?_) rfl (by kernel_rfl) (by kernel_rfl) (by kernel_rfl) (fun _ _ _ h => h) (by decide) (Or.inl ⟨by kernel_rfl, by (intro wz _; go_simp; try with_reducible rfl)⟩) (Ol.on hS0) ?_
        go_simp
        refine Ol.way_take (i := 3) (v := ?_) rfl (by kernel_rfl) (by kernel_rfl) (by kernel_rfl) (fun _ _ _ h => h) (by decide) (by kernel_rfl) (by kernel_rfl) (Or.inl ⟨by kernel_rfl, by (intro wz hSz; have c4 := cell_of_row _ _ 4 _ _ _ hSz.1; simp at c4; go_simp; try with_reducible rfl)⟩) hS0 ?_
        go_simp
        refine Ol.way_plain (i := 4) (v := ?_) rfl (by kernel_rfl) (by kernel_rfl) (by kernel_rfl) (fun _ _ _ h => h) (by decide) (Or.inl ⟨by kernel_rfl, by (intro wz _; go_simp; try with_reducible rfl)⟩) (Ol.on hS0) ?_
        go_simp
        refine Ol.way_take (i := 5) (v := .agg R) rfl (by kernel_rfl) (by kernel_rfl) (by kernel_rfl) (fun _ _ _ h => h) (by decide) (by kernel_rfl) (by kernel_rfl) (Lr.yieldsIf_load_row (by kernel_rfl) 36 (.tmp 7) rfl q rfl 36 R _ (fun yy hh => hh.2) Try.underlying36 rfl HI.out) hS0 ?_
        go_simp
        refine Ol.way_plain (i := 6) (v := ?_) rfl (by kernel_rfl) (by kernel_rfl) (by kernel_rfl) (fun _ _ _ h => h) (by decide) (Or.inl ⟨by kernel_rfl, by (intro wz _; go_simp; try with_reducible rfl)⟩) (Ol.on hS0) ?_
        go_simp
        refine Ol.way_ready (rs := [7]) (by kernel_rfl) (by simp) ?_
        refine Ol.Each.cons rfl (fun K hK => ?_) Ol.Each.nil
        refine step_store_mid rfl 36 (.tmp 33) (.tmp 32) rfl b (kn * 128) R rfl rfl (HTH.out _ HD3.out) HI.out HO.out ?_
        have HD4 := Lib.hid (HST.out _ HD3.out)
        have HA4 := Lib.hid (aw_cells (b := b) (fun e => e.2.1 rfl) R.toList (kn * 128) _ _ HA3.out)
        refine Ol.past hK (by kernel_rfl) _ _ ?_
        clear hK K
        refine Ol.way_done (by kernel_rfl) ?_ _
        go_wp2_with fail
        go_roundw
        case rel => exact ⟨i + 1, by omega, by go_num, HD4, HA4⟩
        case measure => simp [intOf]; omega
    · have hge : ¬ (i : Int) < (n : Int) := by omega
      have HD2 := Lib.hid (show DAt wr g b m (crashI s K) by
        have e := HD1.out
        rwa [List.take_of_length_le (by have := HN.out; omega)] at e)
      have c5 := cell_of_row _ _ 5 _ _ _ HD2.out.dev
      simp at c5
      obtain ⟨y3, hcl, ho3, hg3⟩ := clear_run HD2.out.loose
      have HD3 := Lib.hid (show DAt y3 g b m { s with L := keepL s.M K s.L, M := [] } from by
        have hl := HD2.out.lt
        have hn := HD2.out.ne
        exact ⟨(hg3.block g hl.1 (by simp; exact hn.2.1)).trans HD2.out.dev, (hg3.block b hl.2.1 (by simp; exact hn.2.2)).trans HD2.out.las, ho3, HD2.out.len, HD2.out.n0, HD2.out.b128, by simp, by simp, by simp⟩)
      have HA3 := Lib.hid (HA1.out.step hg3 (fun q hq => by cases hq; exact fun e => e.2.2 rfl))
      clear ho3 hg3 HD1
      go_wp2_with fail
      refine (start_any g b m _ y3 HD3.out).mono ?_
      rintro e y4 ⟨rfl, hd4, ha4⟩
      have HD4 := Lib.hid hd4
      have HA4 := Lib.hid (HA3.out.trans (ha4.weak (fun j hj => hj.1)))
      clear hd4 ha4
      go_wp2_with fail
      go_ret
      exact ⟨rfl, HD4.out, HA4.out⟩

end Go.Proofs.Ytjejghfeeonghaa.Dr
