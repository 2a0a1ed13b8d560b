/- Layer 23: both devices hold the same. -/
import Derived.Test.YtjejghfeeonghaaDrv
import Derived.Test.YtjejghfeeonghaaDrk
namespace Go.Proofs.Ytjejghfeeonghaa.Dr
open Go Go.RowKit Go.Maps Go.Proofs.Ytjejghfeeonghaa Go.Proofs.Ytjejghfeeonghaa.Au Go.Proofs.Ytjejghfeeonghaa.Re
set_option linter.unusedVariables false
set_option linter.unusedSimpArgs false

theorem quiet_more' {P : Program} {f : FuncId} {args : Array Value} {w : World} {i j : Nat} {v : Value} (h : Calls P f args (w.drewN (i + j)) fun e w' => e = .returned v ∧ w.drewN (i + j) = w') :
    Calls P f args (w.drewN (i + j)) fun e w' => e = .returned v ∧ ∃ m, w' = w.drewN (i + m) := h.mono fun _ _ ⟨x, y⟩ => ⟨x, j, y.symm⟩

theorem rnew_any (n : Nat) (w : World) (h1 : 1 ≤ n) (h2 : n ≤ 8192) : Calls Try.prog 8 #[.int .i64 n] w fun e w' => (∃ h, e = .returned (.pointer (some ⟨h, 0, none⟩)) ∧ w.heap.size ≤ h ∧ RAt w' h none 0 none 0 [] (tie ⟨n, 0, -1, false, List.replicate n zB, []⟩)) ∧ Below w.heap.size w w' := by
  have hb := Ve.below_n1 w (.cells #[.int .i64 n, .slice none 0 0, .slice none 0 0, .int .i64 (-1), .int .i64 0, .bool false] 60 )
  have hr := heap_alloc_last w (.cells #[.int .i64 n, .slice none 0 0, .slice none 0 0, .int .i64 (-1), .int .i64 0, .bool false] 60 )
  go_enter Try.func8, Try.ntmps8
  go_wp2_with fail
  go_ret
  refine ⟨⟨_, rfl, Nat.le_refl _, hr, World.ownsRow_nil _ _ _ _, World.ownsRow_nil _ _ _ _, Okl.nil _, Okl.nil _, ⟨h1, h2⟩, by simp [tie], fun i hi => ?_⟩, hb⟩
  have hi' : i < n := hi
  show (List.replicate n zB).getD i zB = _
  simp [findM, List.getD, hi']

theorem vread_len {w : World} {g b m : Nat} {s : Dst} (hd : DAt w g b m s) (k : Int) : (vRead s k).length = 128 := by
  unfold vRead
  split
  · exact zB_len
  · cases hf : findM s.M k with
    | some x => exact (hd.m128 _ (find_mem hf)).1
    | none =>
      simp only
      rw [List.getD_eq_getElem?_getD]
      cases hx : s.L[k.toNat]? with
      | none => exact zB_len
      | some x => exact hd.b128 _ (List.mem_of_getElem? hx)

set_option maxHeartbeats 16000000 in
set_option maxRecDepth 100000 in
theorem is_any (g b m h : Nat) (s : Dst) (w : World) (hB : Both w g b m h s) : Calls Try.prog 10 #[.pointer (some ⟨g, 0, none⟩), .pointer (some ⟨h, 0, none⟩)] w fun e w' => e = .returned (.bool true) ∧ Below w.heap.size w w' := by
  obtain ⟨hd, aS, cS, aM, cM, S, hr⟩ := hB
  have HD0 := Lib.hid hd
  have HR0 := Lib.hid hr
  have hzv := zeroVR
  have hzb := zeroV
  have hzs := ZB_size
  obtain ⟨n, hn⟩ : ∃ n, n = s.M.length := ⟨_, rfl⟩
  have HN := Lib.hid hn
  have hnb : n ≤ 8192 := by have e1 := hd.mlen; have e2 := hd.n0; omega
  have hsn : s.n ≤ 8192 := hd.n0.2
  clear hd hr hn
  go_enter Try.func10, Try.ntmps10
  go_wp2_with fail
  refine (loose_any g b m s w HD0.out).mono ?_
  rintro e y1 ⟨v, rfl, hv, hb1⟩
  have HD1 := Lib.hid (HD0.out.on hb1)
  have HR1 := Lib.hid (HR0.out.on hb1)
  have HB1 := Lib.hid hb1
  rw [← HN.out] at hv
  obtain ⟨la, lc, rfl, hlr⟩ := (show ∃ la lc, v = .slice la n lc ∧ ∀ j (p : E1), s.M[j]? = some p → ∃ gl, la = some ⟨gl, 0, none⟩ ∧ y1.cell? ⟨gl, j, none⟩ = some (.int .i64 p.1) ∧ gl < y1.heap.size from by
    rcases hv.2 with ⟨rfl, hz⟩ | ⟨gl, cap, cur, rfl, hbg, hg, -⟩
    · refine ⟨none, 0, by rw [hz], fun j p hp => ?_⟩
      have e := (List.getElem?_eq_some_iff.1 hp).1
      rw [← HN.out, hz] at e
      omega
    · refine ⟨_, cap, rfl, fun j p hp => ⟨gl, rfl, ?_, lt_heap hg⟩⟩
      have e := (List.getElem?_eq_some_iff.1 hp).1
      have e2 := hv.cellAt j (by rw [HN.out]; omega)
      rw [List.getElem?_map, hp] at e2
      exact e2)
  have HLR := Lib.hid hlr
  clear hv hlr hb1 HD0 HR0
  have HDQ := Lib.hid (fun k => show DAt (y1.drewN k) g b m s from HD1.out.on (drawnB (Below.refl _ _) k))
  have e0 := cell_of_row _ _ 0 _ _ _ HR1.out.dev
  have e2 := cell_of_row _ _ 2 _ _ _ HR1.out.dev
  have e4 := cell_of_row _ _ 4 _ _ _ HR1.out.dev
  have e5 := cell_of_row _ _ 5 _ _ _ HR1.out.dev
  simp at e0 e2 e4 e5
  have t0 : (tie s).n = s.n := rfl
  have t1 : (tie s).M.length = n := HN.out.symm
  have t2 : (tie s).steps = s.steps := rfl
  have t3 : (tie s).down = s.down := rfl
  rw [t0] at e0
  rw [t1] at e2
  rw [t2] at e4
  rw [t3] at e5
  clear t0 t1 t2 t3
  go_wp2_with fail
  go_quiet ((first | (go_at_call 17; (first | exact Calls.quiet_of_same (Ve.flip (blocks_any g b m s _ (HDQ.out _))) | exact quiet_more' (blocks_any g b m s _ (HDQ.out _)))) | (go_at_call 20; (first | exact Calls.quiet_of_same (Ve.flip (down_any g b m s _ (HDQ.out _))) | exact quiet_more' (down_any g b m s _ (HDQ.out _)))) | (go_at_call 19; (first | exact Calls.quiet_of_same (Ve.flip (steps_any g b m s _ (HDQ.out _))) | exact quiet_more' (steps_any g b m s _ (HDQ.out _))))))
  obtain ⟨y2, hy2⟩ : ∃ y, y1.drewN nq = y := ⟨_, rfl⟩
  have HD2 := Lib.hid (show DAt y2 g b m s by rw [← hy2]; exact HDQ.out _)
  have HR2 := Lib.hid (show RAt y2 h aS cS aM cM S (tie s) by rw [← hy2]; exact HR1.out.on (drawnB (Below.refl _ _) _))
  have HB2 := Lib.hid (show Below w.heap.size w y2 by rw [← hy2]; exact drawnB HB1.out _)
  have HL2 := Lib.hid (show ∀ j (p : E1), s.M[j]? = some p → ∃ gl, la = some ⟨gl, 0, none⟩ ∧ y2.cell? ⟨gl, j, none⟩ = some (.int .i64 p.1) from fun j p hp => by
    obtain ⟨gl, h1, h2, -⟩ := HLR.out j p hp
    exact ⟨gl, h1, by rw [← hy2]; exact h2⟩)
  have e2' : y2.cell? ⟨h, 2, none⟩ = some (.slice aM n cM) := by rw [← hy2]; exact e2
  rw [hy2]
  clear hy2 e0 e2 e4 e5 HDQ HLR HD1 HR1 HB1
  go_wp2_with fail
  go_loopw [52] (fun iv wr => ∃ j : Nat, j ≤ n ∧ iv = .int .i64 j ∧ wr = y2) (fun iv _ => n - (intOf iv).toNat)
  case atStart => exact ⟨0, by omega, rfl, rfl⟩
  case round =>
    obtain ⟨j, hj, rfl, hwy⟩ := hrel
    have hwy2 := hwy.symm
    subst hwy2
    by_cases hlt : j < n
    · have hlt' : (j : Int) < (n : Int) := by omega
      have hjM : j < s.M.length := by rw [← HN.out]; exact hlt
      obtain ⟨y, hyj⟩ : ∃ y, s.M[j]? = some y := ⟨_, List.getElem?_eq_getElem hjM⟩
      obtain ⟨gl, hla, cl⟩ := HL2.out j y hyj
      obtain ⟨aM', kM, e1, hRL⟩ := HR2.out.loose.open HR2.out.okM.b128
      cases e1
      obtain ⟨ge, ha, ce⟩ := (show ∃ ge, aM = some ⟨ge, 0, none⟩ ∧ y2.cell? ⟨ge, j * 129, none⟩ = some (.int .i64 y.1) from by
        rcases hRL with e | ⟨ge, h1, h2, h3⟩
        · rw [show s.M = [] from e] at hyj; simp at hyj
        · exact ⟨ge, h1, by have e := h3 j y hyj 0 (.int .i64 y.1) rfl; simpa using e⟩)
      subst hla
      subst ha
      clear hRL hyj hjM
      obtain ⟨yi, hyi⟩ : ∃ i, i = y.1 := ⟨_, rfl⟩
      rw [← hyi] at cl ce
      clear hyi
      go_wp2_with fail
      go_roundw
      case rel => exact ⟨j + 1, by omega, by go_num, by first | trivial | rfl⟩
      case measure => simp [intOf]; omega
    · have hge : ¬ (j : Int) < (n : Int) := by omega
      clear e2'
      go_wp2_with fail
      go_loopw [8] (fun iv wr => ∃ k : Nat, k ≤ s.n ∧ iv = .int .i64 k ∧ Hid (DAt wr g b m s) ∧ Hid (RAt wr h aS cS aM cM S (tie s)) ∧ Hid (Below w.heap.size w wr)) (fun iv _ => s.n - (intOf iv).toNat)
      case atStart => exact ⟨0, by omega, rfl, HD2, HR2, HB2⟩
      case round =>
        clear HD2 HR2 HB2 HL2
        obtain ⟨k, hk, rfl, HD, HR, HB⟩ := hrel
        have e0 := cell_of_row _ _ 0 _ _ _ HR.out.dev
        simp at e0
        rw [show (tie s).n = s.n from rfl] at e0
        by_cases hlk : k < s.n
        · have hlk' : (k : Int) < (s.n : Int) := by omega
          have dk : decide ((k : Int) < (s.n : Int)) = true := decide_eq_true hlk'
          have dk' : decide (k < s.n) = true := decide_eq_true hlk
          by_cases h40 : k < 40
          · have h40' : (k : Int) < 40 := by omega
            have d40 : decide ((k : Int) < 40) = true := decide_eq_true h40'
            obtain ⟨x, hx⟩ : ∃ x, x = vRead s k := ⟨_, rfl⟩
            have hxl : x.length = 128 := by rw [hx]; exact vread_len HD.out _
            obtain ⟨X, HX⟩ : ∃ R, Hid (R = (vals x).toArray) := ⟨_, Lib.hid rfl⟩
            have hXs : X.size = 128 := by rw [HX.out]; simp [vals_length]; exact hxl
            obtain ⟨ee, hee⟩ : ∃ e, e = eAt s k := ⟨_, rfl⟩
            have HIB := Lib.hid (infoTB hXs)
            have HIT := Lib.hid (infoT128 hXs)
            have HZZ := Lib.hid (show ZB.size = X.size by rw [hXs]; exact ZB_size)
            have HOO := Lib.hid (show X.all (·.oneCell') = true by rw [HX.out]; exact all_oneCell_toArray (vals_one _))
            have eq1 : ∀ W, (Op.equalIn 10000 36 (.agg X) (.agg X)).run Try.prog W = .ok true W := fun W => by rw [HX.out]; exact eq_blk x hxl W
            have HRD := Lib.hid (fun (W : World) (hW : DAt W g b m s) => show Calls Try.prog 11 #[.pointer (some ⟨g, 0, none⟩), .int .i64 k] W fun e w' => e = .returned (.tuple #[.agg X, .int .i64 ee]) ∧ Below W.heap.size W w' by
              rw [HX.out, hx, hee]; exact read_any g b m s W hW k)
            have HRR := Lib.hid (fun (W : World) aS cS aM cM S (hW : RAt W h aS cS aM cM S (tie s)) => show Calls Try.prog 12 #[.pointer (some ⟨h, 0, none⟩), .int .i64 k] W fun e w' => e = .returned (.tuple #[.agg X, .int .i64 ee]) ∧ Below W.heap.size W w' by
              rw [HX.out, hx, hee]; exact rread_any h aS cS aM cM S (tie s) W hW k)
            clear hx hxl hXs hee
            go_wp2_with fail
            refine (HRD.out wr HD.out).mono ?_
            rintro e z1 ⟨rfl, hb1⟩
            have HDa := Lib.hid (HD.out.on hb1)
            have HRa := Lib.hid (HR.out.on hb1)
            have hsz := HB.out.size
            have HBa := Lib.hid (HB.out.trans (hb1.mono hsz))
            clear hsz
            have HAL := Lib.hid (heap_alloc_last z1 (.cells ZB 36 ))
            have hbn := Ve.below_n1 z1 (.cells ZB 36 )
            have hbs := below_setRow (g := z1.heap.size) hbn (Nat.le_refl _) X
            have hQ := setRow_heap _ (z1.heap.size) _ X _ _ HAL.out
            obtain ⟨z2, hz2⟩ : ∃ y, (z1.alloc (.cells ZB 36 )).setRow z1.heap.size X = y := ⟨_, rfl⟩
            have HZ2 := Lib.hid hz2
            rw [hz2] at hbs hQ
            have HDb := Lib.hid (HDa.out.on hbs)
            have HRb := Lib.hid (HRa.out.on hbs)
            have HBb := Lib.hid (HBa.out.trans (hbs.mono HBa.out.size))
            clear hbn hbs hz2 hb1
            go_upto_region 14 with (refine Au.wpList_store_row rfl 36 (.tmp 9) (.tmp 84) rfl (z1.alloc (.cells ZB 36 )) ZB X z1.heap.size 36 HAL.out rfl rfl HIB.out HZZ.out HOO.out ?_)
            rw [HZ2.out]
            obtain ⟨q1, hq1⟩ : ∃ q, q = z1.heap.size := ⟨_, rfl⟩
            rw [← hq1] at hQ ⊢
            have HQ1 := Lib.hid hQ
            clear hQ hq1 HZ2 HAL HDa HRa HBa HD HR HB e0
            go_wp2_with fail
            refine (HRR.out z2 _ _ _ _ _ HRb.out).mono ?_
            rintro e z3 ⟨rfl, hb3⟩
            have HDc := Lib.hid (HDb.out.on hb3)
            have HRc := Lib.hid (HRb.out.on hb3)
            have HBc := Lib.hid (HBb.out.trans (hb3.mono HBb.out.size))
            have HQ3 := Lib.hid ((hb3.block q1 (lt_heap HQ1.out)).trans HQ1.out)
            have HAL := Lib.hid (heap_alloc_last z3 (.cells ZB 30 ))
            have hbn := Ve.below_n1 z3 (.cells ZB 30 )
            have hbs := below_setRow (g := z3.heap.size) hbn (Nat.le_refl _) X
            have hQ := setRow_heap _ (z3.heap.size) _ X _ _ HAL.out
            obtain ⟨z4, hz4⟩ : ∃ y, (z3.alloc (.cells ZB 30 )).setRow z3.heap.size X = y := ⟨_, rfl⟩
            have HZ4 := Lib.hid hz4
            rw [hz4] at hbs hQ
            have HDd := Lib.hid (HDc.out.on hbs)
            have HRd := Lib.hid (HRc.out.on hbs)
            have HBd := Lib.hid (HBc.out.trans (hbs.mono HBc.out.size))
            have HQ4 := Lib.hid ((hbs.block q1 (lt_heap HQ3.out)).trans HQ3.out)
            clear hbn hbs hz4 hb3
            go_upto_region 15 with (refine Au.wpList_store_row rfl 30 (.tmp 11) (.tmp 90) rfl (z3.alloc (.cells ZB 30 )) ZB X z3.heap.size 30 HAL.out rfl rfl HIT.out HZZ.out HOO.out ?_)
            rw [HZ4.out]
            obtain ⟨q2, hq2⟩ : ∃ q, q = z3.heap.size := ⟨_, rfl⟩
            rw [← hq2] at hQ ⊢
            have HQ5 := Lib.hid hQ
            clear hQ hq2 HZ4 HAL HDb HRb HBb HDc HRc HBc HQ1 HQ3 HRD HRR
            go_wp2_with (first | (with_reducible refine load_want (by kernel_rfl) 36 (.tmp 9) rfl q1 rfl 36 X (0, 0) _ HQ4.out Try.underlying36 rfl HIB.out ?_) | (with_reducible refine load_want (by kernel_rfl) 30 (.tmp 11) rfl q2 rfl 30 X (0, 0) _ HQ5.out Try.underlying30 rfl HIT.out ?_))
            go_roundw
            case rel => exact ⟨k + 1, by omega, by go_num, HDd, HRd, HBd⟩
            case measure => simp [intOf]; omega
          · have h40' : ¬ (k : Int) < 40 := by omega
            have d40 : decide ((k : Int) < 40) = false := decide_eq_false h40'
            go_wp2_with fail
            go_ret
            exact ⟨rfl, HB.out⟩
        · have hlk' : ¬ (k : Int) < (s.n : Int) := by omega
          have dk : decide ((k : Int) < (s.n : Int)) = false := decide_eq_false hlk'
          have dk' : decide (k < s.n) = false := decide_eq_false hlk
          go_wp2_with fail
          go_ret
          exact ⟨rfl, HB.out⟩

end Go.Proofs.Ytjejghfeeonghaa.Dr
