/- Trees: shapes told apart by a cut, by the program. -/
import Derived.Test.YtoppcnkfgmbpfaaE25
import Derived.Maps.AppendAt
namespace Go.Proofs.Ytoppcnkfgmbpfaa.Tr
open Go.RowKit Go.Proofs.Ytoppcnkfgmbpfaa Go.Proofs.Ytoppcnkfgmbpfaa.Wa Go.Proofs.Ytoppcnkfgmbpfaa.Ve Go.Proofs.Ytoppcnkfgmbpfaa.Au Go.Proofs.Ytoppcnkfgmbpfaa.Bx
set_option linter.unusedVariables false
set_option linter.unusedSimpArgs false

/-- of the first k: those below a cut, and the others -/
def sel (pt : Nat → Int) (cut : Int) (l : List Nat) : Nat → List Nat × List Nat
  | 0 => ([], [])
  | k + 1 => if pt k < cut then ((sel pt cut l k).1 ++ [l.getD k 0], (sel pt cut l k).2) else ((sel pt cut l k).1, (sel pt cut l k).2 ++ [l.getD k 0])

def nv (l : List Nat) : List Value := l.map fun x => .int .i64 ((x : Nat) : Int)

theorem nv_snoc (l : List Nat) (x : Nat) : nv (l ++ [x]) = nv l ++ [.int .i64 (x : Int)] := by simp [nv]

theorem sel_len (pt : Nat → Int) (cut : Int) (l : List Nat) : ∀ k, (sel pt cut l k).1.length + (sel pt cut l k).2.length = k
  | 0 => rfl
  | k + 1 => by
    have := sel_len pt cut l k
    unfold sel
    split <;> simp <;> omega

/-- two rows that share no block -/
def Apart (a b : Value) : Prop := ∀ q, a.ownBlock = some q → b.ownBlock = some q → False

theorem infoInt1 : (Try.prog.info? 3).map (fun i => (i.zero, i.size, i.bytes)) = some (some (.int .i64 0), 1, 8) := by kernel_rfl

theorem own_keep {w w' : World} {base n c : Nat} {e : TypeId} {v : Value} {xs : List Value} (h : w.ownsRow base e c v n xs) (hk : ∀ q, v.ownBlock = some q → w'.heap[q]? = w.heap[q]?) : w'.ownsRow base e c v n xs := by
  refine ⟨h.1, ?_⟩
  rcases h.2 with hn | ⟨q, cap, cur, rfl, k1, k2, k3⟩
  · exact .inl hn
  · exact .inr ⟨q, cap, cur, rfl, k1, (hk q rfl).trans k2, k3⟩

set_option maxHeartbeats 4000000 in
set_option maxRecDepth 100000 in
theorem divide_l (l : List Nat) (pt : Nat → Int) (cut : Int) (hm : l.length ≤ 1000) (gl ol lc gp op pc : Nat) (w : World) (hgl : gl < w.heap.size) (hgp : gp < w.heap.size)
    (hl : ∀ j, j < l.length → w.cell? ⟨gl, ol + j, none⟩ = some (.int .i64 ((l.getD j 0 : Nat) : Int))) (hp : ∀ j, j < l.length → w.cell? ⟨gp, op + j, none⟩ = some (.int .i64 (pt j))) :
    Calls Try.prog 26 #[.slice (some ⟨gl, ol, none⟩) l.length lc, .slice (some ⟨gp, op, none⟩) l.length pc, .int .i64 cut] w fun e w' => (∃ va vb, e = .returned (.tuple #[va, vb]) ∧ w'.ownsRow w.heap.size 3 1 va (sel pt cut l l.length).1.length (nv (sel pt cut l l.length).1) ∧ w'.ownsRow w.heap.size 3 1 vb (sel pt cut l l.length).2.length (nv (sel pt cut l l.length).2) ∧ Apart va vb) ∧ Below w.heap.size w w' := by
  obtain ⟨i0, hi, hz0, hz1, hz2⟩ := info_parts infoInt1
  have HLL := Lib.hid hl
  have HPT := Lib.hid hp
  clear hl hp
  go_enter Try.func26, Try.ntmps26
  go_upto_region 2 with fail
  go_loopw [6, 7, 8, 9, 12] (fun va vb s8 s9 i wr => ∃ k : Nat, k ≤ l.length ∧ i = .int .i64 k ∧ Hid (wr.ownsRow w.heap.size 3 1 va (sel pt cut l k).1.length (nv (sel pt cut l k).1)) ∧ Hid (wr.ownsRow w.heap.size 3 1 vb (sel pt cut l k).2.length (nv (sel pt cut l k).2)) ∧ Hid (Apart va vb) ∧ Hid (Below w.heap.size w wr)) (fun _ _ _ _ i _ => l.length - (intOf i).toNat)
  case atStart => exact ⟨0, by omega, rfl, Lib.hid (World.ownsRow_nil _ _ _ _), Lib.hid (World.ownsRow_nil _ _ _ _), Lib.hid (fun q h => by cases h), Lib.hid (Below.refl _ _)⟩
  case round =>
    obtain ⟨k, hk, rfl, HA, HC, HD, HB⟩ := hrel
    have hbs := HB.out.size
    have hsl := sel_len pt cut l k
    by_cases hlt' : k < l.length
    · have hki : (k : Int) < l.length := by omega
      obtain ⟨x, hx⟩ : ∃ x, x = l.getD k 0 := ⟨_, rfl⟩
      have cl : wr.cell? ⟨gl, ol + k, none⟩ = some (.int .i64 (x : Int)) := by rw [hx]; exact (HB.out.cell (p := ⟨gl, ol + k, none⟩) hgl).trans (HLL.out k hlt')
      have cp : wr.cell? ⟨gp, op + k, none⟩ = some (.int .i64 (pt k)) := (HB.out.cell (p := ⟨gp, op + k, none⟩) hgp).trans (HPT.out k hlt')
      have hx1 : ∀ j u, ([.int .i64 (x : Int)] : List Value)[j]? = some u → (wr.alloc (.cells #[.int .i64 (x : Int)] 3)).cell? ((⟨wr.heap.size, 0, none⟩ : Addr).add j) = some u := cell_one_new _ _ _
      have HX1 := Lib.hid hx1
      have HX2 := Lib.hid (show ∀ u ∈ ([.int .i64 (x : Int)] : List Value), u.oneCell' = true by intro u hu; simp only [List.mem_cons, List.not_mem_nil, or_false] at hu; subst hu; rfl)
      clear hx1
      have HX := Lib.hid hx
      clear hx
      have hla : (sel pt cut l k).1.length ≤ 1000 := by omega
      have hlb : (sel pt cut l k).2.length ≤ 1000 := by omega
      obtain ⟨A, hA⟩ : ∃ A, A = (sel pt cut l k).1 := ⟨_, rfl⟩
      obtain ⟨C, hC⟩ : ∃ C, C = (sel pt cut l k).2 := ⟨_, rfl⟩
      rw [← hA] at HA hla
      rw [← hC] at HC hlb
      have HAe := Lib.hid hA
      have HCe := Lib.hid hC
      clear hA hC hsl
      by_cases hcut : pt k < cut
      · have d := decide_eq_true hcut
        have HI := Lib.hid (HA.out.alloc (.cells #[.int .i64 (x : Int)] 3))
        have HCT := Lib.hid hcut
        clear hcut
        go_wp2_with (first | (at_builtin; refine wpList_append_own_at _ rfl _ _ 25 rfl w.heap.size 3 i0 (.int .i64 0) 1 8 Try.underlying25 hi hz0 hz1 hz2 rfl (by decide) _ _ _ rfl HI.out ⟨wr.heap.size, 0, none⟩ 1 1 [.int .i64 (x : Int)] rfl rfl HX1.out HX2.out ?c3 ?c4 ?c5 ?_))
        case c3 => unfold maxLen; omega
        case c4 => omega
        case c5 => (first | omega | (simp; omega))
        intro v2 w2 hown hgrow _ hat
        have HB2 := Lib.hid ((HB.out.alloc hbs _).grown hgrow (by simp; omega) (fun q hq => (HA.out.lt q hq).1))
        have hb1 := below_n1 wr (.cells #[.int .i64 (x : Int)] 3)
        have HO2 := Lib.hid (own_keep (w' := w2) HC.out fun q hq => (hgrow.block q (Nat.lt_of_lt_of_le (HC.out.lt q hq).2 hb1.size) (fun e => HD.out q e.symm hq)).trans (hb1.block q (HC.out.lt q hq).2))
        have HD2 := Lib.hid (show Apart v2 u7 from fun q h1 h2 => by
          rcases hat with e | e
          · exact HD.out q (e ▸ h1) h2
          · rw [e] at h1
            have := (HC.out.lt q h2).2
            injection h1 with e2
            first | omega | (simp at e2; omega))
        have HR2 := Lib.hid hown
        clear hown hgrow hat HX1 HX2 HI
        go_wp2_with fail
        go_roundw
        case rel =>
          have e1 : sel pt cut l (k + 1) = (A ++ [x], C) := by
            show (if pt k < cut then _ else _) = _
            rw [if_pos HCT.out, ← HAe.out, ← HCe.out, ← HX.out]
          exact ⟨k + 1, by omega, by go_num, Lib.hid (by rw [e1]; exact (by rw [nv_snoc, List.length_append]; exact HR2.out)), Lib.hid (by rw [e1]; exact HO2.out), HD2, HB2⟩
        case measure => simp [intOf]; omega
      · have d := decide_eq_false hcut
        have HI := Lib.hid (HC.out.alloc (.cells #[.int .i64 (x : Int)] 3))
        have HCT := Lib.hid hcut
        clear hcut
        go_wp2_with (first | (at_builtin; refine wpList_append_own_at _ rfl _ _ 25 rfl w.heap.size 3 i0 (.int .i64 0) 1 8 Try.underlying25 hi hz0 hz1 hz2 rfl (by decide) _ _ _ rfl HI.out ⟨wr.heap.size, 0, none⟩ 1 1 [.int .i64 (x : Int)] rfl rfl HX1.out HX2.out ?c3 ?c4 ?c5 ?_))
        case c3 => unfold maxLen; omega
        case c4 => omega
        case c5 => (first | omega | (simp; omega))
        intro v2 w2 hown hgrow _ hat
        have HB2 := Lib.hid ((HB.out.alloc hbs _).grown hgrow (by simp; omega) (fun q hq => (HC.out.lt q hq).1))
        have hb1 := below_n1 wr (.cells #[.int .i64 (x : Int)] 3)
        have HO2 := Lib.hid (own_keep (w' := w2) HA.out fun q hq => (hgrow.block q (Nat.lt_of_lt_of_le (HA.out.lt q hq).2 hb1.size) (fun e => HD.out q hq e.symm)).trans (hb1.block q (HA.out.lt q hq).2))
        have HD2 := Lib.hid (show Apart u6 v2 from fun q h1 h2 => by
          rcases hat with e | e
          · exact HD.out q h1 (e ▸ h2)
          · rw [e] at h2
            have := (HA.out.lt q h1).2
            injection h2 with e2
            first | omega | (simp at e2; omega))
        have HR2 := Lib.hid hown
        clear hown hgrow hat HX1 HX2 HI
        go_wp2_with fail
        go_roundw
        case rel =>
          have e1 : sel pt cut l (k + 1) = (A, C ++ [x]) := by
            show (if pt k < cut then _ else _) = _
            rw [if_neg (Int.not_lt.mpr HCT.out), ← HAe.out, ← HCe.out, ← HX.out]
          exact ⟨k + 1, by omega, by go_num, Lib.hid (by rw [e1]; exact HO2.out), Lib.hid (by rw [e1]; exact (by rw [nv_snoc, List.length_append]; exact HR2.out)), HD2, HB2⟩
        case measure => simp [intOf]; omega
    · have HKK := Lib.hid (show k = l.length by omega)
      have hnl : ¬ (k : Int) < (l.length : Int) := by omega
      clear hsl hlt' hk
      go_wp2_with fail
      go_ret2
      exact ⟨⟨_, _, rfl, by rw [← HKK.out]; exact HA.out, by rw [← HKK.out]; exact HC.out, HD.out⟩, HB.out⟩

end Go.Proofs.Ytoppcnkfgmbpfaa.Tr
