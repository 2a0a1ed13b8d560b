/- Layer 23: an entry made, and appended to a list. -/
import Derived.Test.YtjejghfeeonghaaDrl
import Derived.Great.BuildSlice
import Derived.Deep.AppendLies
namespace Go.Proofs.Ytjejghfeeonghaa.Dr
open Go Go.RowKit Go.Maps Go.Proofs.Ytjejghfeeonghaa Go.Proofs.Ytjejghfeeonghaa.Au Go.Proofs.Ytjejghfeeonghaa.Re
set_option linter.unusedVariables false
set_option linter.unusedSimpArgs false

theorem fold_part (off : Nat) (R cs : Array Value) : (R.zipIdx.foldl (fun cs (x : Value × Nat) => cs.setIfInBounds (off + x.2) x.1) cs) = ((R.toList.zipIdx 0).foldl (fun cs (x : Value × Nat) => cs.setIfInBounds (off + x.2) x.1) cs) := by
  rw [← Array.foldl_toList, Array.toList_zipIdx]

theorem fill_one (N : Nat) (R Z : Array Value) (hR : R.size = N) (hZ : Z.size = N) : Instr.fill (fun i => some (i * N, N)) Z [(0, .agg R)] = some R := by
  unfold Instr.fill
  simp only [Nat.zero_mul]
  rw [if_neg (by rw [show (Value.agg R).cells = R from rfl]; simp; omega)]
  unfold Instr.fill
  congr 1
  rw [show (Value.agg R).cells = R from rfl, fold_part]
  obtain ⟨h1, h2⟩ := Great.foldl_set 0 R.toList 0 Z
  apply Array.ext_getElem?
  intro k
  rw [h2 k]
  simp only [Nat.zero_add, Nat.sub_zero, Array.length_toList]
  by_cases hk : k < N
  · rw [if_pos (by omega)]; simp
  · rw [if_neg (by omega)]; simp [hR, hZ, hk]

theorem fill_two (k : Value) (hk : k.cells = #[k]) (R Z : Array Value) (hR : R.size = 128) (hZ : Z.size = 129) : Instr.fill (fun i => (#[(0, 1), (1, 128)] : Array (Nat × Nat))[i]?) Z [(0, k), (1, .agg R)] = some (k :: R.toList).toArray := by
  unfold Instr.fill
  simp only [hk]
  rw [show (#[(0, 1), (1, 128)] : Array (Nat × Nat))[0]? = some (0, 1) from rfl]
  simp only
  rw [if_neg (by simp [hZ])]
  unfold Instr.fill
  rw [show (#[(0, 1), (1, 128)] : Array (Nat × Nat))[1]? = some (1, 128) from rfl]
  simp only
  rw [fold_part, show (Value.agg R).cells = R from rfl]
  obtain ⟨g1, g2⟩ := Great.foldl_set 0 (#[k] : Array Value).toList 0 Z
  rw [if_neg (by rw [g1]; simp; omega)]
  unfold Instr.fill
  congr 1
  rw [fold_part]
  obtain ⟨h1, h2⟩ := Great.foldl_set 1 R.toList 0 (((#[k] : Array Value).toList.zipIdx 0).foldl (fun cs (x : Value × Nat) => cs.setIfInBounds (0 + x.2) x.1) Z)
  apply Array.ext_getElem?
  intro j
  rw [h2 j, g1, g2 j]
  simp only [Nat.zero_add, Nat.sub_zero, Array.length_toList, Nat.add_zero]
  by_cases h0 : j = 0
  · subst h0
    rw [if_neg (by omega), if_pos (by simp; omega)]
    simp
  · obtain ⟨i, rfl⟩ : ∃ i, j = i + 1 := ⟨j - 1, by omega⟩
    by_cases hj : i < 128
    · rw [if_pos (by omega)]; simp
    · rw [if_neg (by omega), if_neg (by simp)]
      simp [hR, hZ, hj]
      omega

theorem infoE : (Try.prog.info? 64).map (fun i => (i.zero, i.size, i.bytes)) = some (some (.agg (.int .i64 0 :: vals zB).toArray), 129, 136) := by kernel_rfl

def ZE : Array Value := (.int .i64 0 :: vals zB).toArray

theorem ZE_size : ZE.size = 129 := by decide +kernel

theorem built_ent (k : Int) (R : Array Value) (hR : R.size = 128) : Try.prog.built 64 [(0, .int .i64 k), (1, .agg R)] = some (.int .i64 k :: R.toList).toArray := by
  rw [show Try.prog.built 64 [(0, .int .i64 k), (1, .agg R)] = Instr.fill (fun i => (#[(0, 1), (1, 128)] : Array (Nat × Nat))[i]?) ZE [(0, .int .i64 k), (1, .agg R)] from rfl]
  exact fill_two _ rfl R ZE hR ZE_size

section
variable {ops : Array Oper} {rest : List Oper} {o : Oper} {a : Act} {w : World} {Q : Exit → Act → World → Prop}

/-- a list of one entry -/
theorem lit_ent (hg : o.guard = none) (x : Operand) (ho : o.op = .buildSlice 58 1 #[(0, x)]) (R : Array Value) (hR : R.size = 129) (hx : a.eval x = .agg R)
    (h : wpList Try.prog ops Q rest (a.put o.dst (.slice (some ⟨w.heap.size, 0, none⟩) 1 1)) (w.alloc (.cells R 64))) : wpList Try.prog ops Q (o :: rest) a w := by
  obtain ⟨i0, hi, hz0, hz1, hz2⟩ := info_parts infoE
  refine wpList_buildSlice hg 58 64 1 #[(0, x)] ho R i0 _ Try.underlying58 hi hz0 (by rw [hz1]; decide) (by rw [hz1]; decide) ?_ h
  rw [hz1]
  simp only [List.map_toArray, List.map_cons, List.map_nil, hx]
  exact fill_one 129 R _ hR (by simp)

/-- one more entry -/
theorem app_ent (hg : o.guard = none) (s x : Operand) (ho : o.op = .call { callee := .builtin .append, args := #[s, x], argTypes := #[58, 58] }) (base : Nat) (v : Value) (L : List E1) (hs : a.eval s = v) (hv : EB w base v L)
    (q : Nat) (p : E1) (hp : p.2.length = 128) (hx : a.eval x = .slice (some ⟨q, 0, none⟩) 1 1) (hq : w.heap[q]? = some (.cells (ent p).toArray 64 (0, 0))) (hL : L.length ≤ 1000000) (hb : base ≤ w.heap.size)
    (h : ∀ v' w', EB w' base v' (L ++ [p]) → Below base w w' → w.heap.size ≤ w'.heap.size → wpList Try.prog ops Q rest (a.put o.dst v') w') : wpList Try.prog ops Q (o :: rest) a w := by
  obtain ⟨i0, hi, hz0, hz1, hz2⟩ := info_parts infoE
  refine wpList_append_lies _ hg s x _ ho base 64 i0 _ 129 136 Try.underlying58 hi hz0 hz1 hz2 ZE_size (by decide) v L.length (ents L) hs hv ⟨q, 0, none⟩ 1 1 (ent p) hx (by rw [ent_len hp]) ?_ ?_ (by decide) (by unfold maxLen; omega) (by omega) hb _ rfl ?_
  · intro j u hu
    by_cases h0 : j = 0
    · subst h0; simp [World.cell?, Addr.add, hq, hu]
    · simp [World.cell?, Addr.add, hq, hu, h0]
  · intro u hu
    unfold ent at hu
    rcases List.mem_cons.1 hu with rfl | hu
    · rfl
    · exact vals_one _ u hu
  · intro g cap w' h1 h2 h3 h4
    refine h _ w' ?_ ((Below.refl base w).grown h2 hb (fun k hk => (hv.lt k hk).1)) h2.size
    unfold EB
    rw [ents_snoc, List.length_append, List.length_singleton]
    exact h1

end

end Go.Proofs.Ytjejghfeeonghaa.Dr
