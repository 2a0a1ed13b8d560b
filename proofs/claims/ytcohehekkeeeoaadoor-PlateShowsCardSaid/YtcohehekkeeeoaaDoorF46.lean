/- Films: rows of a call's own while they grow, rows that stay. -/
import Derived.Test.YtcohehekkeeeoaaDoorF18
import Derived.Test.YtcohehekkeeeoaaDoorF27
import Derived.Test.YtcohehekkeeeoaaDoorF14
import Derived.Test.YtcohehekkeeeoaaDoorF10
import Derived.Deep.AppendLies
import Derived.Laws.AppendOwnNone
namespace Go.Proofs.YtcohehekkeeeoaaDoor.Fm
open Go.RowKit Go.Proofs.YtcohehekkeeeoaaDoor Go.Proofs.YtcohehekkeeeoaaDoor.Rp Go.Proofs.YtcohehekkeeeoaaDoor.Re Go.Proofs.YtcohehekkeeeoaaDoor.Au Go.Proofs.YtcohehekkeeeoaaDoor.Jw
set_option linter.unusedVariables false
set_option linter.unusedSimpArgs false

/-- so many things of c numbers each, cell by cell -/
def flatc (c : Nat) (L : Nat → Int) (k : Nat) : List Value := (List.range (k * c)).map fun j => .int .i64 (L j)

theorem flatc_step (c : Nat) (L : Nat → Int) (k : Nat) : flatc c L (k + 1) = flatc c L k ++ (List.range c).map fun i => .int .i64 (L (k * c + i)) := by
  unfold flatc
  rw [Nat.succ_mul, List.range_add, List.map_append, List.map_map]
  rfl

theorem flatc_step1 (L : Nat → Int) (k : Nat) : flatc 1 L (k + 1) = flatc 1 L k ++ [.int .i64 (L k)] := by
  rw [flatc_step]
  simp only [show List.range 1 = [0] from rfl, List.map_cons, List.map_nil, Nat.mul_one, Nat.add_zero]

theorem flatc_step3 (L : Nat → Int) (k : Nat) : flatc 3 L (k + 1) = flatc 3 L k ++ [.int .i64 (L (k * 3)), .int .i64 (L (k * 3 + 1)), .int .i64 (L (k * 3 + 2))] := by
  rw [flatc_step]
  simp only [show List.range 3 = [0, 1, 2] from rfl, List.map_cons, List.map_nil, Nat.add_zero]

theorem flatc_at (c : Nat) (L : Nat → Int) (k j : Nat) (h : j < k * c) : (flatc c L k)[j]? = some (.int .i64 (L j)) := by
  simp [flatc, h]

theorem flatc_len (c : Nat) (L : Nat → Int) (k : Nat) : (flatc c L k).length = k * c := by simp [flatc]

theorem flatc_one (c : Nat) (L : Nat → Int) (k : Nat) : ∀ u ∈ flatc c L k, u.oneCell' = true := by
  intro u hu
  simp only [flatc, List.mem_map] at hu
  obtain ⟨j, -, rfl⟩ := hu
  rfl

theorem own_via {w w' : World} {base n c : Nat} {e : TypeId} {v : Value} {xs : List Value} (h : w.ownsRow base e c v n xs) (hk : ∀ q, v.ownBlock = some q → w'.heap[q]? = w.heap[q]?) : w'.ownsRow base e c v n xs := by
  refine ⟨h.1, ?_⟩
  rcases h.2 with hn | ⟨q, cap, cur, rfl, k1, k2, k3⟩
  · exact .inl hn
  · exact .inr ⟨q, cap, cur, rfl, k1, (hk q rfl).trans k2, k3⟩

theorem own_slice {w : World} {base n c : Nat} {e : TypeId} {v : Value} {xs : List Value} (h : w.ownsRow base e c v n xs) : ∃ a cap, v = .slice a n cap := by
  rcases h.2 with ⟨rfl, h0⟩ | ⟨q, cap, cur, rfl, -⟩
  · exact ⟨none, 0, by rw [h0]⟩
  · exact ⟨_, _, rfl⟩

/-- a row that lies in memory, in a block of which something is known -/
def RwP (P : Nat → Prop) (c : Nat) (w : World) (a : Option Addr) (n : Nat) (L : Nat → Int) : Prop :=
  n = 0 ∨ ∃ b off, a = some ⟨b, off, none⟩ ∧ P b ∧ ∀ j, j < n * c → w.cell? ⟨b, off + j, none⟩ = some (.int .i64 (L j))

theorem RwP.rw {P : Nat → Prop} {c : Nat} {w : World} {a : Option Addr} {n : Nat} {L : Nat → Int} (h : RwP P c w a n L) (hc : 0 < c) : Rw c w a n L := by
  rcases h with h | ⟨b, off, h1, h3, h4⟩
  · exact .inl h
  · rcases Nat.eq_zero_or_pos n with h0 | h0
    · exact .inl h0
    · exact .inr ⟨b, off, h1, World.block_lt_of_cell? w _ (h4 0 (Nat.mul_pos h0 hc)), h4⟩

theorem RwP.lt {P : Nat → Prop} {c : Nat} {w : World} {a : Option Addr} {n : Nat} {L : Nat → Int} (h : RwP P c w a n L) (hc : 0 < c) : RwP (fun b => P b ∧ b < w.heap.size) c w a n L := by
  rcases h with h | ⟨b, off, h1, h3, h4⟩
  · exact .inl h
  · rcases Nat.eq_zero_or_pos n with h0 | h0
    · exact .inl h0
    · exact .inr ⟨b, off, h1, ⟨h3, World.block_lt_of_cell? w _ (h4 0 (Nat.mul_pos h0 hc))⟩, h4⟩

theorem RwP.keep {P : Nat → Prop} {c : Nat} {w w' : World} {a : Option Addr} {n : Nat} {L : Nat → Int} (h : RwP P c w a n L) (hk : ∀ b, P b → w'.heap[b]? = w.heap[b]?) : RwP P c w' a n L := by
  rcases h with h | ⟨b, off, h1, h3, h4⟩
  · exact .inl h
  · exact .inr ⟨b, off, h1, h3, fun j hj => (show w'.cell? ⟨b, off + j, none⟩ = w.cell? ⟨b, off + j, none⟩ from World.cell?_of_block (w := w) (hk b h3)).trans (h4 j hj)⟩

theorem RwP.weak {P P' : Nat → Prop} {c : Nat} {w : World} {a : Option Addr} {n : Nat} {L : Nat → Int} (h : RwP P c w a n L) (hk : ∀ b, P b → P' b) : RwP P' c w a n L := by
  rcases h with h | ⟨b, off, h1, h3, h4⟩
  · exact .inl h
  · exact .inr ⟨b, off, h1, hk b h3, h4⟩

theorem rwp_own {c base : Nat} {w : World} {e : TypeId} {a : Option Addr} {n cap : Nat} {L : Nat → Int} (P : Nat → Prop) (h : w.ownsRow base e c (.slice a n cap) n (flatc c L n)) (hP : ∀ b, base ≤ b → b < w.heap.size → (Value.slice a n cap).ownBlock = some b → P b) : RwP P c w a n L := by
  have h' := h
  rcases h.2 with ⟨hv, hn⟩ | ⟨g, cap', cur, hv, hb, -⟩
  · exact .inl hn
  · cases hv
    have hl := h'.lt g rfl
    exact .inr ⟨g, 0, rfl, hP g hb hl.2 rfl, fun j hj => by rw [Nat.zero_add]; exact (h'.cellAt j hj).trans (flatc_at c L n j hj)⟩

/-- a row apart from block q and from all up to lo -/
abbrev RwX (q lo : Nat) := RwP (fun b => b ≠ q ∧ lo < b)

theorem RwX.aw {q lo c B : Nat} {w w' : World} {a : Option Addr} {n : Nat} {L : Nat → Int} (h : RwX q lo c w a n L) (hc : 0 < c) (ha : Aw (fun z => z < B ∧ z ≠ q) w w') (hB : w.heap.size ≤ B) : RwX q lo c w' a n L :=
  ((h.lt hc).keep (fun b hb => ha.block b ⟨by omega, hb.1.1⟩ hb.2)).weak (fun b hb => hb.1)

theorem RwX.row {q lo c r : Nat} {w : World} {a : Option Addr} {n : Nat} {L : Nat → Int} (h : RwX q lo c w a n L) (hr : r ≤ lo) (R : Array Value) : RwX q lo c (w.setRow r R) a n L :=
  h.keep fun b hb => setRow_other _ _ _ _ (by have := hb.2; omega)

theorem rwx_own {q lo c base : Nat} {w : World} {e : TypeId} {a : Option Addr} {n cap : Nat} {L : Nat → Int} (h : w.ownsRow base e c (.slice a n cap) n (flatc c L n)) (hq : q < base) (hlo : lo < base) : RwX q lo c w a n L :=
  rwp_own _ h fun b h1 _ _ => ⟨by omega, by omega⟩

theorem aw_low {B q : Nat} {w w' : World} (h : Aw (fun z => z < B ∧ z ≠ q) w w') {b : Nat} (hb : b ≤ B) (hq : b ≤ q) (hw : b ≤ w.heap.size) : Below b w w' :=
  h.below (fun k hk => ⟨by omega, by omega⟩) hw

section
variable {P : Program}
/-- what came in, nil or not, behind a row of the call's own -/
theorem run_append_row (w : World) (t ty : TypeId) (base : Nat) (e : TypeId) (i : TypeInfo) (z : Value) (size bytes : Nat) (ht : P.underlying t = some (.slice e)) (hi : P.info? e = some i) (hz : i.zero = some z)
    (hsize : i.size = size) (hby : i.bytes = bytes) (hzs : z.cells.size = size) (hsz : 0 < size) (v : Value) (n : Nat) (xs : List Value) (hown : w.ownsRow base e size v n xs)
    (x : Option Addr) (m c : Nat) (news : List Value) (hl : news.length = m * size) (hx : (x = none ∧ m = 0 ∧ c = 0) ∨ ∃ ad, x = some ad ∧ ∀ j u, news[j]? = some u → w.cell? (ad.add j) = some u) (h1 : ∀ u ∈ news, u.oneCell' = true)
    (h63 : n + m ≤ maxLen) (hbytes : (n + m) * bytes ≤ 140737488355328) (hbase : base ≤ w.heap.size) :
    ∃ v' w', (Builtin.append_ #[t, t] ty #[v, .slice x m c]).run P w = .ok v' w' ∧ w'.ownsRow base e size v' (n + m) (xs ++ news) ∧ w.grownBy w' v.ownBlock ∧ (v'.ownBlock = v.ownBlock ∨ v'.ownBlock = some w.heap.size) := by
  rcases hx with ⟨rfl, rfl, rfl⟩ | ⟨ad, rfl, hnews⟩
  · have hn : news = [] := List.eq_nil_of_length_eq_zero (by rw [hl]; simp)
    subst hn
    rw [List.append_nil, Nat.add_zero]
    exact ⟨v, w, run_append_owned_none (P := P) (w := w) base t ty e i size ht hi v n xs hown, hown, World.grownBy.refl w _, .inl rfl⟩
  · obtain ⟨v', w', hr, h2, h3, -, h5⟩ := run_append_own_at (P := P) w base t ty e i z size bytes ht hi hz hsize hby hzs hsz v n xs hown ad m c news hl hnews h1 h63 hbytes hbase
    exact ⟨v', w', hr, h2, h3, h5⟩

theorem step_append_row {ops : Array Oper} {o : Oper} {a : Act} {w : World} {K : Act → World → Prop} {Q : Exit → Act → World → Prop} {E : Prop} (hgd : o.guard = none) (s x : Operand) (t : TypeId)
    (ho : o.op = .call { callee := .builtin .append, args := #[s, x], argTypes := #[t, t] })
    (base : Nat) (e : TypeId) (i : TypeInfo) (z : Value) (size bytes : Nat) (ht : P.underlying t = some (.slice e)) (hi : P.info? e = some i) (hz : i.zero = some z)
    (hsize : i.size = size) (hby : i.bytes = bytes) (hzs : z.cells.size = size) (hsz : 0 < size)
    (v : Value) (n : Nat) (xs : List Value) (hs : a.eval s = v) (hown : w.ownsRow base e size v n xs)
    (xa : Option Addr) (m c : Nat) (news : List Value) (hxv : a.eval x = .slice xa m c) (hl : news.length = m * size) (hx : (xa = none ∧ m = 0 ∧ c = 0) ∨ ∃ ad, xa = some ad ∧ ∀ j u, news[j]? = some u → w.cell? (ad.add j) = some u) (h1 : ∀ u ∈ news, u.oneCell' = true)
    (h63 : n + m ≤ maxLen) (hbytes : (n + m) * bytes ≤ 140737488355328) (hbase : base ≤ w.heap.size)
    (h : ∀ v' w', w'.ownsRow base e size v' (n + m) (xs ++ news) → w.grownBy w' v.ownBlock → (v'.ownBlock = v.ownBlock ∨ v'.ownBlock = some w.heap.size) → K (a.put o.dst v') w') :
    if Region.wanted o (yielded ops a.tmps) = true then Oper.wp P o a w K Q else E := by
  have hw : Region.wanted o (yielded ops a.tmps) = true := by simp [Region.wanted, hgd]
  rw [if_pos hw]
  obtain ⟨v', w', hr, h2, h3, h5⟩ := run_append_row (P := P) w t o.type base e i z size bytes ht hi hz hsize hby hzs hsz v n xs hown xa m c news hl hx h1 h63 hbytes hbase
  unfold Oper.wp execOp
  simp only [ho, resolve, invoke, builtin, Sem.run_bind, Sem.run_pure, Result.andThen_ok, List.map_toArray, List.map_cons, List.map_nil, hs, hxv, hr]
  exact h v' w' h2 h3 h5
end

theorem info_hue : (Tryd.prog.info? 79).map (fun i => (i.zero, i.size, i.bytes)) = some (some (.agg #[.int .i64 0, .int .i64 0, .int .i64 0]), 3, 24) := by kernel_rfl

theorem info_vec : (Tryd.prog.info? 75).map (fun i => (i.zero, i.size, i.bytes)) = some (some (.agg #[.int .i64 0, .int .i64 0, .int .i64 0]), 3, 24) := by kernel_rfl

theorem info_fix : (Tryd.prog.info? 71).map (fun i => (i.zero, i.size, i.bytes)) = some (some (.int .i64 0), 1, 8) := by kernel_rfl

theorem info_int : (Tryd.prog.info? 3).map (fun i => (i.zero, i.size, i.bytes)) = some (some (.int .i64 0), 1, 8) := by kernel_rfl

theorem info_i64 : (Tryd.prog.info? 2).map (fun i => (i.zero, i.size, i.bytes)) = some (some (.int .i64 0), 1, 8) := by kernel_rfl

theorem info_dhue : (Tryd.prog.info? 77).map (fun i => (i.zero, i.size, i.bytes)) = some (some (.agg #[.int .i64 0, .int .i64 0, .int .i64 0]), 3, 24) := by kernel_rfl

theorem info_dvec : (Tryd.prog.info? 73).map (fun i => (i.zero, i.size, i.bytes)) = some (some (.agg #[.int .i64 0, .int .i64 0, .int .i64 0]), 3, 24) := by kernel_rfl
end Go.Proofs.YtcohehekkeeeoaaDoor.Fm
