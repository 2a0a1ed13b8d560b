/- Layer 23: the steps that came in. -/
import Derived.Test.YtjejghfeeonghaaDrh
import Derived.ProofKit
import Derived.SizedLaws
import Derived.ChangeSlices
import Derived.WideShapes
import Derived.OpenShut
import Derived.Deep.Slices
import Derived.Handed
import Derived.ChangeSame
import Derived.ChangeArms
namespace Go.Proofs.Ytjejghfeeonghaa.Dr
open Go Go.ChangeShapes Go.WideShapes Go.RowKit Go.Deep Go.Proofs.Ytjejghfeeonghaa Go.Proofs.Ytjejghfeeonghaa.Re
set_option linter.unusedVariables false
set_option linter.unusedSimpArgs false

/-- a step -/
structure DOp where
  kind : Int
  pos : Int
  num : Int
  b : Bk
  ka : Option Addr
  kl : Nat
  kc : Nat
  keep : List Int

instance : Inhabited DOp := ⟨⟨0, 0, 0, zB, none, 0, 0, []⟩⟩

/-- a step's cells -/
def OC (o : DOp) : List Value := [.int .i64 o.kind, .int .i64 o.pos, .int .i64 o.num] ++ (vals o.b ++ [.slice o.ka o.kl o.kc])

structure OkOp (w : World) (o : DOp) : Prop where
  b128 : o.b.length = 128
  wk : (Lit.int .i64 o.kind).wf = true
  wp : (Lit.int .i64 o.pos).wf = true
  wn : (Lit.int .i64 o.num).wf = true
  kl : o.kl = o.keep.length
  kw : ∀ x ∈ o.keep, (Lit.int .i64 x).wf = true
  ks : o.keep = [] ∨ ∃ kb ko, o.ka = some ⟨kb, ko, none⟩ ∧ kb < w.heap.size ∧ ∀ j, j < o.keep.length → w.cell? ⟨kb, ko + j, none⟩ = some (.int .i64 (o.keep.getD j 0))

/-- steps that came in -/
def OpsAt (w : World) (a : Option Addr) (f : Nat → DOp) (n : Nat) : Prop :=
  n = 0 ∨ ∃ ob oo, a = some ⟨ob, oo, none⟩ ∧ ob < w.heap.size ∧ ∀ k, k < n → OkOp w (f k) ∧ w.rangeAt ob (oo + k * 132) (OC (f k))

theorem OC_len (o : DOp) (h : o.b.length = 128) : (OC o).length = 132 := by simp [OC, vals_length, h]

theorem cells_op : Try.prog.cellsOf 33 = 132 := by kernel_rfl
theorem cells_i : Try.prog.cellsOf 3 = 1 := by kernel_rfl
theorem cells_u : Try.prog.cellsOf 5 = 1 := by kernel_rfl
theorem cells_b : Try.prog.cellsOf 30 = 128 := by kernel_rfl
theorem cells_k : Try.prog.cellsOf 31 = 1 := by kernel_rfl

theorem take1 {cs : List Value} {i : Nat} {v : Value} (h : (cs.drop i).take 1 = [v]) : cs[i]? = some v := by
  have := congrArg (fun l => l[0]?) h
  simp [List.getElem?_drop] at this
  exact this

theorem int_at {H : Type} {enc : TypeId × Value → H} {W : World} {base : Nat} {sp : Nat → Bool} {held : Bool} {n : Nat} {t : TypeId} {k : IntKind} {cs : List Value} {y : DataW H × List MemPlace}
    (ht : Try.prog.underlying t = some (.int k)) (h : DataW.trod enc Try.prog W base sp held n t cs = some y) : ∃ z, cs = [.int k z] ∧ (Lit.int k z).wf = true := by
  obtain ⟨z, e, -, wz⟩ := DataW.trod_int ht h
  exact ⟨z, e, wz⟩

theorem keep_of {H : Type} {enc : TypeId × Value → H} {W : World} {base : Nat} {held : Bool} {n : Nat} {v : Value} {y : DataW H × List MemPlace}
    (h : DataW.trod enc Try.prog W base (fun _ => true) held n 31 [v] = some y) : ∃ (ka : Option Addr) (kl kc : Nat) (K : List Int), v = .slice ka kl kc ∧ kl = K.length ∧ (∀ x ∈ K, (Lit.int .i64 x).wf = true) ∧ (K = [] ∨ ∃ kb ko, ka = some ⟨kb, ko, none⟩ ∧ kb < W.heap.size ∧ ∀ j, j < K.length → W.cell? ⟨kb, ko + j, none⟩ = some (.int .i64 (K.getD j 0))) := by
  rcases open_ints Try.underlying31 Try.underlying3 (by kernel_rfl) h with ⟨hcs, _⟩ | ⟨a, len, cap, zs, hcs, _, hl, hm, hz, hx, hcell, hwz⟩
  · cases hcs
    exact ⟨none, 0, 0, [], rfl, rfl, by simp, .inl rfl⟩
  · cases hcs
    simp only [if_true] at hz
    refine ⟨some a, len, cap, zs.take len, rfl, by simp; omega, fun x hx => hwz x (List.mem_of_mem_take hx), ?_⟩
    by_cases h0 : len = 0
    · left; subst h0; simp
    · right
      have hc0 := hcell 0 (by omega)
      obtain ⟨b, off, spot⟩ := a
      have hspot : spot = none := by simpa [Addr.add] using World.cell?_spot hc0
      subst hspot
      have hbW : b < W.heap.size := by
        have := World.block_lt_of_cell? W _ hc0
        rw [ad_block] at this
        exact this
      refine ⟨b, off, rfl, hbW, fun j hj => ?_⟩
      have hj' : j < len := by simp at hj; omega
      have := hcell j (by omega)
      rw [Addr.add_mid] at this
      rw [this]
      simp [List.getD, List.getElem?_take, hj']

theorem op_of {H : Type} {enc : TypeId × Value → H} {W : World} {base : Nat} {held : Bool} {n : Nat} {cs : List Value} {y : DataW H × List MemPlace}
    (hl : cs.length = 132) (h : DataW.trod enc Try.prog W base (fun _ => true) held n 33 cs = some y) :
    ∃ x : DOp, OkOp W x ∧ ∀ (j : Nat) (v : Value), (OC x)[j]? = some v → cs[j]? = some v := by
  obtain ⟨xs, m, -, -, -, hlen, hf⟩ := DataW.trod_struct Try.underlying33 h
  match xs, hlen with
  | [y0, y1, y2, y3, y4], _ =>
    have h0 : DataW.trod enc Try.prog W base (fun _ => true) held m 3 ((cs.drop 0).take (Try.prog.cellsOf 3)) = some y0 := hf 0 _ rfl
    have h1 : DataW.trod enc Try.prog W base (fun _ => true) held m 3 ((cs.drop 1).take (Try.prog.cellsOf 3)) = some y1 := hf 1 _ rfl
    have h2 : DataW.trod enc Try.prog W base (fun _ => true) held m 3 ((cs.drop 2).take (Try.prog.cellsOf 3)) = some y2 := hf 2 _ rfl
    have h3 : DataW.trod enc Try.prog W base (fun _ => true) held m 30 ((cs.drop 3).take (Try.prog.cellsOf 30)) = some y3 := hf 3 _ rfl
    have h4 : DataW.trod enc Try.prog W base (fun _ => true) held m 31 ((cs.drop 131).take (Try.prog.cellsOf 31)) = some y4 := hf 4 _ rfl
    clear hf
    rw [cells_i] at h0 h1 h2
    rw [cells_b] at h3
    rw [cells_k] at h4
    obtain ⟨kd, e0, w0⟩ := int_at Try.underlying3 h0
    obtain ⟨ps, e1, w1⟩ := int_at Try.underlying3 h1
    obtain ⟨nm, e2, w2⟩ := int_at Try.underlying3 h2
    obtain ⟨x3, m3, -, -, -, hl3, hd⟩ := DataW.trod_array Try.underlying30 h3
    rw [cells_u] at hd
    have hdd : ∀ i, i < 128 → ∃ z, cs[3 + i]? = some (.int .u8 z) ∧ 0 ≤ z ∧ z ≤ 255 := fun i hi => by
      have h := hd i hi
      rw [List.getElem?_eq_getElem (by omega)] at h
      obtain ⟨z, e, w⟩ := int_at Try.underlying5 h
      have e2 := take1 e
      rw [Nat.mul_one, List.getElem?_take, if_pos hi, List.getElem?_drop] at e2
      exact ⟨z, e2, bounds_u8 w⟩
    obtain ⟨f, hF⟩ := choose_lt (α := Int) (n := 128) (p := fun i z => cs[3 + i]? = some (.int .u8 z) ∧ 0 ≤ z ∧ z ≤ 255) hdd
    have ek := take1 e0
    have ep := take1 e1
    have en := take1 e2
    obtain ⟨v4, hv4⟩ : ∃ v, (cs.drop 131).take 1 = [v] := by
      have hlen4 : ((cs.drop 131).take 1).length = 1 := by rw [List.length_take, List.length_drop, hl]; rfl
      exact List.length_eq_one_iff.1 hlen4
    rw [hv4] at h4
    obtain ⟨ka, kl, kc, K, rfl, k1, k2, k3⟩ := keep_of h4
    have e4 := take1 hv4
    let x : DOp := { kind := kd, pos := ps, num := nm, b := (List.range 128).map fun i => UInt8.ofNat (f i).toNat, ka := ka, kl := kl, kc := kc, keep := K }
    have hb : x.b.length = 128 := by simp [x]
    refine ⟨x, ⟨hb, w0, w1, w2, k1, k2, k3⟩, fun j v hj => ?_⟩
    have hc : j = 0 ∨ j = 1 ∨ j = 2 ∨ (3 ≤ j ∧ j < 131) ∨ j = 131 ∨ 132 ≤ j := by omega
    rcases hc with rfl | rfl | rfl | ⟨h3', h131⟩ | rfl | h132
    · rw [ek]; exact hj
    · rw [ep]; exact hj
    · rw [en]; exact hj
    · obtain ⟨i, rfl⟩ : ∃ i, j = 3 + i := ⟨j - 3, by omega⟩
      unfold OC at hj
      rw [List.getElem?_append_right (by simp), show 3 + i - ([Value.int .i64 x.kind, .int .i64 x.pos, .int .i64 x.num] : List Value).length = i by simp, List.getElem?_append_left (by rw [vals_length, hb]; omega)] at hj
      obtain ⟨g1, g2, g3⟩ := hF i (by omega)
      rw [g1, ← hj]
      simp only [vals, x, List.map_map]
      rw [List.getElem?_map, List.getElem?_range (by omega)]
      simp only [Option.map, Function.comp]
      rw [UInt8.toNat_ofNat_of_lt' (by simp [UInt8.size]; omega)]
      congr 2
      omega
    · rw [e4, ← hj]
      unfold OC
      rw [List.getElem?_append_right (by simp), show 131 - ([Value.int .i64 x.kind, .int .i64 x.pos, .int .i64 x.num] : List Value).length = 128 by simp, List.getElem?_append_right (by rw [vals_length, hb]; omega), vals_length, hb]
      rfl
    · rw [List.getElem?_eq_none (by rw [OC_len x hb]; omega)] at hj; cases hj

theorem open_ops {H : Type} {enc : TypeId × Value → H} {W : World} {base : Nat} {held : Bool} {a : Option Addr} {len cap : Nat} {d : DataW H} {p : List MemPlace}
    (h : DataW.Trod enc Try.prog W base (fun _ => true) held 22 (.slice a len cap) d p) (hlt : ∀ x ∈ p, x.block < W.heap.size) (hs : ∀ es sp, d = .slice es sp → (es.length + sp.length) * Try.prog.bytesOf 33 ≤ reachBytes) :
    ∃ f, len ≤ 140737488355328 ∧ OpsAt W a f len := by
  obtain ⟨fuel, hf⟩ := h
  rcases open_slice Try.underlying22 hf with ⟨hcs, _⟩ | ⟨x, l, c, m, n, D, Pl, hcs, _, hl, _, hmm, hx, hel⟩
  · simp [Value.cells] at hcs
    exact ⟨fun _ => default, by omega, .inl hcs.2.1⟩
  · simp [Value.cells] at hcs
    obtain ⟨rfl, rfl, rfl⟩ := hcs
    simp only [if_true] at hmm
    simp only [Prod.mk.injEq] at hx
    obtain ⟨rfl, rfl⟩ := hx
    have hw := hs _ _ rfl
    rw [show Try.prog.bytesOf 33 = 176 by kernel_rfl] at hw
    simp only [List.length_map, List.length_range, reachBytes] at hw
    have hbound : len ≤ 140737488355328 := by omega
    by_cases hl0 : len = 0
    · exact ⟨fun _ => default, hbound, .inl hl0⟩
    · have hall : ∀ i, i < m → ∃ y : DOp, OkOp W y ∧ ∀ (j : Nat) (v : Value), (OC y)[j]? = some v → W.cell? ((x.add (i * 132)).add j) = some v := fun i hi => by
        obtain ⟨cs', h1, h2⟩ := hel i hi
        rw [cells_op] at h1
        obtain ⟨_, hlen, hc⟩ := World.cells?_some h1
        obtain ⟨y, k1, k2⟩ := op_of hlen h2
        refine ⟨y, k1, fun j v hj => ?_⟩
        have hj132 : j < 132 := by have := (List.getElem?_eq_some_iff.1 hj).1; rw [OC_len y k1.b128] at this; exact this
        rw [hc j hj132]; exact k2 j v hj
      obtain ⟨f, hF⟩ := choose_lt (α := DOp) (n := m) (p := fun i y => OkOp W y ∧ ∀ (j : Nat) (v : Value), (OC y)[j]? = some v → W.cell? ((x.add (i * 132)).add j) = some v) hall
      simp only [add_add] at hF
      obtain ⟨b, off, spot⟩ := x
      have hspot : spot = none := by simpa [Addr.add] using World.cell?_spot ((hF 0 (by omega)).2 0 (.int .i64 (f 0).kind) rfl)
      subst hspot
      have hbW : b < W.heap.size := hlt (.cell b off) (List.mem_append_left _ (MemPlace.mem_row.2 ⟨0, by rw [cells_op]; omega, by simp⟩))
      refine ⟨f, hbound, .inr ⟨b, off, rfl, hbW, fun k hk => ?_⟩⟩
      obtain ⟨g1, g2⟩ := hF k (by omega)
      refine ⟨g1, fun j v hj => ?_⟩
      have := g2 j v hj
      rw [add_plain] at this
      rw [Nat.add_assoc]
      exact this
end Go.Proofs.Ytjejghfeeonghaa.Dr
